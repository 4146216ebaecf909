/- What every claim of this seat shares: the library's two tables as the row lists them, and a string that came in as a list of bytes. -/
import Derived.Test.YtjbiebbcjofjeaaDoorTrim
import Derived.Test.YtjbiebbcjofjeaaDoorRows
import Derived.ProofKit
import Derived.OpenShut
import Derived.ChangeOld
import Derived.ChangeMaps5
import Derived.PinnedBridge
import Derived.Lib.LaidU8T
import Derived.Lay
import Derived.MakeChecks
namespace Go.Proofs.YtjbiebbcjofjeaaDoor
open Go.ChangeShapes Go.WideShapes Go.ChangeAt Go.RowKit Go.Lib Go.Shelf

theorem own : ownKnob Tryd.prog.godebug = none := by kernel_rfl

def laidL : List (String × DataW Unit) := [("unicode/utf8.acceptRanges", Rows.laid_unicode_utf8_acceptRanges), ("unicode/utf8.first", Rows.laid_unicode_utf8_first)]

def u8Ren : Ren := ⟨fun n => n, fun | 119 => 40 | 138 => 43 | 139 => 44 | n => n, fun | 3 => 0 | 4 => 1 | n => n⟩
theorem u8Types : U8Types Tryd.prog u8Ren := { t5 := Tryd.underlying5, t119 := Tryd.underlying40, t138 := Tryd.underlying43, t139 := Tryd.underlying44 }
theorem u8Extra : U8Extra Tryd.prog u8Ren := { n3 := by kernel_rfl, n4 := by kernel_rfl, y3 := by kernel_rfl, y4 := by kernel_rfl, c5 := by kernel_rfl, c119 := by kernel_rfl, c138 := by kernel_rfl }

theorem first_eq : Rows.laid_unicode_utf8_first = firstData := Pinned.utf8First_eq
theorem accept_eq : (Rows.laid_unicode_utf8_acceptRanges : DataW Unit) = acceptData := by kernel_rfl

theorem tabs {W : World} (h : laidMetH Tryd.prog laidL W) : Lib.Utf8Tabs 0 1 W := by
  rw [MakeChecks.laidMetH_plain _ _ _ (by kernel_rfl)] at h
  have h3 : VarReads Tryd.prog W "unicode/utf8.first" firstData := first_eq ▸ Lib.laidMet.reads h (List.mem_cons_of_mem _ List.mem_cons_self)
  have h4 : VarReads Tryd.prog W "unicode/utf8.acceptRanges" acceptData := accept_eq ▸ Lib.laidMet.reads h List.mem_cons_self
  exact utf8Tabs_of_readsT u8Types u8Extra h3 h4

theorem u8_nat {n : Int} (h : (Lit.int .u8 n).wf = true) : ∃ k : Nat, n = k ∧ k < 256 := by
  have := bounds_u8 h
  exact ⟨n.toNat, by omega, by omega⟩

/-- a string is the list of its bytes -/
theorem str_list (s : ByteArray) : ∃ l : List UInt8, s = ⟨l.toArray⟩ := ⟨s.data.toList, rfl⟩
end Go.Proofs.YtjbiebbcjofjeaaDoor
