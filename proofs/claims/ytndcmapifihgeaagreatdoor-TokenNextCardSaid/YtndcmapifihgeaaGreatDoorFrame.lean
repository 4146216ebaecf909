/- What every claim of this seat shares: how a slice of bytes that came in is read, and the tables as the rows list them. -/
import Derived.Test.YtndcmapifihgeaaGreatDoorSpk
import Derived.Test.YtndcmapifihgeaaGreatDoorRows
import Derived.ProofKit
import Derived.OpenShut
import Derived.ChangeOld
import Derived.PinnedBridge
import Derived.Lib.LaidU8T
import Derived.Lib.LaidTab
import Derived.Stop.LaidErr
import Derived.Lay
import Derived.MakeChecks
namespace Go.Proofs.YtndcmapifihgeaaGreatDoor
open Go.ChangeShapes Go.WideShapes Go.ChangeAt Go.RowKit Go.Lib Go.Shelf
open Ch (at0 Sl Cells)

theorem own : ownKnob Tryz.prog.godebug = none := by kernel_rfl
theorem laidOut : laidOutB Tryz.prog = true := by kernel_rfl

def laidL : List (String × DataW Unit) := [("unicode/utf8.acceptRanges", Rows.laid_unicode_utf8_acceptRanges), ("decanter/ref.moved", Rows.laid_decanter_ref_moved), ("unicode/utf8.first", Rows.laid_unicode_utf8_first)]

def u8Ren : Ren := ⟨fun n => n, fun | 119 => 133 | 138 => 136 | 139 => 137 | n => n, fun | 3 => 0 | 4 => 1 | n => n⟩
theorem u8Types : U8Types Tryz.prog u8Ren := { t5 := Tryz.underlying5, t119 := Tryz.underlying133, t138 := Tryz.underlying136, t139 := Tryz.underlying137 }
theorem u8Extra : U8Extra Tryz.prog u8Ren := { n3 := by kernel_rfl, n4 := by kernel_rfl, y3 := by kernel_rfl, y4 := by kernel_rfl, c5 := by kernel_rfl, c119 := by kernel_rfl, c138 := by kernel_rfl }

theorem first_eq : Rows.laid_unicode_utf8_first = firstData := Pinned.utf8First_eq
theorem accept_eq : (Rows.laid_unicode_utf8_acceptRanges : DataW Unit) = acceptData := by kernel_rfl

def movedZ : List Int := movedL.map fun n : Nat => (n : Int)
theorem moved_eq : (Rows.laid_decanter_ref_moved : DataW Unit) = Lib.tabData .i32 movedZ := by kernel_rfl
theorem gMv : Tryz.prog.globalNamed "decanter/ref.moved" = some 2 := by kernel_rfl
theorem tMv : (Tryz.prog.globals[2]?).map (·.type) = some 141 := by kernel_rfl
theorem cells59 : Tryz.prog.cellsOf 141 = 32 := by kernel_rfl
theorem cells21 : Tryz.prog.cellsOf 21 = 1 := by kernel_rfl

theorem tabs {W : World} (h : laidMetH Tryz.prog laidL W) : Tb W := by
  rw [MakeChecks.laidMetH_plain _ _ _ (by kernel_rfl)] at h
  have h3 : VarReads Tryz.prog W "unicode/utf8.first" firstData := first_eq ▸ Lib.laidMet.reads h (List.mem_cons_of_mem _ (List.mem_cons_of_mem _ List.mem_cons_self))
  have h4 : VarReads Tryz.prog W "unicode/utf8.acceptRanges" acceptData := accept_eq ▸ Lib.laidMet.reads h List.mem_cons_self
  refine ⟨utf8Tabs_of_readsT u8Types u8Extra h3 h4, fun i hi => ?_⟩
  have h2 := h.tail
  rw [moved_eq] at h2
  have hT := Lib.tabIs_of_head gMv tMv Tryz.underlying141 Tryz.underlying21 cells21 cells59 h2
  have hl : i < movedL.length := hi
  have := hT.cell gMv i (by unfold movedZ; rw [List.length_map]; exact hl)
  rw [this]
  unfold movedZ
  simp [List.getElem?_eq_getElem hl, List.getD_eq_getElem?_getD]

theorem u8_bd {n : Int} (h : (Lit.int .u8 n).wf = true) : 0 ≤ n ∧ n < 256 := by
  have := bounds_u8 h; omega
theorem u16_nat {n : Int} (h : (Lit.int .u16 n).wf = true) : ∃ k : Nat, n = k ∧ k < 65536 := by
  have := bounds_u16 h
  exact ⟨n.toNat, by omega, by omega⟩

/-- A slice of bytes that came in: a list of bytes. -/
theorem open_bytes {H : Type} {enc : TypeId × Value → H} {W : World} {a : Option Addr} {len cap : Nat} {d : DataW H} {p : List MemPlace}
    (h : DataW.Trod enc Tryz.prog W 0 (fun _ => true) true 22 (.slice a len cap) d p) : ∃ l : List UInt8, l.length = len ∧ len ≤ maxLen ∧ Sl l a cap W := by
  obtain ⟨fuel, hf⟩ := h
  rcases open_ints Tryz.underlying22 Tryz.underlying5 (by kernel_rfl) hf with ⟨hcs, _⟩ | ⟨x, l, c, zs, hcs, _, hl, hm, hz, _, hcell, hwz⟩
  · simp [Value.cells] at hcs
    obtain ⟨rfl, rfl, rfl⟩ := hcs
    exact ⟨[], rfl, Nat.zero_le _, Nat.zero_le _, Or.inl rfl⟩
  · simp [Value.cells] at hcs
    obtain ⟨rfl, rfl, rfl⟩ := hcs
    have hz' : zs.length = cap := by simpa using hz
    refine ⟨(zs.take len).map fun n => n.toNat.toUInt8, by simp; omega, by omega, by simp; omega, ?_⟩
    by_cases h0 : len = 0
    · left; subst h0; simp
    · right
      obtain ⟨b, off, rfl, hc⟩ := ints_at hcell (by omega)
      refine ⟨b, off, rfl, fun j hj => ?_⟩
      have hj' : j < len := by simp at hj; omega
      rw [hc j (by omega)]
      have hmem : zs.getD j 0 ∈ zs := by
        rw [List.getD_eq_getElem?_getD, List.getElem?_eq_getElem (by omega)]
        exact List.getElem_mem _
      have hb := u8_bd (hwz _ hmem)
      have : ((at0 ((zs.take len).map fun n => n.toNat.toUInt8) j : Nat) : Int) = zs.getD j 0 := by
        unfold at0
        simp only [List.getD_eq_getElem?_getD, List.getElem?_map, List.getElem?_take, if_pos hj']
        rw [List.getD_eq_getElem?_getD, List.getElem?_eq_getElem (by omega)] at hb
        rw [List.getElem?_eq_getElem (by omega)]
        simp at hb ⊢
        omega
      rw [this]

theorem nil_cap {H : Type} {enc : TypeId × Value → H} {W : World} {a : Option Addr} {len cap : Nat} {d : DataW H} {p : List MemPlace}
    (h : DataW.Trod enc Tryz.prog W 0 (fun _ => true) true 22 (.slice a len cap) d p) : a = none → len = 0 ∧ cap = 0 := by
  obtain ⟨fuel, hf⟩ := h
  rcases open_ints Tryz.underlying22 Tryz.underlying5 (by kernel_rfl) hf with ⟨hcs, _⟩ | ⟨x, l, c, zs, hcs, _⟩
  · simp [Value.cells] at hcs
    exact fun _ => hcs.2
  · simp [Value.cells] at hcs
    intro e
    rw [e] at hcs
    cases hcs.1
end Go.Proofs.YtndcmapifihgeaaGreatDoor
