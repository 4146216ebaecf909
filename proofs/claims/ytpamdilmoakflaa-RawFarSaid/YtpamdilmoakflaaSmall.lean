/- A text's bytes. -/
import Derived.Test.YtpamdilmoakflaaCls
import Derived.Lib.Hide
import Derived.Laws.OwnMore
import Derived.Laws.BytesArg
namespace Go.Proofs.Ytpamdilmoakflaa
open Go.RowKit Go.Lib

theorem str_size (l : List UInt8) : (⟨l.toArray⟩ : ByteArray).size = l.length := by simp [ByteArray.size]

theorem ret_str {l m : List UInt8} (h : l = m) : Ending.returned (.string ⟨l.toArray⟩) = .returned (.string ⟨m.toArray⟩) := by rw [h]

theorem low_at {l : List UInt8} {i : Nat} (h : i < l.length) : lowerZ (at0 l i : Int) % 256 = ((lowB l[i]).toNat : Int) := by
  rw [getD_at0 h, lowerZ_nat]
  have := UInt8.toNat_lt (lowB l[i])
  omega

end Go.Proofs.Ytpamdilmoakflaa
