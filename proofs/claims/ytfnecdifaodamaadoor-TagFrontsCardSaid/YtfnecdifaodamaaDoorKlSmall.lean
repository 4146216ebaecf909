/- class.Small: a text with small letters, whatever its bytes are; the example of the document. -/
import Derived.Test.YtfnecdifaodamaaDoorKlCls
import Derived.Lib.OthersKept
import Derived.Lib.ConvBytes
import Derived.Lib.Hide
import Derived.Deep.LoopGhost
import Derived.Laws.OwnMore
import Derived.Laws.BytesArg
namespace Go.Proofs.YtfnecdifaodamaaDoor.Kl
open Go.RowKit Go.Lib

theorem str_size (l : List UInt8) : (⟨l.toArray⟩ : ByteArray).size = l.length := by simp [ByteArray.size]

/-- a row of bytes of one's own, whose first ones are those of the list, none of which a string shares -/
def Row (l : List UInt8) (g : Nat) (w : World) : Prop :=
  ∃ (cur : Array Value) (z : Nat), w.heap[g]? = some (.cells cur 5 (z, z + 1)) ∧ l.length ≤ z ∧ ∀ j, j < l.length → cur[j]? = some (.int .u8 (at0 l j : Int))

theorem Row.cell {l : List UInt8} {g : Nat} {w : World} (h : Row l g w) {j : Nat} (hj : j < l.length) : w.cell? ⟨g, j, none⟩ = some (.int .u8 (at0 l j : Int)) := by
  obtain ⟨cur, z, hg, _, hc⟩ := h
  simp [World.cell?, hg, hc j hj]

theorem Row.frozen {l : List UInt8} {g : Nat} {w : World} (h : Row l g w) {j : Nat} (hj : j < l.length) : w.frozen? ⟨g, j, none⟩ = false := by
  obtain ⟨cur, z, hg, hz, _⟩ := h
  simp [World.frozen?, hg]
  omega

theorem Row.other {l : List UInt8} {g : Nat} {w w' : World} (h : Row l g w) (he : w'.heap[g]? = w.heap[g]?) : Row l g w' := by
  obtain ⟨cur, z, hg, hz, hc⟩ := h
  exact ⟨cur, z, by rw [he]; exact hg, hz, hc⟩

theorem Row.set {l : List UInt8} {g : Nat} {w : World} (h : Row l g w) (j : Nat) (b : UInt8) : Row (l.set j b) g (w.setCell ⟨g, j, none⟩ (.int .u8 (b.toNat : Int))) := by
  obtain ⟨cur, z, hg, hz, hc⟩ := h
  refine ⟨cur.setIfInBounds j (.int .u8 (b.toNat : Int)), z, ?_, by rw [List.length_set]; exact hz, fun i hi => ?_⟩
  · have hlt : g < w.heap.size := by
      rcases Nat.lt_or_ge g w.heap.size with h' | h'
      · exact h'
      · simp [Array.getElem?_eq_none h'] at hg
    rw [Array.getElem?_eq_getElem hlt] at hg
    injection hg with hg
    simp [World.setCell, hlt]
    rw [Array.getElem_modify_self, hg]
  · rw [List.length_set] at hi
    rw [Array.getElem?_setIfInBounds]
    have hci := hc i hi
    have hlt : i < cur.size := by
      rcases Nat.lt_or_ge i cur.size with h' | h'
      · exact h'
      · simp [Array.getElem?_eq_none h'] at hci
    by_cases hij : j = i
    · subst hij
      rw [if_pos rfl, if_pos hlt]
      simp [at0, List.getD_eq_getElem?_getD, hi]
    · rw [if_neg hij, hci]
      simp [at0, List.getD_eq_getElem?_getD, hij]

/-- '[]byte(s)': a new row whose bytes are the string's. -/
theorem bytes_row (l : List UInt8) (w : World) : ∃ (cap : Nat) (W : World), (convert 9 22 (.string ⟨l.toArray⟩)).run Tryd.prog w = .ok (.slice (some ⟨w.heap.size, 0, none⟩) l.length cap) W ∧ Row l w.heap.size W ∧ W.heap.size = w.heap.size + 1 ∧ Below w.heap.size w W := by
  refine ⟨grownCap w l.length 0 5, Lib.bytesWorld w 5 ⟨l.toArray⟩, ?_, ?_, Lib.bytesWorld_size _ _ _, ?_⟩
  · have := Lib.run_convert_string_bytes (P := Tryd.prog) w 9 22 5 ⟨l.toArray⟩ Tryd.underlying9 Tryd.underlying22 Tryd.underlying5
    rw [str_size] at this
    exact this
  · refine ⟨_, _, Lib.bytesWorld_at_new w 5 ⟨l.toArray⟩, ?_, fun j hj => ?_⟩
    · simp [Lib.bytesCells]
    · have := Lib.bytesWorld_cell w 5 ⟨l.toArray⟩ j (by rw [str_size]; exact hj)
      simp only [World.cell?, Lib.bytesWorld_at_new] at this
      exact this
  · exact ⟨rfl, rfl, rfl, by rw [Lib.bytesWorld_size]; omega, fun k hk => Lib.bytesWorld_at_old w 5 _ k hk⟩

/-- 'string(b)' of such a row -/
theorem string_row {l : List UInt8} {g cap : Nat} {w : World} (h : Row l g w) : (convert 22 9 (.slice (some ⟨g, 0, none⟩) l.length cap)).run Tryd.prog w = .ok (.string ⟨l.toArray⟩) w := by
  refine run_convert_bytes_back w 22 9 5 ⟨g, 0, none⟩ cap l Tryd.underlying22 Tryd.underlying5 Tryd.underlying9 fun j hj => ?_
  have e : (⟨g, 0, none⟩ : Addr).add j = ⟨g, j, none⟩ := by unfold Addr.add; split <;> simp_all
  rw [e, h.cell hj]
  simp [at0, List.getD_eq_getElem?_getD, hj]

theorem ret_str {l m : List UInt8} (h : l = m) : Ending.returned (.string ⟨l.toArray⟩) = .returned (.string ⟨m.toArray⟩) := by rw [h]

theorem low_at {l : List UInt8} {i : Nat} (h : i < l.length) : lowerZ (at0 l i : Int) % 256 = ((lowB l[i]).toNat : Int) := by
  rw [getD_at0 h, lowerZ_nat]
  have := UInt8.toNat_lt (lowB l[i])
  omega

theorem upto_same {l : List UInt8} {i : Nat} (h : i < l.length) (hg : greatZ (at0 l i : Int) = false) : upto l (i + 1) = upto l i := by
  rw [getD_at0 h, greatZ_nat] at hg
  have e : smallL [l[i]] = [l[i]] := by
    show [lowB l[i]] = _
    unfold lowB
    rw [hg]
    rfl
  unfold upto
  rw [List.take_succ_eq_append_getElem h, smallL_append, List.append_assoc, List.drop_eq_getElem_cons h, e]
  rfl

/-- half way -/
def SmallRel (l : List UInt8) (w : World) (k : Nat) (gf : Nat) (wr : World) : Prop :=
  ∃ pos : Nat, wr.heap[k]? = some (.stringIter ⟨l.toArray⟩ pos) ∧ Row (upto l pos) w.heap.size wr ∧ Below w.heap.size w wr ∧ l.length ≤ pos + gf

end Go.Proofs.YtfnecdifaodamaaDoor.Kl
