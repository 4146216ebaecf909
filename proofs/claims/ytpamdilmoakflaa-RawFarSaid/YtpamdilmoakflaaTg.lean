/- Slices of bytes. -/
import Derived.Test.YtpamdilmoakflaaRw
import Derived.Test.YtpamdilmoakflaaSmall
import Derived.LoopTactic
import Derived.Below
import Derived.OwnWalk
import Derived.Carry
namespace Go.Proofs.Ytpamdilmoakflaa
open Go.RowKit Go.Lib

variable {l : List UInt8} {a : Option Addr} {cap i : Nat} {w w' : World}

theorem ret_bool {a b : Bool} (h : a = b) : Ending.returned (.bool a) = .returned (.bool b) := by rw [h]
theorem ret_int {k : IntKind} {a b : Int} (h : a = b) : Ending.returned (.int k a) = .returned (.int k b) := by rw [h]

/-- what the cells of a slice of bytes hold -/
def Cells (l : List UInt8) (b off : Nat) (w : World) : Prop := ∀ j, j < l.length → w.cell? ⟨b, off + j, none⟩ = some (.int .u8 ((at0 l j : Nat) : Int))

theorem cell_lt {a : Addr} {v : Value} (hc : w.cell? a = some v) : a.block < w.heap.size := by
  rcases Nat.lt_or_ge a.block w.heap.size with h' | h'
  · exact h'
  · simp [World.cell?, Array.getElem?_eq_none h'] at hc

theorem Cells.below {b off : Nat} (h : Cells l b off w) (hb : Below w.heap.size w w') : Cells l b off w' :=
  fun j hj => (hb.cell (cell_lt (h j hj))).trans (h j hj)

theorem Cells.drop {b off : Nat} (h : Cells l b off w) (i : Nat) : Cells (l.drop i) b (off + i) w := by
  intro j hj
  simp only [List.length_drop] at hj
  rw [Nat.add_assoc, at0_drop]
  exact h (i + j) (by omega)

theorem at0_take {n j : Nat} (h : j < n) : at0 (l.take n) j = at0 l j := by
  unfold at0
  rw [List.getD_eq_getElem?_getD, List.getD_eq_getElem?_getD, List.getElem?_take, if_pos h]

theorem Cells.take {b off : Nat} (h : Cells l b off w) (n : Nat) : Cells (l.take n) b off w := by
  intro j hj
  simp only [List.length_take] at hj
  rw [at0_take (by omega)]
  exact h j (by omega)

/-- a slice of bytes, nil or not: its bytes are the list's -/
def Sl (l : List UInt8) (a : Option Addr) (cap : Nat) (w : World) : Prop := l.length ≤ cap ∧ (l = [] ∨ ∃ b off, a = some ⟨b, off, none⟩ ∧ Cells l b off w)

theorem Sl.below (h : Sl l a cap w) (hb : Below w.heap.size w w') : Sl l a cap w' := by
  obtain ⟨h1, h2 | ⟨b, off, rfl, hc⟩⟩ := h
  · exact ⟨h1, Or.inl h2⟩
  · exact ⟨h1, Or.inr ⟨b, off, rfl, hc.below hb⟩⟩

theorem string_cells {t : List UInt8} {b off n cap : Nat} {w : World} (hc : Cells t b off w) (hn : t.length = n) :
    (convert 22 9 (.slice (some ⟨b, off, none⟩) n cap)).run Try.prog w = .ok (.string ⟨t.toArray⟩) w := by
  subst hn
  refine run_convert_bytes_back w 22 9 5 ⟨b, off, none⟩ cap t Try.underlying22 Try.underlying5 Try.underlying9 fun j hj => ?_
  have := hc j hj
  have e : (⟨b, off, none⟩ : Addr).add j = ⟨b, off + j, none⟩ := by unfold Addr.add; split <;> simp_all
  rw [e, this]
  simp [at0, List.getD_eq_getElem?_getD, List.getElem?_eq_getElem hj]

end Go.Proofs.Ytpamdilmoakflaa
