/- A constant as a slice of bytes. -/
import Derived.Test.YtpamdilmoakflaaTg
import Derived.Lib.SlBytesConst
namespace Go.Proofs.Ytpamdilmoakflaa
open Go.RowKit Go.Lib

variable {l m : List UInt8} {a : Option Addr} {cap i b off : Nat} {w w' : World}

/-- a list's bytes, as cells -/
def cellsB (l : List UInt8) : List Value := l.map fun b => .int .u8 (b.toNat : Int)

theorem row_cell' (w : World) (t : TypeId) (i : Nat) (v : Value) (cs : Array Value) (fr : Nat × Nat) (h : cs[i]? = some v) : (w.alloc (.cells cs t fr)).cell? ⟨w.heap.size, i, none⟩ = some v := by
  simp [World.cell?, World.alloc, -World.alloc_eq]
  exact h

theorem cellsB_at {l : List UInt8} {j : Nat} (hj : j < l.length) : (cellsB l)[j]? = some (.int .u8 ((at0 l j : Nat) : Int)) := by
  simp [cellsB, at0, List.getD_eq_getElem?_getD, List.getElem?_eq_getElem hj]

/-- a constant as a slice of bytes: a new row with its mark -/
theorem sl_const (l : List UInt8) (w : World) (cs : Array Value) (n : Nat) (h : cs = (cellsB l).toArray) (hn : l.length = n) :
    Cells l w.heap.size 0 (w.alloc (.cells cs 5 (n, n + 1))) ∧ Below w.heap.size w (w.alloc (.cells cs 5 (n, n + 1))) ∧ (w.alloc (.cells cs 5 (n, n + 1))).heap.size = w.heap.size + 1 ∧
      (convert 22 22 (.slice (some ⟨w.heap.size, 0, none⟩) n n)).run Try.prog (w.alloc (.cells cs 5)) = .ok (.slice (some ⟨w.heap.size, 0, none⟩) n n) (w.alloc (.cells cs 5 (n, n + 1))) := by
  have hsz : cs.size = n := by rw [h, ← hn]; simp [cellsB]
  refine ⟨fun j hj => ?_, (Below.refl _ w).alloc (Nat.le_refl _) _, by simp, ?_⟩
  · rw [Nat.zero_add]
    apply row_cell'
    rw [h, List.getElem?_toArray]
    exact cellsB_at hj
  · have := Lib.run_convert_bytes_const (P := Try.prog) w 22 5 cs n n Try.underlying22 Try.underlying5
    rw [hsz] at this
    exact this

end Go.Proofs.Ytpamdilmoakflaa
