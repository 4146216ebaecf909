/- The document's example, and the law RefPoints. -/
import Derived.Test.YtndcmapifihgeaaDoorText
import Derived.Lib.SlBytesConst
namespace Go.Proofs.YtndcmapifihgeaaDoor
open Go.RowKit Go.Lib
open Ch (at0 nx nx_width nx_range at0_lt at0_drop enc_len Sl Sl.below Cells ret_bool)

def exA : List UInt8 := [38, 108, 116, 59, 98, 32, 38, 35, 51, 51]
def exB : List UInt8 := [38, 99, 111, 112, 121, 61, 49]
set_option maxRecDepth 100000 in
theorem exA_txt : txt false exA = [60, 98, 32, 33] := by decide +kernel
set_option maxRecDepth 100000 in
theorem exB_txt : txt true exB = [38, 99, 111, 112, 121, 61, 49] := by decide +kernel

theorem row_cell' (w : World) (t : TypeId) (i : Nat) (v : Value) (cs : Array Value) (fr : Nat × Nat) (h : cs[i]? = some v) : (w.alloc (.cells cs t fr)).cell? ⟨w.heap.size, i, none⟩ = some v := by
  simp [World.cell?, World.alloc, -World.alloc_eq]
  exact h

/-- a constant as a slice of bytes: a new row with its mark -/
theorem sl_const (l : List UInt8) (w : World) (cs : Array Value) (n : Nat) (h : cs = (byteCells l).toArray) (hn : l.length = n) :
    Sl l (some ⟨w.heap.size, 0, none⟩) n (w.alloc (.cells cs 5 (n, n + 1))) ∧ Below w.heap.size w (w.alloc (.cells cs 5 (n, n + 1))) ∧ (w.alloc (.cells cs 5 (n, n + 1))).heap.size = w.heap.size + 1 ∧
      (convert 22 22 (.slice (some ⟨w.heap.size, 0, none⟩) n n)).run Tryd.prog (w.alloc (.cells cs 5)) = .ok (.slice (some ⟨w.heap.size, 0, none⟩) n n) (w.alloc (.cells cs 5 (n, n + 1))) := by
  have hsz : cs.size = n := by rw [h, ← hn]; simp [byteCells]
  refine ⟨⟨by omega, Or.inr ⟨w.heap.size, 0, rfl, fun j hj => ?_⟩⟩, (Below.refl _ w).alloc (Nat.le_refl _) _, by simp, ?_⟩
  · rw [Nat.zero_add]
    apply row_cell'
    rw [h]
    simp [byteCells, at0, List.getD_eq_getElem?_getD, List.getElem?_eq_getElem hj]
  · have := Lib.run_convert_bytes_const (P := Tryd.prog) w 22 5 cs n n Tryd.underlying22 Tryd.underlying5
    rw [hsz] at this
    exact this

def PtRel (w : World) (v : Value) (wr : World) : Prop := ∃ z : Int, v = .int .i64 z ∧ -1 ≤ z ∧ z ≤ 300 ∧ Below w.heap.size w wr

end Go.Proofs.YtndcmapifihgeaaDoor
