/- The chapter's example, walked. -/
import Derived.Test.YtfnecdifaodamaaDoorAtAlike
namespace Go.Proofs.YtfnecdifaodamaaDoor.At
open Go.RowKit Go.Lib

def exA : List At := [([97], [49]), ([98], [50])]
def exB : List At := [([98], [50]), ([97], [49])]

/-- a block that holds just a list's cells -/
theorem sl_block {w : World} {g : Nat} {L : List At} {t : TypeId} {f : Nat × Nat} (h : w.heap[g]? = some (.cells (cellsA L).toArray t f)) : Sl L (some ⟨g, 0, none⟩) L.length w := by
  refine ⟨Nat.le_refl _, (fun h => by cases h), Or.inr ⟨g, 0, rfl, fun i hi => ?_⟩⟩
  obtain ⟨e1, e2⟩ := cellsA_at L i hi
  have k1 := cell_of_row w g (i * 2) _ t f h
  have k2 := cell_of_row w g (i * 2 + 1) _ t f h
  refine ⟨?_, ?_⟩
  · rw [Nat.zero_add, k1]; simpa using e1
  · rw [Nat.zero_add, k2]; simpa using e2

theorem ex_world (w : World) : Sl exA (some ⟨w.heap.size, 0, none⟩) 2 ((w.alloc (.cells (cellsA exA).toArray 43)).alloc (.cells (cellsA exB).toArray 43)) ∧
    Sl exB (some ⟨w.heap.size + 1, 0, none⟩) 2 ((w.alloc (.cells (cellsA exA).toArray 43)).alloc (.cells (cellsA exB).toArray 43)) ∧
    Below w.heap.size w ((w.alloc (.cells (cellsA exA).toArray 43)).alloc (.cells (cellsA exB).toArray 43)) := by
  have hA : (w.alloc (.cells (cellsA exA).toArray 43)).heap[w.heap.size]? = some (.cells (cellsA exA).toArray 43) := heap_alloc_new w _
  have hB : ((w.alloc (.cells (cellsA exA).toArray 43)).alloc (.cells (cellsA exB).toArray 43)).heap[(w.alloc (.cells (cellsA exA).toArray 43)).heap.size]? = some (.cells (cellsA exB).toArray 43) := heap_alloc_new _ _
  have hz : (w.alloc (.cells (cellsA exA).toArray 43)).heap.size = w.heap.size + 1 := by simp
  rw [hz] at hB
  have hb1 : Below w.heap.size w (w.alloc (.cells (cellsA exA).toArray 43)) := below_alloc _
  have hb2 : Below (w.alloc (.cells (cellsA exA).toArray 43)).heap.size (w.alloc (.cells (cellsA exA).toArray 43)) ((w.alloc (.cells (cellsA exA).toArray 43)).alloc (.cells (cellsA exB).toArray 43)) := below_alloc _
  exact ⟨(sl_block hA).below hb2, sl_block hB, hb1.trans (hb2.mono hb1.size)⟩

theorem len_int {n : Nat} (h : n = 3) : ((n : Int) == 3) = true := by subst h; rfl

end Go.Proofs.YtfnecdifaodamaaDoor.At
