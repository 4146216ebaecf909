/- The chapter's example, walked. -/
import Derived.Test.YtmdpkolncfnfbaaAlike
namespace Go.Proofs.Ytmdpkolncfnfbaa
open Go.RowKit Go.Lib

def exA : List At := [([97], [49]), ([98], [50])]
def exB : List At := [([98], [50]), ([97], [49])]

/-- a block that holds just a list's cells -/
theorem sl_block {w : World} {g : Nat} {L : List At} {t : TypeId} {f : Nat × Nat} (h : w.heap[g]? = some (.cells (cellsA L).toArray t f)) : Sl L (some ⟨g, 0, none⟩) L.length w := by
  refine ⟨Nat.le_refl _, (fun h => by cases h), Or.inr ⟨g, 0, rfl, fun i hi => ?_⟩⟩
  obtain ⟨e1, e2⟩ := cellsA_at L i hi
  have k1 := cell_of_row w g (i * 2) _ t f h
  have k2 := cell_of_row w g (i * 2 + 1) _ t f h
  refine ⟨?_, ?_⟩
  · rw [Nat.zero_add, k1]; simpa using e1
  · rw [Nat.zero_add, k2]; simpa using e2

theorem ex_world (w : World) : Sl exA (some ⟨w.heap.size, 0, none⟩) 2 ((w.alloc (.cells (cellsA exA).toArray 34)).alloc (.cells (cellsA exB).toArray 34)) ∧
    Sl exB (some ⟨w.heap.size + 1, 0, none⟩) 2 ((w.alloc (.cells (cellsA exA).toArray 34)).alloc (.cells (cellsA exB).toArray 34)) ∧
    Below w.heap.size w ((w.alloc (.cells (cellsA exA).toArray 34)).alloc (.cells (cellsA exB).toArray 34)) := by
  have hA : (w.alloc (.cells (cellsA exA).toArray 34)).heap[w.heap.size]? = some (.cells (cellsA exA).toArray 34) := heap_alloc_new w _
  have hB : ((w.alloc (.cells (cellsA exA).toArray 34)).alloc (.cells (cellsA exB).toArray 34)).heap[(w.alloc (.cells (cellsA exA).toArray 34)).heap.size]? = some (.cells (cellsA exB).toArray 34) := heap_alloc_new _ _
  have hz : (w.alloc (.cells (cellsA exA).toArray 34)).heap.size = w.heap.size + 1 := by simp
  rw [hz] at hB
  have hb1 : Below w.heap.size w (w.alloc (.cells (cellsA exA).toArray 34)) := below_alloc _
  have hb2 : Below (w.alloc (.cells (cellsA exA).toArray 34)).heap.size (w.alloc (.cells (cellsA exA).toArray 34)) ((w.alloc (.cells (cellsA exA).toArray 34)).alloc (.cells (cellsA exB).toArray 34)) := below_alloc _
  exact ⟨(sl_block hA).below hb2, sl_block hB, hb1.trans (hb2.mono hb1.size)⟩

theorem len_int {n : Nat} (h : n = 3) : ((n : Int) == 3) = true := by subst h; rfl

set_option maxHeartbeats 2000000 in
set_option maxRecDepth 100000 in
theorem speaks_any (w : World) :
    Calls Try.prog 8 #[] w fun e w' => e = .returned (.bool true) ∧ Below w.heap.size w w' := by
  obtain ⟨s1, s2, hb0⟩ := ex_world w
  have cS := same_any exA _ 2 exB _ 2 _ s1 s2 (by decide) (by decide)
  rw [show same exA exB = true by decide] at cS
  have HS1 := Lib.hid s1
  have HB0 := Lib.hid hb0
  clear s1 s2 hb0
  go_enter Try.func8, Try.ntmps8
  go_wp2_with fail
  refine cS.mono ?_
  rintro e w1 ⟨rfl, hb1⟩
  have s3 := HS1.out.below hb1
  have cA := add_any exA _ 2 ([99], []) w1 s3 (by decide)
  have HB1 := Lib.hid (HB0.out.trans (hb1.mono HB0.out.size))
  clear hb1 HB0 HS1 s3 cS
  go_wp2_with fail
  refine cA.mono ?_
  rintro e w2 ⟨v, rfl, hown, hb2⟩
  have HB2 := Lib.hid (HB1.out.trans (hb2.mono HB1.out.size))
  obtain ⟨a, cap, rfl, -⟩ := sl_own hown
  have hlen := len_int (show (add exA ([99], [])).length = 3 by decide)
  clear hb2 hown
  go_wp2
  go_ret
  exact ⟨ret_bool (by simp), HB2.out⟩
end Go.Proofs.Ytmdpkolncfnfbaa
