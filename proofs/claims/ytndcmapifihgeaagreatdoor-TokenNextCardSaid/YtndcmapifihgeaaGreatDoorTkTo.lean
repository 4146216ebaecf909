/- The law's To and the reference's Same of a token that has a text, walked. -/
import Derived.Test.YtndcmapifihgeaaGreatDoorTgTo
namespace Go.Proofs.YtndcmapifihgeaaGreatDoor.Tk
open Go.RowKit Go.Lib
open Ch (at0 nx nx_width nx_range at0_lt at0_drop enc_len Sl Sl.below Cells ret_str good nx_good ret_bool)
open At (cellsA ads)
open Tg (zero34 info34 Bk bk_new below_set6 own_set6 cell_set6 below_of_drew)

variable {l : List UInt8} {a : Option Addr} {cap R i : Nat} {W w w' : World}

set_option maxHeartbeats 4000000 in
set_option maxRecDepth 100000 in
theorem to_tx (k : Int) (n X : At.Str) (L : List At.At) (f u : Int) (a5 : Option Addr) (cap5 : Nat) (w : World) (hs : At.Sl L a5 cap5 w) (hl : L.length ≤ 100000) :
    Calls Tryz.prog 9 #[.agg #[.int .i64 k, .string ⟨n.toArray⟩, .slice a5 L.length cap5, .string ⟨X.toArray⟩, .int .i64 f, .int .i64 u]] w fun e w' => ∃ a6 cap6, e = .returned (.agg #[.int .i64 k, .string ⟨n.toArray⟩, .slice a6 L.length cap6, .string ⟨X.toArray⟩, .int .i64 f, .int .i64 u]) ∧ w'.ownsRow w.heap.size 69 2 (.slice a6 L.length cap6) L.length (cellsA L) ∧ Below w.heap.size w w' := by
  obtain ⟨W2, hW2⟩ : ∃ W2, (w.alloc (.cells #[.int .i64 k, .string ⟨n.toArray⟩, .slice a5 L.length cap5, .string ⟨X.toArray⟩, .int .i64 f, .int .i64 u] 26)).alloc (.cells zero34 31) = W2 := ⟨_, rfl⟩
  have hb2 : Below w.heap.size w W2 := by rw [← hW2]; exact ((Below.refl _ w).alloc (Nat.le_refl _) _).alloc (by simp) _
  have b1 : Bk w.heap.size #[.int .i64 k, .string ⟨n.toArray⟩, .slice a5 L.length cap5, .string ⟨X.toArray⟩, .int .i64 f, .int .i64 u] 26 W2 := by rw [← hW2]; exact (bk_new w _ 26).alloc _
  have b2 : Bk (w.heap.size + 1) zero34 31 W2 := by
    rw [← hW2]
    have := bk_new (w.alloc (.cells #[.int .i64 k, .string ⟨n.toArray⟩, .slice a5 L.length cap5, .string ⟨X.toArray⟩, .int .i64 f, .int .i64 u] 26)) zero34 31
    simpa using this
  have hz : W2.heap.size = w.heap.size + 2 := by rw [← hW2]; simp
  have cT := At.to_any L a5 cap5 W2.drew ((hs.below hb2).below ⟨rfl, rfl, rfl, Nat.le_refl _, fun _ _ => rfl⟩) hl
  obtain ⟨k0, k1, k2, k3, k4, k5, f0, f1, f2, f3, f4, f5⟩ := b1.six
  have HZ := Lib.hid hz
  have HB := Lib.hid hb2
  have H1 := Lib.hid b1
  have H2 := Lib.hid b2
  clear hz hb2 b2 f0 f1 f2 f3 f4 f5
  unfold zero34 at hW2 H2
  have hgg : w.heap.size ≠ w.heap.size + 1 := by omega
  have d0 : W2.drew.cell? ⟨w.heap.size, 0, none⟩ = some (.int .i64 k) := k0
  have d1 : W2.drew.cell? ⟨w.heap.size, 1, none⟩ = some (.string ⟨n.toArray⟩) := k1
  have d2 : W2.drew.cell? ⟨w.heap.size, 2, none⟩ = some (.slice a5 L.length cap5) := k2
  have d3 : W2.drew.cell? ⟨w.heap.size, 3, none⟩ = some (.string ⟨X.toArray⟩) := k3
  have d4 : W2.drew.cell? ⟨w.heap.size, 4, none⟩ = some (.int .i64 f) := k4
  have d5 : W2.drew.cell? ⟨w.heap.size, 5, none⟩ = some (.int .i64 u) := k5
  go_enter Tryz.func9, Tryz.ntmps9
  go_wp2_with fail
  go_region_held3 (fun w' => w'.cell? ⟨w.heap.size, 0, none⟩ = some (.int .i64 k) ∧ w'.cell? ⟨w.heap.size, 1, none⟩ = some (.string ⟨n.toArray⟩) ∧ w'.cell? ⟨w.heap.size, 2, none⟩ = some (.slice a5 L.length cap5) ∧ w'.cell? ⟨w.heap.size, 3, none⟩ = some (.string ⟨X.toArray⟩) ∧ w'.cell? ⟨w.heap.size, 4, none⟩ = some (.int .i64 f) ∧ w'.cell? ⟨w.heap.size, 5, none⟩ = some (.int .i64 u)) (first | with_reducible exact ⟨q0, q1, q2, q3, q4, q5⟩ | with_reducible exact ⟨k0, k1, k2, k3, k4, k5⟩ | with_reducible exact ⟨d0, d1, d2, d3, d4, d5⟩ | with_reducible exact ⟨(cell_set6 hgg).trans q0, (cell_set6 hgg).trans q1, (cell_set6 hgg).trans q2, (cell_set6 hgg).trans q3, (cell_set6 hgg).trans q4, (cell_set6 hgg).trans q5⟩)
    (first
      | (go_at_call 24; refine cT.mono ?_; rintro e w3 ⟨s, rfl, ho3, hb3⟩; obtain ⟨a6, cap6, rfl, -⟩ := At.sl_own ho3; have hb3 := below_of_drew hb3; obtain ⟨q0, q1, q2, q3, q4, q5, -, -, -, -, -, -⟩ := (H1.out.below hb3).six; obtain ⟨r0, r1, r2, r3, r4, r5, g0, g1, g2, g3, g4, g5⟩ := (H2.out.below hb3).six; have HO3 := Lib.hid ho3; have HB3 := Lib.hid hb3; clear ho3 hb3))
  go_wp2
  (try simp only [Exit.inBlock, Exit.then])
  refine bodyPost_ret (results_cell_row rfl _ _ (w.heap.size + 1) 31 #[.int .i64 k, .string ⟨n.toArray⟩, .slice a6 L.length cap6, .string ⟨X.toArray⟩, .int .i64 f, .int .i64 u] (0, 0) _ rfl ?_ Tryz.underlying31 rfl info34) rfl ?_
  · exact ((H2.out.below HB3.out).set6 _ _ _ _ _ _).blk
  · refine ⟨a6, cap6, rfl, ?_, ?_⟩
    · exact own_set6 (At.ownsRow_base HO3.out (by have := HZ.out; simp at *; omega)) (by
        cases hv : (Value.slice a6 L.length cap6).ownBlock with
        | none => exact Or.inl rfl
        | some q => have := (HO3.out.lt q hv).1; have := HZ.out; exact Or.inr (by simp at *; omega)) _ _ _ _ _ _
    · exact below_set6 (HB.out.trans (HB3.out.mono HB.out.size)) (by omega) _ _ _ _ _ _

set_option maxHeartbeats 4000000 in
set_option maxRecDepth 100000 in
/-- the same token, with lists that read alike: Same says yes -/
theorem same_tx (k : Int) (n X : At.Str) (L : List At.At) (f u : Int) (a5 : Option Addr) (cap5 : Nat) (a6 : Option Addr) (cap6 : Nat) (w : World) (hs : At.Sl L a5 cap5 w) (hs2 : At.Sl L a6 cap6 w) (hl : L.length ≤ 100000) :
    Calls Tryz.prog 8 #[.agg #[.int .i64 k, .string ⟨n.toArray⟩, .slice a5 L.length cap5, .string ⟨X.toArray⟩, .int .i64 f, .int .i64 u], .agg #[.int .i64 k, .string ⟨n.toArray⟩, .slice a6 L.length cap6, .string ⟨X.toArray⟩, .int .i64 f, .int .i64 u]] w fun e w' => e = .returned (.bool true) ∧ Below w.heap.size w w' := by
  obtain ⟨W2, hW2⟩ : ∃ W2, (w.alloc (.cells #[.int .i64 k, .string ⟨n.toArray⟩, .slice a5 L.length cap5, .string ⟨X.toArray⟩, .int .i64 f, .int .i64 u] 31)).alloc (.cells #[.int .i64 k, .string ⟨n.toArray⟩, .slice a6 L.length cap6, .string ⟨X.toArray⟩, .int .i64 f, .int .i64 u] 31) = W2 := ⟨_, rfl⟩
  have hb2 : Below w.heap.size w W2 := by rw [← hW2]; exact ((Below.refl _ w).alloc (Nat.le_refl _) _).alloc (by simp) _
  have b1 : Bk w.heap.size #[.int .i64 k, .string ⟨n.toArray⟩, .slice a5 L.length cap5, .string ⟨X.toArray⟩, .int .i64 f, .int .i64 u] 31 W2 := by rw [← hW2]; exact (bk_new w _ 31).alloc _
  have b2 : Bk (w.heap.size + 1) #[.int .i64 k, .string ⟨n.toArray⟩, .slice a6 L.length cap6, .string ⟨X.toArray⟩, .int .i64 f, .int .i64 u] 31 W2 := by
    rw [← hW2]
    have := bk_new (w.alloc (.cells #[.int .i64 k, .string ⟨n.toArray⟩, .slice a5 L.length cap5, .string ⟨X.toArray⟩, .int .i64 f, .int .i64 u] 31)) #[.int .i64 k, .string ⟨n.toArray⟩, .slice a6 L.length cap6, .string ⟨X.toArray⟩, .int .i64 f, .int .i64 u] 31
    simpa using this
  have cA := At.alike_any L a5 cap5 L a6 cap6 W2 (hs.below hb2) (hs2.below hb2) (by omega)
  rw [show At.alike L L = true from decide_eq_true rfl] at cA
  obtain ⟨k0, k1, k2, k3, k4, k5, -, -, -, -, -, -⟩ := b1.six
  obtain ⟨q0, q1, q2, q3, q4, q5, -, -, -, -, -, -⟩ := b2.six
  have HB := Lib.hid hb2
  clear hb2 b1 b2 hs hs2
  go_enter Tryz.func8, Tryz.ntmps8
  go_wp2_with fail
  refine cA.mono ?_
  rintro e w3 ⟨rfl, hb3⟩
  go_wp2
  go_ret
  exact ⟨rfl, HB.out.trans (hb3.mono HB.out.size)⟩
end Go.Proofs.YtndcmapifihgeaaGreatDoor.Tk
