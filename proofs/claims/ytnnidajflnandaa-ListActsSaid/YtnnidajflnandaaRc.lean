/- The document's arena: New, walked. -/
import Derived.Test.YtnnidajflnandaaRb
namespace Go.Proofs.Ytnnidajflnandaa
open Go.RowKit Go.Lib
open At (Str cellsA cellsA_len Sl below_drewN)

theorem row_new (u : World) (e : TypeId) (x : Value) : Rw 0 e 1 (.slice (some ⟨u.heap.size, 0, none⟩) 1 1) 1 [x] (u.alloc (.cells #[x] e)) := by
  refine ⟨rfl, Or.inr ⟨u.heap.size, 1, rfl, Nat.zero_le _, ⟨_, _, heap_alloc_new u _⟩, Nat.le_refl _, by decide, fun j y hj => ?_, fun j hj => ?_⟩⟩
  · rw [cell_of_heap (heap_alloc_new u _) j, ← hj]
    simp
  · obtain rfl : j = 0 := by omega
    rw [cell_of_heap (heap_alloc_new u _) 0]
    exact ⟨rfl, frozen_of_heap (heap_alloc_new u _) 0⟩

/-- the root alone -/
def M0 : List MN := [⟨[], [], -1, []⟩]

theorem ra_new (u : World) (b0 : Nat) : ∃ W, (((u.alloc (.cells #[.string ⟨#[]⟩] 9)).alloc (.cells #[.slice none 0 0] 35)).alloc (.cells #[.slice none 0 0] 110)).alloc (.cells #[.int .i64 (-1)] 3) = W ∧ Below u.heap.size u W ∧
    RA b0 W (.slice (some ⟨u.heap.size, 0, none⟩) 1 1) (.slice (some ⟨u.heap.size + 1, 0, none⟩) 1 1) (.slice (some ⟨u.heap.size + 1 + 1, 0, none⟩) 1 1) (.slice (some ⟨u.heap.size + 1 + 1 + 1, 0, none⟩) 1 1) M0 := by
  refine ⟨_, rfl, ?_, ?_⟩
  · exact (((At.below_alloc _).alloc (by simp) _).alloc (by simp; omega) _).alloc (by simp; omega) _
  · have e1 := row_new u 9 (.string ⟨#[]⟩)
    have e2 := row_new (u.alloc (.cells #[.string ⟨#[]⟩] 9)) 35 (.slice none 0 0)
    have e3 := row_new ((u.alloc (.cells #[.string ⟨#[]⟩] 9)).alloc (.cells #[.slice none 0 0] 35)) 110 (.slice none 0 0)
    have e4 := row_new (((u.alloc (.cells #[.string ⟨#[]⟩] 9)).alloc (.cells #[.slice none 0 0] 35)).alloc (.cells #[.slice none 0 0] 110)) 3 (.int .i64 (-1))
    have z1 : (u.alloc (.cells #[.string ⟨#[]⟩] 9)).heap.size = u.heap.size + 1 := by simp
    have z2 : ((u.alloc (.cells #[.string ⟨#[]⟩] 9)).alloc (.cells #[.slice none 0 0] 35)).heap.size = u.heap.size + 1 + 1 := by simp
    have z3 : (((u.alloc (.cells #[.string ⟨#[]⟩] 9)).alloc (.cells #[.slice none 0 0] 35)).alloc (.cells #[.slice none 0 0] 110)).heap.size = u.heap.size + 1 + 1 + 1 := by simp
    rw [z1] at e2
    rw [z2] at e3
    rw [z3] at e4
    refine ⟨((e1.below (At.below_alloc _)).below (At.below_alloc _)).below (At.below_alloc _), ⟨[.slice none 0 0], (e2.below (At.below_alloc _)).below (At.below_alloc _), fun j n hn => ?_⟩, ⟨[.slice none 0 0], e3.below (At.below_alloc _), fun j n hn => ?_⟩, e4⟩
    · have hj : j = 0 := by have := (List.getElem?_eq_some_iff.1 hn).1; simp [M0] at this; omega
      subst hj
      cases hn
      exact ⟨none, 0, rfl, ⟨Nat.le_refl _, fun _ => ⟨rfl, rfl⟩, Or.inl rfl⟩, fun h => absurd rfl h⟩
    · have hj : j = 0 := by have := (List.getElem?_eq_some_iff.1 hn).1; simp [M0] at this; omega
      subst hj
      cases hn
      exact ⟨.slice none 0 0, rfl, Rw.nil _ _ _ _⟩

set_option maxHeartbeats 4000000 in
set_option maxRecDepth 100000 in
theorem rnew_any (w : World) (b0 : Nat) (hb0 : b0 ≤ w.heap.size) : Calls Try.prog 9 #[] w fun e w' => ∃ v0 v1 v2 v3, e = .returned (rv v0 v1 v2 v3 0) ∧ RA b0 w' v0 v1 v2 v3 M0 ∧ Below w.heap.size w w' := by
  obtain ⟨WA, hWA⟩ : ∃ WA, w.alloc (.cells #[.slice none 0 0, .slice none 0 0, .slice none 0 0, .slice none 0 0, .int .i64 0] 31) = WA := ⟨_, rfl⟩
  have bx : Bx w.heap.size #[.slice none 0 0, .slice none 0 0, .slice none 0 0, .slice none 0 0, .int .i64 0] 31 WA := by rw [← hWA]; exact bx_new w _ 31
  have hA : Below w.heap.size w WA := by rw [← hWA]; exact At.below_alloc _
  obtain ⟨W, hW, hbW, hra⟩ := ra_new WA b0
  have bx2 := bx.below hbW
  have z0 := bx2.cell 0
  have z1 := bx2.cell 1
  have z2 := bx2.cell 2
  have z3 := bx2.cell 3
  have z4 := bx2.cell 4
  have y0 := bx2.fr 0
  have y1 := bx2.fr 1
  have y2 := bx2.fr 2
  have y3 := bx2.fr 3
  have y4 := bx2.fr 4
  have HBX := Lib.hid bx2
  have HRA := Lib.hid hra
  have HB := Lib.hid (hA.trans (hbW.mono hA.size))
  clear bx hbW hra bx2 hA
  go_enter Try.func9, Try.ntmps9
  go_wp2
  (try simp only [Exit.inBlock, Exit.then])
  refine bodyPost_ret (results_cell_row rfl _ _ w.heap.size 31 #[.slice (some ⟨WA.heap.size, 0, none⟩) 1 1, .slice (some ⟨WA.heap.size + 1, 0, none⟩) 1 1, .slice (some ⟨WA.heap.size + 1 + 1, 0, none⟩) 1 1, .slice (some ⟨WA.heap.size + 1 + 1 + 1, 0, none⟩) 1 1, .int .i64 0] (0, 0) _ rfl ?_ Try.underlying31 rfl info31) rfl ?_
  · exact HBX.out.set5 _ _ _ _ _
  · exact ⟨_, _, _, _, rfl, HRA.out.set5 HBX.out.ty hb0 _ _ _ _ _, below_set5 HB.out (Nat.le_refl _) _ _ _ _ _⟩

end Go.Proofs.Ytnnidajflnandaa
