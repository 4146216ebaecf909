/- The document's arena: New, pick, under and both Copies, walked. -/
import Derived.Test.YtpnjjpbgbdicoaaRb
namespace Go.Proofs.Ytpnjjpbgbdicoaa
open Go.RowKit Go.Lib
open At (Str cellsA cellsA_len Sl below_drewN)

theorem row_new (u : World) (e : TypeId) (x : Value) : Rw 0 e 1 (.slice (some ⟨u.heap.size, 0, none⟩) 1 1) 1 [x] (u.alloc (.cells #[x] e)) := by
  refine ⟨rfl, Or.inr ⟨u.heap.size, 1, rfl, Nat.zero_le _, ⟨_, _, heap_alloc_new u _⟩, Nat.le_refl _, by decide, fun j y hj => ?_, fun j hj => ?_⟩⟩
  · rw [cell_of_heap (heap_alloc_new u _) j, ← hj]
    simp
  · obtain rfl : j = 0 := by omega
    rw [cell_of_heap (heap_alloc_new u _) 0]
    exact ⟨rfl, frozen_of_heap (heap_alloc_new u _) 0⟩

/-- the root alone -/
def M0 : List MN := [⟨[], [], -1, []⟩]

theorem ra_new (u : World) (b0 : Nat) : ∃ W, (((u.alloc (.cells #[.string ⟨#[]⟩] 9)).alloc (.cells #[.slice none 0 0] 33)).alloc (.cells #[.slice none 0 0] 85)).alloc (.cells #[.int .i64 (-1)] 3) = W ∧ Below u.heap.size u W ∧
    RA b0 W (.slice (some ⟨u.heap.size, 0, none⟩) 1 1) (.slice (some ⟨u.heap.size + 1, 0, none⟩) 1 1) (.slice (some ⟨u.heap.size + 1 + 1, 0, none⟩) 1 1) (.slice (some ⟨u.heap.size + 1 + 1 + 1, 0, none⟩) 1 1) M0 := by
  refine ⟨_, rfl, ?_, ?_⟩
  · exact (((At.below_alloc _).alloc (by simp) _).alloc (by simp; omega) _).alloc (by simp; omega) _
  · have e1 := row_new u 9 (.string ⟨#[]⟩)
    have e2 := row_new (u.alloc (.cells #[.string ⟨#[]⟩] 9)) 33 (.slice none 0 0)
    have e3 := row_new ((u.alloc (.cells #[.string ⟨#[]⟩] 9)).alloc (.cells #[.slice none 0 0] 33)) 85 (.slice none 0 0)
    have e4 := row_new (((u.alloc (.cells #[.string ⟨#[]⟩] 9)).alloc (.cells #[.slice none 0 0] 33)).alloc (.cells #[.slice none 0 0] 85)) 3 (.int .i64 (-1))
    have z1 : (u.alloc (.cells #[.string ⟨#[]⟩] 9)).heap.size = u.heap.size + 1 := by simp
    have z2 : ((u.alloc (.cells #[.string ⟨#[]⟩] 9)).alloc (.cells #[.slice none 0 0] 33)).heap.size = u.heap.size + 1 + 1 := by simp
    have z3 : (((u.alloc (.cells #[.string ⟨#[]⟩] 9)).alloc (.cells #[.slice none 0 0] 33)).alloc (.cells #[.slice none 0 0] 85)).heap.size = u.heap.size + 1 + 1 + 1 := by simp
    rw [z1] at e2
    rw [z2] at e3
    rw [z3] at e4
    refine ⟨((e1.below (At.below_alloc _)).below (At.below_alloc _)).below (At.below_alloc _), ⟨[.slice none 0 0], (e2.below (At.below_alloc _)).below (At.below_alloc _), fun j n hn => ?_⟩, ⟨[.slice none 0 0], e3.below (At.below_alloc _), fun j n hn => ?_⟩, e4⟩
    · have hj : j = 0 := by have := (List.getElem?_eq_some_iff.1 hn).1; simp [M0] at this; omega
      subst hj
      cases hn
      exact ⟨none, 0, rfl, ⟨Nat.le_refl _, fun _ => ⟨rfl, rfl⟩, Or.inl rfl⟩, fun h => absurd rfl h⟩
    · have hj : j = 0 := by have := (List.getElem?_eq_some_iff.1 hn).1; simp [M0] at this; omega
      subst hj
      cases hn
      exact ⟨.slice none 0 0, rfl, Rw.nil _ _ _ _⟩

set_option maxHeartbeats 4000000 in
set_option maxRecDepth 100000 in
theorem rnew_any (w : World) (b0 : Nat) (hb0 : b0 ≤ w.heap.size) : Calls Try.prog 10 #[] w fun e w' => ∃ v0 v1 v2 v3, e = .returned (rv v0 v1 v2 v3 0) ∧ RA b0 w' v0 v1 v2 v3 M0 ∧ Below w.heap.size w w' := by
  obtain ⟨WA, hWA⟩ : ∃ WA, w.alloc (.cells #[.slice none 0 0, .slice none 0 0, .slice none 0 0, .slice none 0 0, .int .i64 0] 31) = WA := ⟨_, rfl⟩
  have bx : Bx w.heap.size #[.slice none 0 0, .slice none 0 0, .slice none 0 0, .slice none 0 0, .int .i64 0] 31 WA := by rw [← hWA]; exact bx_new w _ 31
  have hA : Below w.heap.size w WA := by rw [← hWA]; exact At.below_alloc _
  obtain ⟨W, hW, hbW, hra⟩ := ra_new WA b0
  have bx2 := bx.below hbW
  have z0 := bx2.cell 0
  have z1 := bx2.cell 1
  have z2 := bx2.cell 2
  have z3 := bx2.cell 3
  have z4 := bx2.cell 4
  have y0 := bx2.fr 0
  have y1 := bx2.fr 1
  have y2 := bx2.fr 2
  have y3 := bx2.fr 3
  have y4 := bx2.fr 4
  have HBX := Lib.hid bx2
  have HRA := Lib.hid hra
  have HB := Lib.hid (hA.trans (hbW.mono hA.size))
  clear bx hbW hra bx2 hA
  go_enter Try.func10, Try.ntmps10
  go_wp2
  (try simp only [Exit.inBlock, Exit.then])
  refine bodyPost_ret (results_cell_row rfl _ _ w.heap.size 31 #[.slice (some ⟨WA.heap.size, 0, none⟩) 1 1, .slice (some ⟨WA.heap.size + 1, 0, none⟩) 1 1, .slice (some ⟨WA.heap.size + 1 + 1, 0, none⟩) 1 1, .slice (some ⟨WA.heap.size + 1 + 1 + 1, 0, none⟩) 1 1, .int .i64 0] (0, 0) _ rfl ?_ Try.underlying31 rfl info31) rfl ?_
  · exact HBX.out.set5 _ _ _ _ _
  · exact ⟨_, _, _, _, rfl, HRA.out.set5 HBX.out.ty hb0 _ _ _ _ _, below_set5 HB.out (Nat.le_refl _) _ _ _ _ _⟩

/-- pick: some node's number -/
theorem pick_any (n : Int) (m : Nat) (h0 : -9223372036854775808 ≤ n) (h1 : n ≤ 9223372036854775807) (hm : 0 < m) (hm2 : m ≤ 1000000) (w : World) :
    Calls Try.prog 11 #[.int .i64 n, .int .i64 (m : Int)] w fun e w' => w = w' ∧ ∃ k : Nat, k < m ∧ e = .returned (.int .i64 (k : Int)) := by
  by_cases hn : n < 0
  · have hk : ∃ k : Nat, k < m ∧ -((n + 1).tmod (m : Int)) = (k : Int) := by
      rw [← Int.neg_tmod, Int.tmod_eq_emod_of_nonneg (by omega)]
      have h2 := Int.emod_nonneg (-(n + 1)) (show (m : Int) ≠ 0 by omega)
      have h3 := Int.emod_lt_of_pos (-(n + 1)) (show (0 : Int) < m by omega)
      exact ⟨((-(n + 1)) % (m : Int)).toNat, by omega, by omega⟩
    obtain ⟨k, hk1, hk2⟩ := hk
    have HK := Lib.hid hk2
    clear hk2
    go_enter Try.func11, Try.ntmps11
    go_wp2
    go_ret
    exact ⟨rfl, k, hk1, by rw [← HK.out]; rfl⟩
  · have hk : ∃ k : Nat, k < m ∧ n % (m : Int) = (k : Int) := by
      have h2 := Int.emod_nonneg n (show (m : Int) ≠ 0 by omega)
      have h3 := Int.emod_lt_of_pos n (show (0 : Int) < m by omega)
      exact ⟨(n % (m : Int)).toNat, by omega, by omega⟩
    obtain ⟨k, hk1, hk2⟩ := hk
    have HK := Lib.hid hk2
    clear hk2
    go_enter Try.func11, Try.ntmps11
    go_wp2
    go_ret
    exact ⟨rfl, k, hk1, by rw [← HK.out]; rfl⟩

/-- going up from a node ends: so many steps -/
def Up (M : List MN) : Nat → Int → Prop
  | 0, i => i = -1
  | k + 1, i => ∃ (j : Nat) (n : MN), i = (j : Int) ∧ M[j]? = some n ∧ Up M k n.par
/-- and another node isn't met -/
def NUM (M : List MN) (outer : Nat) : Nat → Int → Prop
  | 0, i => i = -1
  | k + 1, i => ∃ (j : Nat) (n : MN), i = (j : Int) ∧ j ≠ outer ∧ M[j]? = some n ∧ NUM M outer k n.par
theorem nu_of_num {L : List QN} {outer : Nat} : ∀ {k : Nat} {i : Int}, NUM (L.map ab) outer k i → NU L outer k i
  | 0, _, h => h
  | k + 1, i, h => by
    obtain ⟨j, n, h1, h2, h3, h4⟩ := h
    rw [List.getElem?_map] at h3
    rcases hL : L[j]? with _ | q
    · rw [hL] at h3; cases h3
    · rw [hL] at h3
      injection h3 with h3
      subst h3
      exact ⟨j, q, h1, h2, hL, nu_of_num h4⟩

set_option maxHeartbeats 4000000 in
set_option maxRecDepth 100000 in
theorem runder_any {b0 : Nat} {w : World} {v0 v1 v2 v3 : Value} {M : List MN} (h : RA b0 w v0 v1 v2 v3 M) (cp k i m : Nat) (hup : Up M m (k : Int)) :
    Calls Try.prog 17 #[rv v0 v1 v2 v3 cp, .int .i64 (k : Int), .int .i64 (i : Int)] w fun e w' => Below w.heap.size w w' ∧ ∃ b, e = .returned (.bool b) ∧ (b = false → ∃ q, NUM M i q (k : Int)) := by
  obtain ⟨hn, ⟨xa, ha, ha'⟩, ⟨xi, hi, hi'⟩, hp⟩ := h
  obtain ⟨a0, c0, rfl, -⟩ := hn.slice
  obtain ⟨a1, c1, rfl, -⟩ := ha.slice
  obtain ⟨a2, c2, rfl, -⟩ := hi.slice
  obtain ⟨a3, c3, rfl, -⟩ := hp.slice
  obtain ⟨WA, hWA⟩ : ∃ WA, w.alloc (.cells #[.slice a0 M.length c0, .slice a1 M.length c1, .slice a2 M.length c2, .slice a3 M.length c3, .int .i64 (cp : Int)] 31) = WA := ⟨_, rfl⟩
  have bx : Bx w.heap.size #[.slice a0 M.length c0, .slice a1 M.length c1, .slice a2 M.length c2, .slice a3 M.length c3, .int .i64 (cp : Int)] 31 WA := by rw [← hWA]; exact bx_new w _ 31
  have hA : Below w.heap.size w WA := by rw [← hWA]; exact At.below_alloc _
  have HB := Lib.hid hA
  have HP := Lib.hid (hp.below hA)
  have q3 := bx.cell 3
  clear hn ha ha' hi hi' hp bx hA
  go_enter Try.func17, Try.ntmps17
  go_wp2
  go_loopg [1] m (fun kk v1 wr => ∃ ii : Int, v1 = .int .i64 ii ∧ Up M kk ii ∧ ((∃ q, NUM M i q ii) → ∃ q, NUM M i q (k : Int)) ∧ wr = WA)
  case atStart => exact ⟨_, rfl, hup, fun h => h, rfl⟩
  case round =>
    obtain ⟨ii, rfl, hu, himp, rfl⟩ := hrel
    cases gk with
    | zero =>
      simp only [Up] at hu
      subst hu
      have HI := Lib.hid (himp ⟨0, rfl⟩)
      clear himp
      go_wp2
      go_ret
      exact ⟨HB.out, false, rfl, fun _ => HI.out⟩
    | succ kk =>
      simp only [Up] at hu
      obtain ⟨j, n, rfl, hj, hnext⟩ := hu
      have hjl := (List.getElem?_eq_some_iff.1 hj).1
      have hj0 : (0 : Int) ≤ (j : Int) := by omega
      by_cases hji : j = i
      · subst hji
        clear himp hj hnext
        go_wp2
        go_ret
        exact ⟨HB.out, true, rfl, fun h => by cases h⟩
      · have hbq : ((j : Int) == (i : Int)) = false := beq_eq_false_iff_ne.2 (by omega)
        have hbd : ¬ ((j : Int) = (i : Int)) := by omega
        obtain ⟨g, c, hv, -, -, -, hc, -⟩ := HP.out.el (j := j) (x := .int .i64 n.par) (by rw [List.getElem?_map, hj]; rfl)
        injection hv with e1 _ e3
        subst e1 e3
        have hjI : (j : Int) < (M.length : Int) := by omega
        have HI := Lib.hid (show (∃ q, NUM M i q n.par) → ∃ q, NUM M i q (k : Int) from fun ⟨q, hq⟩ => himp ⟨q + 1, j, n, rfl, hji, hj, hq⟩)
        have HN := Lib.hid hnext
        clear himp hj hnext hji
        go_wp2
        go_roundg kk
        case rel => exact ⟨n.par, rfl, HN.out, HI.out, rfl⟩
        case measure => omega
end Go.Proofs.Ytpnjjpbgbdicoaa
