/- References by number, in the program and in the reference. -/
import Derived.Test.YtndcmapifihgeaaGreatDoorPt
import Derived.Test.YtndcmapifihgeaaGreatDoorChNext
namespace Go.Proofs.YtndcmapifihgeaaGreatDoor
open Go.RowKit Go.Lib
open Ch (at0 nx nx_width at0_lt at0_drop enc_len Sl Sl.below Cells)

/-- the byte at a place; -1: there is none -/
def lookZ (l : List UInt8) (x : Int) : Int := if 0 ≤ x ∧ x < l.length then (at0 l x.toNat : Int) else -1

theorem lookZ_in {l : List UInt8} {j : Nat} (h : j < l.length) : lookZ l (j : Int) = (at0 l j : Int) := by
  unfold lookZ; rw [if_pos (by omega)]; rfl
theorem lookZ_out {l : List UInt8} {x : Int} (h : ¬ (0 ≤ x ∧ x < l.length)) : lookZ l x = -1 := if_neg h

set_option maxHeartbeats 1000000 in
set_option maxRecDepth 100000 in
theorem look_any (l : List UInt8) (a : Option Addr) (cap : Nat) (x : Int) (w : World) (hs : Sl l a cap w) :
    Calls Tryz.prog 93 #[.slice a l.length cap, .int .i64 x] w fun e w' => e = .returned (.int .i32 (lookZ l x)) ∧ w = w' := by
  by_cases h : 0 ≤ x ∧ x < (l.length : Int)
  · obtain ⟨i, rfl⟩ : ∃ i : Nat, x = i := ⟨x.toNat, by omega⟩
    obtain ⟨hcap, h2 | ⟨b, off, rfl, hc⟩⟩ := hs
    · subst h2; simp at h; omega
    · have hi : i < l.length := by omega
      rw [lookZ_in hi]
      have hcell := hc i hi
      have h0 : ¬ ((i : Int) < 0) := by omega
      have h1 : (i : Int) < (l.length : Int) := by omega
      have hb := at0_lt l i
      clear h
      go_enter Tryz.func93, Tryz.ntmps93
      go_wp2
      go_ret
      exact ⟨rfl, rfl⟩
  · rw [lookZ_out h]
    by_cases h0 : x < 0
    · go_enter Tryz.func93, Tryz.ntmps93
      go_wp2
      go_ret
      exact ⟨rfl, rfl⟩
    · have h1 : (l.length : Int) ≤ x := by omega
      have h0' : (0 : Int) ≤ x := by omega
      clear h h0
      go_enter Tryz.func93, Tryz.ntmps93
      go_wp2
      go_ret
      exact ⟨rfl, rfl⟩

theorem look_at (l : List UInt8) (a : Option Addr) (cap : Nat) (x y : Int) (w : World) (hs : Sl l a cap w) (hx : x = y) :
    Calls Tryz.prog 93 #[.slice a l.length cap, .int .i64 x] w fun e w' => e = .returned (.int .i32 (lookZ l y)) ∧ w = w' := by
  subst hx; exact look_any l a cap x w hs

theorem hex_nat (n : Nat) : (hx n < 16 ∧ Kl.hexZ (n : Int) = (hx n : Int)) ∨ (hx n = 99 ∧ Kl.hexZ (n : Int) = -1) := by
  unfold hx Kl.hexZ
  rw [show Kl.digitZ (n : Int) = decide (48 ≤ n ∧ n ≤ 57) by
    unfold Kl.digitZ; rw [Bool.eq_iff_iff]; simp only [Bool.and_eq_true, decide_eq_true_eq]; omega]
  by_cases h1 : 48 ≤ n ∧ n ≤ 57
  · rw [if_pos h1, decide_eq_true h1, if_pos rfl]; omega
  · rw [if_neg h1, decide_eq_false h1]
    simp only [Bool.false_eq_true, if_false]
    by_cases h2 : 97 ≤ n ∧ n ≤ 102
    · rw [if_pos h2, if_pos (show (97 : Int) ≤ (n : Int) ∧ (n : Int) ≤ 102 by omega)]; omega
    · rw [if_neg h2, if_neg (show ¬ ((97 : Int) ≤ (n : Int) ∧ (n : Int) ≤ 102) by omega)]
      by_cases h3 : 65 ≤ n ∧ n ≤ 70
      · rw [if_pos h3, if_pos (show (65 : Int) ≤ (n : Int) ∧ (n : Int) ≤ 70 by omega)]; omega
      · rw [if_neg h3, if_neg (show ¬ ((65 : Int) ≤ (n : Int) ∧ (n : Int) ≤ 70) by omega)]; omega

theorem hex_look (l : List UInt8) (j : Nat) : (hx (at0 l j) < 16 ∧ Kl.hexZ (lookZ l (j : Int)) = (hx (at0 l j) : Int)) ∨ (hx (at0 l j) = 99 ∧ Kl.hexZ (lookZ l (j : Int)) = -1) := by
  by_cases h : j < l.length
  · rw [lookZ_in h]; exact hex_nat _
  · rw [lookZ_out (by omega), at0_out (by omega)]
    exact Or.inr ⟨rfl, by decide⟩

theorem hx_digit {l : List UInt8} {j base : Nat} (hb : base ≤ 16) (h : hx (at0 l j) < base) : Kl.HexRes (lookZ l (j : Int)) = .returned (.tuple #[.int .i64 (hx (at0 l j) : Int), .bool true]) ∧ j < l.length := by
  rcases hex_look l j with ⟨h1, h2⟩ | ⟨h1, h2⟩
  · unfold Kl.HexRes
    rw [h2]
    refine ⟨Kl.ret_pair (by omega) (by simp), ?_⟩
    apply at0_in
    intro e
    rw [e] at h1
    exact absurd h1 (by decide)
  · omega
theorem hx_none {l : List UInt8} {j base : Nat} (h : ¬ hx (at0 l j) < base) : Kl.HexRes (lookZ l (j : Int)) = .returned (.tuple #[.int .i64 0, .bool false]) ∨ (∃ d : Nat, base ≤ d ∧ d < 16 ∧ Kl.HexRes (lookZ l (j : Int)) = .returned (.tuple #[.int .i64 (d : Int), .bool true])) := by
  rcases hex_look l j with ⟨h1, h2⟩ | ⟨h1, h2⟩
  · right
    refine ⟨hx (at0 l j), by omega, h1, ?_⟩
    unfold Kl.HexRes
    rw [h2]
    exact Kl.ret_pair (by omega) (by simp)
  · left
    unfold Kl.HexRes
    rw [h2]
    rfl

/-- where the loop over digits stands -/
def NumRel (l : List UInt8) (base i : Nat) (N : Nat × Nat) (v1 v8 : Value) : Prop :=
  ∃ j k : Nat, v1 = .int .i64 (j : Int) ∧ v8 = .int .i64 (k : Int) ∧ j ≤ l.length ∧ k ≤ 1114112 ∧ (numR base (l.drop j) k).1 = N.1 ∧ j + (numR base (l.drop j) k).2 = i + N.2

theorem drop_at (l : List UInt8) (j : Nat) : at0 (l.drop j) 0 = at0 l j := by rw [at0_drop]; rfl

set_option maxHeartbeats 4000000 in
set_option maxRecDepth 100000 in
theorem number10 (l : List UInt8) (a : Option Addr) (cap : Nat) (i : Nat) (x : Int) (w : World) (hs : Sl l a cap w) (hx0 : x = (i : Int)) (hi : i ≤ l.length) (hl : l.length ≤ 4611686018427387904) :
    Calls Tryz.prog 111 #[.slice a l.length cap, .int .i64 x, .int .i64 10] w fun e w' => e = .returned (.tuple #[.int .i64 ((numR 10 (l.drop i) 0).1 : Int), .int .i64 ((i + (numR 10 (l.drop i) 0).2 : Nat) : Int)]) ∧ w = w' := by
  subst hx0
  obtain ⟨N, hN⟩ : ∃ N, numR 10 (l.drop i) 0 = N := ⟨_, rfl⟩
  rw [hN]
  have HN := Lib.hid hN
  clear hN
  go_enter Tryz.func111, Tryz.ntmps111
  go_wp2
  go_loop [1, 8] (fun v1 v8 => NumRel l 10 i N v1 v8) (fun v1 _ => (l.length : Nat) - (RowKit.intOf v1).toNat)
  case atStart => exact ⟨i, 0, rfl, rfl, hi, by omega, by rw [HN.out], by rw [HN.out]⟩
  case round =>
    obtain ⟨j, k, rfl, rfl, hj, hk, h1, h2⟩ := hrel
    have H1 := Lib.hid h1
    have H2 := Lib.hid h2
    clear h1 h2
    have hL := look_at l a cap j j w hs rfl
    have hH := Kl.hex_any (lookZ l j) w
    by_cases hd : hx (at0 l j) < 10
    · obtain ⟨e1, e2⟩ := hx_digit (base := 10) (by omega) hd
      rw [e1] at hH
      have hst := numR_step (base := 10) (m := l.drop j) (n := k) (by omega) (by rw [drop_at]; exact hd)
      rw [drop_at, List.drop_drop] at hst
      have HST := Lib.hid hst
      clear hst e1
      generalize lookZ l j = L at hL hH
      generalize hx (at0 l j) = D at hH hd HST
      have hlt : ¬ ((10 : Int) ≤ (D : Int)) := by omega
      have hmin : min ((k : Int) * 10 + (D : Int)) 1114112 = ((min (k * 10 + D) 1114112 : Nat) : Int) := by omega
      go_wp2_with fail
      refine hL.mono ?_
      rintro e w' ⟨rfl, rfl⟩
      go_wp2_with fail
      refine hH.mono ?_
      rintro e w' ⟨rfl, rfl⟩
      go_wp2
      go_round
      case rel =>
        refine ⟨j + 1, min (k * 10 + D) 1114112, by go_num, rfl, by omega, by omega, ?_, ?_⟩
        · rw [← H1.out, HST.out]
        · rw [← H2.out, HST.out]; omega
      case measure => simp [RowKit.intOf]; omega
    · have hst := numR_stop (base := 10) (m := l.drop j) (n := k) (by rw [drop_at]; exact hd)
      have E1 := Lib.hid (show N.1 = k by rw [← H1.out, hst])
      have E2 := Lib.hid (show i + N.2 = j by rw [← H2.out, hst]; rfl)
      clear hst H1 H2 HN
      rcases hx_none (base := 10) hd with e1 | ⟨D, d1, d2, e1⟩
      · rw [e1] at hH
        clear e1 hd
        generalize lookZ l j = L at hL hH
        go_wp2_with fail
        refine hL.mono ?_
        rintro e w' ⟨rfl, rfl⟩
        go_wp2_with fail
        refine hH.mono ?_
        rintro e w' ⟨rfl, rfl⟩
        go_wp2
        go_ret2
        rw [E1.out, E2.out]
        exact ⟨rfl, rfl⟩
      · rw [e1] at hH
        clear e1 hd
        generalize lookZ l j = L at hL hH
        have hge : (10 : Int) ≤ (D : Int) := by omega
        go_wp2_with fail
        refine hL.mono ?_
        rintro e w' ⟨rfl, rfl⟩
        go_wp2_with fail
        refine hH.mono ?_
        rintro e w' ⟨rfl, rfl⟩
        go_wp2
        go_ret2
        rw [E1.out, E2.out]
        exact ⟨rfl, rfl⟩

set_option maxHeartbeats 4000000 in
set_option maxRecDepth 100000 in
theorem number16 (l : List UInt8) (a : Option Addr) (cap : Nat) (i : Nat) (x : Int) (w : World) (hs : Sl l a cap w) (hx0 : x = (i : Int)) (hi : i ≤ l.length) (hl : l.length ≤ 4611686018427387904) :
    Calls Tryz.prog 111 #[.slice a l.length cap, .int .i64 x, .int .i64 16] w fun e w' => e = .returned (.tuple #[.int .i64 ((numR 16 (l.drop i) 0).1 : Int), .int .i64 ((i + (numR 16 (l.drop i) 0).2 : Nat) : Int)]) ∧ w = w' := by
  subst hx0
  obtain ⟨N, hN⟩ : ∃ N, numR 16 (l.drop i) 0 = N := ⟨_, rfl⟩
  rw [hN]
  have HN := Lib.hid hN
  clear hN
  go_enter Tryz.func111, Tryz.ntmps111
  go_wp2
  go_loop [1, 8] (fun v1 v8 => NumRel l 16 i N v1 v8) (fun v1 _ => (l.length : Nat) - (RowKit.intOf v1).toNat)
  case atStart => exact ⟨i, 0, rfl, rfl, hi, by omega, by rw [HN.out], by rw [HN.out]⟩
  case round =>
    obtain ⟨j, k, rfl, rfl, hj, hk, h1, h2⟩ := hrel
    have H1 := Lib.hid h1
    have H2 := Lib.hid h2
    clear h1 h2
    have hL := look_at l a cap j j w hs rfl
    have hH := Kl.hex_any (lookZ l j) w
    by_cases hd : hx (at0 l j) < 16
    · obtain ⟨e1, e2⟩ := hx_digit (base := 16) (by omega) hd
      rw [e1] at hH
      have hst := numR_step (base := 16) (m := l.drop j) (n := k) (by omega) (by rw [drop_at]; exact hd)
      rw [drop_at, List.drop_drop] at hst
      have HST := Lib.hid hst
      clear hst e1
      generalize lookZ l j = L at hL hH
      generalize hx (at0 l j) = D at hH hd HST
      have hlt : ¬ ((16 : Int) ≤ (D : Int)) := by omega
      have hmin : min ((k : Int) * 16 + (D : Int)) 1114112 = ((min (k * 16 + D) 1114112 : Nat) : Int) := by omega
      go_wp2_with fail
      refine hL.mono ?_
      rintro e w' ⟨rfl, rfl⟩
      go_wp2_with fail
      refine hH.mono ?_
      rintro e w' ⟨rfl, rfl⟩
      go_wp2
      go_round
      case rel =>
        refine ⟨j + 1, min (k * 16 + D) 1114112, by go_num, rfl, by omega, by omega, ?_, ?_⟩
        · rw [← H1.out, HST.out]
        · rw [← H2.out, HST.out]; omega
      case measure => simp [RowKit.intOf]; omega
    · have hst := numR_stop (base := 16) (m := l.drop j) (n := k) (by rw [drop_at]; exact hd)
      have E1 := Lib.hid (show N.1 = k by rw [← H1.out, hst])
      have E2 := Lib.hid (show i + N.2 = j by rw [← H2.out, hst]; rfl)
      clear hst H1 H2 HN
      rcases hx_none (base := 16) hd with e1 | ⟨D, d1, d2, e1⟩
      · rw [e1] at hH
        clear e1 hd
        generalize lookZ l j = L at hL hH
        go_wp2_with fail
        refine hL.mono ?_
        rintro e w' ⟨rfl, rfl⟩
        go_wp2_with fail
        refine hH.mono ?_
        rintro e w' ⟨rfl, rfl⟩
        go_wp2
        go_ret2
        rw [E1.out, E2.out]
        exact ⟨rfl, rfl⟩
      · rw [e1] at hH
        clear e1 hd
        generalize lookZ l j = L at hL hH
        have hge : (16 : Int) ≤ (D : Int) := by omega
        go_wp2_with fail
        refine hL.mono ?_
        rintro e w' ⟨rfl, rfl⟩
        go_wp2_with fail
        refine hH.mono ?_
        rintro e w' ⟨rfl, rfl⟩
        go_wp2
        go_ret2
        rw [E1.out, E2.out]
        exact ⟨rfl, rfl⟩

end Go.Proofs.YtndcmapifihgeaaGreatDoor
