/- Plain mathematics of layer 7, on: what stands behind a tag changes nothing of it; a front of it is cut. Nothing of the program's text. -/
import Derived.Test.YtndcmapifihgeaaGreatDoorTgMath
namespace Go.Proofs.YtndcmapifihgeaaGreatDoor.Tg
open Go.Lib
open Ch (at0 nx nx_width nx_range at0_lt at0_drop enc_len nx_enc good nx_good Good)
open Kl (blankN greatN)
open At (ads names)

theorem stops_gt (x : List UInt8) : Stops (62 :: x) := ⟨by show 62 < 128; decide, by show 62 ≠ 10; decide⟩
theorem nx_ag {u : List UInt8} (hu : u ≠ []) (x : List UInt8) : nx (u ++ 62 :: x) = nx u := nx_stops hu (stops_gt x)
theorem nx_gt (x : List UInt8) : nx (62 :: x) = (62, 1) := nx_low (m := 62 :: x) (by show 62 < 128; decide) (by show 62 ≠ 0; decide) (by show 62 ≠ 13; decide)
theorem drop_ag {u : List UInt8} {k : Nat} (h : k ≤ u.length) (x : List UInt8) : (u ++ 62 :: x).drop k = u.drop k ++ 62 :: x := List.drop_append_of_le_length h

theorem ov_ag (p : Nat → Bool) (n : Nat) : ∀ (u x y : List UInt8), u.length ≤ n → ov p (u ++ 62 :: x) ≤ u.length → ov p (u ++ 62 :: y) = ov p (u ++ 62 :: x) ∧ lw p (u ++ 62 :: y) = lw p (u ++ 62 :: x) := by
  induction n with
  | zero =>
    intro u x y h h2
    obtain rfl : u = [] := List.eq_nil_of_length_eq_zero (by omega)
    simp only [List.nil_append, List.length_nil, Nat.le_zero] at h2 ⊢
    cases hp : p 62 with
    | false =>
      have h1 := ov_stop (p := p) (m := 62 :: x) (by rw [nx_gt]; exact hp)
      have h3 := ov_stop (p := p) (m := 62 :: y) (by rw [nx_gt]; exact hp)
      rw [h1.1, h1.2, h3.1, h3.2]
      exact ⟨rfl, rfl⟩
    | true =>
      have h1 := ov_step (p := p) (m := 62 :: x) (by simp) (by rw [nx_gt]; exact hp)
      rw [h1.1, nx_gt] at h2
      simp only at h2
      omega
  | succ n ih =>
    intro u x y h h2
    by_cases hu : u = []
    · subst hu
      exact ih [] x y (Nat.zero_le _) h2
    · have hw := nx_width u hu
      have ex := nx_ag hu x
      have ey := nx_ag hu y
      cases hp : p (nx u).1 with
      | false =>
        have h1 := ov_stop (p := p) (m := u ++ 62 :: x) (by rw [ex]; exact hp)
        have h3 := ov_stop (p := p) (m := u ++ 62 :: y) (by rw [ey]; exact hp)
        rw [h1.1, h1.2, h3.1, h3.2]
        exact ⟨rfl, rfl⟩
      | true =>
        have h1 := ov_step (p := p) (m := u ++ 62 :: x) (by simp) (by rw [ex]; exact hp)
        have h3 := ov_step (p := p) (m := u ++ 62 :: y) (by simp) (by rw [ey]; exact hp)
        rw [ex, drop_ag hw.2.2] at h1
        rw [ey, drop_ag hw.2.2] at h3
        rw [h1.1] at h2
        have := ih (u.drop (nx u).2) x y (by simp; omega) (by simp; omega)
        rw [h1.1, h1.2, h3.1, h3.2, this.1, this.2]
        exact ⟨rfl, rfl⟩
theorem ov_same {p : Nat → Bool} {u x : List UInt8} (y : List UInt8) (h : ov p (u ++ 62 :: x) ≤ u.length) : ov p (u ++ 62 :: y) = ov p (u ++ 62 :: x) := (ov_ag p u.length u x y (Nat.le_refl _) h).1
theorem lw_same {p : Nat → Bool} {u x : List UInt8} (y : List UInt8) (h : ov p (u ++ 62 :: x) ≤ u.length) : lw p (u ++ 62 :: y) = lw p (u ++ 62 :: x) := (ov_ag p u.length u x y (Nat.le_refl _) h).2

theorem hd_ag (u x y : List UInt8) : hd (u ++ 62 :: y) = hd (u ++ 62 :: x) ∧ wd (u ++ 62 :: y) = wd (u ++ 62 :: x) := by
  rw [hd_ne (by simp), hd_ne (by simp), wd_ne (by simp), wd_ne (by simp)]
  by_cases hu : u = []
  · subst hu
    rw [List.nil_append, List.nil_append, nx_gt, nx_gt]
    exact ⟨rfl, rfl⟩
  · rw [nx_ag hu, nx_ag hu]
    exact ⟨rfl, rfl⟩

theorem take_ag {u : List UInt8} {k : Nat} (h : k ≤ u.length) (x : List UInt8) : (u ++ 62 :: x).take k = u.take k := List.take_append_of_le_length h

theorem vl_ag {u x : List UInt8} (y : List UInt8) (h : (vl (u ++ 62 :: x)).2 ≤ u.length) : vl (u ++ 62 :: y) = vl (u ++ 62 :: x) := by
  have hh := hd_ag u x y
  by_cases hq : hd (u ++ 62 :: x) = 34 ∨ hd (u ++ 62 :: x) = 39
  · have hu : u ≠ [] := by
      rintro rfl
      rw [List.nil_append, hd_ne (by simp), nx_gt] at hq
      simp at hq
    have h1 : 1 ≤ u.length := List.length_pos_iff.2 hu
    unfold vl at h ⊢
    rw [if_pos hq] at h ⊢
    rw [hh.1, if_pos hq]
    rw [drop_ag h1, drop_ag h1]
    rw [drop_ag h1] at h
    simp only at h
    have hle : ov (pQ (hd (u ++ 62 :: x))) (u.drop 1 ++ 62 :: x) ≤ (u.drop 1).length := by rw [List.length_drop]; omega
    have hs := ov_same y hle
    rw [hs]
    generalize ov (pQ (hd (u ++ 62 :: x))) (u.drop 1 ++ 62 :: x) = e at h hle hs ⊢
    rw [take_ag hle, take_ag hle, drop_ag (by omega), drop_ag (by omega)]
    rw [(hd_ag (u.drop (1 + e)) x y).2]
  · unfold vl at h ⊢
    rw [if_neg hq] at h ⊢
    rw [hh.1, if_neg hq]
    simp only at h
    rw [ov_same y h]
    rw [take_ag h, take_ag h]

theorem ab_ag {u x : List UInt8} (y : List UInt8) (hu : u ≠ []) (h : (ab (u ++ 62 :: x)).2 ≤ u.length) : ab (u ++ 62 :: y) = ab (u ++ 62 :: x) := by
  have hw := nx_width u hu
  have hm : u ++ 62 :: x ≠ [] := by simp
  have ex := nx_ag hu x
  have ey := nx_ag hu y
  have h2 : a2 (u ++ 62 :: x) ≤ u.length := by
    unfold ab at h
    split at h
    · rename_i k
      have := (a3_le hm k).1
      simp only at h
      omega
    · exact h
  have h1 : a1 (u ++ 62 :: x) ≤ u.length := by have := (a2_le hm).1; omega
  have e1 : a1 (u ++ 62 :: y) = a1 (u ++ 62 :: x) ∧ aN (u ++ 62 :: y) = aN (u ++ 62 :: x) := by
    unfold a1 aN at *
    rw [ex, drop_ag hw.2.2] at h1 ⊢
    rw [ey, drop_ag hw.2.2]
    have hle : ov pAtt (u.drop (nx u).2 ++ 62 :: x) ≤ (u.drop (nx u).2).length := by simp; omega
    rw [ov_same y hle, lw_same y hle]
    exact ⟨rfl, rfl⟩
  have e2 : a2 (u ++ 62 :: y) = a2 (u ++ 62 :: x) := by
    unfold a2 at *
    rw [e1.1]
    rw [drop_ag h1] at h2 ⊢
    rw [drop_ag h1]
    rw [ov_same (x := x) y (by rw [List.length_drop]; omega)]
  have hh := (hd_ag (u.drop (a2 (u ++ 62 :: x))) x y).1
  unfold ab at h ⊢
  rw [e2, drop_ag h2, drop_ag h2, hh, e1.2]
  rw [drop_ag h2] at h
  by_cases k : hd (u.drop (a2 (u ++ 62 :: x)) ++ 62 :: x) = 61
  · rw [if_pos k] at h ⊢
    rw [if_pos k]
    have k' : hd ((u ++ 62 :: x).drop (a2 (u ++ 62 :: x))) = 61 := by rw [drop_ag h2]; exact k
    have h3 := a3_le hm k'
    simp only at h
    have h3' : a3 (u ++ 62 :: x) ≤ u.length := by omega
    have hlt : a2 (u ++ 62 :: x) + 1 ≤ u.length := by omega
    have e3 : a3 (u ++ 62 :: y) = a3 (u ++ 62 :: x) := by
      unfold a3 at *
      rw [e2, drop_ag hlt]
      rw [drop_ag hlt] at h3' ⊢
      rw [ov_same (x := x) y (by rw [List.length_drop]; omega)]
    rw [e3, drop_ag h3', drop_ag h3']
    rw [drop_ag h3'] at h
    rw [vl_ag (x := x) y (by rw [List.length_drop]; omega)]
  · rw [if_neg k] at h ⊢
    rw [if_neg k]

/-- a list with a > at a place -/
theorem split_gt {m : List UInt8} {n : Nat} (h : at0 m n = 62) : m = m.take n ++ 62 :: m.drop (n + 1) ∧ n < m.length := by
  have hlt : n < m.length := at0_in (by omega)
  refine ⟨?_, hlt⟩
  have e : m[n] = 62 := by
    unfold at0 at h
    rw [List.getD_eq_getElem?_getD, List.getElem?_eq_getElem hlt] at h
    exact UInt8.toNat_inj.1 h
  conv => lhs; rw [← List.take_append_drop n m]
  rw [List.drop_eq_getElem_cons hlt, e]
theorem take_gt {m : List UInt8} {n : Nat} (h : at0 m n = 62) : m.take (n + 1) = m.take n ++ [62] := by
  have hlt : n < m.length := at0_in (by omega)
  rw [List.take_succ_eq_append_getElem hlt]
  congr 2
  unfold at0 at h
  rw [List.getD_eq_getElem?_getD, List.getElem?_eq_getElem hlt] at h
  exact UInt8.toNat_inj.1 h

/-- what stands behind the end changes nothing -/
theorem ats_stab (n : Nat) : ∀ (m : List UInt8), m.length ≤ n → ∀ (L : List At.At) (e : Nat), ats m = some (L, e) → 1 ≤ e ∧ e ≤ m.length ∧ at0 m (e - 1) = 62 ∧ ∀ y, ats (m.take e ++ y) = some (L, e) := by
  induction n with
  | zero =>
    intro m h L e ha
    obtain rfl : m = [] := List.eq_nil_of_length_eq_zero (by omega)
    rw [ats_end rfl] at ha
    cases ha
  | succ n ih =>
    intro m h L e ha
    by_cases h0 : m.drop (ov pGap m) = []
    · rw [ats_end h0] at ha; cases ha
    by_cases h62 : hd (m.drop (ov pGap m)) = 62
    · rw [ats_gt h62] at ha
      simp only [Option.some.injEq, Prod.mk.injEq] at ha
      obtain ⟨rfl, rfl⟩ := ha
      have hb := (hd_is (c := 62) (by decide) (by decide) (by decide) h62).1
      rw [at0_drop, Nat.add_zero] at hb
      obtain ⟨hs, hlt⟩ := split_gt hb
      refine ⟨by omega, by omega, by rw [Nat.add_sub_cancel]; exact hb, fun y => ?_⟩
      rw [take_gt hb, List.append_assoc]
      show ats (m.take (ov pGap m) ++ 62 :: y) = _
      have hl : (m.take (ov pGap m)).length = ov pGap m := by simp; omega
      have hle : ov pGap (m.take (ov pGap m) ++ 62 :: m.drop (ov pGap m + 1)) ≤ (m.take (ov pGap m)).length := by rw [← hs, hl]; exact Nat.le_refl _
      have e1 := ov_same y hle
      rw [← hs] at e1
      have e2 : hd ((m.take (ov pGap m) ++ 62 :: y).drop (ov pGap (m.take (ov pGap m) ++ 62 :: y))) = 62 := by
        rw [e1, drop_ag (by omega), List.drop_of_length_le (by omega), List.nil_append, hd_ne (by simp), nx_gt]
      rw [ats_gt e2, e1]
    · rw [ats_more h0 h62] at ha
      have hb := ab_le h0
      simp only [List.length_drop] at hb
      obtain ⟨k, hk⟩ : ∃ k, ov pGap m = k := ⟨_, rfl⟩
      rw [hk] at ha hb h0 h62
      obtain ⟨j, hj⟩ : ∃ j, (ab (m.drop k)).2 = j := ⟨_, rfl⟩
      rw [hj] at ha hb
      rw [Option.map_eq_some_iff] at ha
      obtain ⟨⟨L', e'⟩, ha', he⟩ := ha
      simp only [Prod.mk.injEq] at he
      obtain ⟨rfl, rfl⟩ := he
      obtain ⟨i1, i2, i3, i4⟩ := ih ((m.drop k).drop j) (by simp; omega) L' e' ha'
      simp only [List.length_drop] at i2
      have hgt : at0 m (k + j + e' - 1) = 62 := by
        rw [at0_drop, at0_drop] at i3
        rw [← i3]
        congr 1
        omega
      obtain ⟨hs, hlt⟩ := split_gt hgt
      refine ⟨by omega, by omega, hgt, fun y => ?_⟩
      have hte : m.take (k + j + e') = m.take (k + j + e' - 1) ++ [62] := by
        rw [← take_gt hgt, show k + j + e' - 1 + 1 = k + j + e' by omega]
      rw [hte, List.append_assoc]
      rw [show [62] ++ y = 62 :: y from rfl]
      obtain ⟨u, hu⟩ : ∃ u, m.take (k + j + e' - 1) = u := ⟨_, rfl⟩
      obtain ⟨x, hx⟩ : ∃ x, m.drop (k + j + e' - 1 + 1) = x := ⟨_, rfl⟩
      have hul : u.length = k + j + e' - 1 := by rw [← hu]; simp; omega
      rw [hu, hx] at hs
      rw [hu]
      have e1 : ov pGap (u ++ 62 :: y) = k := by
        rw [ov_same (x := x) y (by rw [← hs, hk]; omega), ← hs, hk]
      have r1 : m.drop k = u.drop k ++ 62 :: x := by rw [hs, drop_ag (by omega)]
      have r2 : (u ++ 62 :: y).drop k = u.drop k ++ 62 :: y := drop_ag (by omega) y
      have hune : u.drop k ≠ [] := by
        intro e
        have := congrArg List.length e
        simp at this
        omega
      have e3 : ab (u.drop k ++ 62 :: y) = ab (m.drop k) := by
        rw [r1]
        exact ab_ag y hune (by rw [← r1, hj]; simp; omega)
      have q0 : (u ++ 62 :: y).drop (ov pGap (u ++ 62 :: y)) ≠ [] := by rw [e1, r2]; simp
      have q1 : hd ((u ++ 62 :: y).drop (ov pGap (u ++ 62 :: y))) ≠ 62 := by
        rw [e1, r2, (hd_ag (u.drop k) x y).1, ← r1]
        exact h62
      rw [ats_more q0 q1, e1, r2, e3, hj]
      have q2 : (u.drop k ++ 62 :: y).drop j = ((m.drop k).drop j).take e' ++ y := by
        have : ((m.drop k).drop j).take e' = (u.drop k).drop j ++ [62] := by
          rw [r1, drop_ag (by simp; omega), show e' = ((u.drop k).drop j).length + 1 by simp; omega]
          rw [List.take_append, List.take_of_length_le (by omega)]
          simp
        rw [this, drop_ag (by simp; omega), List.append_assoc]
        rfl
      rw [q2, i4 y]
      rfl

theorem bg_front {m y : List UInt8} {e : Nat} (h : 3 ≤ e ∨ (2 ≤ e ∧ bg m = 1)) (he : e ≤ m.length) : bg m ≠ 0 → bg (m.take e ++ y) = bg m := by
  intro h0
  rcases bg_cases m with k | ⟨k, k1, k2⟩ | ⟨k, k1, k2, k3⟩
  · exact absurd k h0
  · have a0 : at0 (m.take e ++ y) 0 = at0 m 0 := at0_front (by omega) he
    have a1 : at0 (m.take e ++ y) 1 = at0 m 1 := at0_front (by omega) he
    unfold bg
    rw [a0, a1, if_pos k1, if_pos k2]
    rw [if_pos k1, if_pos k2]
  · have a0 : at0 (m.take e ++ y) 0 = at0 m 0 := at0_front (by omega) he
    have a1 : at0 (m.take e ++ y) 1 = at0 m 1 := at0_front (by omega) he
    have a2 : at0 (m.take e ++ y) 2 = at0 m 2 := at0_front (by omega) he
    unfold bg
    rw [a0, a1, a2]

/-- what stands behind a tag changes nothing of it -/
theorem tr_stab {m : List UInt8} (h0 : bg m ≠ 0) {L : List At.At} {e : Nat} (h : tr m = some (L, e)) :
    bg m + 2 ≤ e ∧ e ≤ m.length ∧ at0 m (e - 1) = 62 ∧ ∀ y, bg (m.take e ++ y) = bg m ∧ tn (m.take e ++ y) = tn m ∧ tr (m.take e ++ y) = some (L, e) := by
  have ht := tw_le h0
  unfold tr at h
  rw [Option.map_eq_some_iff] at h
  obtain ⟨⟨L', e'⟩, ha, he⟩ := h
  simp only [Prod.mk.injEq] at he
  obtain ⟨rfl, rfl⟩ := he
  obtain ⟨i1, i2, i3, i4⟩ := ats_stab _ _ (Nat.le_refl _) _ _ ha
  simp only [List.length_drop] at i2
  have hgt : at0 m (tw m + e' - 1) = 62 := by
    rw [at0_drop] at i3
    rw [← i3]
    congr 1
    omega
  refine ⟨by omega, by omega, hgt, fun y => ?_⟩
  have hbg := bg_front (m := m) (y := y) (e := tw m + e') (by
    rcases bg_cases m with k | ⟨k, -⟩ | ⟨k, -⟩
    · exact absurd k h0
    · exact Or.inr ⟨by omega, k⟩
    · exact Or.inl (by omega)) (by omega) h0
  obtain ⟨hs, hlt⟩ := split_gt hgt
  have hte : m.take (tw m + e') = m.take (tw m + e' - 1) ++ [62] := by
    rw [← take_gt hgt, show tw m + e' - 1 + 1 = tw m + e' by omega]
  have hc : m.take (tw m + e') ++ y = m.take (tw m + e' - 1) ++ 62 :: y := by rw [hte, List.append_assoc]; rfl
  obtain ⟨u, hu⟩ : ∃ u, m.take (tw m + e' - 1) = u := ⟨_, rfl⟩
  obtain ⟨x, hx⟩ : ∃ x, m.drop (tw m + e' - 1 + 1) = x := ⟨_, rfl⟩
  have hul : u.length = tw m + e' - 1 := by rw [← hu]; simp; omega
  rw [hu] at hc
  rw [hu, hx] at hs
  have hb2 : bg m ≤ u.length := by omega
  have hov : ov pTag (u.drop (bg m) ++ 62 :: x) ≤ (u.drop (bg m)).length := by
    rw [← drop_ag hb2, ← hs]
    have : tw m = bg m + ov pTag (m.drop (bg m)) := rfl
    simp
    omega
  have htn : tn (m.take (tw m + e') ++ y) = tn m ∧ tw (m.take (tw m + e') ++ y) = tw m := by
    have e2 : (m.take (tw m + e') ++ y).drop (bg m) = u.drop (bg m) ++ 62 :: y := by rw [hc, drop_ag hb2]
    have e3 : m.drop (bg m) = u.drop (bg m) ++ 62 :: x := by
      have := drop_ag hb2 x
      rw [← hs] at this
      exact this
    constructor
    · unfold tn
      rw [hbg, e2, lw_same y hov, ← e3]
    · have f1 : tw (m.take (tw m + e') ++ y) = bg (m.take (tw m + e') ++ y) + ov pTag ((m.take (tw m + e') ++ y).drop (bg (m.take (tw m + e') ++ y))) := rfl
      have f2 : tw m = bg m + ov pTag (m.drop (bg m)) := rfl
      rw [f1, hbg, e2, ov_same y hov, ← e3, ← f2]
  refine ⟨hbg, htn.1, ?_⟩
  unfold tr
  rw [htn.2]
  have e4 : (m.take (tw m + e') ++ y).drop (tw m) = (m.drop (tw m)).take e' ++ y := by
    rw [drop_front (by omega) (by omega)]
    congr 2
    omega
  rw [e4, i4 y]
  rfl

/-- a front of a tag, from its name's first letter on, is cut -/
theorem tr_cut {m : List UInt8} (h0 : bg m ≠ 0) {L : List At.At} {e k : Nat} (h : tr m = some (L, e)) (h1 : bg m + 1 ≤ k) (h2 : k < e) : bg (m.take k) = bg m ∧ tr (m.take k) = none := by
  have hst := tr_stab h0 h
  have hb : bg (m.take k) = bg m := by
    have := bg_front (m := m) (y := []) (e := k) (by
      rcases bg_cases m with q | ⟨q, -⟩ | ⟨q, -⟩
      · exact absurd q h0
      · exact Or.inr ⟨by omega, q⟩
      · exact Or.inl (by omega)) (by omega) h0
    rw [List.append_nil] at this
    exact this
  refine ⟨hb, ?_⟩
  cases hk : tr (m.take k) with
  | none => rfl
  | some p =>
    obtain ⟨L', e'⟩ := p
    exfalso
    have h3 := tr_stab (m := m.take k) (by rw [hb]; exact h0) hk
    have h4 := (h3.2.2.2 (m.drop e')).2.2
    have h5 := h3.2.1
    simp only [List.length_take] at h5
    rw [List.take_take, Nat.min_eq_left (by omega), List.take_append_drop, h] at h4
    simp only [Option.some.injEq, Prod.mk.injEq] at h4
    omega
end Go.Proofs.YtndcmapifihgeaaGreatDoor.Tg
