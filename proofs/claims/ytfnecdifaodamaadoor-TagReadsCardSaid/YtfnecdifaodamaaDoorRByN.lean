/- The reference's reading of a number. -/
import Derived.Test.YtfnecdifaodamaaDoorByN
namespace Go.Proofs.YtfnecdifaodamaaDoor
open Go.RowKit Go.Lib
open Ch (at0 nx nx_width at0_lt at0_drop enc_len Sl Sl.below Cells ret_two enc_one enc_two enc_three enc_four)

def resN : Option (Nat × Nat) → Value
  | none => .tuple #[.int .i64 0, .int .i64 (-1)]
  | some p => .tuple #[.int .i64 (p.1 : Int), .int .i64 (p.2 : Int)]
theorem resN_none {o : Option (Nat × Nat)} (h : o = none) : resN o = .tuple #[.int .i64 0, .int .i64 (-1)] := by rw [h]; rfl
theorem resN_some {o : Option (Nat × Nat)} {s e : Nat} {x : Int} (h : o = some (s, e)) (hx : x = (e : Int)) : resN o = .tuple #[.int .i64 (s : Int), .int .i64 x] := by rw [h, hx]; rfl

/-- the number's character, and where it ends -/
def numO (l : List UInt8) (i : Nat) : Option (Nat × Nat) :=
  if (numV (l.drop i)).2 = 0 then none else some (pt ((numV (l.drop i)).1 : Int), i + (kM (l.drop i) + (numV (l.drop i)).2 + semiN (l.drop i) (kM (l.drop i) + (numV (l.drop i)).2)))

theorem numO_is (l : List UInt8) (i : Nat) : sh i (numM (l.drop i)) = (numO l i).map fun p => (encodeRune (p.1 : Int), p.2) := by
  unfold numM numO
  by_cases h : (numV (l.drop i)).2 = 0
  · rw [if_pos h, if_pos h]; rfl
  · rw [if_neg h, if_neg h]; rfl

theorem numO_at {l : List UInt8} {i k base : Nat} {N : Nat × Nat} (hk : kM (l.drop i) = k) (hb : baseM (l.drop i) = base) (hN : numR base (l.drop (i + k)) 0 = N) :
    numO l i = if N.2 = 0 then none else some (pt (N.1 : Int), i + k + N.2 + if at0 l (i + k + N.2) = 59 then 1 else 0) := by
  have e : numV (l.drop i) = N := by unfold numV; rw [hk, hb, List.drop_drop, hN]
  unfold numO
  rw [e, hk]
  by_cases h : N.2 = 0
  · rw [if_pos h, if_pos h]
  · rw [if_neg h, if_neg h]
    unfold semiN
    simp only [at0_drop]
    rw [show i + (k + N.2) = i + k + N.2 by omega, show i + (k + N.2 + if at0 l (i + k + N.2) = 59 then 1 else 0) = i + k + N.2 + if at0 l (i + k + N.2) = 59 then 1 else 0 by omega]

theorem numO_none {l : List UInt8} {i k base : Nat} {N : Nat × Nat} (hk : kM (l.drop i) = k) (hb : baseM (l.drop i) = base) (hN : numR base (l.drop (i + k)) 0 = N) (h : N.2 = 0) : numO l i = none := by
  rw [numO_at hk hb hN, if_pos h]
theorem numO_semi {l : List UInt8} {i k base j n : Nat} {N : Nat × Nat} (hk : kM (l.drop i) = k) (hb : baseM (l.drop i) = base) (hN : numR base (l.drop (i + k)) 0 = N) (h1 : N.1 = n) (h2 : i + k + N.2 = j) (h : j ≠ i + k) (hs : at0 l j = 59) : numO l i = some (pt (n : Int), j + 1) := by
  subst h1 h2
  rw [numO_at hk hb hN, if_neg (by omega), if_pos hs]
theorem numO_bare {l : List UInt8} {i k base j n : Nat} {N : Nat × Nat} (hk : kM (l.drop i) = k) (hb : baseM (l.drop i) = base) (hN : numR base (l.drop (i + k)) 0 = N) (h1 : N.1 = n) (h2 : i + k + N.2 = j) (h : j ≠ i + k) (hs : at0 l j ≠ 59) : numO l i = some (pt (n : Int), j) := by
  subst h1 h2
  rw [numO_at hk hb hN, if_neg (by omega), if_neg hs]; rfl

set_option maxHeartbeats 8000000 in
set_option maxRecDepth 100000 in
theorem refByNumber_x (l : List UInt8) (b off cap : Nat) (i : Nat) (w : World) (hc : Cells l b off w) (_hi : i ≤ l.length) (hl : l.length ≤ 4000000000000000000) (h : at0 l i = 120) :
    Calls Tryd.prog 66 #[.slice (some ⟨b, off, none⟩) l.length cap, .int .i64 (i : Int)] w fun e w' => e = .returned (resN (numO l i)) ∧ Below w.heap.size w w' := by
  obtain ⟨R, hR⟩ : ∃ R, resN (numO l i) = R := ⟨_, rfl⟩
  rw [hR]
  have HR := Lib.hid hR
  clear hR
  have hin := at0_in (m := l) (j := i) (by omega)
  have hcell := hc i hin
  have h1 : (i : Int) < (l.length : Int) := by omega
  have t9 : (((at0 l i : Nat) : Int) == 120) = true := by rw [h]; rfl
  obtain ⟨hk, hb⟩ := kM_yes (Or.inl h)
  have HK := Lib.hid hk
  have HB := Lib.hid hb
  clear h hk hb
  obtain ⟨N, hN⟩ : ∃ N, numR 16 (l.drop (i + 1)) 0 = N := ⟨_, rfl⟩
  have HN := Lib.hid hN
  clear hN
  go_enter Tryd.func66, Tryd.ntmps66
  go_wp2
  go_loop [1, 7] (fun v1 v7 => NumRel l 16 (i + 1) N v1 v7) (fun v1 _ => (l.length : Nat) - (RowKit.intOf v1).toNat)
  case atStart => exact ⟨i + 1, 0, by go_num, rfl, by omega, by omega, by rw [HN.out], by rw [HN.out]⟩
  case round =>
    obtain ⟨j, k, rfl, rfl, hj, hk, h1, h2⟩ := hrel
    have H1 := Lib.hid h1
    have H2 := Lib.hid h2
    clear h1 h2
    by_cases hjl : j < l.length
    · have hj' : (j : Int) < (l.length : Int) := by omega
      have hcell2 := hc j hjl
      have hb8 := at0_lt l j
      have hH := Kl.refHex_any (at0 l j : Int) w (by omega)
      by_cases hd : hx (at0 l j) < 16
      · have hst := numR_step (base := 16) (m := l.drop j) (n := k) (by omega) (by rw [drop_at]; exact hd)
        rw [drop_at, List.drop_drop] at hst
        rcases hex_nat (at0 l j) with ⟨d1, d2⟩ | ⟨d1, d2⟩
        · rw [d2] at hH
          generalize hx (at0 l j) = D at hH hd hst d1
          have u1 : ¬ ((D : Int) < 0) := by omega
          have u2 : ¬ ((16 : Int) ≤ (D : Int)) := by omega
          clear d2
          by_cases hov : 1114112 < k * 16 + D
          · rw [show min (k * 16 + D) 1114112 = 1114112 by omega] at hst
            have hov' : (1114112 : Int) < (k : Int) * 16 + (D : Int) := by omega
            have HST := Lib.hid hst
            clear hst
            go_wp2_with fail
            refine hH.mono ?_
            rintro e w' ⟨rfl, rfl⟩
            go_wp2
            go_round
            case rel =>
              refine ⟨j + 1, 1114112, by go_num, rfl, by omega, by omega, ?_, ?_⟩
              · rw [← H1.out, HST.out]
              · rw [← H2.out, HST.out]; omega
            case measure => simp [RowKit.intOf]; omega
          · rw [show min (k * 16 + D) 1114112 = k * 16 + D by omega] at hst
            have hov' : ¬ (1114112 : Int) < (k : Int) * 16 + (D : Int) := by omega
            have HST := Lib.hid hst
            clear hst
            go_wp2_with fail
            refine hH.mono ?_
            rintro e w' ⟨rfl, rfl⟩
            go_wp2
            go_round
            case rel =>
              refine ⟨j + 1, k * 16 + D, by go_num, by go_num, by omega, by omega, ?_, ?_⟩
              · rw [← H1.out, HST.out]
              · rw [← H2.out, HST.out]; omega
            case measure => simp [RowKit.intOf]; omega
        · omega
      · have hst := numR_stop (base := 16) (m := l.drop j) (n := k) (by rw [drop_at]; exact hd)
        have E1 := Lib.hid (show N.1 = k by rw [← H1.out, hst])
        have E2 := Lib.hid (show i + 1 + N.2 = j by rw [← H2.out, hst]; rfl)
        clear hst H1 H2
        rcases hex_nat (at0 l j) with ⟨d1, d2⟩ | ⟨d1, d2⟩
        · rw [d2] at hH
          clear d2
          generalize hx (at0 l j) = D at hH hd d1
          have u1 : ¬ ((D : Int) < 0) := by omega
          have u2 : (16 : Int) ≤ (D : Int) := by omega
          clear hd d1
          have hP := refPoint_any (k : Int) w
          by_cases hz : j = i + 1
          · have t0 : ((j : Int) == (i : Int) + 1) = true := by simp; omega
            have HR2 := Lib.hid (resN_none (numO_none HK.out HB.out HN.out (by have := E2.out; omega)))
            clear hz hP
            go_wp2_with fail
            refine hH.mono ?_
            rintro e w' ⟨rfl, rfl⟩
            go_wp2
            go_ret2
            exact ⟨ret_is (HR.out.symm.trans HR2.out), Below.refl _ _⟩
          · have t0 : ((j : Int) == (i : Int) + 1) = false := by simp; omega
            by_cases h59 : at0 l j = 59
            · have HR2 := Lib.hid (resN_some (x := (j : Int) + 1) (numO_semi HK.out HB.out HN.out E1.out E2.out hz h59) (by omega))
              have t1 : (((at0 l j : Nat) : Int) == 59) = true := by rw [h59]; rfl
              clear hz h59
              generalize pt (k : Int) = C at hP HR2
              go_wp2_with fail
              refine hH.mono ?_
              rintro e w' ⟨rfl, rfl⟩
              go_wp2_with fail
              refine hP.mono ?_
              rintro e w' ⟨rfl, hbp⟩
              go_wp2
              go_ret2
              exact ⟨ret_is (HR.out.symm.trans HR2.out), hbp⟩
            · have HR2 := Lib.hid (resN_some (x := (j : Int)) (numO_bare HK.out HB.out HN.out E1.out E2.out hz h59) rfl)
              have t1 : (((at0 l j : Nat) : Int) == 59) = false := by simp; omega
              clear hz h59
              generalize pt (k : Int) = C at hP HR2
              go_wp2_with fail
              refine hH.mono ?_
              rintro e w' ⟨rfl, rfl⟩
              go_wp2_with fail
              refine hP.mono ?_
              rintro e w' ⟨rfl, hbp⟩
              go_wp2
              go_ret2
              exact ⟨ret_is (HR.out.symm.trans HR2.out), hbp⟩
        · rw [d2] at hH
          clear d2 hd d1
          have hP := refPoint_any (k : Int) w
          by_cases hz : j = i + 1
          · have t0 : ((j : Int) == (i : Int) + 1) = true := by simp; omega
            have HR2 := Lib.hid (resN_none (numO_none HK.out HB.out HN.out (by have := E2.out; omega)))
            clear hz hP
            go_wp2_with fail
            refine hH.mono ?_
            rintro e w' ⟨rfl, rfl⟩
            go_wp2
            go_ret2
            exact ⟨ret_is (HR.out.symm.trans HR2.out), Below.refl _ _⟩
          · have t0 : ((j : Int) == (i : Int) + 1) = false := by simp; omega
            by_cases h59 : at0 l j = 59
            · have HR2 := Lib.hid (resN_some (x := (j : Int) + 1) (numO_semi HK.out HB.out HN.out E1.out E2.out hz h59) (by omega))
              have t1 : (((at0 l j : Nat) : Int) == 59) = true := by rw [h59]; rfl
              clear hz h59
              generalize pt (k : Int) = C at hP HR2
              go_wp2_with fail
              refine hH.mono ?_
              rintro e w' ⟨rfl, rfl⟩
              go_wp2_with fail
              refine hP.mono ?_
              rintro e w' ⟨rfl, hbp⟩
              go_wp2
              go_ret2
              exact ⟨ret_is (HR.out.symm.trans HR2.out), hbp⟩
            · have HR2 := Lib.hid (resN_some (x := (j : Int)) (numO_bare HK.out HB.out HN.out E1.out E2.out hz h59) rfl)
              have t1 : (((at0 l j : Nat) : Int) == 59) = false := by simp; omega
              clear hz h59
              generalize pt (k : Int) = C at hP HR2
              go_wp2_with fail
              refine hH.mono ?_
              rintro e w' ⟨rfl, rfl⟩
              go_wp2_with fail
              refine hP.mono ?_
              rintro e w' ⟨rfl, hbp⟩
              go_wp2
              go_ret2
              exact ⟨ret_is (HR.out.symm.trans HR2.out), hbp⟩
    · have hst : numR 16 (l.drop j) k = (k, 0) := by rw [List.drop_of_length_le (by omega)]; rfl
      have E1 := Lib.hid (show N.1 = k by rw [← H1.out, hst])
      have E2 := Lib.hid (show i + 1 + N.2 = j by rw [← H2.out, hst]; rfl)
      have hj' : ¬ ((j : Int) < (l.length : Int)) := by omega
      clear hst H1 H2
      have hP := refPoint_any (k : Int) w
      by_cases hz : j = i + 1
      · have t0 : ((j : Int) == (i : Int) + 1) = true := by simp; omega
        have HR2 := Lib.hid (resN_none (numO_none HK.out HB.out HN.out (by have := E2.out; omega)))
        clear hz hP
        go_wp2
        go_ret2
        exact ⟨ret_is (HR.out.symm.trans HR2.out), Below.refl _ _⟩
      · have t0 : ((j : Int) == (i : Int) + 1) = false := by simp; omega
        have h59 : at0 l j ≠ 59 := by rw [at0_out (by omega)]; decide
        have HR2 := Lib.hid (resN_some (x := (j : Int)) (numO_bare HK.out HB.out HN.out E1.out E2.out hz h59) rfl)
        clear hz h59
        generalize pt (k : Int) = C at hP HR2
        go_wp2_with fail
        refine hP.mono ?_
        rintro e w' ⟨rfl, hbp⟩
        go_wp2
        go_ret2
        exact ⟨ret_is (HR.out.symm.trans HR2.out), hbp⟩

set_option maxHeartbeats 8000000 in
set_option maxRecDepth 100000 in
theorem refByNumber_X (l : List UInt8) (b off cap : Nat) (i : Nat) (w : World) (hc : Cells l b off w) (_hi : i ≤ l.length) (hl : l.length ≤ 4000000000000000000) (h : at0 l i = 88) :
    Calls Tryd.prog 66 #[.slice (some ⟨b, off, none⟩) l.length cap, .int .i64 (i : Int)] w fun e w' => e = .returned (resN (numO l i)) ∧ Below w.heap.size w w' := by
  obtain ⟨R, hR⟩ : ∃ R, resN (numO l i) = R := ⟨_, rfl⟩
  rw [hR]
  have HR := Lib.hid hR
  clear hR
  have hin := at0_in (m := l) (j := i) (by omega)
  have hcell := hc i hin
  have h1 : (i : Int) < (l.length : Int) := by omega
  have t9 : (((at0 l i : Nat) : Int) == 120) = false := by rw [h]; rfl
  have t8 : (((at0 l i : Nat) : Int) == 88) = true := by rw [h]; rfl
  obtain ⟨hk, hb⟩ := kM_yes (Or.inr h)
  have HK := Lib.hid hk
  have HB := Lib.hid hb
  clear h hk hb
  obtain ⟨N, hN⟩ : ∃ N, numR 16 (l.drop (i + 1)) 0 = N := ⟨_, rfl⟩
  have HN := Lib.hid hN
  clear hN
  go_enter Tryd.func66, Tryd.ntmps66
  go_wp2
  go_loop [1, 7] (fun v1 v7 => NumRel l 16 (i + 1) N v1 v7) (fun v1 _ => (l.length : Nat) - (RowKit.intOf v1).toNat)
  case atStart => exact ⟨i + 1, 0, by go_num, rfl, by omega, by omega, by rw [HN.out], by rw [HN.out]⟩
  case round =>
    obtain ⟨j, k, rfl, rfl, hj, hk, h1, h2⟩ := hrel
    have H1 := Lib.hid h1
    have H2 := Lib.hid h2
    clear h1 h2
    by_cases hjl : j < l.length
    · have hj' : (j : Int) < (l.length : Int) := by omega
      have hcell2 := hc j hjl
      have hb8 := at0_lt l j
      have hH := Kl.refHex_any (at0 l j : Int) w (by omega)
      by_cases hd : hx (at0 l j) < 16
      · have hst := numR_step (base := 16) (m := l.drop j) (n := k) (by omega) (by rw [drop_at]; exact hd)
        rw [drop_at, List.drop_drop] at hst
        rcases hex_nat (at0 l j) with ⟨d1, d2⟩ | ⟨d1, d2⟩
        · rw [d2] at hH
          generalize hx (at0 l j) = D at hH hd hst d1
          have u1 : ¬ ((D : Int) < 0) := by omega
          have u2 : ¬ ((16 : Int) ≤ (D : Int)) := by omega
          clear d2
          by_cases hov : 1114112 < k * 16 + D
          · rw [show min (k * 16 + D) 1114112 = 1114112 by omega] at hst
            have hov' : (1114112 : Int) < (k : Int) * 16 + (D : Int) := by omega
            have HST := Lib.hid hst
            clear hst
            go_wp2_with fail
            refine hH.mono ?_
            rintro e w' ⟨rfl, rfl⟩
            go_wp2
            go_round
            case rel =>
              refine ⟨j + 1, 1114112, by go_num, rfl, by omega, by omega, ?_, ?_⟩
              · rw [← H1.out, HST.out]
              · rw [← H2.out, HST.out]; omega
            case measure => simp [RowKit.intOf]; omega
          · rw [show min (k * 16 + D) 1114112 = k * 16 + D by omega] at hst
            have hov' : ¬ (1114112 : Int) < (k : Int) * 16 + (D : Int) := by omega
            have HST := Lib.hid hst
            clear hst
            go_wp2_with fail
            refine hH.mono ?_
            rintro e w' ⟨rfl, rfl⟩
            go_wp2
            go_round
            case rel =>
              refine ⟨j + 1, k * 16 + D, by go_num, by go_num, by omega, by omega, ?_, ?_⟩
              · rw [← H1.out, HST.out]
              · rw [← H2.out, HST.out]; omega
            case measure => simp [RowKit.intOf]; omega
        · omega
      · have hst := numR_stop (base := 16) (m := l.drop j) (n := k) (by rw [drop_at]; exact hd)
        have E1 := Lib.hid (show N.1 = k by rw [← H1.out, hst])
        have E2 := Lib.hid (show i + 1 + N.2 = j by rw [← H2.out, hst]; rfl)
        clear hst H1 H2
        rcases hex_nat (at0 l j) with ⟨d1, d2⟩ | ⟨d1, d2⟩
        · rw [d2] at hH
          clear d2
          generalize hx (at0 l j) = D at hH hd d1
          have u1 : ¬ ((D : Int) < 0) := by omega
          have u2 : (16 : Int) ≤ (D : Int) := by omega
          clear hd d1
          have hP := refPoint_any (k : Int) w
          by_cases hz : j = i + 1
          · have t0 : ((j : Int) == (i : Int) + 1) = true := by simp; omega
            have HR2 := Lib.hid (resN_none (numO_none HK.out HB.out HN.out (by have := E2.out; omega)))
            clear hz hP
            go_wp2_with fail
            refine hH.mono ?_
            rintro e w' ⟨rfl, rfl⟩
            go_wp2
            go_ret2
            exact ⟨ret_is (HR.out.symm.trans HR2.out), Below.refl _ _⟩
          · have t0 : ((j : Int) == (i : Int) + 1) = false := by simp; omega
            by_cases h59 : at0 l j = 59
            · have HR2 := Lib.hid (resN_some (x := (j : Int) + 1) (numO_semi HK.out HB.out HN.out E1.out E2.out hz h59) (by omega))
              have t1 : (((at0 l j : Nat) : Int) == 59) = true := by rw [h59]; rfl
              clear hz h59
              generalize pt (k : Int) = C at hP HR2
              go_wp2_with fail
              refine hH.mono ?_
              rintro e w' ⟨rfl, rfl⟩
              go_wp2_with fail
              refine hP.mono ?_
              rintro e w' ⟨rfl, hbp⟩
              go_wp2
              go_ret2
              exact ⟨ret_is (HR.out.symm.trans HR2.out), hbp⟩
            · have HR2 := Lib.hid (resN_some (x := (j : Int)) (numO_bare HK.out HB.out HN.out E1.out E2.out hz h59) rfl)
              have t1 : (((at0 l j : Nat) : Int) == 59) = false := by simp; omega
              clear hz h59
              generalize pt (k : Int) = C at hP HR2
              go_wp2_with fail
              refine hH.mono ?_
              rintro e w' ⟨rfl, rfl⟩
              go_wp2_with fail
              refine hP.mono ?_
              rintro e w' ⟨rfl, hbp⟩
              go_wp2
              go_ret2
              exact ⟨ret_is (HR.out.symm.trans HR2.out), hbp⟩
        · rw [d2] at hH
          clear d2 hd d1
          have hP := refPoint_any (k : Int) w
          by_cases hz : j = i + 1
          · have t0 : ((j : Int) == (i : Int) + 1) = true := by simp; omega
            have HR2 := Lib.hid (resN_none (numO_none HK.out HB.out HN.out (by have := E2.out; omega)))
            clear hz hP
            go_wp2_with fail
            refine hH.mono ?_
            rintro e w' ⟨rfl, rfl⟩
            go_wp2
            go_ret2
            exact ⟨ret_is (HR.out.symm.trans HR2.out), Below.refl _ _⟩
          · have t0 : ((j : Int) == (i : Int) + 1) = false := by simp; omega
            by_cases h59 : at0 l j = 59
            · have HR2 := Lib.hid (resN_some (x := (j : Int) + 1) (numO_semi HK.out HB.out HN.out E1.out E2.out hz h59) (by omega))
              have t1 : (((at0 l j : Nat) : Int) == 59) = true := by rw [h59]; rfl
              clear hz h59
              generalize pt (k : Int) = C at hP HR2
              go_wp2_with fail
              refine hH.mono ?_
              rintro e w' ⟨rfl, rfl⟩
              go_wp2_with fail
              refine hP.mono ?_
              rintro e w' ⟨rfl, hbp⟩
              go_wp2
              go_ret2
              exact ⟨ret_is (HR.out.symm.trans HR2.out), hbp⟩
            · have HR2 := Lib.hid (resN_some (x := (j : Int)) (numO_bare HK.out HB.out HN.out E1.out E2.out hz h59) rfl)
              have t1 : (((at0 l j : Nat) : Int) == 59) = false := by simp; omega
              clear hz h59
              generalize pt (k : Int) = C at hP HR2
              go_wp2_with fail
              refine hH.mono ?_
              rintro e w' ⟨rfl, rfl⟩
              go_wp2_with fail
              refine hP.mono ?_
              rintro e w' ⟨rfl, hbp⟩
              go_wp2
              go_ret2
              exact ⟨ret_is (HR.out.symm.trans HR2.out), hbp⟩
    · have hst : numR 16 (l.drop j) k = (k, 0) := by rw [List.drop_of_length_le (by omega)]; rfl
      have E1 := Lib.hid (show N.1 = k by rw [← H1.out, hst])
      have E2 := Lib.hid (show i + 1 + N.2 = j by rw [← H2.out, hst]; rfl)
      have hj' : ¬ ((j : Int) < (l.length : Int)) := by omega
      clear hst H1 H2
      have hP := refPoint_any (k : Int) w
      by_cases hz : j = i + 1
      · have t0 : ((j : Int) == (i : Int) + 1) = true := by simp; omega
        have HR2 := Lib.hid (resN_none (numO_none HK.out HB.out HN.out (by have := E2.out; omega)))
        clear hz hP
        go_wp2
        go_ret2
        exact ⟨ret_is (HR.out.symm.trans HR2.out), Below.refl _ _⟩
      · have t0 : ((j : Int) == (i : Int) + 1) = false := by simp; omega
        have h59 : at0 l j ≠ 59 := by rw [at0_out (by omega)]; decide
        have HR2 := Lib.hid (resN_some (x := (j : Int)) (numO_bare HK.out HB.out HN.out E1.out E2.out hz h59) rfl)
        clear hz h59
        generalize pt (k : Int) = C at hP HR2
        go_wp2_with fail
        refine hP.mono ?_
        rintro e w' ⟨rfl, hbp⟩
        go_wp2
        go_ret2
        exact ⟨ret_is (HR.out.symm.trans HR2.out), hbp⟩

set_option maxHeartbeats 8000000 in
set_option maxRecDepth 100000 in
theorem refByNumber_in (l : List UInt8) (b off cap : Nat) (i : Nat) (w : World) (hc : Cells l b off w) (hi : i ≤ l.length) (hl : l.length ≤ 4000000000000000000) (hin : i < l.length) (h : at0 l i ≠ 120) (h' : at0 l i ≠ 88) :
    Calls Tryd.prog 66 #[.slice (some ⟨b, off, none⟩) l.length cap, .int .i64 (i : Int)] w fun e w' => e = .returned (resN (numO l i)) ∧ Below w.heap.size w w' := by
  obtain ⟨R, hR⟩ : ∃ R, resN (numO l i) = R := ⟨_, rfl⟩
  rw [hR]
  have HR := Lib.hid hR
  clear hR
  have hcell := hc i hin
  have h1 : (i : Int) < (l.length : Int) := by omega
  have t9 : (((at0 l i : Nat) : Int) == 120) = false := by simp; omega
  have t8 : (((at0 l i : Nat) : Int) == 88) = false := by simp; omega
  obtain ⟨hk, hb⟩ := kM_no h h'
  have HK := Lib.hid hk
  have HB := Lib.hid hb
  clear h h' hk hb
  obtain ⟨N, hN⟩ : ∃ N, numR 10 (l.drop (i + 0)) 0 = N := ⟨_, rfl⟩
  have HN := Lib.hid hN
  clear hN
  go_enter Tryd.func66, Tryd.ntmps66
  go_wp2
  go_loop [1, 7] (fun v1 v7 => NumRel l 10 (i + 0) N v1 v7) (fun v1 _ => (l.length : Nat) - (RowKit.intOf v1).toNat)
  case atStart => exact ⟨i + 0, 0, by go_num, rfl, by omega, by omega, by rw [HN.out], by rw [HN.out]⟩
  case round =>
    obtain ⟨j, k, rfl, rfl, hj, hk, h1, h2⟩ := hrel
    have H1 := Lib.hid h1
    have H2 := Lib.hid h2
    clear h1 h2
    by_cases hjl : j < l.length
    · have hj' : (j : Int) < (l.length : Int) := by omega
      have hcell2 := hc j hjl
      have hb8 := at0_lt l j
      have hH := Kl.refHex_any (at0 l j : Int) w (by omega)
      by_cases hd : hx (at0 l j) < 10
      · have hst := numR_step (base := 10) (m := l.drop j) (n := k) (by omega) (by rw [drop_at]; exact hd)
        rw [drop_at, List.drop_drop] at hst
        rcases hex_nat (at0 l j) with ⟨d1, d2⟩ | ⟨d1, d2⟩
        · rw [d2] at hH
          generalize hx (at0 l j) = D at hH hd hst d1
          have u1 : ¬ ((D : Int) < 0) := by omega
          have u2 : ¬ ((10 : Int) ≤ (D : Int)) := by omega
          clear d2
          by_cases hov : 1114112 < k * 10 + D
          · rw [show min (k * 10 + D) 1114112 = 1114112 by omega] at hst
            have hov' : (1114112 : Int) < (k : Int) * 10 + (D : Int) := by omega
            have HST := Lib.hid hst
            clear hst
            go_wp2_with fail
            refine hH.mono ?_
            rintro e w' ⟨rfl, rfl⟩
            go_wp2
            go_round
            case rel =>
              refine ⟨j + 1, 1114112, by go_num, rfl, by omega, by omega, ?_, ?_⟩
              · rw [← H1.out, HST.out]
              · rw [← H2.out, HST.out]; omega
            case measure => simp [RowKit.intOf]; omega
          · rw [show min (k * 10 + D) 1114112 = k * 10 + D by omega] at hst
            have hov' : ¬ (1114112 : Int) < (k : Int) * 10 + (D : Int) := by omega
            have HST := Lib.hid hst
            clear hst
            go_wp2_with fail
            refine hH.mono ?_
            rintro e w' ⟨rfl, rfl⟩
            go_wp2
            go_round
            case rel =>
              refine ⟨j + 1, k * 10 + D, by go_num, by go_num, by omega, by omega, ?_, ?_⟩
              · rw [← H1.out, HST.out]
              · rw [← H2.out, HST.out]; omega
            case measure => simp [RowKit.intOf]; omega
        · omega
      · have hst := numR_stop (base := 10) (m := l.drop j) (n := k) (by rw [drop_at]; exact hd)
        have E1 := Lib.hid (show N.1 = k by rw [← H1.out, hst])
        have E2 := Lib.hid (show i + 0 + N.2 = j by rw [← H2.out, hst]; rfl)
        clear hst H1 H2
        rcases hex_nat (at0 l j) with ⟨d1, d2⟩ | ⟨d1, d2⟩
        · rw [d2] at hH
          clear d2
          generalize hx (at0 l j) = D at hH hd d1
          have u1 : ¬ ((D : Int) < 0) := by omega
          have u2 : (10 : Int) ≤ (D : Int) := by omega
          clear hd d1
          have hP := refPoint_any (k : Int) w
          by_cases hz : j = i + 0
          · have t0 : ((j : Int) == (i : Int)) = true := by simp; omega
            have HR2 := Lib.hid (resN_none (numO_none HK.out HB.out HN.out (by have := E2.out; omega)))
            clear hz hP
            go_wp2_with fail
            refine hH.mono ?_
            rintro e w' ⟨rfl, rfl⟩
            go_wp2
            go_ret2
            exact ⟨ret_is (HR.out.symm.trans HR2.out), Below.refl _ _⟩
          · have t0 : ((j : Int) == (i : Int)) = false := by simp; omega
            by_cases h59 : at0 l j = 59
            · have HR2 := Lib.hid (resN_some (x := (j : Int) + 1) (numO_semi HK.out HB.out HN.out E1.out E2.out hz h59) (by omega))
              have t1 : (((at0 l j : Nat) : Int) == 59) = true := by rw [h59]; rfl
              clear hz h59
              generalize pt (k : Int) = C at hP HR2
              go_wp2_with fail
              refine hH.mono ?_
              rintro e w' ⟨rfl, rfl⟩
              go_wp2_with fail
              refine hP.mono ?_
              rintro e w' ⟨rfl, hbp⟩
              go_wp2
              go_ret2
              exact ⟨ret_is (HR.out.symm.trans HR2.out), hbp⟩
            · have HR2 := Lib.hid (resN_some (x := (j : Int)) (numO_bare HK.out HB.out HN.out E1.out E2.out hz h59) rfl)
              have t1 : (((at0 l j : Nat) : Int) == 59) = false := by simp; omega
              clear hz h59
              generalize pt (k : Int) = C at hP HR2
              go_wp2_with fail
              refine hH.mono ?_
              rintro e w' ⟨rfl, rfl⟩
              go_wp2_with fail
              refine hP.mono ?_
              rintro e w' ⟨rfl, hbp⟩
              go_wp2
              go_ret2
              exact ⟨ret_is (HR.out.symm.trans HR2.out), hbp⟩
        · rw [d2] at hH
          clear d2 hd d1
          have hP := refPoint_any (k : Int) w
          by_cases hz : j = i + 0
          · have t0 : ((j : Int) == (i : Int)) = true := by simp; omega
            have HR2 := Lib.hid (resN_none (numO_none HK.out HB.out HN.out (by have := E2.out; omega)))
            clear hz hP
            go_wp2_with fail
            refine hH.mono ?_
            rintro e w' ⟨rfl, rfl⟩
            go_wp2
            go_ret2
            exact ⟨ret_is (HR.out.symm.trans HR2.out), Below.refl _ _⟩
          · have t0 : ((j : Int) == (i : Int)) = false := by simp; omega
            by_cases h59 : at0 l j = 59
            · have HR2 := Lib.hid (resN_some (x := (j : Int) + 1) (numO_semi HK.out HB.out HN.out E1.out E2.out hz h59) (by omega))
              have t1 : (((at0 l j : Nat) : Int) == 59) = true := by rw [h59]; rfl
              clear hz h59
              generalize pt (k : Int) = C at hP HR2
              go_wp2_with fail
              refine hH.mono ?_
              rintro e w' ⟨rfl, rfl⟩
              go_wp2_with fail
              refine hP.mono ?_
              rintro e w' ⟨rfl, hbp⟩
              go_wp2
              go_ret2
              exact ⟨ret_is (HR.out.symm.trans HR2.out), hbp⟩
            · have HR2 := Lib.hid (resN_some (x := (j : Int)) (numO_bare HK.out HB.out HN.out E1.out E2.out hz h59) rfl)
              have t1 : (((at0 l j : Nat) : Int) == 59) = false := by simp; omega
              clear hz h59
              generalize pt (k : Int) = C at hP HR2
              go_wp2_with fail
              refine hH.mono ?_
              rintro e w' ⟨rfl, rfl⟩
              go_wp2_with fail
              refine hP.mono ?_
              rintro e w' ⟨rfl, hbp⟩
              go_wp2
              go_ret2
              exact ⟨ret_is (HR.out.symm.trans HR2.out), hbp⟩
    · have hst : numR 10 (l.drop j) k = (k, 0) := by rw [List.drop_of_length_le (by omega)]; rfl
      have E1 := Lib.hid (show N.1 = k by rw [← H1.out, hst])
      have E2 := Lib.hid (show i + 0 + N.2 = j by rw [← H2.out, hst]; rfl)
      have hj' : ¬ ((j : Int) < (l.length : Int)) := by omega
      clear hst H1 H2
      have hP := refPoint_any (k : Int) w
      by_cases hz : j = i + 0
      · have t0 : ((j : Int) == (i : Int)) = true := by simp; omega
        have HR2 := Lib.hid (resN_none (numO_none HK.out HB.out HN.out (by have := E2.out; omega)))
        clear hz hP
        go_wp2
        go_ret2
        exact ⟨ret_is (HR.out.symm.trans HR2.out), Below.refl _ _⟩
      · have t0 : ((j : Int) == (i : Int)) = false := by simp; omega
        have h59 : at0 l j ≠ 59 := by rw [at0_out (by omega)]; decide
        have HR2 := Lib.hid (resN_some (x := (j : Int)) (numO_bare HK.out HB.out HN.out E1.out E2.out hz h59) rfl)
        clear hz h59
        generalize pt (k : Int) = C at hP HR2
        go_wp2_with fail
        refine hP.mono ?_
        rintro e w' ⟨rfl, hbp⟩
        go_wp2
        go_ret2
        exact ⟨ret_is (HR.out.symm.trans HR2.out), hbp⟩

set_option maxHeartbeats 8000000 in
set_option maxRecDepth 100000 in
theorem refByNumber_out (l : List UInt8) (b off cap : Nat) (i : Nat) (w : World) (hc : Cells l b off w) (hi : i ≤ l.length) (hl : l.length ≤ 4000000000000000000) (hout : ¬ i < l.length) :
    Calls Tryd.prog 66 #[.slice (some ⟨b, off, none⟩) l.length cap, .int .i64 (i : Int)] w fun e w' => e = .returned (resN (numO l i)) ∧ Below w.heap.size w w' := by
  obtain ⟨R, hR⟩ : ∃ R, resN (numO l i) = R := ⟨_, rfl⟩
  rw [hR]
  have HR := Lib.hid hR
  clear hR
  have h1 : ¬ (i : Int) < (l.length : Int) := by omega
  obtain ⟨hk, hb⟩ := kM_no (l := l) (i := i) (by rw [at0_out (by omega)]; decide) (by rw [at0_out (by omega)]; decide)
  have HK := Lib.hid hk
  have HB := Lib.hid hb
  clear hk hb
  obtain ⟨N, hN⟩ : ∃ N, numR 10 (l.drop (i + 0)) 0 = N := ⟨_, rfl⟩
  have HN := Lib.hid hN
  clear hN
  go_enter Tryd.func66, Tryd.ntmps66
  go_wp2
  go_loop [1, 7] (fun v1 v7 => NumRel l 10 (i + 0) N v1 v7) (fun v1 _ => (l.length : Nat) - (RowKit.intOf v1).toNat)
  case atStart => exact ⟨i + 0, 0, by go_num, rfl, by omega, by omega, by rw [HN.out], by rw [HN.out]⟩
  case round =>
    obtain ⟨j, k, rfl, rfl, hj, hk, h1, h2⟩ := hrel
    have H1 := Lib.hid h1
    have H2 := Lib.hid h2
    clear h1 h2
    by_cases hjl : j < l.length
    · have hj' : (j : Int) < (l.length : Int) := by omega
      have hcell2 := hc j hjl
      have hb8 := at0_lt l j
      have hH := Kl.refHex_any (at0 l j : Int) w (by omega)
      by_cases hd : hx (at0 l j) < 10
      · have hst := numR_step (base := 10) (m := l.drop j) (n := k) (by omega) (by rw [drop_at]; exact hd)
        rw [drop_at, List.drop_drop] at hst
        rcases hex_nat (at0 l j) with ⟨d1, d2⟩ | ⟨d1, d2⟩
        · rw [d2] at hH
          generalize hx (at0 l j) = D at hH hd hst d1
          have u1 : ¬ ((D : Int) < 0) := by omega
          have u2 : ¬ ((10 : Int) ≤ (D : Int)) := by omega
          clear d2
          by_cases hov : 1114112 < k * 10 + D
          · rw [show min (k * 10 + D) 1114112 = 1114112 by omega] at hst
            have hov' : (1114112 : Int) < (k : Int) * 10 + (D : Int) := by omega
            have HST := Lib.hid hst
            clear hst
            go_wp2_with fail
            refine hH.mono ?_
            rintro e w' ⟨rfl, rfl⟩
            go_wp2
            go_round
            case rel =>
              refine ⟨j + 1, 1114112, by go_num, rfl, by omega, by omega, ?_, ?_⟩
              · rw [← H1.out, HST.out]
              · rw [← H2.out, HST.out]; omega
            case measure => simp [RowKit.intOf]; omega
          · rw [show min (k * 10 + D) 1114112 = k * 10 + D by omega] at hst
            have hov' : ¬ (1114112 : Int) < (k : Int) * 10 + (D : Int) := by omega
            have HST := Lib.hid hst
            clear hst
            go_wp2_with fail
            refine hH.mono ?_
            rintro e w' ⟨rfl, rfl⟩
            go_wp2
            go_round
            case rel =>
              refine ⟨j + 1, k * 10 + D, by go_num, by go_num, by omega, by omega, ?_, ?_⟩
              · rw [← H1.out, HST.out]
              · rw [← H2.out, HST.out]; omega
            case measure => simp [RowKit.intOf]; omega
        · omega
      · have hst := numR_stop (base := 10) (m := l.drop j) (n := k) (by rw [drop_at]; exact hd)
        have E1 := Lib.hid (show N.1 = k by rw [← H1.out, hst])
        have E2 := Lib.hid (show i + 0 + N.2 = j by rw [← H2.out, hst]; rfl)
        clear hst H1 H2
        rcases hex_nat (at0 l j) with ⟨d1, d2⟩ | ⟨d1, d2⟩
        · rw [d2] at hH
          clear d2
          generalize hx (at0 l j) = D at hH hd d1
          have u1 : ¬ ((D : Int) < 0) := by omega
          have u2 : (10 : Int) ≤ (D : Int) := by omega
          clear hd d1
          have hP := refPoint_any (k : Int) w
          by_cases hz : j = i + 0
          · have t0 : ((j : Int) == (i : Int)) = true := by simp; omega
            have HR2 := Lib.hid (resN_none (numO_none HK.out HB.out HN.out (by have := E2.out; omega)))
            clear hz hP
            go_wp2_with fail
            refine hH.mono ?_
            rintro e w' ⟨rfl, rfl⟩
            go_wp2
            go_ret2
            exact ⟨ret_is (HR.out.symm.trans HR2.out), Below.refl _ _⟩
          · have t0 : ((j : Int) == (i : Int)) = false := by simp; omega
            by_cases h59 : at0 l j = 59
            · have HR2 := Lib.hid (resN_some (x := (j : Int) + 1) (numO_semi HK.out HB.out HN.out E1.out E2.out hz h59) (by omega))
              have t1 : (((at0 l j : Nat) : Int) == 59) = true := by rw [h59]; rfl
              clear hz h59
              generalize pt (k : Int) = C at hP HR2
              go_wp2_with fail
              refine hH.mono ?_
              rintro e w' ⟨rfl, rfl⟩
              go_wp2_with fail
              refine hP.mono ?_
              rintro e w' ⟨rfl, hbp⟩
              go_wp2
              go_ret2
              exact ⟨ret_is (HR.out.symm.trans HR2.out), hbp⟩
            · have HR2 := Lib.hid (resN_some (x := (j : Int)) (numO_bare HK.out HB.out HN.out E1.out E2.out hz h59) rfl)
              have t1 : (((at0 l j : Nat) : Int) == 59) = false := by simp; omega
              clear hz h59
              generalize pt (k : Int) = C at hP HR2
              go_wp2_with fail
              refine hH.mono ?_
              rintro e w' ⟨rfl, rfl⟩
              go_wp2_with fail
              refine hP.mono ?_
              rintro e w' ⟨rfl, hbp⟩
              go_wp2
              go_ret2
              exact ⟨ret_is (HR.out.symm.trans HR2.out), hbp⟩
        · rw [d2] at hH
          clear d2 hd d1
          have hP := refPoint_any (k : Int) w
          by_cases hz : j = i + 0
          · have t0 : ((j : Int) == (i : Int)) = true := by simp; omega
            have HR2 := Lib.hid (resN_none (numO_none HK.out HB.out HN.out (by have := E2.out; omega)))
            clear hz hP
            go_wp2_with fail
            refine hH.mono ?_
            rintro e w' ⟨rfl, rfl⟩
            go_wp2
            go_ret2
            exact ⟨ret_is (HR.out.symm.trans HR2.out), Below.refl _ _⟩
          · have t0 : ((j : Int) == (i : Int)) = false := by simp; omega
            by_cases h59 : at0 l j = 59
            · have HR2 := Lib.hid (resN_some (x := (j : Int) + 1) (numO_semi HK.out HB.out HN.out E1.out E2.out hz h59) (by omega))
              have t1 : (((at0 l j : Nat) : Int) == 59) = true := by rw [h59]; rfl
              clear hz h59
              generalize pt (k : Int) = C at hP HR2
              go_wp2_with fail
              refine hH.mono ?_
              rintro e w' ⟨rfl, rfl⟩
              go_wp2_with fail
              refine hP.mono ?_
              rintro e w' ⟨rfl, hbp⟩
              go_wp2
              go_ret2
              exact ⟨ret_is (HR.out.symm.trans HR2.out), hbp⟩
            · have HR2 := Lib.hid (resN_some (x := (j : Int)) (numO_bare HK.out HB.out HN.out E1.out E2.out hz h59) rfl)
              have t1 : (((at0 l j : Nat) : Int) == 59) = false := by simp; omega
              clear hz h59
              generalize pt (k : Int) = C at hP HR2
              go_wp2_with fail
              refine hH.mono ?_
              rintro e w' ⟨rfl, rfl⟩
              go_wp2_with fail
              refine hP.mono ?_
              rintro e w' ⟨rfl, hbp⟩
              go_wp2
              go_ret2
              exact ⟨ret_is (HR.out.symm.trans HR2.out), hbp⟩
    · have hst : numR 10 (l.drop j) k = (k, 0) := by rw [List.drop_of_length_le (by omega)]; rfl
      have E1 := Lib.hid (show N.1 = k by rw [← H1.out, hst])
      have E2 := Lib.hid (show i + 0 + N.2 = j by rw [← H2.out, hst]; rfl)
      have hj' : ¬ ((j : Int) < (l.length : Int)) := by omega
      clear hst H1 H2
      have hP := refPoint_any (k : Int) w
      by_cases hz : j = i + 0
      · have t0 : ((j : Int) == (i : Int)) = true := by simp; omega
        have HR2 := Lib.hid (resN_none (numO_none HK.out HB.out HN.out (by have := E2.out; omega)))
        clear hz hP
        go_wp2
        go_ret2
        exact ⟨ret_is (HR.out.symm.trans HR2.out), Below.refl _ _⟩
      · have t0 : ((j : Int) == (i : Int)) = false := by simp; omega
        have h59 : at0 l j ≠ 59 := by rw [at0_out (by omega)]; decide
        have HR2 := Lib.hid (resN_some (x := (j : Int)) (numO_bare HK.out HB.out HN.out E1.out E2.out hz h59) rfl)
        clear hz h59
        generalize pt (k : Int) = C at hP HR2
        go_wp2_with fail
        refine hP.mono ?_
        rintro e w' ⟨rfl, hbp⟩
        go_wp2
        go_ret2
        exact ⟨ret_is (HR.out.symm.trans HR2.out), hbp⟩

theorem refByNumber_any (l : List UInt8) (b off cap : Nat) (i : Nat) (x : Int) (w : World) (hc : Cells l b off w) (hx0 : x = (i : Int)) (hi : i ≤ l.length) (hl : l.length ≤ 4000000000000000000) :
    Calls Tryd.prog 66 #[.slice (some ⟨b, off, none⟩) l.length cap, .int .i64 x] w fun e w' => e = .returned (resN (numO l i)) ∧ Below w.heap.size w w' := by
  subst hx0
  by_cases hin : i < l.length
  · by_cases h : at0 l i = 120
    · exact refByNumber_x l b off cap i w hc hi hl h
    · by_cases h' : at0 l i = 88
      · exact refByNumber_X l b off cap i w hc hi hl h'
      · exact refByNumber_in l b off cap i w hc hi hl hin h h'
  · exact refByNumber_out l b off cap i w hc hi hl hin
end Go.Proofs.YtfnecdifaodamaaDoor
