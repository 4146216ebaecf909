/- The reference's reading of a number. -/
import Derived.Test.YtndcmapifihgeaaGreatDoorByN
import Derived.Test.YtndcmapifihgeaaGreatDoorSpk
import Derived.Test.YtndcmapifihgeaaGreatDoorEnRFind
namespace Go.Proofs.YtndcmapifihgeaaGreatDoor
open Go.RowKit Go.Lib
open Ch (at0 nx nx_width at0_lt at0_drop enc_len Sl Sl.below Cells ret_two enc_one enc_two enc_three enc_four)

def resN : Option (Nat × Nat) → Value
  | none => .tuple #[.int .i64 0, .int .i64 (-1)]
  | some p => .tuple #[.int .i64 (p.1 : Int), .int .i64 (p.2 : Int)]
theorem resN_none {o : Option (Nat × Nat)} (h : o = none) : resN o = .tuple #[.int .i64 0, .int .i64 (-1)] := by rw [h]; rfl
theorem resN_some {o : Option (Nat × Nat)} {s e : Nat} {x : Int} (h : o = some (s, e)) (hx : x = (e : Int)) : resN o = .tuple #[.int .i64 (s : Int), .int .i64 x] := by rw [h, hx]; rfl

/-- the number's character, and where it ends -/
def numO (l : List UInt8) (i : Nat) : Option (Nat × Nat) :=
  if (numV (l.drop i)).2 = 0 then none else some (pt ((numV (l.drop i)).1 : Int), i + (kM (l.drop i) + (numV (l.drop i)).2 + semiN (l.drop i) (kM (l.drop i) + (numV (l.drop i)).2)))

theorem numO_is (l : List UInt8) (i : Nat) : sh i (numM (l.drop i)) = (numO l i).map fun p => (encodeRune (p.1 : Int), p.2) := by
  unfold numM numO
  by_cases h : (numV (l.drop i)).2 = 0
  · rw [if_pos h, if_pos h]; rfl
  · rw [if_neg h, if_neg h]; rfl

theorem numO_at {l : List UInt8} {i k base : Nat} {N : Nat × Nat} (hk : kM (l.drop i) = k) (hb : baseM (l.drop i) = base) (hN : numR base (l.drop (i + k)) 0 = N) :
    numO l i = if N.2 = 0 then none else some (pt (N.1 : Int), i + k + N.2 + if at0 l (i + k + N.2) = 59 then 1 else 0) := by
  have e : numV (l.drop i) = N := by unfold numV; rw [hk, hb, List.drop_drop, hN]
  unfold numO
  rw [e, hk]
  by_cases h : N.2 = 0
  · rw [if_pos h, if_pos h]
  · rw [if_neg h, if_neg h]
    unfold semiN
    simp only [at0_drop]
    rw [show i + (k + N.2) = i + k + N.2 by omega, show i + (k + N.2 + if at0 l (i + k + N.2) = 59 then 1 else 0) = i + k + N.2 + if at0 l (i + k + N.2) = 59 then 1 else 0 by omega]

theorem numO_none {l : List UInt8} {i k base : Nat} {N : Nat × Nat} (hk : kM (l.drop i) = k) (hb : baseM (l.drop i) = base) (hN : numR base (l.drop (i + k)) 0 = N) (h : N.2 = 0) : numO l i = none := by
  rw [numO_at hk hb hN, if_pos h]
theorem numO_semi {l : List UInt8} {i k base j n : Nat} {N : Nat × Nat} (hk : kM (l.drop i) = k) (hb : baseM (l.drop i) = base) (hN : numR base (l.drop (i + k)) 0 = N) (h1 : N.1 = n) (h2 : i + k + N.2 = j) (h : j ≠ i + k) (hs : at0 l j = 59) : numO l i = some (pt (n : Int), j + 1) := by
  subst h1 h2
  rw [numO_at hk hb hN, if_neg (by omega), if_pos hs]
theorem numO_bare {l : List UInt8} {i k base j n : Nat} {N : Nat × Nat} (hk : kM (l.drop i) = k) (hb : baseM (l.drop i) = base) (hN : numR base (l.drop (i + k)) 0 = N) (h1 : N.1 = n) (h2 : i + k + N.2 = j) (h : j ≠ i + k) (hs : at0 l j ≠ 59) : numO l i = some (pt (n : Int), j) := by
  subst h1 h2
  rw [numO_at hk hb hN, if_neg (by omega), if_neg hs]; rfl

set_option maxHeartbeats 8000000 in
set_option maxRecDepth 100000 in
theorem refByNumber_x (l : List UInt8) (b off cap : Nat) (i : Nat) (w : World) (hc : Cells l b off w) (_hi : i ≤ l.length) (hl : l.length ≤ 4000000000000000000) (h : at0 l i = 120) :
    Calls Tryz.prog 58 #[.slice (some ⟨b, off, none⟩) l.length cap, .int .i64 (i : Int)] w fun e w' => e = .returned (resN (numO l i)) ∧ Below w.heap.size w w' := by
  obtain ⟨R, hR⟩ : ∃ R, resN (numO l i) = R := ⟨_, rfl⟩
  rw [hR]
  have HR := Lib.hid hR
  clear hR
  have hin := at0_in (m := l) (j := i) (by omega)
  have hcell := hc i hin
  have h1 : (i : Int) < (l.length : Int) := by omega
  have t9 : (((at0 l i : Nat) : Int) == 120) = true := by rw [h]; rfl
  obtain ⟨hk, hb⟩ := kM_yes (Or.inl h)
  have HK := Lib.hid hk
  have HB := Lib.hid hb
  clear h hk hb
  obtain ⟨N, hN⟩ : ∃ N, numR 16 (l.drop (i + 1)) 0 = N := ⟨_, rfl⟩
  have HN := Lib.hid hN
  clear hN
  go_enter Tryz.func58, Tryz.ntmps58
  go_wp2
  go_loop [1, 7] (fun v1 v7 => NumRel l 16 (i + 1) N v1 v7) (fun v1 _ => (l.length : Nat) - (RowKit.intOf v1).toNat)
  case atStart => exact ⟨i + 1, 0, by go_num, rfl, by omega, by omega, by rw [HN.out], by rw [HN.out]⟩
  case round =>
    obtain ⟨j, k, rfl, rfl, hj, hk, h1, h2⟩ := hrel
    have H1 := Lib.hid h1
    have H2 := Lib.hid h2
    clear h1 h2
    by_cases hjl : j < l.length
    · have hj' : (j : Int) < (l.length : Int) := by omega
      have hcell2 := hc j hjl
      have hb8 := at0_lt l j
      have hH := Kl.refHex_any (at0 l j : Int) w (by omega)
      by_cases hd : hx (at0 l j) < 16
      · have hst := numR_step (base := 16) (m := l.drop j) (n := k) (by omega) (by rw [drop_at]; exact hd)
        rw [drop_at, List.drop_drop] at hst
        rcases hex_nat (at0 l j) with ⟨d1, d2⟩ | ⟨d1, d2⟩
        · rw [d2] at hH
          generalize hx (at0 l j) = D at hH hd hst d1
          have u1 : ¬ ((D : Int) < 0) := by omega
          have u2 : ¬ ((16 : Int) ≤ (D : Int)) := by omega
          clear d2
          by_cases hov : 1114112 < k * 16 + D
          · rw [show min (k * 16 + D) 1114112 = 1114112 by omega] at hst
            have hov' : (1114112 : Int) < (k : Int) * 16 + (D : Int) := by omega
            have HST := Lib.hid hst
            clear hst
            go_wp2_with fail
            refine hH.mono ?_
            rintro e w' ⟨rfl, rfl⟩
            go_wp2
            go_round
            case rel =>
              refine ⟨j + 1, 1114112, by go_num, rfl, by omega, by omega, ?_, ?_⟩
              · rw [← H1.out, HST.out]
              · rw [← H2.out, HST.out]; omega
            case measure => simp [RowKit.intOf]; omega
          · rw [show min (k * 16 + D) 1114112 = k * 16 + D by omega] at hst
            have hov' : ¬ (1114112 : Int) < (k : Int) * 16 + (D : Int) := by omega
            have HST := Lib.hid hst
            clear hst
            go_wp2_with fail
            refine hH.mono ?_
            rintro e w' ⟨rfl, rfl⟩
            go_wp2
            go_round
            case rel =>
              refine ⟨j + 1, k * 16 + D, by go_num, by go_num, by omega, by omega, ?_, ?_⟩
              · rw [← H1.out, HST.out]
              · rw [← H2.out, HST.out]; omega
            case measure => simp [RowKit.intOf]; omega
        · omega
      · have hst := numR_stop (base := 16) (m := l.drop j) (n := k) (by rw [drop_at]; exact hd)
        have E1 := Lib.hid (show N.1 = k by rw [← H1.out, hst])
        have E2 := Lib.hid (show i + 1 + N.2 = j by rw [← H2.out, hst]; rfl)
        clear hst H1 H2
        rcases hex_nat (at0 l j) with ⟨d1, d2⟩ | ⟨d1, d2⟩
        · rw [d2] at hH
          clear d2
          generalize hx (at0 l j) = D at hH hd d1
          have u1 : ¬ ((D : Int) < 0) := by omega
          have u2 : (16 : Int) ≤ (D : Int) := by omega
          clear hd d1
          have hP := refPoint_any (k : Int) w
          by_cases hz : j = i + 1
          · have t0 : ((j : Int) == (i : Int) + 1) = true := by simp; omega
            have HR2 := Lib.hid (resN_none (numO_none HK.out HB.out HN.out (by have := E2.out; omega)))
            clear hz hP
            go_wp2_with fail
            refine hH.mono ?_
            rintro e w' ⟨rfl, rfl⟩
            go_wp2
            go_ret2
            exact ⟨ret_is (HR.out.symm.trans HR2.out), Below.refl _ _⟩
          · have t0 : ((j : Int) == (i : Int) + 1) = false := by simp; omega
            by_cases h59 : at0 l j = 59
            · have HR2 := Lib.hid (resN_some (x := (j : Int) + 1) (numO_semi HK.out HB.out HN.out E1.out E2.out hz h59) (by omega))
              have t1 : (((at0 l j : Nat) : Int) == 59) = true := by rw [h59]; rfl
              clear hz h59
              generalize pt (k : Int) = C at hP HR2
              go_wp2_with fail
              refine hH.mono ?_
              rintro e w' ⟨rfl, rfl⟩
              go_wp2_with fail
              refine hP.mono ?_
              rintro e w' ⟨rfl, hbp⟩
              go_wp2
              go_ret2
              exact ⟨ret_is (HR.out.symm.trans HR2.out), hbp⟩
            · have HR2 := Lib.hid (resN_some (x := (j : Int)) (numO_bare HK.out HB.out HN.out E1.out E2.out hz h59) rfl)
              have t1 : (((at0 l j : Nat) : Int) == 59) = false := by simp; omega
              clear hz h59
              generalize pt (k : Int) = C at hP HR2
              go_wp2_with fail
              refine hH.mono ?_
              rintro e w' ⟨rfl, rfl⟩
              go_wp2_with fail
              refine hP.mono ?_
              rintro e w' ⟨rfl, hbp⟩
              go_wp2
              go_ret2
              exact ⟨ret_is (HR.out.symm.trans HR2.out), hbp⟩
        · rw [d2] at hH
          clear d2 hd d1
          have hP := refPoint_any (k : Int) w
          by_cases hz : j = i + 1
          · have t0 : ((j : Int) == (i : Int) + 1) = true := by simp; omega
            have HR2 := Lib.hid (resN_none (numO_none HK.out HB.out HN.out (by have := E2.out; omega)))
            clear hz hP
            go_wp2_with fail
            refine hH.mono ?_
            rintro e w' ⟨rfl, rfl⟩
            go_wp2
            go_ret2
            exact ⟨ret_is (HR.out.symm.trans HR2.out), Below.refl _ _⟩
          · have t0 : ((j : Int) == (i : Int) + 1) = false := by simp; omega
            by_cases h59 : at0 l j = 59
            · have HR2 := Lib.hid (resN_some (x := (j : Int) + 1) (numO_semi HK.out HB.out HN.out E1.out E2.out hz h59) (by omega))
              have t1 : (((at0 l j : Nat) : Int) == 59) = true := by rw [h59]; rfl
              clear hz h59
              generalize pt (k : Int) = C at hP HR2
              go_wp2_with fail
              refine hH.mono ?_
              rintro e w' ⟨rfl, rfl⟩
              go_wp2_with fail
              refine hP.mono ?_
              rintro e w' ⟨rfl, hbp⟩
              go_wp2
              go_ret2
              exact ⟨ret_is (HR.out.symm.trans HR2.out), hbp⟩
            · have HR2 := Lib.hid (resN_some (x := (j : Int)) (numO_bare HK.out HB.out HN.out E1.out E2.out hz h59) rfl)
              have t1 : (((at0 l j : Nat) : Int) == 59) = false := by simp; omega
              clear hz h59
              generalize pt (k : Int) = C at hP HR2
              go_wp2_with fail
              refine hH.mono ?_
              rintro e w' ⟨rfl, rfl⟩
              go_wp2_with fail
              refine hP.mono ?_
              rintro e w' ⟨rfl, hbp⟩
              go_wp2
              go_ret2
              exact ⟨ret_is (HR.out.symm.trans HR2.out), hbp⟩
    · have hst : numR 16 (l.drop j) k = (k, 0) := by rw [List.drop_of_length_le (by omega)]; rfl
      have E1 := Lib.hid (show N.1 = k by rw [← H1.out, hst])
      have E2 := Lib.hid (show i + 1 + N.2 = j by rw [← H2.out, hst]; rfl)
      have hj' : ¬ ((j : Int) < (l.length : Int)) := by omega
      clear hst H1 H2
      have hP := refPoint_any (k : Int) w
      by_cases hz : j = i + 1
      · have t0 : ((j : Int) == (i : Int) + 1) = true := by simp; omega
        have HR2 := Lib.hid (resN_none (numO_none HK.out HB.out HN.out (by have := E2.out; omega)))
        clear hz hP
        go_wp2
        go_ret2
        exact ⟨ret_is (HR.out.symm.trans HR2.out), Below.refl _ _⟩
      · have t0 : ((j : Int) == (i : Int) + 1) = false := by simp; omega
        have h59 : at0 l j ≠ 59 := by rw [at0_out (by omega)]; decide
        have HR2 := Lib.hid (resN_some (x := (j : Int)) (numO_bare HK.out HB.out HN.out E1.out E2.out hz h59) rfl)
        clear hz h59
        generalize pt (k : Int) = C at hP HR2
        go_wp2_with fail
        refine hP.mono ?_
        rintro e w' ⟨rfl, hbp⟩
        go_wp2
        go_ret2
        exact ⟨ret_is (HR.out.symm.trans HR2.out), hbp⟩

set_option maxHeartbeats 8000000 in
set_option maxRecDepth 100000 in
theorem refByNumber_X (l : List UInt8) (b off cap : Nat) (i : Nat) (w : World) (hc : Cells l b off w) (_hi : i ≤ l.length) (hl : l.length ≤ 4000000000000000000) (h : at0 l i = 88) :
    Calls Tryz.prog 58 #[.slice (some ⟨b, off, none⟩) l.length cap, .int .i64 (i : Int)] w fun e w' => e = .returned (resN (numO l i)) ∧ Below w.heap.size w w' := by
  obtain ⟨R, hR⟩ : ∃ R, resN (numO l i) = R := ⟨_, rfl⟩
  rw [hR]
  have HR := Lib.hid hR
  clear hR
  have hin := at0_in (m := l) (j := i) (by omega)
  have hcell := hc i hin
  have h1 : (i : Int) < (l.length : Int) := by omega
  have t9 : (((at0 l i : Nat) : Int) == 120) = false := by rw [h]; rfl
  have t8 : (((at0 l i : Nat) : Int) == 88) = true := by rw [h]; rfl
  obtain ⟨hk, hb⟩ := kM_yes (Or.inr h)
  have HK := Lib.hid hk
  have HB := Lib.hid hb
  clear h hk hb
  obtain ⟨N, hN⟩ : ∃ N, numR 16 (l.drop (i + 1)) 0 = N := ⟨_, rfl⟩
  have HN := Lib.hid hN
  clear hN
  go_enter Tryz.func58, Tryz.ntmps58
  go_wp2
  go_loop [1, 7] (fun v1 v7 => NumRel l 16 (i + 1) N v1 v7) (fun v1 _ => (l.length : Nat) - (RowKit.intOf v1).toNat)
  case atStart => exact ⟨i + 1, 0, by go_num, rfl, by omega, by omega, by rw [HN.out], by rw [HN.out]⟩
  case round =>
    obtain ⟨j, k, rfl, rfl, hj, hk, h1, h2⟩ := hrel
    have H1 := Lib.hid h1
    have H2 := Lib.hid h2
    clear h1 h2
    by_cases hjl : j < l.length
    · have hj' : (j : Int) < (l.length : Int) := by omega
      have hcell2 := hc j hjl
      have hb8 := at0_lt l j
      have hH := Kl.refHex_any (at0 l j : Int) w (by omega)
      by_cases hd : hx (at0 l j) < 16
      · have hst := numR_step (base := 16) (m := l.drop j) (n := k) (by omega) (by rw [drop_at]; exact hd)
        rw [drop_at, List.drop_drop] at hst
        rcases hex_nat (at0 l j) with ⟨d1, d2⟩ | ⟨d1, d2⟩
        · rw [d2] at hH
          generalize hx (at0 l j) = D at hH hd hst d1
          have u1 : ¬ ((D : Int) < 0) := by omega
          have u2 : ¬ ((16 : Int) ≤ (D : Int)) := by omega
          clear d2
          by_cases hov : 1114112 < k * 16 + D
          · rw [show min (k * 16 + D) 1114112 = 1114112 by omega] at hst
            have hov' : (1114112 : Int) < (k : Int) * 16 + (D : Int) := by omega
            have HST := Lib.hid hst
            clear hst
            go_wp2_with fail
            refine hH.mono ?_
            rintro e w' ⟨rfl, rfl⟩
            go_wp2
            go_round
            case rel =>
              refine ⟨j + 1, 1114112, by go_num, rfl, by omega, by omega, ?_, ?_⟩
              · rw [← H1.out, HST.out]
              · rw [← H2.out, HST.out]; omega
            case measure => simp [RowKit.intOf]; omega
          · rw [show min (k * 16 + D) 1114112 = k * 16 + D by omega] at hst
            have hov' : ¬ (1114112 : Int) < (k : Int) * 16 + (D : Int) := by omega
            have HST := Lib.hid hst
            clear hst
            go_wp2_with fail
            refine hH.mono ?_
            rintro e w' ⟨rfl, rfl⟩
            go_wp2
            go_round
            case rel =>
              refine ⟨j + 1, k * 16 + D, by go_num, by go_num, by omega, by omega, ?_, ?_⟩
              · rw [← H1.out, HST.out]
              · rw [← H2.out, HST.out]; omega
            case measure => simp [RowKit.intOf]; omega
        · omega
      · have hst := numR_stop (base := 16) (m := l.drop j) (n := k) (by rw [drop_at]; exact hd)
        have E1 := Lib.hid (show N.1 = k by rw [← H1.out, hst])
        have E2 := Lib.hid (show i + 1 + N.2 = j by rw [← H2.out, hst]; rfl)
        clear hst H1 H2
        rcases hex_nat (at0 l j) with ⟨d1, d2⟩ | ⟨d1, d2⟩
        · rw [d2] at hH
          clear d2
          generalize hx (at0 l j) = D at hH hd d1
          have u1 : ¬ ((D : Int) < 0) := by omega
          have u2 : (16 : Int) ≤ (D : Int) := by omega
          clear hd d1
          have hP := refPoint_any (k : Int) w
          by_cases hz : j = i + 1
          · have t0 : ((j : Int) == (i : Int) + 1) = true := by simp; omega
            have HR2 := Lib.hid (resN_none (numO_none HK.out HB.out HN.out (by have := E2.out; omega)))
            clear hz hP
            go_wp2_with fail
            refine hH.mono ?_
            rintro e w' ⟨rfl, rfl⟩
            go_wp2
            go_ret2
            exact ⟨ret_is (HR.out.symm.trans HR2.out), Below.refl _ _⟩
          · have t0 : ((j : Int) == (i : Int) + 1) = false := by simp; omega
            by_cases h59 : at0 l j = 59
            · have HR2 := Lib.hid (resN_some (x := (j : Int) + 1) (numO_semi HK.out HB.out HN.out E1.out E2.out hz h59) (by omega))
              have t1 : (((at0 l j : Nat) : Int) == 59) = true := by rw [h59]; rfl
              clear hz h59
              generalize pt (k : Int) = C at hP HR2
              go_wp2_with fail
              refine hH.mono ?_
              rintro e w' ⟨rfl, rfl⟩
              go_wp2_with fail
              refine hP.mono ?_
              rintro e w' ⟨rfl, hbp⟩
              go_wp2
              go_ret2
              exact ⟨ret_is (HR.out.symm.trans HR2.out), hbp⟩
            · have HR2 := Lib.hid (resN_some (x := (j : Int)) (numO_bare HK.out HB.out HN.out E1.out E2.out hz h59) rfl)
              have t1 : (((at0 l j : Nat) : Int) == 59) = false := by simp; omega
              clear hz h59
              generalize pt (k : Int) = C at hP HR2
              go_wp2_with fail
              refine hH.mono ?_
              rintro e w' ⟨rfl, rfl⟩
              go_wp2_with fail
              refine hP.mono ?_
              rintro e w' ⟨rfl, hbp⟩
              go_wp2
              go_ret2
              exact ⟨ret_is (HR.out.symm.trans HR2.out), hbp⟩
        · rw [d2] at hH
          clear d2 hd d1
          have hP := refPoint_any (k : Int) w
          by_cases hz : j = i + 1
          · have t0 : ((j : Int) == (i : Int) + 1) = true := by simp; omega
            have HR2 := Lib.hid (resN_none (numO_none HK.out HB.out HN.out (by have := E2.out; omega)))
            clear hz hP
            go_wp2_with fail
            refine hH.mono ?_
            rintro e w' ⟨rfl, rfl⟩
            go_wp2
            go_ret2
            exact ⟨ret_is (HR.out.symm.trans HR2.out), Below.refl _ _⟩
          · have t0 : ((j : Int) == (i : Int) + 1) = false := by simp; omega
            by_cases h59 : at0 l j = 59
            · have HR2 := Lib.hid (resN_some (x := (j : Int) + 1) (numO_semi HK.out HB.out HN.out E1.out E2.out hz h59) (by omega))
              have t1 : (((at0 l j : Nat) : Int) == 59) = true := by rw [h59]; rfl
              clear hz h59
              generalize pt (k : Int) = C at hP HR2
              go_wp2_with fail
              refine hH.mono ?_
              rintro e w' ⟨rfl, rfl⟩
              go_wp2_with fail
              refine hP.mono ?_
              rintro e w' ⟨rfl, hbp⟩
              go_wp2
              go_ret2
              exact ⟨ret_is (HR.out.symm.trans HR2.out), hbp⟩
            · have HR2 := Lib.hid (resN_some (x := (j : Int)) (numO_bare HK.out HB.out HN.out E1.out E2.out hz h59) rfl)
              have t1 : (((at0 l j : Nat) : Int) == 59) = false := by simp; omega
              clear hz h59
              generalize pt (k : Int) = C at hP HR2
              go_wp2_with fail
              refine hH.mono ?_
              rintro e w' ⟨rfl, rfl⟩
              go_wp2_with fail
              refine hP.mono ?_
              rintro e w' ⟨rfl, hbp⟩
              go_wp2
              go_ret2
              exact ⟨ret_is (HR.out.symm.trans HR2.out), hbp⟩
    · have hst : numR 16 (l.drop j) k = (k, 0) := by rw [List.drop_of_length_le (by omega)]; rfl
      have E1 := Lib.hid (show N.1 = k by rw [← H1.out, hst])
      have E2 := Lib.hid (show i + 1 + N.2 = j by rw [← H2.out, hst]; rfl)
      have hj' : ¬ ((j : Int) < (l.length : Int)) := by omega
      clear hst H1 H2
      have hP := refPoint_any (k : Int) w
      by_cases hz : j = i + 1
      · have t0 : ((j : Int) == (i : Int) + 1) = true := by simp; omega
        have HR2 := Lib.hid (resN_none (numO_none HK.out HB.out HN.out (by have := E2.out; omega)))
        clear hz hP
        go_wp2
        go_ret2
        exact ⟨ret_is (HR.out.symm.trans HR2.out), Below.refl _ _⟩
      · have t0 : ((j : Int) == (i : Int) + 1) = false := by simp; omega
        have h59 : at0 l j ≠ 59 := by rw [at0_out (by omega)]; decide
        have HR2 := Lib.hid (resN_some (x := (j : Int)) (numO_bare HK.out HB.out HN.out E1.out E2.out hz h59) rfl)
        clear hz h59
        generalize pt (k : Int) = C at hP HR2
        go_wp2_with fail
        refine hP.mono ?_
        rintro e w' ⟨rfl, hbp⟩
        go_wp2
        go_ret2
        exact ⟨ret_is (HR.out.symm.trans HR2.out), hbp⟩

set_option maxHeartbeats 8000000 in
set_option maxRecDepth 100000 in
theorem refByNumber_in (l : List UInt8) (b off cap : Nat) (i : Nat) (w : World) (hc : Cells l b off w) (hi : i ≤ l.length) (hl : l.length ≤ 4000000000000000000) (hin : i < l.length) (h : at0 l i ≠ 120) (h' : at0 l i ≠ 88) :
    Calls Tryz.prog 58 #[.slice (some ⟨b, off, none⟩) l.length cap, .int .i64 (i : Int)] w fun e w' => e = .returned (resN (numO l i)) ∧ Below w.heap.size w w' := by
  obtain ⟨R, hR⟩ : ∃ R, resN (numO l i) = R := ⟨_, rfl⟩
  rw [hR]
  have HR := Lib.hid hR
  clear hR
  have hcell := hc i hin
  have h1 : (i : Int) < (l.length : Int) := by omega
  have t9 : (((at0 l i : Nat) : Int) == 120) = false := by simp; omega
  have t8 : (((at0 l i : Nat) : Int) == 88) = false := by simp; omega
  obtain ⟨hk, hb⟩ := kM_no h h'
  have HK := Lib.hid hk
  have HB := Lib.hid hb
  clear h h' hk hb
  obtain ⟨N, hN⟩ : ∃ N, numR 10 (l.drop (i + 0)) 0 = N := ⟨_, rfl⟩
  have HN := Lib.hid hN
  clear hN
  go_enter Tryz.func58, Tryz.ntmps58
  go_wp2
  go_loop [1, 7] (fun v1 v7 => NumRel l 10 (i + 0) N v1 v7) (fun v1 _ => (l.length : Nat) - (RowKit.intOf v1).toNat)
  case atStart => exact ⟨i + 0, 0, by go_num, rfl, by omega, by omega, by rw [HN.out], by rw [HN.out]⟩
  case round =>
    obtain ⟨j, k, rfl, rfl, hj, hk, h1, h2⟩ := hrel
    have H1 := Lib.hid h1
    have H2 := Lib.hid h2
    clear h1 h2
    by_cases hjl : j < l.length
    · have hj' : (j : Int) < (l.length : Int) := by omega
      have hcell2 := hc j hjl
      have hb8 := at0_lt l j
      have hH := Kl.refHex_any (at0 l j : Int) w (by omega)
      by_cases hd : hx (at0 l j) < 10
      · have hst := numR_step (base := 10) (m := l.drop j) (n := k) (by omega) (by rw [drop_at]; exact hd)
        rw [drop_at, List.drop_drop] at hst
        rcases hex_nat (at0 l j) with ⟨d1, d2⟩ | ⟨d1, d2⟩
        · rw [d2] at hH
          generalize hx (at0 l j) = D at hH hd hst d1
          have u1 : ¬ ((D : Int) < 0) := by omega
          have u2 : ¬ ((10 : Int) ≤ (D : Int)) := by omega
          clear d2
          by_cases hov : 1114112 < k * 10 + D
          · rw [show min (k * 10 + D) 1114112 = 1114112 by omega] at hst
            have hov' : (1114112 : Int) < (k : Int) * 10 + (D : Int) := by omega
            have HST := Lib.hid hst
            clear hst
            go_wp2_with fail
            refine hH.mono ?_
            rintro e w' ⟨rfl, rfl⟩
            go_wp2
            go_round
            case rel =>
              refine ⟨j + 1, 1114112, by go_num, rfl, by omega, by omega, ?_, ?_⟩
              · rw [← H1.out, HST.out]
              · rw [← H2.out, HST.out]; omega
            case measure => simp [RowKit.intOf]; omega
          · rw [show min (k * 10 + D) 1114112 = k * 10 + D by omega] at hst
            have hov' : ¬ (1114112 : Int) < (k : Int) * 10 + (D : Int) := by omega
            have HST := Lib.hid hst
            clear hst
            go_wp2_with fail
            refine hH.mono ?_
            rintro e w' ⟨rfl, rfl⟩
            go_wp2
            go_round
            case rel =>
              refine ⟨j + 1, k * 10 + D, by go_num, by go_num, by omega, by omega, ?_, ?_⟩
              · rw [← H1.out, HST.out]
              · rw [← H2.out, HST.out]; omega
            case measure => simp [RowKit.intOf]; omega
        · omega
      · have hst := numR_stop (base := 10) (m := l.drop j) (n := k) (by rw [drop_at]; exact hd)
        have E1 := Lib.hid (show N.1 = k by rw [← H1.out, hst])
        have E2 := Lib.hid (show i + 0 + N.2 = j by rw [← H2.out, hst]; rfl)
        clear hst H1 H2
        rcases hex_nat (at0 l j) with ⟨d1, d2⟩ | ⟨d1, d2⟩
        · rw [d2] at hH
          clear d2
          generalize hx (at0 l j) = D at hH hd d1
          have u1 : ¬ ((D : Int) < 0) := by omega
          have u2 : (10 : Int) ≤ (D : Int) := by omega
          clear hd d1
          have hP := refPoint_any (k : Int) w
          by_cases hz : j = i + 0
          · have t0 : ((j : Int) == (i : Int)) = true := by simp; omega
            have HR2 := Lib.hid (resN_none (numO_none HK.out HB.out HN.out (by have := E2.out; omega)))
            clear hz hP
            go_wp2_with fail
            refine hH.mono ?_
            rintro e w' ⟨rfl, rfl⟩
            go_wp2
            go_ret2
            exact ⟨ret_is (HR.out.symm.trans HR2.out), Below.refl _ _⟩
          · have t0 : ((j : Int) == (i : Int)) = false := by simp; omega
            by_cases h59 : at0 l j = 59
            · have HR2 := Lib.hid (resN_some (x := (j : Int) + 1) (numO_semi HK.out HB.out HN.out E1.out E2.out hz h59) (by omega))
              have t1 : (((at0 l j : Nat) : Int) == 59) = true := by rw [h59]; rfl
              clear hz h59
              generalize pt (k : Int) = C at hP HR2
              go_wp2_with fail
              refine hH.mono ?_
              rintro e w' ⟨rfl, rfl⟩
              go_wp2_with fail
              refine hP.mono ?_
              rintro e w' ⟨rfl, hbp⟩
              go_wp2
              go_ret2
              exact ⟨ret_is (HR.out.symm.trans HR2.out), hbp⟩
            · have HR2 := Lib.hid (resN_some (x := (j : Int)) (numO_bare HK.out HB.out HN.out E1.out E2.out hz h59) rfl)
              have t1 : (((at0 l j : Nat) : Int) == 59) = false := by simp; omega
              clear hz h59
              generalize pt (k : Int) = C at hP HR2
              go_wp2_with fail
              refine hH.mono ?_
              rintro e w' ⟨rfl, rfl⟩
              go_wp2_with fail
              refine hP.mono ?_
              rintro e w' ⟨rfl, hbp⟩
              go_wp2
              go_ret2
              exact ⟨ret_is (HR.out.symm.trans HR2.out), hbp⟩
        · rw [d2] at hH
          clear d2 hd d1
          have hP := refPoint_any (k : Int) w
          by_cases hz : j = i + 0
          · have t0 : ((j : Int) == (i : Int)) = true := by simp; omega
            have HR2 := Lib.hid (resN_none (numO_none HK.out HB.out HN.out (by have := E2.out; omega)))
            clear hz hP
            go_wp2_with fail
            refine hH.mono ?_
            rintro e w' ⟨rfl, rfl⟩
            go_wp2
            go_ret2
            exact ⟨ret_is (HR.out.symm.trans HR2.out), Below.refl _ _⟩
          · have t0 : ((j : Int) == (i : Int)) = false := by simp; omega
            by_cases h59 : at0 l j = 59
            · have HR2 := Lib.hid (resN_some (x := (j : Int) + 1) (numO_semi HK.out HB.out HN.out E1.out E2.out hz h59) (by omega))
              have t1 : (((at0 l j : Nat) : Int) == 59) = true := by rw [h59]; rfl
              clear hz h59
              generalize pt (k : Int) = C at hP HR2
              go_wp2_with fail
              refine hH.mono ?_
              rintro e w' ⟨rfl, rfl⟩
              go_wp2_with fail
              refine hP.mono ?_
              rintro e w' ⟨rfl, hbp⟩
              go_wp2
              go_ret2
              exact ⟨ret_is (HR.out.symm.trans HR2.out), hbp⟩
            · have HR2 := Lib.hid (resN_some (x := (j : Int)) (numO_bare HK.out HB.out HN.out E1.out E2.out hz h59) rfl)
              have t1 : (((at0 l j : Nat) : Int) == 59) = false := by simp; omega
              clear hz h59
              generalize pt (k : Int) = C at hP HR2
              go_wp2_with fail
              refine hH.mono ?_
              rintro e w' ⟨rfl, rfl⟩
              go_wp2_with fail
              refine hP.mono ?_
              rintro e w' ⟨rfl, hbp⟩
              go_wp2
              go_ret2
              exact ⟨ret_is (HR.out.symm.trans HR2.out), hbp⟩
    · have hst : numR 10 (l.drop j) k = (k, 0) := by rw [List.drop_of_length_le (by omega)]; rfl
      have E1 := Lib.hid (show N.1 = k by rw [← H1.out, hst])
      have E2 := Lib.hid (show i + 0 + N.2 = j by rw [← H2.out, hst]; rfl)
      have hj' : ¬ ((j : Int) < (l.length : Int)) := by omega
      clear hst H1 H2
      have hP := refPoint_any (k : Int) w
      by_cases hz : j = i + 0
      · have t0 : ((j : Int) == (i : Int)) = true := by simp; omega
        have HR2 := Lib.hid (resN_none (numO_none HK.out HB.out HN.out (by have := E2.out; omega)))
        clear hz hP
        go_wp2
        go_ret2
        exact ⟨ret_is (HR.out.symm.trans HR2.out), Below.refl _ _⟩
      · have t0 : ((j : Int) == (i : Int)) = false := by simp; omega
        have h59 : at0 l j ≠ 59 := by rw [at0_out (by omega)]; decide
        have HR2 := Lib.hid (resN_some (x := (j : Int)) (numO_bare HK.out HB.out HN.out E1.out E2.out hz h59) rfl)
        clear hz h59
        generalize pt (k : Int) = C at hP HR2
        go_wp2_with fail
        refine hP.mono ?_
        rintro e w' ⟨rfl, hbp⟩
        go_wp2
        go_ret2
        exact ⟨ret_is (HR.out.symm.trans HR2.out), hbp⟩

set_option maxHeartbeats 8000000 in
set_option maxRecDepth 100000 in
theorem refByNumber_out (l : List UInt8) (b off cap : Nat) (i : Nat) (w : World) (hc : Cells l b off w) (hi : i ≤ l.length) (hl : l.length ≤ 4000000000000000000) (hout : ¬ i < l.length) :
    Calls Tryz.prog 58 #[.slice (some ⟨b, off, none⟩) l.length cap, .int .i64 (i : Int)] w fun e w' => e = .returned (resN (numO l i)) ∧ Below w.heap.size w w' := by
  obtain ⟨R, hR⟩ : ∃ R, resN (numO l i) = R := ⟨_, rfl⟩
  rw [hR]
  have HR := Lib.hid hR
  clear hR
  have h1 : ¬ (i : Int) < (l.length : Int) := by omega
  obtain ⟨hk, hb⟩ := kM_no (l := l) (i := i) (by rw [at0_out (by omega)]; decide) (by rw [at0_out (by omega)]; decide)
  have HK := Lib.hid hk
  have HB := Lib.hid hb
  clear hk hb
  obtain ⟨N, hN⟩ : ∃ N, numR 10 (l.drop (i + 0)) 0 = N := ⟨_, rfl⟩
  have HN := Lib.hid hN
  clear hN
  go_enter Tryz.func58, Tryz.ntmps58
  go_wp2
  go_loop [1, 7] (fun v1 v7 => NumRel l 10 (i + 0) N v1 v7) (fun v1 _ => (l.length : Nat) - (RowKit.intOf v1).toNat)
  case atStart => exact ⟨i + 0, 0, by go_num, rfl, by omega, by omega, by rw [HN.out], by rw [HN.out]⟩
  case round =>
    obtain ⟨j, k, rfl, rfl, hj, hk, h1, h2⟩ := hrel
    have H1 := Lib.hid h1
    have H2 := Lib.hid h2
    clear h1 h2
    by_cases hjl : j < l.length
    · have hj' : (j : Int) < (l.length : Int) := by omega
      have hcell2 := hc j hjl
      have hb8 := at0_lt l j
      have hH := Kl.refHex_any (at0 l j : Int) w (by omega)
      by_cases hd : hx (at0 l j) < 10
      · have hst := numR_step (base := 10) (m := l.drop j) (n := k) (by omega) (by rw [drop_at]; exact hd)
        rw [drop_at, List.drop_drop] at hst
        rcases hex_nat (at0 l j) with ⟨d1, d2⟩ | ⟨d1, d2⟩
        · rw [d2] at hH
          generalize hx (at0 l j) = D at hH hd hst d1
          have u1 : ¬ ((D : Int) < 0) := by omega
          have u2 : ¬ ((10 : Int) ≤ (D : Int)) := by omega
          clear d2
          by_cases hov : 1114112 < k * 10 + D
          · rw [show min (k * 10 + D) 1114112 = 1114112 by omega] at hst
            have hov' : (1114112 : Int) < (k : Int) * 10 + (D : Int) := by omega
            have HST := Lib.hid hst
            clear hst
            go_wp2_with fail
            refine hH.mono ?_
            rintro e w' ⟨rfl, rfl⟩
            go_wp2
            go_round
            case rel =>
              refine ⟨j + 1, 1114112, by go_num, rfl, by omega, by omega, ?_, ?_⟩
              · rw [← H1.out, HST.out]
              · rw [← H2.out, HST.out]; omega
            case measure => simp [RowKit.intOf]; omega
          · rw [show min (k * 10 + D) 1114112 = k * 10 + D by omega] at hst
            have hov' : ¬ (1114112 : Int) < (k : Int) * 10 + (D : Int) := by omega
            have HST := Lib.hid hst
            clear hst
            go_wp2_with fail
            refine hH.mono ?_
            rintro e w' ⟨rfl, rfl⟩
            go_wp2
            go_round
            case rel =>
              refine ⟨j + 1, k * 10 + D, by go_num, by go_num, by omega, by omega, ?_, ?_⟩
              · rw [← H1.out, HST.out]
              · rw [← H2.out, HST.out]; omega
            case measure => simp [RowKit.intOf]; omega
        · omega
      · have hst := numR_stop (base := 10) (m := l.drop j) (n := k) (by rw [drop_at]; exact hd)
        have E1 := Lib.hid (show N.1 = k by rw [← H1.out, hst])
        have E2 := Lib.hid (show i + 0 + N.2 = j by rw [← H2.out, hst]; rfl)
        clear hst H1 H2
        rcases hex_nat (at0 l j) with ⟨d1, d2⟩ | ⟨d1, d2⟩
        · rw [d2] at hH
          clear d2
          generalize hx (at0 l j) = D at hH hd d1
          have u1 : ¬ ((D : Int) < 0) := by omega
          have u2 : (10 : Int) ≤ (D : Int) := by omega
          clear hd d1
          have hP := refPoint_any (k : Int) w
          by_cases hz : j = i + 0
          · have t0 : ((j : Int) == (i : Int)) = true := by simp; omega
            have HR2 := Lib.hid (resN_none (numO_none HK.out HB.out HN.out (by have := E2.out; omega)))
            clear hz hP
            go_wp2_with fail
            refine hH.mono ?_
            rintro e w' ⟨rfl, rfl⟩
            go_wp2
            go_ret2
            exact ⟨ret_is (HR.out.symm.trans HR2.out), Below.refl _ _⟩
          · have t0 : ((j : Int) == (i : Int)) = false := by simp; omega
            by_cases h59 : at0 l j = 59
            · have HR2 := Lib.hid (resN_some (x := (j : Int) + 1) (numO_semi HK.out HB.out HN.out E1.out E2.out hz h59) (by omega))
              have t1 : (((at0 l j : Nat) : Int) == 59) = true := by rw [h59]; rfl
              clear hz h59
              generalize pt (k : Int) = C at hP HR2
              go_wp2_with fail
              refine hH.mono ?_
              rintro e w' ⟨rfl, rfl⟩
              go_wp2_with fail
              refine hP.mono ?_
              rintro e w' ⟨rfl, hbp⟩
              go_wp2
              go_ret2
              exact ⟨ret_is (HR.out.symm.trans HR2.out), hbp⟩
            · have HR2 := Lib.hid (resN_some (x := (j : Int)) (numO_bare HK.out HB.out HN.out E1.out E2.out hz h59) rfl)
              have t1 : (((at0 l j : Nat) : Int) == 59) = false := by simp; omega
              clear hz h59
              generalize pt (k : Int) = C at hP HR2
              go_wp2_with fail
              refine hH.mono ?_
              rintro e w' ⟨rfl, rfl⟩
              go_wp2_with fail
              refine hP.mono ?_
              rintro e w' ⟨rfl, hbp⟩
              go_wp2
              go_ret2
              exact ⟨ret_is (HR.out.symm.trans HR2.out), hbp⟩
        · rw [d2] at hH
          clear d2 hd d1
          have hP := refPoint_any (k : Int) w
          by_cases hz : j = i + 0
          · have t0 : ((j : Int) == (i : Int)) = true := by simp; omega
            have HR2 := Lib.hid (resN_none (numO_none HK.out HB.out HN.out (by have := E2.out; omega)))
            clear hz hP
            go_wp2_with fail
            refine hH.mono ?_
            rintro e w' ⟨rfl, rfl⟩
            go_wp2
            go_ret2
            exact ⟨ret_is (HR.out.symm.trans HR2.out), Below.refl _ _⟩
          · have t0 : ((j : Int) == (i : Int)) = false := by simp; omega
            by_cases h59 : at0 l j = 59
            · have HR2 := Lib.hid (resN_some (x := (j : Int) + 1) (numO_semi HK.out HB.out HN.out E1.out E2.out hz h59) (by omega))
              have t1 : (((at0 l j : Nat) : Int) == 59) = true := by rw [h59]; rfl
              clear hz h59
              generalize pt (k : Int) = C at hP HR2
              go_wp2_with fail
              refine hH.mono ?_
              rintro e w' ⟨rfl, rfl⟩
              go_wp2_with fail
              refine hP.mono ?_
              rintro e w' ⟨rfl, hbp⟩
              go_wp2
              go_ret2
              exact ⟨ret_is (HR.out.symm.trans HR2.out), hbp⟩
            · have HR2 := Lib.hid (resN_some (x := (j : Int)) (numO_bare HK.out HB.out HN.out E1.out E2.out hz h59) rfl)
              have t1 : (((at0 l j : Nat) : Int) == 59) = false := by simp; omega
              clear hz h59
              generalize pt (k : Int) = C at hP HR2
              go_wp2_with fail
              refine hH.mono ?_
              rintro e w' ⟨rfl, rfl⟩
              go_wp2_with fail
              refine hP.mono ?_
              rintro e w' ⟨rfl, hbp⟩
              go_wp2
              go_ret2
              exact ⟨ret_is (HR.out.symm.trans HR2.out), hbp⟩
    · have hst : numR 10 (l.drop j) k = (k, 0) := by rw [List.drop_of_length_le (by omega)]; rfl
      have E1 := Lib.hid (show N.1 = k by rw [← H1.out, hst])
      have E2 := Lib.hid (show i + 0 + N.2 = j by rw [← H2.out, hst]; rfl)
      have hj' : ¬ ((j : Int) < (l.length : Int)) := by omega
      clear hst H1 H2
      have hP := refPoint_any (k : Int) w
      by_cases hz : j = i + 0
      · have t0 : ((j : Int) == (i : Int)) = true := by simp; omega
        have HR2 := Lib.hid (resN_none (numO_none HK.out HB.out HN.out (by have := E2.out; omega)))
        clear hz hP
        go_wp2
        go_ret2
        exact ⟨ret_is (HR.out.symm.trans HR2.out), Below.refl _ _⟩
      · have t0 : ((j : Int) == (i : Int)) = false := by simp; omega
        have h59 : at0 l j ≠ 59 := by rw [at0_out (by omega)]; decide
        have HR2 := Lib.hid (resN_some (x := (j : Int)) (numO_bare HK.out HB.out HN.out E1.out E2.out hz h59) rfl)
        clear hz h59
        generalize pt (k : Int) = C at hP HR2
        go_wp2_with fail
        refine hP.mono ?_
        rintro e w' ⟨rfl, hbp⟩
        go_wp2
        go_ret2
        exact ⟨ret_is (HR.out.symm.trans HR2.out), hbp⟩

theorem refByNumber_any (l : List UInt8) (b off cap : Nat) (i : Nat) (x : Int) (w : World) (hc : Cells l b off w) (hx0 : x = (i : Int)) (hi : i ≤ l.length) (hl : l.length ≤ 4000000000000000000) :
    Calls Tryz.prog 58 #[.slice (some ⟨b, off, none⟩) l.length cap, .int .i64 x] w fun e w' => e = .returned (resN (numO l i)) ∧ Below w.heap.size w w' := by
  subst hx0
  by_cases hin : i < l.length
  · by_cases h : at0 l i = 120
    · exact refByNumber_x l b off cap i w hc hi hl h
    · by_cases h' : at0 l i = 88
      · exact refByNumber_X l b off cap i w hc hi hl h'
      · exact refByNumber_in l b off cap i w hc hi hl hin h h'
  · exact refByNumber_out l b off cap i w hc hi hl hin
end Go.Proofs.YtndcmapifihgeaaGreatDoor

/- The reference's Read: the reference that begins at a byte. -/
namespace Go.Proofs.YtndcmapifihgeaaGreatDoor
open Go.RowKit Go.Lib
open Ch (at0 nx nx_width at0_lt at0_drop enc_len Sl Sl.below Cells ret_two Cells.drop)
open En (findL refL ref_find)

/-- a character's bytes lie in a new row -/
def EncO (c : Nat) (w : World) (e : Ending) (w' : World) : Prop :=
  ∃ cap, e = .returned (.slice (some ⟨w.heap.size, 0, none⟩) (encodeRune (c : Int)).length cap) ∧ Cells (encodeRune (c : Int)) w.heap.size 0 w' ∧ Below w.heap.size w w'

theorem enc_ok (c : Nat) (w : World) (cs : List Value) (h : runeCells (c : Int) = cs) (n : Nat) (hn : cs.length = n) : EncO c w (.returned (.slice (some ⟨w.heap.size, 0, none⟩) n n)) (w.alloc (.cells cs.toArray 5)) := by
  have hlen : (encodeRune (c : Int)).length = n := by rw [← runeCells_length, h, hn]
  refine ⟨n, by rw [hlen], fun j hj => ?_, (Below.refl _ w).alloc (Nat.le_refl _) _⟩
  rw [Nat.zero_add]
  apply row_cell
  have e : cs[j]? = some (.int .u8 ((at0 (encodeRune (c : Int)) j : Nat) : Int)) := by
    rw [← h, ← Lib.byteCells_encodeRune]
    simp [Lib.byteCells, at0, List.getD_eq_getElem?_getD, List.getElem?_eq_getElem hj]
  simpa using e

set_option maxHeartbeats 1000000 in
set_option maxRecDepth 100000 in
theorem utf_ok (c : Nat) (w : World) (hc : ok c) :
    Calls Tryz.prog 36 #[.int .i64 (c : Int)] w (EncO c w) := by
  rcases ok_cases hc with k | k | k | k
  · have h1 : (c : Int) < 128 := by omega
    have e : runeCells (c : Int) = [.int .u8 (c : Int)] := by unfold runeCells; rw [encodeRuneZ_one (by omega) (by omega)]; rfl
    have E := enc_ok c w _ e 1 rfl
    clear e hc
    go_enter Tryz.func36, Tryz.ntmps36
    go_wp2
    go_ret
    exact E
  · have h1 : ¬ (c : Int) < 128 := by omega
    have h2 : (c : Int) < 2048 := by omega
    have e : runeCells (c : Int) = [.int .u8 (192 + (c : Int) / 64), .int .u8 (128 + (c : Int) % 64)] := by unfold runeCells; rw [encodeRuneZ_two (by omega) (by omega)]; rfl
    have E := enc_ok c w _ e 2 rfl
    clear e hc
    go_enter Tryz.func36, Tryz.ntmps36
    go_wp2
    go_ret
    exact E
  · have h1 : ¬ (c : Int) < 128 := by omega
    have h2 : ¬ (c : Int) < 2048 := by omega
    have h3 : (c : Int) < 65536 := by omega
    have e : runeCells (c : Int) = [.int .u8 (224 + (c : Int) / 4096), .int .u8 (128 + (c : Int) / 64 % 64), .int .u8 (128 + (c : Int) % 64)] := by unfold runeCells; rw [encodeRuneZ_three (by omega)]; rfl
    have E := enc_ok c w _ e 3 rfl
    clear e hc
    go_enter Tryz.func36, Tryz.ntmps36
    go_wp2
    go_ret
    exact E
  · have h1 : ¬ (c : Int) < 128 := by omega
    have h2 : ¬ (c : Int) < 2048 := by omega
    have h3 : ¬ (c : Int) < 65536 := by omega
    have e : runeCells (c : Int) = [.int .u8 (240 + (c : Int) / 262144), .int .u8 (128 + (c : Int) / 4096 % 64), .int .u8 (128 + (c : Int) / 64 % 64), .int .u8 (128 + (c : Int) % 64)] := by unfold runeCells; rw [encodeRuneZ_four (by omega) (by omega)]; rfl
    have E := enc_ok c w _ e 4 rfl
    clear e hc
    go_enter Tryz.func36, Tryz.ntmps36
    go_wp2
    go_ret
    exact E

theorem numO_ok {l : List UInt8} {i : Nat} {p : Nat × Nat} (h : numO l i = some p) : ok p.1 := by
  unfold numO at h
  split at h
  · cases h
  · simp only [Option.some.injEq] at h
    rw [← h]
    exact pt_ok _

theorem goes_arms (n : Nat) : goesN n = ((((n : Int) == 61) || Kl.letterZ (n : Int)) || Kl.digitZ (n : Int)) := by
  rw [← goesZ_nat]
  unfold goesZ
  cases Kl.letterZ (n : Int) <;> cases Kl.digitZ (n : Int) <;> cases ((n : Int) == 61) <;> rfl


set_option maxHeartbeats 8000000 in
set_option maxRecDepth 100000 in
theorem refRead_num (l : List UInt8) (b off cap : Nat) (i : Nat) (attr : Bool) (w : World) (hc : Cells l b off w) (_hcap : l.length ≤ cap) (hl : l.length ≤ 4000000000000000) (c1 : at0 l i = 38) (c2 : at0 l (i + 1) = 35) :
    Calls Tryz.prog 34 #[.slice (some ⟨b, off, none⟩) l.length cap, .int .i64 (i : Int), .bool attr] w fun e w' => e = .returned (resR (rdAt l (i : Int) attr)) ∧ Below w.heap.size w w' := by
  have hi := at0_in (m := l) (j := i) (by omega)
  have hcell := hc i hi
  have g0 : ¬ ((i : Int) < 0) := by omega
  have g1 : ¬ ((l.length : Int) ≤ (i : Int)) := by omega
  have g2 : (((at0 l i : Nat) : Int) != 38) = false := by rw [c1]; rfl
  have hi2 := at0_in (m := l) (j := i + 1) (by omega)
  have hcell2 := hc (i + 1) hi2
  have g3 : (i : Int) + 1 < (l.length : Int) := by omega
  have g4 : (((at0 l (i + 1) : Nat) : Int) == 35) = true := by rw [c2]; rfl
  rw [rdAt_num c1 c2, numO_is]
  have hN := refByNumber_any l b off cap (i + 2) ((i : Int) + 2) w hc (by omega) (by omega) (by omega)
  cases hr : numO l (i + 2) with
  | none =>
    rw [hr, resN_none rfl] at hN
    rw [show Option.map (fun p : Nat × Nat => (encodeRune (p.1 : Int), p.2)) none = none from rfl, resR_none rfl]
    clear hr c1 c2
    go_enter Tryz.func34, Tryz.ntmps34
    go_wp2_with fail
    refine hN.mono ?_
    rintro e w1 ⟨rfl, hb1⟩
    go_wp2
    go_ret2
    exact ⟨rfl, hb1⟩
  | some p =>
    have hok := numO_ok hr
    obtain ⟨c, e⟩ := p
    rw [hr, resN_some rfl rfl] at hN
    rw [show Option.map (fun p : Nat × Nat => (encodeRune (p.1 : Int), p.2)) (some (c, e)) = some (encodeRune (c : Int), e) from rfl, resR_some rfl rfl]
    have HOK := Lib.hid hok
    obtain ⟨q, hq⟩ : ∃ q, encodeRune (c : Int) = q := ⟨_, rfl⟩
    rw [hq]
    have HQ := Lib.hid hq
    clear hr c1 c2 hok hq
    have g5 : ¬ ((e : Int) < 0) := by omega
    go_enter Tryz.func34, Tryz.ntmps34
    go_wp2_with fail
    refine hN.mono ?_
    rintro e1 w1 ⟨rfl, hb1⟩
    go_wp2_with fail
    refine (utf_ok c w1 HOK.out).mono ?_
    rintro e2 w2 ⟨cap2, rfl, hcs, hb2⟩
    rw [HQ.out] at hcs ⊢
    have hstr := string_cells (cap := cap2) hcs rfl
    have hz := hb1.size
    go_wp2
    go_ret2
    exact ⟨rfl, hb1.trans (hb2.mono hz)⟩

set_option maxHeartbeats 8000000 in
set_option maxRecDepth 100000 in
theorem refRead_name (l : List UInt8) (b off cap : Nat) (i : Nat) (attr : Bool) (w : World) (hc : Cells l b off w) (hcap : l.length ≤ cap) (hl : l.length ≤ 4000000000000000) (c1 : at0 l i = 38) (c2 : at0 l (i + 1) ≠ 35) (hi2 : i + 1 < l.length) :
    Calls Tryz.prog 34 #[.slice (some ⟨b, off, none⟩) l.length cap, .int .i64 (i : Int), .bool attr] w fun e w' => e = .returned (resR (rdAt l (i : Int) attr)) ∧ Below w.heap.size w w' := by
  have hi := at0_in (m := l) (j := i) (by omega)
  have hcell := hc i hi
  have g0 : ¬ ((i : Int) < 0) := by omega
  have g1 : ¬ ((l.length : Int) ≤ (i : Int)) := by omega
  have g2 : (((at0 l i : Nat) : Int) != 38) = false := by rw [c1]; rfl
  have hcell2 := hc (i + 1) hi2
  have g3 : (i : Int) + 1 < (l.length : Int) := by omega
  have g4 : (((at0 l (i + 1) : Nat) : Int) == 35) = false := by simp; omega
  have g5 : i + 1 < cap := by omega
  rw [rdAt_name c1 c2]
  obtain ⟨R, hR⟩ : ∃ R, resR (sh (i + 1) (nameM (l.drop (i + 1)) attr)) = R := ⟨_, rfl⟩
  rw [hR]
  have HR := Lib.hid hR
  clear hR
  have hlen : (l.drop (i + 1)).length = l.length - (i + 1) := by simp
  have hstr := string_cells (cap := cap - (i + 1)) (hc.drop (i + 1)) hlen
  have hFind := En.rfind_any (l.drop (i + 1)) w
  rw [ref_find] at hFind
  have hbd := findL_bd (l.drop (i + 1))
  obtain ⟨F, hF⟩ : ∃ F, findL (l.drop (i + 1)) = F := ⟨_, rfl⟩
  rw [hF] at hFind hbd
  simp only [List.length_drop] at hbd
  have HF := Lib.hid hF
  clear hF hlen
  generalize l.drop (i + 1) = T at hstr hFind
  obtain ⟨n, t⟩ := F
  simp only at hbd hFind
  by_cases hz : n = 0
  · subst hz
    have HR2 := Lib.hid (resR_none (name_none (attr := attr) HF.out rfl))
    clear hbd c1 c2
    go_enter Tryz.func34, Tryz.ntmps34
    go_wp2_with fail
    refine hFind.mono ?_
    rintro e w1 ⟨rfl, hb1⟩
    go_wp2
    go_ret2
    exact ⟨ret_is (HR.out.symm.trans HR2.out), hb1⟩
  · have hbd' : 2 ≤ n ∧ n ≤ l.length - (i + 1) := by omega
    have t0 : ((n : Int) == 0) = false := by simp; omega
    obtain ⟨P, hP⟩ : ∃ P, i + n = P := ⟨_, rfl⟩
    have hA : (i : Int) + 1 + (n : Int) = (P : Int) + 1 := by omega
    have hA2 : (P : Int) + 1 - 1 = (P : Int) := by omega
    have hPl : P < l.length := by omega
    have ePN : i + 1 + n - 1 = P := by omega
    have eEN : i + 1 + n = P + 1 := by omega
    have HEN := Lib.hid eEN
    clear hbd hP
    cases attr with
    | false =>
      have HR2 := Lib.hid (resR_some (x := (P : Int) + 1) (name_yes (attr := false) HF.out hz (Or.inl rfl)) (by omega))
      clear hz c1 c2 ePN eEN
      go_enter Tryz.func34, Tryz.ntmps34
      go_wp2_with fail
      refine hFind.mono ?_
      rintro e w1 ⟨rfl, hb1⟩
      go_wp2
      go_ret2
      exact ⟨ret_is (HR.out.symm.trans HR2.out), hb1⟩
    | true =>
      by_cases h59 : at0 l P = 59
      · have HR2 := Lib.hid (resR_some (x := (P : Int) + 1) (name_yes (attr := true) HF.out hz (Or.inr (Or.inl (by simp only [ePN]; exact h59)))) (by omega))
        have t1 : (((at0 l P : Nat) : Int) != 59) = false := by rw [h59]; rfl
        clear hz h59 c1 c2 ePN eEN
        go_enter Tryz.func34, Tryz.ntmps34
        go_wp2_with fail
        refine hFind.mono ?_
        rintro e w1 ⟨rfl, hb1⟩
        have hc1 := Ch.Cells.below hc hb1
        have hcA := hc1 P hPl
        go_wp2
        go_ret2
        exact ⟨ret_is (HR.out.symm.trans HR2.out), hb1⟩
      · have t1 : (((at0 l P : Nat) : Int) != 59) = true := by simp; omega
        by_cases hend : P + 1 < l.length
        · have t2 : (P : Int) + 1 < (l.length : Int) := by omega
          have hb8 := at0_lt l (P + 1)
          have hG := goes_arms (at0 l (P + 1))
          obtain ⟨C, hC⟩ : ∃ C, at0 l (P + 1) = C := ⟨_, rfl⟩
          rw [hC] at hG hb8
          have HL := fun w => Kl.refLetter_any (C : Int) w
          have HD := fun w => Kl.refDigit_any (C : Int) w
          cases k1 : ((C : Int) == 61)
          · cases k2 : Kl.letterZ (C : Int)
            · cases k3 : Kl.digitZ (C : Int)
              · have HR2 := Lib.hid (resR_some (x := (P : Int) + 1) (name_yes (attr := true) HF.out hz (Or.inr (Or.inr (by simp only [eEN, hC, hG, k1, k2, k3]; rfl)))) (by omega))
                have HC := Lib.hid hC
                clear hz h59 c1 c2 hG hC ePN eEN
                go_enter Tryz.func34, Tryz.ntmps34
                go_wp2_with fail
                refine hFind.mono ?_
                rintro e w1 ⟨rfl, hb1⟩
                have hc1 := Ch.Cells.below hc hb1
                have hcA := hc1 P hPl
                have hcB := hc1 (P + 1) hend
                rw [HC.out] at hcB
                have HL1 := HL w1
                have HD1 := HD w1
                rw [k2] at HL1
                rw [k3] at HD1
                clear k2 k3
                go_wp2_with fail
                refine HL1.mono ?_
                rintro e w2 ⟨rfl, rfl⟩
                go_wp2_with fail
                refine HD1.mono ?_
                rintro e w3 ⟨rfl, rfl⟩
                go_wp2
                go_ret2
                exact ⟨ret_is (HR.out.symm.trans HR2.out), hb1⟩
              · have HR2 := Lib.hid (resR_none (name_not HF.out hz (by simp only [ePN]; exact h59) (by simp only [eEN, hC, hG, k1, k2, k3]; rfl)))
                have HC := Lib.hid hC
                clear hz h59 c1 c2 hG hC ePN eEN
                go_enter Tryz.func34, Tryz.ntmps34
                go_wp2_with fail
                refine hFind.mono ?_
                rintro e w1 ⟨rfl, hb1⟩
                have hc1 := Ch.Cells.below hc hb1
                have hcA := hc1 P hPl
                have hcB := hc1 (P + 1) hend
                rw [HC.out] at hcB
                have HL1 := HL w1
                have HD1 := HD w1
                rw [k2] at HL1
                rw [k3] at HD1
                clear k2 k3
                go_wp2_with fail
                refine HL1.mono ?_
                rintro e w2 ⟨rfl, rfl⟩
                go_wp2_with fail
                refine HD1.mono ?_
                rintro e w3 ⟨rfl, rfl⟩
                go_wp2
                go_ret2
                exact ⟨ret_is (HR.out.symm.trans HR2.out), hb1⟩
            · have HR2 := Lib.hid (resR_none (name_not HF.out hz (by simp only [ePN]; exact h59) (by simp only [eEN, hC, hG, k1, k2]; rfl)))
              have HC := Lib.hid hC
              clear hz h59 c1 c2 hG hC ePN eEN
              go_enter Tryz.func34, Tryz.ntmps34
              go_wp2_with fail
              refine hFind.mono ?_
              rintro e w1 ⟨rfl, hb1⟩
              have hc1 := Ch.Cells.below hc hb1
              have hcA := hc1 P hPl
              have hcB := hc1 (P + 1) hend
              rw [HC.out] at hcB
              have HL1 := HL w1
              rw [k2] at HL1
              clear k2
              go_wp2_with fail
              refine HL1.mono ?_
              rintro e w2 ⟨rfl, rfl⟩
              go_wp2
              go_ret2
              exact ⟨ret_is (HR.out.symm.trans HR2.out), hb1⟩
          · have HR2 := Lib.hid (resR_none (name_not HF.out hz (by simp only [ePN]; exact h59) (by simp only [eEN, hC, hG, k1]; rfl)))
            have HC := Lib.hid hC
            clear hz h59 c1 c2 hG hC ePN eEN
            go_enter Tryz.func34, Tryz.ntmps34
            go_wp2_with fail
            refine hFind.mono ?_
            rintro e w1 ⟨rfl, hb1⟩
            have hc1 := Ch.Cells.below hc hb1
            have hcA := hc1 P hPl
            have hcB := hc1 (P + 1) hend
            rw [HC.out] at hcB
            go_wp2
            go_ret2
            exact ⟨ret_is (HR.out.symm.trans HR2.out), hb1⟩
        · have t2 : ¬ ((P : Int) + 1 < (l.length : Int)) := by omega
          have HR2 := Lib.hid (resR_some (x := (P : Int) + 1) (name_yes (attr := true) HF.out hz (Or.inr (Or.inr (by rw [at0_out (by simp only [eEN]; omega)]; decide)))) (by omega))
          clear hz h59 c1 c2 ePN eEN
          go_enter Tryz.func34, Tryz.ntmps34
          go_wp2_with fail
          refine hFind.mono ?_
          rintro e w1 ⟨rfl, hb1⟩
          have hc1 := Ch.Cells.below hc hb1
          have hcA := hc1 P hPl
          go_wp2
          go_ret2
          exact ⟨ret_is (HR.out.symm.trans HR2.out), hb1⟩

set_option maxHeartbeats 8000000 in
set_option maxRecDepth 100000 in
theorem refRead_end (l : List UInt8) (b off cap : Nat) (i : Nat) (attr : Bool) (w : World) (hc : Cells l b off w) (hcap : l.length ≤ cap) (hl : l.length ≤ 4000000000000000) (c1 : at0 l i = 38) (c2 : at0 l (i + 1) ≠ 35) (hi2 : ¬ i + 1 < l.length) :
    Calls Tryz.prog 34 #[.slice (some ⟨b, off, none⟩) l.length cap, .int .i64 (i : Int), .bool attr] w fun e w' => e = .returned (resR (rdAt l (i : Int) attr)) ∧ Below w.heap.size w w' := by
  have hi := at0_in (m := l) (j := i) (by omega)
  have hcell := hc i hi
  have g0 : ¬ ((i : Int) < 0) := by omega
  have g1 : ¬ ((l.length : Int) ≤ (i : Int)) := by omega
  have g2 : (((at0 l i : Nat) : Int) != 38) = false := by rw [c1]; rfl
  have g3 : ¬ ((i : Int) + 1 < (l.length : Int)) := by omega
  have hd : l.drop (i + 1) = [] := List.drop_of_length_le (by omega)
  rw [rdAt_name c1 c2, hd, show sh (i + 1) (nameM [] attr) = none from rfl, resR_none rfl]
  have hFind := En.rfind_any [] w
  rw [ref_find, show findL [] = (0, []) from rfl] at hFind
  have hle : l.length - (i + 1) = 0 := by omega
  have hup : i + 1 ≤ l.length := by omega
  by_cases g5 : i + 1 < cap
  · have hstr := string_cells (t := []) (b := b) (off := off + (i + 1)) (n := l.length - (i + 1)) (cap := cap - (i + 1)) (w := w) (fun j hj => absurd hj (by simp)) (by simp; omega)
    clear c1 c2 hd hle
    go_enter Tryz.func34, Tryz.ntmps34
    go_wp2_with fail
    refine hFind.mono ?_
    rintro e w1 ⟨rfl, hb1⟩
    go_wp2
    go_ret2
    exact ⟨rfl, hb1⟩
  · obtain rfl : cap = i + 1 := by omega
    have hstr := string_cells (t := []) (b := b) (off := off) (n := 0) (cap := 0) (w := w) (fun j hj => absurd hj (by simp)) rfl
    clear c1 c2 hd hle g5
    go_enter Tryz.func34, Tryz.ntmps34
    go_wp2_with fail
    refine hFind.mono ?_
    rintro e w1 ⟨rfl, hb1⟩
    go_wp2
    go_ret2
    exact ⟨rfl, hb1⟩

set_option maxHeartbeats 1000000 in
set_option maxRecDepth 100000 in
theorem refRead_out (l : List UInt8) (a : Option Addr) (cap : Nat) (x : Int) (attr : Bool) (w : World) (hx : ¬ (0 ≤ x ∧ x < (l.length : Int))) :
    Calls Tryz.prog 34 #[.slice a l.length cap, .int .i64 x, .bool attr] w fun e w' => e = .returned (resR (rdAt l x attr)) ∧ Below w.heap.size w w' := by
  rw [rdAt_out hx, resR_none rfl]
  by_cases h0 : x < 0
  · go_enter Tryz.func34, Tryz.ntmps34
    go_wp2
    go_ret2
    exact ⟨rfl, Below.refl _ _⟩
  · have h1 : (l.length : Int) ≤ x := by omega
    have h0' : (0 : Int) ≤ x := by omega
    clear hx h0
    go_enter Tryz.func34, Tryz.ntmps34
    go_wp2
    go_ret2
    exact ⟨rfl, Below.refl _ _⟩

set_option maxHeartbeats 1000000 in
set_option maxRecDepth 100000 in
theorem refRead_no (l : List UInt8) (b off cap : Nat) (i : Nat) (attr : Bool) (w : World) (hc : Cells l b off w) (hi : i < l.length) (c1 : at0 l i ≠ 38) :
    Calls Tryz.prog 34 #[.slice (some ⟨b, off, none⟩) l.length cap, .int .i64 (i : Int), .bool attr] w fun e w' => e = .returned (resR (rdAt l (i : Int) attr)) ∧ Below w.heap.size w w' := by
  rw [rdAt_no c1, resR_none rfl]
  have hcell := hc i hi
  have g0 : ¬ ((i : Int) < 0) := by omega
  have g1 : ¬ ((l.length : Int) ≤ (i : Int)) := by omega
  have g2 : (((at0 l i : Nat) : Int) != 38) = true := by simp; omega
  clear c1
  go_enter Tryz.func34, Tryz.ntmps34
  go_wp2
  go_ret2
  exact ⟨rfl, Below.refl _ _⟩

theorem refRead_any (l : List UInt8) (a : Option Addr) (cap : Nat) (x : Int) (attr : Bool) (w : World) (hs : Sl l a cap w) (hl : l.length ≤ 4000000000000000) :
    Calls Tryz.prog 34 #[.slice a l.length cap, .int .i64 x, .bool attr] w fun e w' => e = .returned (resR (rdAt l x attr)) ∧ Below w.heap.size w w' := by
  by_cases hx : 0 ≤ x ∧ x < (l.length : Int)
  · obtain ⟨i, rfl⟩ : ∃ i : Nat, x = i := ⟨x.toNat, by omega⟩
    obtain ⟨hcap, h2 | ⟨b, off, rfl, hc⟩⟩ := hs
    · subst h2; simp at hx; omega
    · by_cases c1 : at0 l i = 38
      · by_cases c2 : at0 l (i + 1) = 35
        · exact refRead_num l b off cap i attr w hc hcap hl c1 c2
        · by_cases hi2 : i + 1 < l.length
          · exact refRead_name l b off cap i attr w hc hcap hl c1 c2 hi2
          · exact refRead_end l b off cap i attr w hc hcap hl c1 c2 hi2
      · exact refRead_no l b off cap i attr w hc (by omega) c1
  · exact refRead_out l a cap x attr w hx
end Go.Proofs.YtndcmapifihgeaaGreatDoor
