/- The reference's ends and End, walked. -/
import Derived.Test.YtpamdilmoakflaaEn
namespace Go.Proofs.Ytpamdilmoakflaa
open Go.RowKit Go.Lib

variable {l m p : List UInt8} {a : Option Addr} {cap i b off : Nat} {w w' : World}

/-- the reference's tests, in their order -/
theorem isE_ref (n m : List UInt8) (h : n.length + 2 < m.length) : isE (fr n) m = (decide (at0 m 0 = 60) && (decide (at0 m 1 = 47) && (decide (smallL ((m.drop 2).take n.length) = n) && endN (at0 m (n.length + 2))))) := by
  unfold isE
  rw [fr_length, decide_eq_true h, Bool.true_and]
  match m, h with
  | c :: d :: r, _ =>
    have e : (smallL ((c :: d :: r).take (n.length + 2)) = fr n) ↔ (at0 (c :: d :: r) 0 = 60 ∧ at0 (c :: d :: r) 1 = 47 ∧ smallL (r.take n.length) = n) := by
      have e0 : at0 (c :: d :: r) 0 = c.toNat := rfl
      have e1 : at0 (c :: d :: r) 1 = d.toNat := rfl
      rw [e0, e1]
      show lowB c :: lowB d :: smallL (r.take n.length) = 60 :: 47 :: n ↔ _
      simp only [List.cons.injEq]
      constructor
      · rintro ⟨h1, h2, h3⟩
        exact ⟨lowB_eq (by rw [h1]; rfl) (by decide), lowB_eq (by rw [h2]; rfl) (by decide), h3⟩
      · rintro ⟨h1, h2, h3⟩
        have : c = 60 := UInt8.toNat_inj.1 h1
        have : d = 47 := UInt8.toNat_inj.1 h2
        subst c; subst d
        exact ⟨rfl, rfl, h3⟩
    have e2 : decide (smallL ((c :: d :: r).take (n.length + 2)) = fr n) = (decide (at0 (c :: d :: r) 0 = 60) && (decide (at0 (c :: d :: r) 1 = 47) && decide (smallL (((c :: d :: r).drop 2).take n.length) = n))) := by
      rw [Bool.eq_iff_iff]
      simp only [Bool.and_eq_true, decide_eq_true_eq]
      exact e
    rw [e2]
    simp only [Bool.and_assoc]
theorem isE_short {n m : List UInt8} (h : ¬ n.length + 2 < m.length) : isE (fr n) m = false := by
  unfold isE
  rw [fr_length, decide_eq_false h]
  rfl

theorem endN_tests (c : Nat) : endN c = (c == 9 || (c == 10 || (c == 12 || (c == 13 || (c == 32 || (c == 47 || c == 62)))))) := by
  unfold endN blankN
  rw [Bool.eq_iff_iff]
  simp only [Bool.or_eq_true, beq_iff_eq]
  omega

set_option maxHeartbeats 4000000 in
set_option maxRecDepth 100000 in
theorem refEnds_long (n : List UInt8) (i : Nat) (w : World) (hc : Cells l b off w) (hcap : l.length ≤ cap) (hi : i + 2 + n.length < l.length) (hl : l.length ≤ 1000000) :
    Calls Try.prog 12 #[.slice (some ⟨b, off, none⟩) l.length cap, .int .i64 (i : Int), .string ⟨n.toArray⟩] w fun e w' => e = .returned (.bool (isE (fr n) (l.drop i))) ∧ Below w.heap.size w w' := by
  have hR := isE_ref n (l.drop i) (by rw [List.length_drop]; omega)
  rw [at0_drop, at0_drop, at0_drop, List.drop_drop] at hR
  rw [show i + (n.length + 2) = i + 2 + n.length by omega] at hR
  rw [hR]
  clear hR
  have c0 := hc i (by omega)
  have c1 := hc (i + 1) (by omega)
  have hx := string_cells (cap := cap - (i + 2)) ((hc.drop (i + 2)).take n.length) (n := n.length) (by rw [List.length_take, List.length_drop]; omega)
  have b0 := at0_lt l i
  have b1 := at0_lt l (i + 1)
  have HC := Lib.hid hc
  have hns := str_size n
  rw [Nat.add_zero]
  have cS := refSmall_any ((l.drop (i + 2)).take n.length) w (by rw [List.length_take]; omega)
  generalize (l.drop (i + 2)).take n.length = t at hx cS ⊢
  have g1 : ¬ ((l.length : Int) ≤ (i : Int) + 2 + (n.length : Int)) := by omega
  have g2 : i + 2 + n.length ≤ cap := by omega
  by_cases t0 : at0 l i = 60
  · rw [t0] at c0
    rw [decide_eq_true t0, Bool.true_and]
    by_cases t1 : at0 l (i + 1) = 47
    · rw [t1] at c1
      rw [decide_eq_true t1, Bool.true_and]
      by_cases t2 : smallL t = n
      · rw [decide_eq_true t2, Bool.true_and]
        rw [t2] at cS
        have hbd := at0_lt l (i + 2 + n.length)
        obtain ⟨c, hcc⟩ : ∃ c, at0 l (i + 2 + n.length) = c := ⟨_, rfl⟩
        have HCC := Lib.hid hcc
        rw [hcc] at hbd ⊢
        clear hcc t0 t1 t2 hc b0 b1
        rw [endN_tests]
        by_cases q0 : c = 9
        · have HE := Lib.hid (show true = (c == 9 || (c == 10 || (c == 12 || (c == 13 || (c == 32 || (c == 47 || c == 62)))))) by subst q0; rfl)
          generalize (c == 9 || (c == 10 || (c == 12 || (c == 13 || (c == 32 || (c == 47 || c == 62)))))) = E at HE ⊢
          have z0 : ((c : Int) == 9) = true := by simp; omega
          go_enter Try.func12, Try.ntmps12
          go_wp2_with fail
          refine cS.mono ?_
          rintro e w1 ⟨rfl, hb⟩
          have hcell := (HC.out.below hb) (i + 2 + n.length) hi
          rw [HCC.out] at hcell
          go_wp2
          go_ret
          exact ⟨ret_bool HE.out, hb⟩
        have z0 : ((c : Int) == 9) = false := by simp; omega
        by_cases q1 : c = 10
        · have HE := Lib.hid (show true = (c == 9 || (c == 10 || (c == 12 || (c == 13 || (c == 32 || (c == 47 || c == 62)))))) by subst q1; rfl)
          generalize (c == 9 || (c == 10 || (c == 12 || (c == 13 || (c == 32 || (c == 47 || c == 62)))))) = E at HE ⊢
          have z1 : ((c : Int) == 10) = true := by simp; omega
          go_enter Try.func12, Try.ntmps12
          go_wp2_with fail
          refine cS.mono ?_
          rintro e w1 ⟨rfl, hb⟩
          have hcell := (HC.out.below hb) (i + 2 + n.length) hi
          rw [HCC.out] at hcell
          go_wp2
          go_ret
          exact ⟨ret_bool HE.out, hb⟩
        have z1 : ((c : Int) == 10) = false := by simp; omega
        by_cases q2 : c = 12
        · have HE := Lib.hid (show true = (c == 9 || (c == 10 || (c == 12 || (c == 13 || (c == 32 || (c == 47 || c == 62)))))) by subst q2; rfl)
          generalize (c == 9 || (c == 10 || (c == 12 || (c == 13 || (c == 32 || (c == 47 || c == 62)))))) = E at HE ⊢
          have z2 : ((c : Int) == 12) = true := by simp; omega
          go_enter Try.func12, Try.ntmps12
          go_wp2_with fail
          refine cS.mono ?_
          rintro e w1 ⟨rfl, hb⟩
          have hcell := (HC.out.below hb) (i + 2 + n.length) hi
          rw [HCC.out] at hcell
          go_wp2
          go_ret
          exact ⟨ret_bool HE.out, hb⟩
        have z2 : ((c : Int) == 12) = false := by simp; omega
        by_cases q3 : c = 13
        · have HE := Lib.hid (show true = (c == 9 || (c == 10 || (c == 12 || (c == 13 || (c == 32 || (c == 47 || c == 62)))))) by subst q3; rfl)
          generalize (c == 9 || (c == 10 || (c == 12 || (c == 13 || (c == 32 || (c == 47 || c == 62)))))) = E at HE ⊢
          have z3 : ((c : Int) == 13) = true := by simp; omega
          go_enter Try.func12, Try.ntmps12
          go_wp2_with fail
          refine cS.mono ?_
          rintro e w1 ⟨rfl, hb⟩
          have hcell := (HC.out.below hb) (i + 2 + n.length) hi
          rw [HCC.out] at hcell
          go_wp2
          go_ret
          exact ⟨ret_bool HE.out, hb⟩
        have z3 : ((c : Int) == 13) = false := by simp; omega
        by_cases q4 : c = 32
        · have HE := Lib.hid (show true = (c == 9 || (c == 10 || (c == 12 || (c == 13 || (c == 32 || (c == 47 || c == 62)))))) by subst q4; rfl)
          generalize (c == 9 || (c == 10 || (c == 12 || (c == 13 || (c == 32 || (c == 47 || c == 62)))))) = E at HE ⊢
          have z4 : ((c : Int) == 32) = true := by simp; omega
          go_enter Try.func12, Try.ntmps12
          go_wp2_with fail
          refine cS.mono ?_
          rintro e w1 ⟨rfl, hb⟩
          have hcell := (HC.out.below hb) (i + 2 + n.length) hi
          rw [HCC.out] at hcell
          go_wp2
          go_ret
          exact ⟨ret_bool HE.out, hb⟩
        have z4 : ((c : Int) == 32) = false := by simp; omega
        by_cases q5 : c = 47
        · have HE := Lib.hid (show true = (c == 9 || (c == 10 || (c == 12 || (c == 13 || (c == 32 || (c == 47 || c == 62)))))) by subst q5; rfl)
          generalize (c == 9 || (c == 10 || (c == 12 || (c == 13 || (c == 32 || (c == 47 || c == 62)))))) = E at HE ⊢
          have z5 : ((c : Int) == 47) = true := by simp; omega
          go_enter Try.func12, Try.ntmps12
          go_wp2_with fail
          refine cS.mono ?_
          rintro e w1 ⟨rfl, hb⟩
          have hcell := (HC.out.below hb) (i + 2 + n.length) hi
          rw [HCC.out] at hcell
          go_wp2
          go_ret
          exact ⟨ret_bool HE.out, hb⟩
        have z5 : ((c : Int) == 47) = false := by simp; omega
        by_cases q6 : c = 62
        · have HE := Lib.hid (show true = (c == 9 || (c == 10 || (c == 12 || (c == 13 || (c == 32 || (c == 47 || c == 62)))))) by subst q6; rfl)
          generalize (c == 9 || (c == 10 || (c == 12 || (c == 13 || (c == 32 || (c == 47 || c == 62)))))) = E at HE ⊢
          have z6 : ((c : Int) == 62) = true := by simp; omega
          go_enter Try.func12, Try.ntmps12
          go_wp2_with fail
          refine cS.mono ?_
          rintro e w1 ⟨rfl, hb⟩
          have hcell := (HC.out.below hb) (i + 2 + n.length) hi
          rw [HCC.out] at hcell
          go_wp2
          go_ret
          exact ⟨ret_bool HE.out, hb⟩
        have z6 : ((c : Int) == 62) = false := by simp; omega
        have HE := Lib.hid (show false = (c == 9 || (c == 10 || (c == 12 || (c == 13 || (c == 32 || (c == 47 || c == 62)))))) by
          rw [eq_comm]; simp only [Bool.or_eq_false_iff, beq_eq_false_iff_ne, ne_eq]; exact ⟨q0, q1, q2, q3, q4, q5, q6⟩)
        generalize (c == 9 || (c == 10 || (c == 12 || (c == 13 || (c == 32 || (c == 47 || c == 62)))))) = E at HE ⊢
        clear q0 q1 q2 q3 q4 q5 q6
        go_enter Try.func12, Try.ntmps12
        go_wp2_with fail
        refine cS.mono ?_
        rintro e w1 ⟨rfl, hb⟩
        have hcell := (HC.out.below hb) (i + 2 + n.length) hi
        rw [HCC.out] at hcell
        go_wp2
        go_ret
        exact ⟨ret_bool HE.out, hb⟩
      · rw [decide_eq_false t2, Bool.false_and]
        have e2 : (smallL t == n) = false := beq_eq_false_iff_ne.2 t2
        generalize smallL t = S at cS e2
        clear t0 t1 t2 hc b0 b1
        go_enter Try.func12, Try.ntmps12
        go_wp2_with fail
        refine cS.mono ?_
        rintro e w1 ⟨rfl, hb⟩
        go_wp2
        go_ret
        exact ⟨rfl, hb⟩
    · have e1 : ((at0 l (i + 1) : Nat) : Int) ≠ 47 := by omega
      rw [decide_eq_false t1, Bool.false_and]
      generalize at0 l (i + 1) = y at c1 e1 b1
      have z1 : ((y : Int) != 47) = true := by simp; omega
      clear t0 t1 hc b0 cS hx e1
      go_enter Try.func12, Try.ntmps12
      go_wp2
      go_ret
      exact ⟨rfl, Below.refl _ _⟩
  · have e1 : ((at0 l i : Nat) : Int) ≠ 60 := by omega
    rw [decide_eq_false t0, Bool.false_and]
    generalize at0 l i = y at c0 e1 b0
    have z1 : ((y : Int) != 60) = true := by simp; omega
    clear t0 hc b1 cS hx e1 c1
    go_enter Try.func12, Try.ntmps12
    go_wp2
    go_ret
    exact ⟨rfl, Below.refl _ _⟩

set_option maxHeartbeats 1000000 in
set_option maxRecDepth 100000 in
theorem refEnds_short (n : List UInt8) (i k : Nat) (a : Option Addr) (w : World) (hi : k ≤ i + 2 + n.length) (hi2 : i ≤ 1000000) (hln : n.length ≤ 100000) :
    Calls Try.prog 12 #[.slice a k cap, .int .i64 (i : Int), .string ⟨n.toArray⟩] w fun e w' => e = .returned (.bool false) ∧ Below w.heap.size w w' := by
  have g1 : (k : Int) ≤ (i : Int) + 2 + (n.length : Int) := by omega
  have hns := str_size n
  go_enter Try.func12, Try.ntmps12
  go_wp2
  go_ret
  exact ⟨rfl, Below.refl _ _⟩

theorem refEnds_any (n : List UInt8) (i : Nat) (w : World) (hs : Sl l a cap w) (hi : i < l.length) (hl : l.length ≤ 1000000) (hln : n.length ≤ 100000) :
    Calls Try.prog 12 #[.slice a l.length cap, .int .i64 (i : Int), .string ⟨n.toArray⟩] w fun e w' => e = .returned (.bool (isE (fr n) (l.drop i))) ∧ Below w.heap.size w w' := by
  by_cases h : i + 2 + n.length < l.length
  · obtain ⟨hcap, h2 | ⟨b, off, rfl, hc⟩⟩ := hs
    · rw [h2] at hi; simp at hi
    · exact refEnds_long n i w hc hcap h hl
  · rw [isE_short (by rw [List.length_drop]; omega)]
    exact refEnds_short n i l.length a w (by omega) (by omega) hln

/-- where the loop stands -/
def ReRel (n l : List UInt8) (w : World) (v1 : Value) (N : Nat) (wr : World) : Prop :=
  ∃ k : Nat, v1 = .int .i64 (k : Int) ∧ k ≤ l.length ∧ ed n l k = N ∧ Below w.heap.size w wr

set_option maxHeartbeats 4000000 in
set_option maxRecDepth 100000 in
/-- the reference's End, from any byte on -/
theorem refEnd_any (n : List UInt8) (i : Nat) (w : World) (hs : Sl l a cap w) (hi : i ≤ l.length) (hl : l.length ≤ 1000000) (hln : n.length ≤ 100000) :
    Calls Try.prog 8 #[.slice a l.length cap, .int .i64 (i : Int), .string ⟨n.toArray⟩] w fun e w' => e = .returned (.int .i64 ((ed n l i : Nat) : Int)) ∧ Below w.heap.size w w' := by
  have cK := refKind_any n w
  by_cases h0 : kdN n = 0
  · rw [h0] at cK
    rw [show ed n l i = i by unfold ed; rw [if_pos h0]]
    clear h0
    go_enter Try.func8, Try.ntmps8
    go_wp2_with fail
    refine cK.mono ?_
    rintro e w1 ⟨rfl, hb⟩
    go_wp2
    go_ret
    exact ⟨rfl, hb⟩
  · obtain ⟨N, hN⟩ : ∃ N, ed n l i = N := ⟨_, rfl⟩
    rw [hN]
    have HN := Lib.hid hN
    have HS := Lib.hid hs
    have hk3 := kdN_le n
    clear hN hs
    by_cases h3 : kdN n = 3
    · rw [h3] at cK
      have HE := Lib.hid (show ∀ k, ed n l k = l.length from fun k => by unfold ed; rw [if_neg h0, if_pos h3])
      clear h0 h3 hk3
      go_enter Try.func8, Try.ntmps8
      go_wp2_with fail
      refine cK.mono ?_
      rintro e w1 ⟨rfl, hb⟩
      have HB := Lib.hid hb
      clear hb
      go_wp2
      go_loopw [1] (fun v wr => ReRel n l w v N wr) (fun v _ => l.length - (RowKit.intOf v).toNat)
      case atStart => exact ⟨i, rfl, hi, HN.out, HB.out⟩
      case round =>
        clear HB
        obtain ⟨k, rfl, hk, hN, hbw⟩ := hrel
        have HBW := Lib.hid hbw
        have HK := Lib.hid hN
        clear hbw hN
        by_cases hlt : k < l.length
        · have hlt' : (k : Int) < (l.length : Int) := by omega
          go_wp2
          go_roundw
          case rel => exact ⟨k + 1, by go_num, by omega, by rw [← HK.out, HE.out, HE.out], HBW.out⟩
          case measure => simp [RowKit.intOf]; omega
        · have hlt' : ¬ ((k : Int) < (l.length : Int)) := by omega
          have HF := Lib.hid (show k = N by rw [← HK.out, HE.out]; omega)
          go_wp2
          go_ret
          exact ⟨ret_int (by rw [HF.out]), HBW.out⟩
    · have HE := Lib.hid (show ∀ k, ed n l k = k + fe (fr n) (l.drop k) from fun k => by unfold ed; rw [if_neg h0, if_neg h3])
      generalize kdN n = K at cK h0 h3 hk3
      have k0 : ((K : Int) == 0) = false := by simp; omega
      have k3 : ((K : Int) == 3) = false := by simp; omega
      clear h0 h3
      go_enter Try.func8, Try.ntmps8
      go_wp2_with fail
      refine cK.mono ?_
      rintro e w1 ⟨rfl, hb⟩
      have HB := Lib.hid hb
      clear hb
      go_wp2
      go_loopw [1] (fun v wr => ReRel n l w v N wr) (fun v _ => l.length - (RowKit.intOf v).toNat)
      case atStart => exact ⟨i, rfl, hi, HN.out, HB.out⟩
      case round =>
        clear HB
        obtain ⟨k, rfl, hk, hN, hbw⟩ := hrel
        have HBW := Lib.hid hbw
        have HK := Lib.hid hN
        have hsz := hbw.size
        by_cases hlt : k < l.length
        · have hlt' : (k : Int) < (l.length : Int) := by omega
          have cE := refEnds_any n k wr (HS.out.below hbw) hlt hl hln
          have hst := fe_at (p := fr n) hlt
          cases hE : isE (fr n) (l.drop k) with
          | true =>
            rw [hE] at cE hst
            rw [if_pos rfl] at hst
            have HF := Lib.hid (show k = N by rw [← HK.out, HE.out]; omega)
            clear hst hE hbw hN
            go_wp2_with fail
            refine cE.mono ?_
            rintro e w2 ⟨rfl, hb2⟩
            go_wp2
            go_ret
            exact ⟨ret_int (by rw [HF.out]), HBW.out.trans (hb2.mono hsz)⟩
          | false =>
            rw [hE] at cE hst
            rw [if_neg (by decide)] at hst
            have HF := Lib.hid (show ed n l (k + 1) = N by rw [← HK.out, HE.out, HE.out]; omega)
            clear hst hE hbw hN
            go_wp2_with fail
            refine cE.mono ?_
            rintro e w2 ⟨rfl, hb2⟩
            go_wp2
            go_roundw
            case rel => exact ⟨k + 1, by go_num, by omega, HF.out, HBW.out.trans (hb2.mono hsz)⟩
            case measure => simp [RowKit.intOf]; omega
        · have hlt' : ¬ ((k : Int) < (l.length : Int)) := by omega
          have HF := Lib.hid (show k = N by
            rw [← HK.out, HE.out, List.drop_of_length_le (by omega)]
            rfl)
          clear hbw hN
          go_wp2
          go_ret
          exact ⟨ret_int (by rw [HF.out]), HBW.out⟩
end Go.Proofs.Ytpamdilmoakflaa
