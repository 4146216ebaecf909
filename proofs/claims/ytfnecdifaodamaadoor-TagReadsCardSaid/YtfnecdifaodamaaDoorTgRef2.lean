/- The reference's char, letter, Begins and value, walked. -/
import Derived.Test.YtfnecdifaodamaaDoorTgRef
namespace Go.Proofs.YtfnecdifaodamaaDoor.Tg
open Go.RowKit Go.Lib
open Ch (at0 nx nx_width nx_range at0_lt at0_drop enc_len Sl Sl.below Cells ret_str good nx_good nxAt nxAt_in nxAt_out refNext_any ret_bool)
open Kl (blankN greatN refLower_any refLetter_any lowerZ letterZ)

variable {l : List UInt8} {a : Option Addr} {cap : Nat} {w w' : World}

set_option maxHeartbeats 1000000 in
set_option maxRecDepth 100000 in
theorem rchar_any (i : Nat) (w : World) (hs : Sl l a cap w) (hi : i ≤ l.length) (hlen : l.length ≤ 1000000) : Calls Tryd.prog 43 #[.slice a l.length cap, .int .i64 (i : Int)] w fun e w' => e = .returned (.int .i64 ((hd (l.drop i) : Nat) : Int)) ∧ w = w' := by
  have cN := refNext_any l a cap (i : Int) w hs (by omega)
  rw [nxAt_hd l i hi] at cN
  generalize hd (l.drop i) = C at cN ⊢
  generalize wd (l.drop i) = D at cN
  go_enter Tryd.func43, Tryd.ntmps43
  go_wp2_with fail
  refine cN.mono ?_
  rintro e w1 ⟨rfl, rfl⟩
  go_wp2
  go_ret
  exact ⟨rfl, rfl⟩

theorem letterZ_nat' (c : Nat) : letterZ (c : Int) = letN c := by
  unfold letterZ letN
  rw [Kl.smallZ_nat, Kl.greatZ_nat]
  rfl

set_option maxHeartbeats 1000000 in
set_option maxRecDepth 100000 in
theorem rletter_any (i : Nat) (w : World) (hs : Sl l a cap w) (hlen : l.length ≤ 1000000) : Calls Tryd.prog 19 #[.slice a l.length cap, .int .i64 (i : Int)] w fun e w' => e = .returned (.bool (letN (at0 l i))) ∧ w = w' := by
  by_cases h : i < l.length
  · obtain ⟨hcap, h2 | ⟨b, off, rfl, hc⟩⟩ := hs
    · subst h2; simp at h
    · have c1 := hc i h
      have h1 : (i : Int) < (l.length : Int) := by omega
      have cL := refLetter_any ((at0 l i : Nat) : Int) w
      rw [letterZ_nat'] at cL
      have hb := at0_lt l i
      generalize letN (at0 l i) = Z at cL ⊢
      generalize at0 l i = C at c1 cL hb
      go_enter Tryd.func19, Tryd.ntmps19
      go_wp2_with fail
      refine cL.mono ?_
      rintro e w1 ⟨rfl, rfl⟩
      go_wp2
      go_ret
      exact ⟨rfl, rfl⟩
  · have h1 : ¬ ((i : Int) < (l.length : Int)) := by omega
    rw [at0_out (by omega)]
    go_enter Tryd.func19, Tryd.ntmps19
    go_wp2
    go_ret
    exact ⟨rfl, rfl⟩

theorem bg_at' (l : List UInt8) (i : Nat) (h : i < l.length) : bgAt l (i : Int) = (if at0 l i = 60 then (if letN (at0 l (i + 1)) = true then 1 else if at0 l (i + 1) = 47 ∧ letN (at0 l (i + 2)) = true then 2 else 0) else 0) := by
  have hbg : bgAt l (i : Int) = bg (l.drop i) := if_pos (by omega)
  have d0 : at0 (l.drop i) 0 = at0 l i := by rw [at0_drop]; rfl
  have d1 : at0 (l.drop i) 1 = at0 l (i + 1) := at0_drop _ _ _
  have d2 : at0 (l.drop i) 2 = at0 l (i + 2) := at0_drop _ _ _
  rw [hbg]
  unfold bg
  rw [d0, d1, d2]

set_option maxHeartbeats 2000000 in
set_option maxRecDepth 100000 in
theorem rbegins_any (x : Int) (w : World) (hs : Sl l a cap w) (hlen : l.length ≤ 1000000) : Calls Tryd.prog 9 #[.slice a l.length cap, .int .i64 x] w fun e w' => e = .returned (.int .i64 ((bgAt l x : Nat) : Int)) ∧ w = w' := by
  by_cases h : 0 ≤ x ∧ x < (l.length : Int)
  · obtain ⟨i, rfl⟩ : ∃ i : Nat, x = i := ⟨x.toNat, by omega⟩
    have hbg := bg_at' l i (by omega)
    have hil : i < 1000000 := by omega
    have g0 : ¬ ((i : Int) < 0) := by omega
    have g1 : (i : Int) < (l.length : Int) := h.2
    have c1 : Calls Tryd.prog 19 #[.slice a l.length cap, .int .i64 ((i : Int) + 1)] w _ := rletter_any (i + 1) w hs hlen
    have c2 : Calls Tryd.prog 19 #[.slice a l.length cap, .int .i64 ((i : Int) + 2)] w _ := rletter_any (i + 2) w hs hlen
    obtain ⟨hcap, h2 | ⟨b, off, rfl, hc⟩⟩ := hs
    · subst h2; simp at h; omega
    · have e0 := hc i (by omega)
      by_cases t0 : at0 l i = 60
      · rw [if_pos t0] at hbg
        have u0 : (((at0 l i : Nat) : Int) != 60) = false := by simp [t0]
        cases t1 : letN (at0 l (i + 1)) with
        | true =>
          rw [t1] at c1 hbg
          rw [if_pos rfl] at hbg
          rw [hbg]
          generalize at0 l i = C at e0 u0
          clear hbg t0 t1 c2 h hc
          go_enter Tryd.func9, Tryd.ntmps9
          go_wp2_with fail
          refine c1.mono ?_
          rintro e w1 ⟨rfl, rfl⟩
          go_wp2
          go_ret
          exact ⟨rfl, rfl⟩
        | false =>
          rw [t1] at c1 hbg
          simp only [Bool.false_eq_true, if_false] at hbg
          by_cases h1 : i + 1 < l.length
          · have g2 : (i : Int) + 1 < (l.length : Int) := by omega
            have e1 : w.cell? ⟨b, off + (i + 1), none⟩ = some (.int .u8 ((at0 l (i + 1) : Nat) : Int)) := hc (i + 1) h1
            by_cases t2 : at0 l (i + 1) = 47
            · have u2 : (((at0 l (i + 1) : Nat) : Int) == 47) = true := by simp [t2]
              simp only [t2, true_and] at hbg
              cases t3 : letN (at0 l (i + 2)) with
              | true =>
                rw [t3] at c2 hbg
                rw [if_pos rfl] at hbg
                rw [hbg]
                generalize at0 l i = C at e0 u0
                generalize at0 l (i + 1) = C1 at e1 u2
                clear hbg t0 t1 t2 t3 h hc
                go_enter Tryd.func9, Tryd.ntmps9
                go_wp2_with fail
                refine c1.mono ?_
                rintro e w1 ⟨rfl, rfl⟩
                go_wp2_with fail
                refine c2.mono ?_
                rintro e w1 ⟨rfl, rfl⟩
                go_wp2
                go_ret
                exact ⟨rfl, rfl⟩
              | false =>
                rw [t3] at c2 hbg
                simp only [Bool.false_eq_true, if_false] at hbg
                rw [hbg]
                generalize at0 l i = C at e0 u0
                generalize at0 l (i + 1) = C1 at e1 u2
                clear hbg t0 t1 t2 t3 h hc
                go_enter Tryd.func9, Tryd.ntmps9
                go_wp2_with fail
                refine c1.mono ?_
                rintro e w1 ⟨rfl, rfl⟩
                go_wp2_with fail
                refine c2.mono ?_
                rintro e w1 ⟨rfl, rfl⟩
                go_wp2
                go_ret
                exact ⟨rfl, rfl⟩
            · have u2 : (((at0 l (i + 1) : Nat) : Int) == 47) = false := by simp; omega
              simp only [t2, false_and, if_false] at hbg
              rw [hbg]
              generalize at0 l i = C at e0 u0
              generalize at0 l (i + 1) = C1 at e1 u2
              clear hbg t0 t1 t2 h hc c2
              go_enter Tryd.func9, Tryd.ntmps9
              go_wp2_with fail
              refine c1.mono ?_
              rintro e w1 ⟨rfl, rfl⟩
              go_wp2
              go_ret
              exact ⟨rfl, rfl⟩
          · have g2 : ¬ ((i : Int) + 1 < (l.length : Int)) := by omega
            have hz : at0 l (i + 1) = 0 := at0_out (by omega)
            simp only [hz, show ¬ ((0 : Nat) = 47) by decide, false_and, if_false] at hbg
            rw [hbg]
            generalize at0 l i = C at e0 u0
            clear hbg t0 t1 hz h hc c2
            go_enter Tryd.func9, Tryd.ntmps9
            go_wp2_with fail
            refine c1.mono ?_
            rintro e w1 ⟨rfl, rfl⟩
            go_wp2
            go_ret
            exact ⟨rfl, rfl⟩
      · rw [if_neg t0] at hbg
        have u0 : (((at0 l i : Nat) : Int) != 60) = true := by simp; omega
        rw [hbg]
        generalize at0 l i = C at e0 u0
        clear hbg t0 h hc c1 c2
        go_enter Tryd.func9, Tryd.ntmps9
        go_wp2
        go_ret
        exact ⟨rfl, rfl⟩
  · have hb : bgAt l x = 0 := if_neg h
    rw [hb]
    clear hb
    by_cases h0 : x < 0
    · go_enter Tryd.func9, Tryd.ntmps9
      go_wp2
      go_ret
      exact ⟨rfl, rfl⟩
    · have h1 : ¬ (x < (l.length : Int)) := by omega
      go_enter Tryd.func9, Tryd.ntmps9
      go_wp2
      go_ret
      exact ⟨rfl, rfl⟩

theorem in_blank : inL [9, 10, 12, 32] = blankN := by
  funext c
  unfold inL blankN
  rw [Bool.eq_iff_iff]; simp; omega
theorem in_gap : inL [9, 10, 12, 32, 47] = pGap := by
  funext c
  unfold inL pGap blankN
  rw [Bool.eq_iff_iff]; simp; omega
theorem in_tag : (fun c => !inL [9, 10, 12, 32, 47, 62] c) = pTag := by
  funext c
  unfold inL pTag blankN
  rw [Bool.eq_iff_iff]; simp; omega
theorem in_att : (fun c => !inL [9, 10, 12, 32, 47, 62, 61] c) = pAtt := by
  funext c
  unfold inL pAtt blankN
  rw [Bool.eq_iff_iff]; simp; omega
theorem in_bare : (fun c => !inL [9, 10, 12, 32, 62] c) = pBare := by
  funext c
  unfold inL pBare blankN
  rw [Bool.eq_iff_iff]; simp; omega
theorem in_q (q : Nat) : (fun c => !inL [q] c) = pQ q := by
  funext c
  unfold inL pQ
  rw [Bool.eq_iff_iff]; simp; omega

theorem ret_sZ {x y : List UInt8} {m : Int} {n : Nat} (h : x = y) (h' : m = (n : Int)) : Ending.returned (.tuple #[.string ⟨x.toArray⟩, .int .i64 m]) = .returned (.tuple #[.string ⟨y.toArray⟩, .int .i64 (n : Int)]) := by rw [h, h']

/-- a value whose quote is not shut -/
def vcut (m : List UInt8) : Prop := (hd m = 34 ∨ hd m = 39) ∧ m.drop (1 + ov (pQ (hd m)) (m.drop 1)) = []
/-- what the reference's value answers, from the place behind the blanks -/
def RvPost (l : List UInt8) (j : Nat) (w : World) (e : Ending) (w' : World) : Prop :=
  Below w.heap.size w w' ∧ ((vcut (l.drop j) ∧ e = .returned (.tuple #[.string ⟨#[]⟩, .int .i64 (-1)])) ∨
    (¬ vcut (l.drop j) ∧ e = .returned (.tuple #[.string ⟨(vl (l.drop j)).1.toArray⟩, .int .i64 ((j + (vl (l.drop j)).2 : Nat) : Int)])))

theorem sl_nil (hs : Sl l a cap w) (hne : l ≠ []) : (a = none → l.length = 0 ∧ cap = 0) ∧ (a = none ∨ ∃ b off, a = some ⟨b, off, none⟩) := by
  obtain ⟨-, h | ⟨b, off, rfl, -⟩⟩ := hs
  · exact absurd h hne
  · exact ⟨fun h => (by cases h), Or.inr ⟨b, off, rfl⟩⟩

set_option maxHeartbeats 4000000 in
set_option maxRecDepth 100000 in
theorem rvalue_any (i : Nat) (w : World) (hs : Sl l a cap w) (hi : i ≤ l.length) (hne : l ≠ []) (hlen : l.length ≤ 1000000) :
    Calls Tryd.prog 27 #[.slice a l.length cap, .int .i64 (i : Int)] w (RvPost l (i + ov blankN (l.drop i)) w) := by
  have hle := drop_len_ov blankN l i hi
  have hbA : Below w.heap.size w (w.alloc (.cells #[.int .i64 9, .int .i64 10, .int .i64 12, .int .i64 32] 3)) := (Below.refl _ w).alloc (Nat.le_refl _) _
  have cO := over_any [9, 10, 12, 32] w.heap.size 4 i _ (hs.below hbA) (rw_new [9, 10, 12, 32] w #[.int .i64 9, .int .i64 10, .int .i64 12, .int .i64 32] rfl) (by simp) hi hlen
  rw [in_blank] at cO
  obtain ⟨j, hj⟩ : ∃ j, i + ov blankN (l.drop i) = j := ⟨_, rfl⟩
  rw [hj] at cO hle ⊢
  clear hj
  have hw1 : (w.alloc (.cells #[.int .i64 9, .int .i64 10, .int .i64 12, .int .i64 32] 3)).heap.size = w.heap.size + 1 := by simp
  obtain ⟨w1, hW1⟩ : ∃ w1, w.alloc (.cells #[.int .i64 9, .int .i64 10, .int .i64 12, .int .i64 32] 3) = w1 := ⟨_, rfl⟩
  have hbA' := hbA
  rw [hW1] at hbA' hw1 cO
  have cC := rchar_any j w1 (hs.below hbA') hle hlen
  have hnil := sl_nil hs hne
  by_cases hq : hd (l.drop j) = 34 ∨ hd (l.drop j) = 39
  · have hdn : l.drop j ≠ [] := hd_pos (by omega)
    have hjl : j + 1 ≤ l.length := by have := List.length_pos_iff.2 hdn; simp at this; omega
    obtain ⟨C, hC⟩ : ∃ C, hd (l.drop j) = C := ⟨_, rfl⟩
    have hbB : Below w1.heap.size w1 (w1.alloc (.cells #[.int .i64 (C : Int)] 3)) := (Below.refl _ w1).alloc (Nat.le_refl _) _
    have hbAB : Below w.heap.size w (w1.alloc (.cells #[.int .i64 (C : Int)] 3)) := At.below_trans hbA' hbB
    have cU := upTo_any [C] w1.heap.size 1 (j + 1) _ (hs.below hbAB) (rw_new [C] w1 #[.int .i64 (C : Int)] rfl) (by simp) hjl hlen
    rw [in_q] at cU
    have hle2 := drop_len_ov (pQ C) l (j + 1) hjl
    obtain ⟨n, hn⟩ : ∃ n, ov (pQ C) (l.drop (j + 1)) = n := ⟨_, rfl⟩
    rw [hn] at cU hle2
    obtain ⟨S, hS⟩ : ∃ S, lw (pQ C) (l.drop (j + 1)) = S := ⟨_, rfl⟩
    rw [hS] at cU
    rw [hC] at cC
    have hdd : ∀ k, (l.drop j).drop k = l.drop (j + k) := fun k => List.drop_drop
    have hvl : vl (l.drop j) = (txt true ((l.drop (j + 1)).take n), 1 + n + wd (l.drop (j + (1 + n)))) := by
      unfold vl
      rw [if_pos hq, hC, hdd, hdd, hn]
    have hcut : vcut (l.drop j) ↔ j + 1 + n = l.length := by
      unfold vcut
      rw [hC, hdd, hdd, hn]
      constructor
      · rintro ⟨-, h⟩
        have := congrArg List.length h
        simp at this
        omega
      · intro h
        exact ⟨by rw [hC] at hq; exact hq, List.drop_of_length_le (by omega)⟩
    have hwd : j + 1 + n < l.length → wd (l.drop (j + (1 + n))) = 1 := by
      intro hlt
      have he := ov_end (pQ C) _ (l.drop (j + 1)) (Nat.le_refl _)
      rw [hn, List.drop_drop, Nat.add_assoc] at he
      rcases he with k | k
      · have := congrArg List.length k
        simp at this
        omega
      · have hcc : (nx (l.drop (j + (1 + n)))).1 = C := by simpa [pQ] using k
        rw [hC] at hq
        have q := nx_is (c := C) (by omega) (by omega) hcc
        rw [wd_ne q.2.2, q.2.1]
    have HV := Lib.hid hvl
    have HC := Lib.hid hcut
    have HWD := Lib.hid hwd
    clear hwd
    have HBAB := Lib.hid hbAB
    rw [hC] at hq
    clear hvl hcut hdd hdn hC hn hS hbB hbAB hbA hw1
    by_cases hend : j + 1 + n = l.length
    · have g1 : ¬ (((j + 1 + n : Nat) : Int) < (l.length : Int)) := by omega
      have g1' : ¬ ((j : Int) + 1 + (n : Int) < (l.length : Int)) := by omega
      rcases hq with rfl | rfl
      all_goals
        go_enter Tryd.func27, Tryd.ntmps27
        go_wp2_with fail
        refine cO.mono ?_
        rintro e w2 ⟨rfl, rfl⟩
        go_wp2_with fail
        refine cC.mono ?_
        rintro e w2 ⟨rfl, rfl⟩
        go_wp2_with fail
        refine cU.mono ?_
        rintro e w3 ⟨rfl, hb3⟩
        go_wp2
        go_ret2
        exact ⟨At.below_trans HBAB.out hb3, Or.inl ⟨HC.out.2 hend, rfl⟩⟩
    · have g1 : ((j + 1 + n : Nat) : Int) < (l.length : Int) := by omega
      have g1' : (j : Int) + 1 + (n : Int) < (l.length : Int) := by omega
      rcases hq with rfl | rfl
      all_goals
        go_enter Tryd.func27, Tryd.ntmps27
        go_wp2_with fail
        refine cO.mono ?_
        rintro e w2 ⟨rfl, rfl⟩
        go_wp2_with fail
        refine cC.mono ?_
        rintro e w2 ⟨rfl, rfl⟩
        go_wp2_with fail
        refine cU.mono ?_
        rintro e w3 ⟨rfl, hb3⟩
        have hb3' := At.below_trans HBAB.out hb3
        have cX := refText_any l a cap (j + 1) n ((j : Int) + 1) ((j : Int) + 1 + (n : Int)) true w3 (hs.below hb3') hnil.1 hnil.2 (by omega) (by omega) (by omega) hlen
        have HB3 := Lib.hid hb3'
        clear hb3 hb3'
        go_wp2_with fail
        refine cX.mono ?_
        rintro e w4 ⟨rfl, hb4⟩
        have HB4 := Lib.hid (At.below_trans HB3.out hb4)
        clear hb4
        go_wp2
        go_ret2
        refine ⟨HB4.out, Or.inr ⟨fun k => hend (HC.out.1 k), ?_⟩⟩
        rw [HV.out, HWD.out (by omega)]
        exact ret_sZ rfl (by omega)
  · have t1 : (((hd (l.drop j) : Nat) : Int) == 34) = false := by simp; omega
    have t2 : (((hd (l.drop j) : Nat) : Int) == 39) = false := by simp; omega
    have hbB : Below w1.heap.size w1 (w1.alloc (.cells #[.int .i64 9, .int .i64 10, .int .i64 12, .int .i64 32, .int .i64 62] 3)) := (Below.refl _ w1).alloc (Nat.le_refl _) _
    have hbAB := At.below_trans hbA' hbB
    have cU := upTo_any [9, 10, 12, 32, 62] w1.heap.size 5 j _ (hs.below hbAB) (rw_new [9, 10, 12, 32, 62] w1 #[.int .i64 9, .int .i64 10, .int .i64 12, .int .i64 32, .int .i64 62] rfl) (by simp) hle hlen
    rw [in_bare] at cU
    have hle2 := drop_len_ov pBare l j hle
    have hvl : vl (l.drop j) = (txt true ((l.drop j).take (ov pBare (l.drop j))), ov pBare (l.drop j)) := if_neg hq
    have hcut : ¬ vcut (l.drop j) := fun k => hq k.1
    obtain ⟨n, hn⟩ : ∃ n, ov pBare (l.drop j) = n := ⟨_, rfl⟩
    rw [hn] at cU hle2 hvl
    generalize lw pBare (l.drop j) = S at cU
    generalize hd (l.drop j) = C at cC t1 t2
    have HV := Lib.hid hvl
    have HC := Lib.hid hcut
    have HBAB := Lib.hid hbAB
    clear hvl hcut hn hbB hbAB hbA hw1 hq
    go_enter Tryd.func27, Tryd.ntmps27
    go_wp2_with fail
    refine cO.mono ?_
    rintro e w2 ⟨rfl, rfl⟩
    go_wp2_with fail
    refine cC.mono ?_
    rintro e w2 ⟨rfl, rfl⟩
    go_wp2_with fail
    refine cU.mono ?_
    rintro e w3 ⟨rfl, hb3⟩
    have hb3' := At.below_trans HBAB.out hb3
    have cX := refText_any l a cap j n (j : Int) ((j : Int) + (n : Int)) true w3 (hs.below hb3') hnil.1 hnil.2 rfl rfl (by omega) hlen
    have HB3 := Lib.hid hb3'
    clear hb3 hb3'
    go_wp2_with fail
    refine cX.mono ?_
    rintro e w4 ⟨rfl, hb4⟩
    have HB4 := Lib.hid (At.below_trans HB3.out hb4)
    clear hb4
    go_wp2
    go_ret2
    refine ⟨HB4.out, Or.inr ⟨HC.out, ?_⟩⟩
    rw [HV.out]
    exact ret_sZ rfl (by omega)
end Go.Proofs.YtfnecdifaodamaaDoor.Tg
