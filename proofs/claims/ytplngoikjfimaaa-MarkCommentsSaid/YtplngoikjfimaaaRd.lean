/- The program's kindOf, length and Read, walked. -/
import Derived.Test.YtplngoikjfimaaaBf
import Derived.Lib.SmallJoins
namespace Go.Proofs.Ytplngoikjfimaaa
open Go.RowKit Go.Lib

variable {l m : List UInt8} {a : Option Addr} {cap i b off : Nat} {w w' : World}

set_option maxHeartbeats 1000000 in
set_option maxRecDepth 100000 in
theorem isDoctype_any (w : World) (hc : Cells m b off w) (hcap : m.length ≤ cap) (hl : m.length ≤ 1000000) :
    Calls Try.prog 14 #[.slice (some ⟨b, off, none⟩) m.length cap] w fun e w' => e = .returned (.bool (isDty m)) ∧ Below w.heap.size w w' := by
  have hx := string_cells (cap := cap) (hc.take 9) (n := min m.length 9) (by rw [List.length_take]; omega)
  have cS := smallText_any (m.take 9) w
  unfold isDty
  generalize m.take 9 = t at hx cS ⊢
  generalize m.length = n at *
  clear hc
  by_cases h : n ≤ 9
  · have h1 : (n : Int) ≤ 9 := by omega
    have h2 : (n : Int) ≤ (cap : Int) := by omega
    rw [show min n 9 = n by omega] at hx
    go_enter Try.func14, Try.ntmps14
    go_wp2_with fail
    refine cS.mono ?_
    rintro e w1 ⟨rfl, hb⟩
    go_wp2
    go_ret
    exact ⟨rfl, hb⟩
  · have h1 : ¬ ((n : Int) ≤ 9) := by omega
    have h1' : ¬ ((n : Int) < 9) := by omega
    have h2 : (9 : Int) ≤ (cap : Int) := by omega
    rw [show min n 9 = 9 by omega] at hx
    go_enter Try.func14, Try.ntmps14
    go_wp2_with fail
    refine cS.mono ?_
    rintro e w1 ⟨rfl, hb⟩
    go_wp2
    go_ret
    exact ⟨rfl, hb⟩

set_option maxHeartbeats 1000000 in
set_option maxRecDepth 100000 in
theorem isBogusEnd_any (w : World) (hc : Cells m b off w) (hcap : m.length ≤ cap) (hl : m.length ≤ 1000000) :
    Calls Try.prog 15 #[.slice (some ⟨b, off, none⟩) m.length cap] w fun e w' => e = .returned (.bool (bogusEnd m)) ∧ Below w.heap.size w w' := by
  have cH := has_any [60, 47] 0 w ⟨hcap, Or.inr ⟨b, off, rfl, hc⟩⟩ (Nat.zero_le _) (by decide)
  rw [List.drop_zero] at cH
  unfold bogusEnd
  cases hf : fits [60, 47] m with
  | false =>
    rw [hf] at cH
    go_enter Try.func15, Try.ntmps15
    go_wp2_with fail
    refine cH.mono ?_
    rintro e w1 ⟨rfl, hb⟩
    go_wp2
    go_ret
    exact ⟨rfl, hb⟩
  | true =>
    rw [hf] at cH
    by_cases h : 2 < m.length
    · have h1 : (2 : Int) < (m.length : Int) := by omega
      have HC := Lib.hid hc
      have hbd := at0_lt m 2
      rw [decide_eq_true h]
      obtain ⟨c, hcc⟩ : ∃ c, at0 m 2 = c := ⟨_, rfl⟩
      rw [hcc] at hbd ⊢
      have HCC := Lib.hid hcc
      clear hc hcc
      go_enter Try.func15, Try.ntmps15
      go_wp2_with fail
      refine cH.mono ?_
      rintro e w1 ⟨rfl, hb⟩
      have hcell := (HC.out.below hb) 2 h
      rw [HCC.out] at hcell
      have cL := letter_any (c : Int) w1
      rw [letterZ_nat] at cL
      go_wp2_with fail
      refine cL.mono ?_
      rintro e w2 ⟨rfl, rfl⟩
      go_wp2
      go_ret
      exact ⟨rfl, hb⟩
    · have h1 : ¬ ((2 : Int) < (m.length : Int)) := by omega
      rw [decide_eq_false h]
      go_enter Try.func15, Try.ntmps15
      go_wp2_with fail
      refine cH.mono ?_
      rintro e w1 ⟨rfl, hb⟩
      go_wp2
      go_ret
      exact ⟨rfl, hb⟩

theorem words1 (p : List UInt8) (w : World) : Words [p] w.heap.size (w.alloc (.cells #[.string ⟨p.toArray⟩] 9)) := by
  intro j hj
  simp only [List.length_cons, List.length_nil] at hj
  obtain rfl : j = 0 := by omega
  simp [World.cell?, World.alloc, -World.alloc_eq]
theorem words2 (p q : List UInt8) (w : World) : Words [p, q] w.heap.size (w.alloc (.cells #[.string ⟨p.toArray⟩, .string ⟨q.toArray⟩] 9)) := by
  intro j hj
  simp only [List.length_cons, List.length_nil] at hj
  rcases (by omega : j = 0 ∨ j = 1) with rfl | rfl <;> simp [World.cell?, World.alloc, -World.alloc_eq]

set_option maxHeartbeats 1000000 in
set_option maxRecDepth 100000 in
theorem commentLength_any (w : World) (hs : Sl m a cap w) (h4 : 4 ≤ m.length) (hl : m.length ≤ 1000000) :
    Calls Try.prog 16 #[.slice a m.length cap] w fun e w' => e = .returned (.int .i64 ((cln m : Nat) : Int)) ∧ Below w.heap.size w w' := by
  have c1 := has_any [62] 4 w hs h4 (by decide)
  unfold cln
  cases f1 : fits [62] (m.drop 4) with
  | true =>
    rw [f1] at c1
    rw [if_pos rfl]
    go_enter Try.func16, Try.ntmps16
    go_wp2_with fail
    refine c1.mono ?_
    rintro e w1 ⟨rfl, hb⟩
    go_wp2
    go_ret
    exact ⟨rfl, hb⟩
  | false =>
    rw [f1] at c1
    rw [if_neg (by decide)]
    have HS := Lib.hid hs
    cases f2 : fits [45, 62] (m.drop 4) with
    | true =>
      rw [if_pos rfl]
      go_enter Try.func16, Try.ntmps16
      go_wp2_with fail
      refine c1.mono ?_
      rintro e w1 ⟨rfl, hb⟩
      have hz := hb.size
      have c2 := has_any [45, 62] 4 w1 (HS.out.below hb) h4 (by decide)
      rw [f2] at c2
      go_wp2_with fail
      refine c2.mono ?_
      rintro e w2 ⟨rfl, hb2⟩
      go_wp2
      go_ret
      exact ⟨rfl, hb.trans (hb2.mono hz)⟩
    | false =>
      rw [if_neg (by decide)]
      have HL := Lib.hid hl
      clear hs
      go_enter Try.func16, Try.ntmps16
      go_wp2_with fail
      refine c1.mono ?_
      rintro e w1 ⟨rfl, hb⟩
      have hz := hb.size
      have c2 := has_any [45, 62] 4 w1 (HS.out.below hb) h4 (by decide)
      rw [f2] at c2
      go_wp2_with fail
      refine c2.mono ?_
      rintro e w2 ⟨rfl, hb2⟩
      have hb12 := hb.trans (hb2.mono hz)
      have hz2 := hb12.size
      have hb3 : Below w2.heap.size w2 (w2.alloc (.cells #[.string ⟨#[45, 45, 62]⟩, .string ⟨#[45, 45, 33, 62]⟩] 9)) := (Below.refl _ w2).alloc (Nat.le_refl _) _
      have hb13 := hb12.trans (hb3.mono hz2)
      have hz3 := hb13.size
      have c3 := behind_any coE 4 w2.heap.size 2 _ ((HS.out.below hb12).below hb3) (words2 [45, 45, 62] [45, 45, 33, 62] w2) (by decide) (by decide) (by decide) h4 HL.out
      clear hb hb2 hb12 hb3
      have HB := Lib.hid hb13
      clear hb13 c1 c2
      go_wp2_with fail
      refine c3.mono ?_
      rintro e w3 ⟨rfl, hb4⟩
      go_wp2
      go_ret
      exact ⟨rfl, HB.out.trans (hb4.mono hz3)⟩

set_option maxHeartbeats 1000000 in
set_option maxRecDepth 100000 in
theorem length_any (k : Nat) (w : World) (hs : Sl m a cap w) (h1 : k = 1 → 4 ≤ m.length) (h2 : k = 2 → 9 ≤ m.length) (h3 : 2 ≤ m.length) (hk : k ≤ 4) (hl : m.length ≤ 1000000) :
    Calls Try.prog 10 #[.slice a m.length cap, .int .i64 (k : Int)] w fun e w' => e = .returned (.int .i64 ((ln m k : Nat) : Int)) ∧ Below w.heap.size w w' := by
  have hb3 : Below w.heap.size w (w.alloc (.cells #[.string ⟨#[62]⟩] 9)) := (Below.refl _ w).alloc (Nat.le_refl _) _
  have HB := Lib.hid hb3
  have hz3 := hb3.size
  unfold ln
  by_cases k1 : k = 1
  · subst k1
    have cC := commentLength_any w hs (h1 rfl) hl
    rw [if_pos rfl]
    generalize cln m = C at cC ⊢
    clear hb3
    go_enter Try.func10, Try.ntmps10
    go_wp2_with fail
    refine cC.mono ?_
    rintro e w1 ⟨rfl, hb⟩
    go_wp2
    go_ret
    exact ⟨rfl, hb⟩
  · rw [if_neg k1]
    by_cases k2 : k = 2
    · subst k2
      have cC := behind_any gtE 9 w.heap.size 1 _ (hs.below hb3) (words1 [62] w) (by decide) (by decide) (by decide) (h2 rfl) hl
      rw [if_pos rfl]
      generalize 9 + bfr gtE (m.drop 9) = C at cC ⊢
      clear hb3
      go_enter Try.func10, Try.ntmps10
      go_wp2_with fail
      refine cC.mono ?_
      rintro e w1 ⟨rfl, hb⟩
      go_wp2
      go_ret
      exact ⟨rfl, HB.out.trans (hb.mono hz3)⟩
    · rw [if_neg k2]
      by_cases k4 : k = 4
      · subst k4
        rw [if_pos rfl]
        clear hb3
        go_enter Try.func10, Try.ntmps10
        go_wp2
        go_ret
        exact ⟨rfl, Below.refl _ w⟩
      · rw [if_neg k4]
        have cC := behind_any gtE 2 w.heap.size 1 _ (hs.below hb3) (words1 [62] w) (by decide) (by decide) (by decide) h3 hl
        generalize 2 + bfr gtE (m.drop 2) = C at cC ⊢
        have t1 : ((k : Int) == 1) = false := by simp; omega
        have t2 : ((k : Int) == 2) = false := by simp; omega
        have t4 : ((k : Int) == 4) = false := by simp; omega
        clear hb3 k1 k2 k4 h1 h2
        go_enter Try.func10, Try.ntmps10
        go_wp2_with fail
        refine cC.mono ?_
        rintro e w1 ⟨rfl, hb⟩
        go_wp2
        go_ret
        exact ⟨rfl, HB.out.trans (hb.mono hz3)⟩
end Go.Proofs.Ytplngoikjfimaaa
