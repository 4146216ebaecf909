/- The program's kindOf and Read, walked. -/
import Derived.Test.YtplngoikjfimaaaRd
namespace Go.Proofs.Ytplngoikjfimaaa
open Go.RowKit Go.Lib

variable {l m : List UInt8} {a : Option Addr} {cap i b off : Nat} {w w' : World}

set_option maxHeartbeats 4000000 in
set_option maxRecDepth 100000 in
theorem kindOf_any (w : World) (hc : Cells m b off w) (hcap : m.length ≤ cap) (hl : m.length ≤ 1000000) :
    Calls Try.prog 9 #[.slice (some ⟨b, off, none⟩) m.length cap] w fun e w' => e = .returned (.int .i64 ((kd m : Nat) : Int)) ∧ Below w.heap.size w w' := by
  have HC := Lib.hid hc
  have HCAP := Lib.hid hcap
  have HL := Lib.hid hl
  clear hc hcap hl
  unfold kd
  cases f0 : fits [60, 33, 45, 45] m with
  | true =>
    rw [if_pos rfl]
    go_enter Try.func9, Try.ntmps9
    have c0 := has_any [60, 33, 45, 45] 0 w ⟨HCAP.out, Or.inr ⟨b, off, rfl, HC.out⟩⟩ (Nat.zero_le _) (by decide)
    rw [List.drop_zero] at c0
    rw [f0] at c0
    go_wp2_with fail
    refine c0.mono ?_
    rintro e w1 ⟨rfl, hb⟩
    have HB1 := Lib.hid hb
    clear hb c0
    go_wp2
    go_ret
    exact ⟨rfl, HB1.out⟩
  | false =>
    rw [if_neg (by decide)]
    cases f1 : isDty m with
    | true =>
      rw [if_pos rfl]
      go_enter Try.func9, Try.ntmps9
      have c0 := has_any [60, 33, 45, 45] 0 w ⟨HCAP.out, Or.inr ⟨b, off, rfl, HC.out⟩⟩ (Nat.zero_le _) (by decide)
      rw [List.drop_zero] at c0
      rw [f0] at c0
      go_wp2_with fail
      refine c0.mono ?_
      rintro e w1 ⟨rfl, hb⟩
      have HB1 := Lib.hid hb
      clear hb c0
      have c1 := isDoctype_any w1 (HC.out.below HB1.out) HCAP.out HL.out
      rw [f1] at c1
      go_wp2_with fail
      refine c1.mono ?_
      rintro e w2 ⟨rfl, hb⟩
      have HB2 := Lib.hid (HB1.out.trans (hb.mono HB1.out.size))
      clear hb c1
      go_wp2
      go_ret
      exact ⟨rfl, HB2.out⟩
    | false =>
      rw [if_neg (by decide)]
      cases f2 : fits [60, 47, 62] m with
      | true =>
        rw [if_pos rfl]
        go_enter Try.func9, Try.ntmps9
        have c0 := has_any [60, 33, 45, 45] 0 w ⟨HCAP.out, Or.inr ⟨b, off, rfl, HC.out⟩⟩ (Nat.zero_le _) (by decide)
        rw [List.drop_zero] at c0
        rw [f0] at c0
        go_wp2_with fail
        refine c0.mono ?_
        rintro e w1 ⟨rfl, hb⟩
        have HB1 := Lib.hid hb
        clear hb c0
        have c1 := isDoctype_any w1 (HC.out.below HB1.out) HCAP.out HL.out
        rw [f1] at c1
        go_wp2_with fail
        refine c1.mono ?_
        rintro e w2 ⟨rfl, hb⟩
        have HB2 := Lib.hid (HB1.out.trans (hb.mono HB1.out.size))
        clear hb c1
        have c2 := has_any [60, 47, 62] 0 w2 ⟨HCAP.out, Or.inr ⟨b, off, rfl, HC.out.below HB2.out⟩⟩ (Nat.zero_le _) (by decide)
        rw [List.drop_zero] at c2
        rw [f2] at c2
        go_wp2_with fail
        refine c2.mono ?_
        rintro e w3 ⟨rfl, hb⟩
        have HB3 := Lib.hid (HB2.out.trans (hb.mono HB2.out.size))
        clear hb c2
        go_wp2
        go_ret
        exact ⟨rfl, HB3.out⟩
      | false =>
        rw [if_neg (by decide)]
        cases f3 : fits [60, 33] m with
        | true =>
          rw [if_pos rfl]
          go_enter Try.func9, Try.ntmps9
          have c0 := has_any [60, 33, 45, 45] 0 w ⟨HCAP.out, Or.inr ⟨b, off, rfl, HC.out⟩⟩ (Nat.zero_le _) (by decide)
          rw [List.drop_zero] at c0
          rw [f0] at c0
          go_wp2_with fail
          refine c0.mono ?_
          rintro e w1 ⟨rfl, hb⟩
          have HB1 := Lib.hid hb
          clear hb c0
          have c1 := isDoctype_any w1 (HC.out.below HB1.out) HCAP.out HL.out
          rw [f1] at c1
          go_wp2_with fail
          refine c1.mono ?_
          rintro e w2 ⟨rfl, hb⟩
          have HB2 := Lib.hid (HB1.out.trans (hb.mono HB1.out.size))
          clear hb c1
          have c2 := has_any [60, 47, 62] 0 w2 ⟨HCAP.out, Or.inr ⟨b, off, rfl, HC.out.below HB2.out⟩⟩ (Nat.zero_le _) (by decide)
          rw [List.drop_zero] at c2
          rw [f2] at c2
          go_wp2_with fail
          refine c2.mono ?_
          rintro e w3 ⟨rfl, hb⟩
          have HB3 := Lib.hid (HB2.out.trans (hb.mono HB2.out.size))
          clear hb c2
          have c3 := has_any [60, 33] 0 w3 ⟨HCAP.out, Or.inr ⟨b, off, rfl, HC.out.below HB3.out⟩⟩ (Nat.zero_le _) (by decide)
          rw [List.drop_zero] at c3
          rw [f3] at c3
          go_wp2_with fail
          refine c3.mono ?_
          rintro e w4 ⟨rfl, hb⟩
          have HB4 := Lib.hid (HB3.out.trans (hb.mono HB3.out.size))
          clear hb c3
          go_wp2
          go_ret
          exact ⟨rfl, HB4.out⟩
        | false =>
          rw [if_neg (by decide)]
          cases f4 : fits [60, 63] m with
          | true =>
            rw [if_pos rfl]
            go_enter Try.func9, Try.ntmps9
            have c0 := has_any [60, 33, 45, 45] 0 w ⟨HCAP.out, Or.inr ⟨b, off, rfl, HC.out⟩⟩ (Nat.zero_le _) (by decide)
            rw [List.drop_zero] at c0
            rw [f0] at c0
            go_wp2_with fail
            refine c0.mono ?_
            rintro e w1 ⟨rfl, hb⟩
            have HB1 := Lib.hid hb
            clear hb c0
            have c1 := isDoctype_any w1 (HC.out.below HB1.out) HCAP.out HL.out
            rw [f1] at c1
            go_wp2_with fail
            refine c1.mono ?_
            rintro e w2 ⟨rfl, hb⟩
            have HB2 := Lib.hid (HB1.out.trans (hb.mono HB1.out.size))
            clear hb c1
            have c2 := has_any [60, 47, 62] 0 w2 ⟨HCAP.out, Or.inr ⟨b, off, rfl, HC.out.below HB2.out⟩⟩ (Nat.zero_le _) (by decide)
            rw [List.drop_zero] at c2
            rw [f2] at c2
            go_wp2_with fail
            refine c2.mono ?_
            rintro e w3 ⟨rfl, hb⟩
            have HB3 := Lib.hid (HB2.out.trans (hb.mono HB2.out.size))
            clear hb c2
            have c3 := has_any [60, 33] 0 w3 ⟨HCAP.out, Or.inr ⟨b, off, rfl, HC.out.below HB3.out⟩⟩ (Nat.zero_le _) (by decide)
            rw [List.drop_zero] at c3
            rw [f3] at c3
            go_wp2_with fail
            refine c3.mono ?_
            rintro e w4 ⟨rfl, hb⟩
            have HB4 := Lib.hid (HB3.out.trans (hb.mono HB3.out.size))
            clear hb c3
            have c4 := has_any [60, 63] 0 w4 ⟨HCAP.out, Or.inr ⟨b, off, rfl, HC.out.below HB4.out⟩⟩ (Nat.zero_le _) (by decide)
            rw [List.drop_zero] at c4
            rw [f4] at c4
            go_wp2_with fail
            refine c4.mono ?_
            rintro e w5 ⟨rfl, hb⟩
            have HB5 := Lib.hid (HB4.out.trans (hb.mono HB4.out.size))
            clear hb c4
            go_wp2
            go_ret
            exact ⟨rfl, HB5.out⟩
          | false =>
            rw [if_neg (by decide)]
            cases f5 : bogusEnd m with
            | true =>
              rw [if_pos rfl]
              go_enter Try.func9, Try.ntmps9
              have c0 := has_any [60, 33, 45, 45] 0 w ⟨HCAP.out, Or.inr ⟨b, off, rfl, HC.out⟩⟩ (Nat.zero_le _) (by decide)
              rw [List.drop_zero] at c0
              rw [f0] at c0
              go_wp2_with fail
              refine c0.mono ?_
              rintro e w1 ⟨rfl, hb⟩
              have HB1 := Lib.hid hb
              clear hb c0
              have c1 := isDoctype_any w1 (HC.out.below HB1.out) HCAP.out HL.out
              rw [f1] at c1
              go_wp2_with fail
              refine c1.mono ?_
              rintro e w2 ⟨rfl, hb⟩
              have HB2 := Lib.hid (HB1.out.trans (hb.mono HB1.out.size))
              clear hb c1
              have c2 := has_any [60, 47, 62] 0 w2 ⟨HCAP.out, Or.inr ⟨b, off, rfl, HC.out.below HB2.out⟩⟩ (Nat.zero_le _) (by decide)
              rw [List.drop_zero] at c2
              rw [f2] at c2
              go_wp2_with fail
              refine c2.mono ?_
              rintro e w3 ⟨rfl, hb⟩
              have HB3 := Lib.hid (HB2.out.trans (hb.mono HB2.out.size))
              clear hb c2
              have c3 := has_any [60, 33] 0 w3 ⟨HCAP.out, Or.inr ⟨b, off, rfl, HC.out.below HB3.out⟩⟩ (Nat.zero_le _) (by decide)
              rw [List.drop_zero] at c3
              rw [f3] at c3
              go_wp2_with fail
              refine c3.mono ?_
              rintro e w4 ⟨rfl, hb⟩
              have HB4 := Lib.hid (HB3.out.trans (hb.mono HB3.out.size))
              clear hb c3
              have c4 := has_any [60, 63] 0 w4 ⟨HCAP.out, Or.inr ⟨b, off, rfl, HC.out.below HB4.out⟩⟩ (Nat.zero_le _) (by decide)
              rw [List.drop_zero] at c4
              rw [f4] at c4
              go_wp2_with fail
              refine c4.mono ?_
              rintro e w5 ⟨rfl, hb⟩
              have HB5 := Lib.hid (HB4.out.trans (hb.mono HB4.out.size))
              clear hb c4
              have c5 := isBogusEnd_any w5 (HC.out.below HB5.out) HCAP.out HL.out
              rw [f5] at c5
              go_wp2_with fail
              refine c5.mono ?_
              rintro e w6 ⟨rfl, hb⟩
              have HB6 := Lib.hid (HB5.out.trans (hb.mono HB5.out.size))
              clear hb c5
              go_wp2
              go_ret
              exact ⟨rfl, HB6.out⟩
            | false =>
              rw [if_neg (by decide)]
              go_enter Try.func9, Try.ntmps9
              have c0 := has_any [60, 33, 45, 45] 0 w ⟨HCAP.out, Or.inr ⟨b, off, rfl, HC.out⟩⟩ (Nat.zero_le _) (by decide)
              rw [List.drop_zero] at c0
              rw [f0] at c0
              go_wp2_with fail
              refine c0.mono ?_
              rintro e w1 ⟨rfl, hb⟩
              have HB1 := Lib.hid hb
              clear hb c0
              have c1 := isDoctype_any w1 (HC.out.below HB1.out) HCAP.out HL.out
              rw [f1] at c1
              go_wp2_with fail
              refine c1.mono ?_
              rintro e w2 ⟨rfl, hb⟩
              have HB2 := Lib.hid (HB1.out.trans (hb.mono HB1.out.size))
              clear hb c1
              have c2 := has_any [60, 47, 62] 0 w2 ⟨HCAP.out, Or.inr ⟨b, off, rfl, HC.out.below HB2.out⟩⟩ (Nat.zero_le _) (by decide)
              rw [List.drop_zero] at c2
              rw [f2] at c2
              go_wp2_with fail
              refine c2.mono ?_
              rintro e w3 ⟨rfl, hb⟩
              have HB3 := Lib.hid (HB2.out.trans (hb.mono HB2.out.size))
              clear hb c2
              have c3 := has_any [60, 33] 0 w3 ⟨HCAP.out, Or.inr ⟨b, off, rfl, HC.out.below HB3.out⟩⟩ (Nat.zero_le _) (by decide)
              rw [List.drop_zero] at c3
              rw [f3] at c3
              go_wp2_with fail
              refine c3.mono ?_
              rintro e w4 ⟨rfl, hb⟩
              have HB4 := Lib.hid (HB3.out.trans (hb.mono HB3.out.size))
              clear hb c3
              have c4 := has_any [60, 63] 0 w4 ⟨HCAP.out, Or.inr ⟨b, off, rfl, HC.out.below HB4.out⟩⟩ (Nat.zero_le _) (by decide)
              rw [List.drop_zero] at c4
              rw [f4] at c4
              go_wp2_with fail
              refine c4.mono ?_
              rintro e w5 ⟨rfl, hb⟩
              have HB5 := Lib.hid (HB4.out.trans (hb.mono HB4.out.size))
              clear hb c4
              have c5 := isBogusEnd_any w5 (HC.out.below HB5.out) HCAP.out HL.out
              rw [f5] at c5
              go_wp2_with fail
              refine c5.mono ?_
              rintro e w6 ⟨rfl, hb⟩
              have HB6 := Lib.hid (HB5.out.trans (hb.mono HB5.out.size))
              clear hb c5
              go_wp2
              go_ret
              exact ⟨rfl, HB6.out⟩

/-- what Read answers -/
def rdAns (l : List UInt8) (i : Nat) : Value := .tuple #[.int .i64 ((kd (l.drop i) : Nat) : Int), .int .i64 ((if kd (l.drop i) = 0 then 0 else i + ln (l.drop i) (kd (l.drop i)) : Nat) : Int), .bool (decide (kd (l.drop i) ≠ 0))]

theorem kd_le (m : List UInt8) : kd m ≤ 4 := by
  unfold kd
  repeat' split
  all_goals omega
theorem kd_one {m : List UInt8} (h : kd m = 1) : 4 ≤ m.length := by
  unfold kd at h
  split at h
  · rename_i hf; exact fits_len hf
  · repeat' split at h
    all_goals omega
theorem kd_two {m : List UInt8} (h : kd m = 2) : 9 ≤ m.length := by
  unfold kd at h
  split at h
  · omega
  · split at h
    · rename_i hf; exact (dty_head hf).1
    · repeat' split at h
      all_goals omega

set_option maxHeartbeats 1000000 in
set_option maxRecDepth 100000 in
theorem read_any (i : Nat) (w : World) (hs : Sl l a cap w) (hi : i < l.length) (hl : l.length ≤ 1000000) :
    Calls Try.prog 7 #[.slice a l.length cap, .int .i64 (i : Int)] w fun e w' => e = .returned (rdAns l i) ∧ Below w.heap.size w w' := by
  obtain ⟨hcap, h2 | ⟨b, off, rfl, hc⟩⟩ := hs
  · subst h2; simp at hi
  have hc2 := hc.drop i
  have hml : (l.drop i).length = l.length - i := List.length_drop
  have cK := kindOf_any (cap := cap - i) w hc2 (by omega) (by omega)
  rw [hml] at cK
  unfold rdAns
  have h0 : ¬ ((i : Int) < 0) := by omega
  have h1 : (i : Int) < (l.length : Int) := by omega
  have hic : i < cap := by omega
  have HC := Lib.hid hc2
  by_cases hk : kd (l.drop i) = 0
  · rw [hk] at cK ⊢
    clear hc2 hml hk hcap hc
    generalize l.length = n at *
    go_enter Try.func7, Try.ntmps7
    go_wp2_with fail
    refine cK.mono ?_
    rintro e w1 ⟨rfl, hb⟩
    go_wp2
    go_ret3
    exact ⟨rfl, hb⟩
  · rw [if_neg hk, decide_eq_true hk]
    have hM := mark_is hk
    have hk4 := kd_le (l.drop i)
    have hk1 := Lib.hid (@kd_one (l.drop i))
    have hk2 := Lib.hid (@kd_two (l.drop i))
    have HML := Lib.hid hml
    obtain ⟨K, hK⟩ : ∃ K, kd (l.drop i) = K := ⟨_, rfl⟩
    rw [hK] at cK hk1 hk2 hM hk4 hk ⊢
    have hln := hM.2.2.2.2.1
    have h2l := Nat.le_trans hM.2.2.2.1 hln
    rw [hml] at hln
    have H2 := Lib.hid h2l
    have HK4 := Lib.hid hk4
    have HCA := Lib.hid hcap
    have HLN := Lib.hid hln
    have t0 : ((K : Int) == 0) = false := by simp; exact hk
    clear hc2 hml hK hc hM h2l
    obtain ⟨m, hm⟩ : ∃ m, l.drop i = m := ⟨_, rfl⟩
    rw [hm] at HC hk1 hk2 H2 HLN hln HML ⊢
    clear hm
    obtain ⟨L, hL⟩ : ∃ L, ln m K = L := ⟨_, rfl⟩
    rw [hL] at hln ⊢
    have HLL := Lib.hid hL
    clear hL hk HLN
    go_enter Try.func7, Try.ntmps7
    go_wp2_with fail
    refine cK.mono ?_
    rintro e w1 ⟨rfl, hb⟩
    have hz := hb.size
    have cL := length_any K w1 (a := some ⟨b, off + i, none⟩) (cap := cap - i) ⟨by rw [HML.out]; have := HCA.out; omega, Or.inr ⟨b, off + i, rfl, HC.out.below hb⟩⟩ (fun e => hk1.out e) (fun e => hk2.out e) H2.out HK4.out (by rw [HML.out]; omega)
    rw [HML.out, HLL.out] at cL
    go_wp2_with fail
    refine cL.mono ?_
    rintro e w2 ⟨rfl, hb2⟩
    go_wp2
    go_ret3
    exact ⟨rfl, hb.trans (hb2.mono hz)⟩
end Go.Proofs.Ytplngoikjfimaaa
