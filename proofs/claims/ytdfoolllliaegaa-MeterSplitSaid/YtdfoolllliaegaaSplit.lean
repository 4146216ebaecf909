/- Proved: for every amount, a, b and below, the law MeterSplit of layer 1 returns true and leaves what was handed in as it was. Conditions: none beyond the statement's own. -/
import Derived.Test.YtdfoolllliaegaaRows
import Derived.WalkKit
import Derived.ProofKit
import Derived.OpenShut
import Derived.ShutString
import Derived.ChangeOld
import Derived.Below
import Derived.Test.YtdfoolllliaegaaMeter
namespace Go.Proofs.Ytdfoolllliaegaa.meterSplit
open Go.ChangeShapes Go.WideShapes Go.ChangeAt Go.RowKit
open Go.ChangeMaps (open_string shut_string)
set_option linter.unusedVariables false

theorem own : ownKnob Try.prog.godebug = none := by kernel_rfl

/-- A payment of nothing. -/
theorem pay_none (b : Nat) (l s n : Int) (w : World) (h : Met w b l s) (hn : n ≤ 0) (hl : 0 ≤ l) (hs : 0 ≤ s) (hb : l + s ≤ 9223372036854775807) :
    Calls Try.prog 8 #[.pointer (some ⟨b, 0, none⟩), .int .i64 n] w (Paid w b l s) := by
  by_cases h0 : n < 0
  · exact pay_below b l s n w h h0 hl hs hb
  · obtain rfl : n = 0 := by omega
    have := pay_ok b l s 0 w h (by omega) hl hs hb
    simpa using this

set_option maxHeartbeats 1000000 in
theorem walk1 (a0 a1 a2 a3 : Int) (w : World) (b0 : 0 ≤ a0) (b0' : a0 ≤ 4294967295) (b1 : 0 ≤ a1) (b1' : a1 ≤ 4294967295) (b2 : 0 ≤ a2) (b2' : a2 ≤ 4294967295) (b3 : -2147483648 ≤ a3) (b3' : a3 ≤ 2147483647)
    (hc : a1 + a2 ≤ a0) :
    Calls Try.prog 4 #[.int .u32 a0, .int .u32 a1, .int .u32 a2, .int .i32 a3] w fun e w' => e = .returned (.bool true) ∧ Below w.heap.size w w' := by
  go_enter Try.func4, Try.ntmps4
  go_wp2_with fail
  refine (speaks_any _).mono ?_
  rintro e w1 ⟨rfl, g1⟩
  have B1 := Below.byNone (Below.refl w.heap.size w) g1 (Nat.le_refl _)
  have z1 := B1.size
  go_wp2_with fail
  refine (new_any _ _ (by omega)).mono ?_
  rintro e w2 ⟨rfl, m2, g2⟩
  have B2 := Below.byNone B1 g2 B1.size
  have z2 := m2.lt
  go_wp2_with fail
  refine (new_any _ _ (by omega)).mono ?_
  rintro e w3 ⟨rfl, n3, g3⟩
  have B3 := Below.byNone B2 g3 B2.size
  have m3 := m2.kept g3 (by simp)
  generalize w1.heap.size = bm at *
  generalize w2.heap.size = bn at *
  clear g1 g2 g3 m2 B1 B2
  go_wp2_with fail
  refine (pay_ok _ _ _ _ _ m3 (by omega) (by omega) (by omega) (by omega)).mono ?_
  rintro e w4 ⟨rfl, m4, g4⟩
  have B4 := Below.byBlock B3 g4 B3.size z1
  have n4 := n3.kept g4 (by simp; omega)
  go_wp2_with fail
  refine (pay_ok _ _ _ _ _ m4 (by omega) (by omega) (by omega) (by omega)).mono ?_
  rintro e w5 ⟨rfl, m5, g5⟩
  have B5 := Below.byBlock B4 g5 B4.size z1
  have n5 := n4.kept g5 (by simp; omega)
  go_wp2_with fail
  refine (pay_ok _ _ _ _ _ n5 (by omega) (by omega) (by omega) (by omega)).mono ?_
  rintro e w6 ⟨rfl, n6, g6⟩
  have B6 := Below.byBlock B5 g6 B5.size (by omega)
  have m6 := m5.kept g6 (by simp; omega)
  go_wp2_with fail
  refine (left_any _ _ _ _ m6).mono ?_
  rintro e w7 ⟨rfl, rfl⟩
  go_wp2_with fail
  refine (left_any _ _ _ _ n6).mono ?_
  rintro e w7 ⟨rfl, rfl⟩
  go_wp2_with fail
  refine (spent_any _ _ _ _ m6).mono ?_
  rintro e w7 ⟨rfl, rfl⟩
  go_wp2_with fail
  refine (spent_any _ _ _ _ n6).mono ?_
  rintro e w7 ⟨rfl, rfl⟩
  go_wp2_with fail
  refine (left_any _ _ _ _ m6).mono ?_
  rintro e w7 ⟨rfl, rfl⟩
  by_cases h3 : a3 ≤ 0
  all_goals
    go_wp2_with fail
    refine (pay_none _ _ _ _ _ m6 (by omega) (by omega) (by omega) (by omega)).mono ?_
    rintro e w7 ⟨rfl, m7, g7⟩
    have B7 := Below.byBlock B6 g7 B6.size z1
    go_wp2_with fail
    refine (left_any _ _ _ _ m7).mono ?_
    rintro e w8 ⟨rfl, rfl⟩
    go_wp2
    go_ret
    exact ⟨rfl, B7⟩

set_option maxHeartbeats 1000000 in
theorem walk2 (a0 a1 a2 a3 : Int) (w : World) (b0 : 0 ≤ a0) (b0' : a0 ≤ 4294967295) (b1 : 0 ≤ a1) (b1' : a1 ≤ 4294967295) (b2 : 0 ≤ a2) (b2' : a2 ≤ 4294967295) (b3 : -2147483648 ≤ a3) (b3' : a3 ≤ 2147483647)
    (hc : a1 ≤ a0) (hd : a0 < a1 + a2) :
    Calls Try.prog 4 #[.int .u32 a0, .int .u32 a1, .int .u32 a2, .int .i32 a3] w fun e w' => e = .returned (.bool true) ∧ Below w.heap.size w w' := by
  go_enter Try.func4, Try.ntmps4
  go_wp2_with fail
  refine (speaks_any _).mono ?_
  rintro e w1 ⟨rfl, g1⟩
  have B1 := Below.byNone (Below.refl w.heap.size w) g1 (Nat.le_refl _)
  have z1 := B1.size
  go_wp2_with fail
  refine (new_any _ _ (by omega)).mono ?_
  rintro e w2 ⟨rfl, m2, g2⟩
  have B2 := Below.byNone B1 g2 B1.size
  have z2 := m2.lt
  go_wp2_with fail
  refine (new_any _ _ (by omega)).mono ?_
  rintro e w3 ⟨rfl, n3, g3⟩
  have B3 := Below.byNone B2 g3 B2.size
  have m3 := m2.kept g3 (by simp)
  generalize w1.heap.size = bm at *
  generalize w2.heap.size = bn at *
  clear g1 g2 g3 m2 B1 B2
  go_wp2_with fail
  refine (pay_ok _ _ _ _ _ m3 (by omega) (by omega) (by omega) (by omega)).mono ?_
  rintro e w4 ⟨rfl, m4, g4⟩
  have B4 := Below.byBlock B3 g4 B3.size z1
  have n4 := n3.kept g4 (by simp; omega)
  go_wp2_with fail
  refine (pay_short _ _ _ _ _ m4 (by omega) (by omega)).mono ?_
  rintro e w5 ⟨rfl, _, g5⟩
  have B5 := Below.byNone B4 g5 B4.size
  have n5 := n4.kept g5 (by simp)
  have m5 := m4.kept g5 (by simp)
  go_wp2_with fail
  refine (pay_short _ _ _ _ _ n5 (by omega) (by omega)).mono ?_
  rintro e w6 ⟨rfl, _, g6⟩
  have B6 := Below.byNone B5 g6 B5.size
  have m6 := m5.kept g6 (by simp)
  go_wp2_with fail
  refine (left_any _ _ _ _ m6).mono ?_
  rintro e w7 ⟨rfl, rfl⟩
  by_cases h3 : a3 ≤ 0
  all_goals
    go_wp2_with fail
    refine (pay_none _ _ _ _ _ m6 (by omega) (by omega) (by omega) (by omega)).mono ?_
    rintro e w7 ⟨rfl, m7, g7⟩
    have B7 := Below.byBlock B6 g7 B6.size z1
    go_wp2_with fail
    refine (left_any _ _ _ _ m7).mono ?_
    rintro e w8 ⟨rfl, rfl⟩
    go_wp2
    go_ret
    exact ⟨rfl, B7⟩

set_option maxHeartbeats 1000000 in
theorem walk3 (a0 a1 a2 a3 : Int) (w : World) (b0 : 0 ≤ a0) (b0' : a0 ≤ 4294967295) (b1 : 0 ≤ a1) (b1' : a1 ≤ 4294967295) (b2 : 0 ≤ a2) (b2' : a2 ≤ 4294967295) (b3 : -2147483648 ≤ a3) (b3' : a3 ≤ 2147483647)
    (hc : a0 < a1) (hd : a2 ≤ a0) :
    Calls Try.prog 4 #[.int .u32 a0, .int .u32 a1, .int .u32 a2, .int .i32 a3] w fun e w' => e = .returned (.bool true) ∧ Below w.heap.size w w' := by
  go_enter Try.func4, Try.ntmps4
  go_wp2_with fail
  refine (speaks_any _).mono ?_
  rintro e w1 ⟨rfl, g1⟩
  have B1 := Below.byNone (Below.refl w.heap.size w) g1 (Nat.le_refl _)
  have z1 := B1.size
  go_wp2_with fail
  refine (new_any _ _ (by omega)).mono ?_
  rintro e w2 ⟨rfl, m2, g2⟩
  have B2 := Below.byNone B1 g2 B1.size
  have z2 := m2.lt
  go_wp2_with fail
  refine (new_any _ _ (by omega)).mono ?_
  rintro e w3 ⟨rfl, n3, g3⟩
  have B3 := Below.byNone B2 g3 B2.size
  have m3 := m2.kept g3 (by simp)
  generalize w1.heap.size = bm at *
  generalize w2.heap.size = bn at *
  clear g1 g2 g3 m2 B1 B2
  go_wp2_with fail
  refine (pay_short _ _ _ _ _ m3 (by omega) (by omega)).mono ?_
  rintro e w4 ⟨rfl, _, g4⟩
  have B4 := Below.byNone B3 g4 B3.size
  have n4 := n3.kept g4 (by simp)
  have m4 := m3.kept g4 (by simp)
  go_wp2_with fail
  refine (pay_ok _ _ _ _ _ m4 (by omega) (by omega) (by omega) (by omega)).mono ?_
  rintro e w5 ⟨rfl, m5, g5⟩
  have B5 := Below.byBlock B4 g5 B4.size z1
  have n5 := n4.kept g5 (by simp; omega)
  go_wp2_with fail
  refine (pay_short _ _ _ _ _ n5 (by omega) (by omega)).mono ?_
  rintro e w6 ⟨rfl, _, g6⟩
  have B6 := Below.byNone B5 g6 B5.size
  have m6 := m5.kept g6 (by simp)
  go_wp2_with fail
  refine (left_any _ _ _ _ m6).mono ?_
  rintro e w7 ⟨rfl, rfl⟩
  by_cases h3 : a3 ≤ 0
  all_goals
    go_wp2_with fail
    refine (pay_none _ _ _ _ _ m6 (by omega) (by omega) (by omega) (by omega)).mono ?_
    rintro e w7 ⟨rfl, m7, g7⟩
    have B7 := Below.byBlock B6 g7 B6.size z1
    go_wp2_with fail
    refine (left_any _ _ _ _ m7).mono ?_
    rintro e w8 ⟨rfl, rfl⟩
    go_wp2
    go_ret
    exact ⟨rfl, B7⟩

set_option maxHeartbeats 1000000 in
theorem walk4 (a0 a1 a2 a3 : Int) (w : World) (b0 : 0 ≤ a0) (b0' : a0 ≤ 4294967295) (b1 : 0 ≤ a1) (b1' : a1 ≤ 4294967295) (b2 : 0 ≤ a2) (b2' : a2 ≤ 4294967295) (b3 : -2147483648 ≤ a3) (b3' : a3 ≤ 2147483647)
    (hc : a0 < a1) (hd : a0 < a2) :
    Calls Try.prog 4 #[.int .u32 a0, .int .u32 a1, .int .u32 a2, .int .i32 a3] w fun e w' => e = .returned (.bool true) ∧ Below w.heap.size w w' := by
  go_enter Try.func4, Try.ntmps4
  go_wp2_with fail
  refine (speaks_any _).mono ?_
  rintro e w1 ⟨rfl, g1⟩
  have B1 := Below.byNone (Below.refl w.heap.size w) g1 (Nat.le_refl _)
  have z1 := B1.size
  go_wp2_with fail
  refine (new_any _ _ (by omega)).mono ?_
  rintro e w2 ⟨rfl, m2, g2⟩
  have B2 := Below.byNone B1 g2 B1.size
  have z2 := m2.lt
  go_wp2_with fail
  refine (new_any _ _ (by omega)).mono ?_
  rintro e w3 ⟨rfl, n3, g3⟩
  have B3 := Below.byNone B2 g3 B2.size
  have m3 := m2.kept g3 (by simp)
  generalize w1.heap.size = bm at *
  generalize w2.heap.size = bn at *
  clear g1 g2 g3 m2 B1 B2
  go_wp2_with fail
  refine (pay_short _ _ _ _ _ m3 (by omega) (by omega)).mono ?_
  rintro e w4 ⟨rfl, _, g4⟩
  have B4 := Below.byNone B3 g4 B3.size
  have n4 := n3.kept g4 (by simp)
  have m4 := m3.kept g4 (by simp)
  go_wp2_with fail
  refine (pay_short _ _ _ _ _ m4 (by omega) (by omega)).mono ?_
  rintro e w5 ⟨rfl, _, g5⟩
  have B5 := Below.byNone B4 g5 B4.size
  have n5 := n4.kept g5 (by simp)
  have m5 := m4.kept g5 (by simp)
  go_wp2_with fail
  refine (pay_short _ _ _ _ _ n5 (by omega) (by omega)).mono ?_
  rintro e w6 ⟨rfl, _, g6⟩
  have B6 := Below.byNone B5 g6 B5.size
  have m6 := m5.kept g6 (by simp)
  go_wp2_with fail
  refine (left_any _ _ _ _ m6).mono ?_
  rintro e w7 ⟨rfl, rfl⟩
  by_cases h3 : a3 ≤ 0
  all_goals
    go_wp2_with fail
    refine (pay_none _ _ _ _ _ m6 (by omega) (by omega) (by omega) (by omega)).mono ?_
    rintro e w7 ⟨rfl, m7, g7⟩
    have B7 := Below.byBlock B6 g7 B6.size z1
    go_wp2_with fail
    refine (left_any _ _ _ _ m7).mono ?_
    rintro e w8 ⟨rfl, rfl⟩
    go_wp2
    go_ret
    exact ⟨rfl, B7⟩

theorem walk (a0 : Int) (a1 : Int) (a2 : Int) (a3 : Int) (w0 : (Lit.int .u32 a0).wf = true) (w1 : (Lit.int .u32 a1).wf = true) (w2 : (Lit.int .u32 a2).wf = true) (w3 : (Lit.int .i32 a3).wf = true) (w : World) :
    Calls Try.prog 4 #[.int .u32 a0, .int .u32 a1, .int .u32 a2, .int .i32 a3] w fun e w' => e = .returned (.bool true) ∧ Below w.heap.size w w' := by
  have ⟨b0, b0'⟩ := bounds_u32 w0
  have ⟨b1, b1'⟩ := bounds_u32 w1
  have ⟨b2, b2'⟩ := bounds_u32 w2
  have ⟨b3, b3'⟩ := bounds_i32 w3
  by_cases h1 : a1 + a2 ≤ a0
  · exact walk1 a0 a1 a2 a3 w b0 b0' b1 b1' b2 b2' b3 b3' h1
  · by_cases h2 : a1 ≤ a0
    · exact walk2 a0 a1 a2 a3 w b0 b0' b1 b1' b2 b2' b3 b3' h2 (by omega)
    · by_cases h3 : a2 ≤ a0
      · exact walk3 a0 a1 a2 a3 w b0 b0' b1 b1' b2 b2' b3 b3' (by omega) h3
      · exact walk4 a0 a1 a2 a3 w b0 b0' b1 b1' b2 b2' b3 b3' (by omega) (by omega)

set_option maxRecDepth 100000 in
theorem lifted (os : Os) (started : os.Started) (H : Type) (enc : TypeId × Value → H) :
    ReturnsInHanded {} Try.checked os 4 .any (Rows.meterSplitSpec.pre6 enc Try.prog Try.f4 Rows.meterSplitRow.domain false) (Rows.meterSplitSpec.post enc Try.prog Try.f4 false true false false) := by
  refine returnsInHanded_of_change (C := Try.checked) own started (by kernel_rfl) Try.func4
    (ChangeSpec.witness6 (enc := enc) (C := Try.checked) false ⟨#[], #[.int .u32 0, .int .u32 0, .int .u32 0, .int .i32 0], []⟩ 8 (by kernel_rfl) (by kernel_rfl) (by kernel_rfl) (by kernel_rfl)) ?_
  intro W base args ds gs before hval0 hW hcnd _
  have hval : ∀ (j : Nat) t v, Try.f4.params[j]? = some t → args[j]? = some v → Value.okWide Try.prog W .any base t v := hval0
  have hW' := hW
  obtain ⟨p, q, hA0, hV, rfl, hfz, hnd⟩ := hW
  have hA : DataW.TrodAll enc Try.prog W 0 (fun _ => true) true Try.f4.params.toList args.toList ds p := hA0
  rw [Try.params4] at hA hval
  obtain ⟨v0, vs0, d0, ds0, p0, q0, hargs, rfl, rfl, h0, r0⟩ := trodAll_cons hA
  obtain ⟨v1, vs1, d1, ds1, p1, q1, rfl, rfl, rfl, h1, r1⟩ := trodAll_cons r0
  obtain ⟨v2, vs2, d2, ds2, p2, q2, rfl, rfl, rfl, h2, r2⟩ := trodAll_cons r1
  obtain ⟨v3, vs3, d3, ds3, p3, q3, rfl, rfl, rfl, h3, r3⟩ := trodAll_cons r2
  obtain ⟨rfl, rfl, rfl⟩ := trodAll_nil r3
  obtain rfl : args = #[v0, v1, v2, v3] := by cases args; simp_all
  obtain ⟨rfl, rfl⟩ := trodVars_none hV
  obtain ⟨a0, rfl, rfl, rfl, w0⟩ := open_int Try.underlying22 (hval 0 22 v0 rfl rfl) h0
  obtain ⟨a1, rfl, rfl, rfl, w1⟩ := open_int Try.underlying22 (hval 1 22 v1 rfl rfl) h1
  obtain ⟨a2, rfl, rfl, rfl, w2⟩ := open_int Try.underlying22 (hval 2 22 v2 rfl rfl) h2
  obtain ⟨a3, rfl, rfl, rfl, w3⟩ := open_int Try.underlying21 (hval 3 21 v3 rfl rfl) h3
  clear hA0 hval0
  simp only [List.append_nil] at hW'
  refine (walk a0 a1 a2 a3 w0 w1 w2 w3 W).mono fun e W' ⟨he, hg⟩ => ?_
  subst he
  exact ⟨_, rfl, _, _, _, [], _, [], hW', trodAll_mk1 (shut_bool Try.underlying4 _), (trodAll_cons_mk (shut_int Try.underlying22 w0) (trodAll_cons_mk (shut_int Try.underlying22 w1) (trodAll_cons_mk (shut_int Try.underlying22 w2) (trodAll_cons_mk (shut_int Try.underlying21 w3) trodAll_mk0)))), rfl, hg.frame _, fun h => by cases h⟩

theorem over : Rows.meterSplitRow.holds Try.pinned (OpenSpec.ofChange Rows.meterSplitSpec) :=
  OpenClaim.holds_of_wide 4 Try.f4 rfl rfl rfl rfl rfl rfl rfl ⟨rfl, rfl, rfl, rfl, rfl⟩ rfl rfl rfl rfl rfl (by kernel_rfl) Try.func4 (by kernel_rfl)
    (of_decide_eq_true (by kernel_rfl)) (by unfold Func.isWrapper; first | (rw [if_pos (by decide +kernel)]; kernel_rfl) | (rw [if_neg (by decide +kernel)]; exact ⟨rfl, rfl⟩))
    (fun os started H enc _ => lifted os started H enc)

theorem proved : Rows.MeterSplitSaid :=
  over
#print axioms proved
end Go.Proofs.Ytdfoolllliaegaa.meterSplit
