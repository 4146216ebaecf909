/- Proved: for all a, b, c, d the law MeterShorts of layer 1 returns true and leaves what was handed in as it was (the tied card). Conditions: none beyond the statement's own (the library's tables as the program's text lays them). -/
import Derived.Test.YtdfoolllliaegaaDoorText
import Derived.Test.YtdfoolllliaegaaDoorCards
import Derived.Test.YtdfoolllliaegaaDoorTie
import Derived.WalkKit
import Derived.ProofKit
import Derived.OpenShut
import Derived.ChangeOld
import Derived.Deep.DeepHandedRow
import Derived.Lib.LaidTab
import Derived.LaidMore
import Derived.MakeChecks
import Derived.Stop.LaidErr
import Derived.LaidHandle
namespace Go.Proofs.YtdfoolllliaegaaDoor.meterShorts
open Go.ChangeShapes Go.WideShapes Go.ChangeAt Go.RowKit

theorem met_box (w : World) (x y : Int) : Met (w.alloc (.cells #[.int .i64 x, .int .i64 y] 39)) w.heap.size x y := by
  refine ⟨?_, ?_, ?_, ?_, ?_⟩
  all_goals simp [go_sem]

theorem text_eq (a b : Int) : (shortText a b == (({ data := (Lib.itoa a).toArray } : ByteArray) ++ { data := #[32, 111, 102, 32] } ++ { data := (Lib.itoa b).toArray }).toList) = true := by
  rw [show (#[32, 111, 102, 32] : Array UInt8) = [32, 111, 102, 32].toArray from rfl, ByteArray.mk_append_mk, ByteArray.mk_append_mk]
  simp [shortText, go_sem]

theorem two_boxes (w : World) (a b c d : Int) :
    Met ((w.alloc (.cells #[.int .i64 a, .int .i64 b] 39)).alloc (.cells #[.int .i64 c, .int .i64 d] 39)) w.heap.size a b ∧
    Met ((w.alloc (.cells #[.int .i64 a, .int .i64 b] 39)).alloc (.cells #[.int .i64 c, .int .i64 d] 39)) (w.heap.size + 1) c d ∧
    w.grownBy ((w.alloc (.cells #[.int .i64 a, .int .i64 b] 39)).alloc (.cells #[.int .i64 c, .int .i64 d] 39)) none := by
  have g1 := World.grownBy_alloc w (.cells #[.int .i64 a, .int .i64 b] 39) none
  have g2 := World.grownBy_alloc (w.alloc (.cells #[.int .i64 a, .int .i64 b] 39)) (.cells #[.int .i64 c, .int .i64 d] 39) none
  refine ⟨(met_box w a b).kept g2 (by simp), ?_, grown_trans g1 g2⟩
  have := met_box (w.alloc (.cells #[.int .i64 a, .int .i64 b] 39)) c d
  simpa using this

set_option maxHeartbeats 2000000 in
theorem walk_same (a b : Int) (w : World) (a0 : -9223372036854775808 ≤ a) (a1 : a ≤ 9223372036854775807) (b0 : -9223372036854775808 ≤ b) (b1 : b ≤ 9223372036854775807) (ht : Tab w) :
    Calls Tryd.prog 4 #[.int .i64 a, .int .i64 b, .int .i64 a, .int .i64 b] w fun e w' => e = .returned (.bool true) ∧ Below w.heap.size w w' := by
  have la := Lib.itoa_length_le a a0 a1
  have lb := Lib.itoa_length_le b b0 b1
  have k1 : ¬ (9223372036854775807 < (Lib.itoa a).length + 4) := by omega
  have k2 : ¬ (9223372036854775807 < (Lib.itoa a).length + 4 + (Lib.itoa b).length) := by omega
  have k3 := text_eq a b
  clear la lb
  go_enter Tryd.func4, Tryd.ntmps4
  go_wp2_with fail
  refine (speaks_any _).mono ?_
  rintro e w1 ⟨rfl, g1⟩
  have B1 := Below.byNone (Below.refl w.heap.size w) g1 (Nat.le_refl _)
  have t1 := ht.kept g1 (by simp)
  go_wp2_with fail
  obtain ⟨mA, mB, gA⟩ := two_boxes w1 a b a b
  generalize (w1.alloc (.cells #[.int .i64 a, .int .i64 b] 39)).alloc (.cells #[.int .i64 a, .int .i64 b] 39) = w2 at *
  have B2 := Below.byNone B1 gA B1.size
  have t2 := t1.kept gA (by simp)
  refine (error_any _ _ _ _ mA a0 a1 b0 b1 t2).mono ?_
  rintro e w3 ⟨rfl, g3⟩
  have B3 := Below.byNone B2 g3 B2.size
  have t3 := t2.kept g3 (by simp)
  have mA3 := mA.kept g3 (by simp)
  have mB3 := mB.kept g3 (by simp)
  go_wp2_with fail
  refine (error_any _ _ _ _ mB3 a0 a1 b0 b1 t3).mono ?_
  rintro e w4 ⟨rfl, g4⟩
  have B4 := Below.byNone B3 g4 B3.size
  have t4 := t3.kept g4 (by simp)
  have mA4 := mA3.kept g4 (by simp)
  go_wp2_with fail
  refine (error_any _ _ _ _ mA4 a0 a1 b0 b1 t4).mono ?_
  rintro e w5 ⟨rfl, g5⟩
  have B5 := Below.byNone B4 g5 B4.size
  go_wp2_with fail
  refine (decimal_any _ _ _ (Nat.le_refl _) a0 a1).mono ?_
  rintro e w6 ⟨rfl, g6⟩
  have B6 := Below.byNone B5 g6 B5.size
  go_wp2_with fail
  refine (decimal_any _ _ _ (Nat.le_refl _) b0 b1).mono ?_
  rintro e w7 ⟨rfl, g7⟩
  have B7 := Below.byNone B6 g7 B6.size
  go_wp2
  go_ret
  exact ⟨rfl, B7⟩

set_option maxHeartbeats 2000000 in
theorem walk_first (a b c d : Int) (w : World) (a0 : -9223372036854775808 ≤ a) (a1 : a ≤ 9223372036854775807) (b0 : -9223372036854775808 ≤ b) (b1 : b ≤ 9223372036854775807) (c0 : -9223372036854775808 ≤ c) (c1 : c ≤ 9223372036854775807) (d0 : -9223372036854775808 ≤ d) (d1 : d ≤ 9223372036854775807) (ht : Tab w) (hne : a ≠ c) :
    Calls Tryd.prog 4 #[.int .i64 a, .int .i64 b, .int .i64 c, .int .i64 d] w fun e w' => e = .returned (.bool true) ∧ Below w.heap.size w w' := by
  have e1 : ((a : Int) == c) = false := by simpa using hne
  have e2 : (shortText a b == shortText c d) = false := by simpa using fun h => hne (shortText_inj _ _ _ _ h).1
  clear hne
  have la := Lib.itoa_length_le a a0 a1
  have lb := Lib.itoa_length_le b b0 b1
  have k1 : ¬ (9223372036854775807 < (Lib.itoa a).length + 4) := by omega
  have k2 : ¬ (9223372036854775807 < (Lib.itoa a).length + 4 + (Lib.itoa b).length) := by omega
  have k3 := text_eq a b
  clear la lb
  go_enter Tryd.func4, Tryd.ntmps4
  go_wp2_with fail
  refine (speaks_any _).mono ?_
  rintro e w1 ⟨rfl, g1⟩
  have B1 := Below.byNone (Below.refl w.heap.size w) g1 (Nat.le_refl _)
  have t1 := ht.kept g1 (by simp)
  go_wp2_with fail
  obtain ⟨mA, mB, gA⟩ := two_boxes w1 a b c d
  generalize (w1.alloc (.cells #[.int .i64 a, .int .i64 b] 39)).alloc (.cells #[.int .i64 c, .int .i64 d] 39) = w2 at *
  have B2 := Below.byNone B1 gA B1.size
  have t2 := t1.kept gA (by simp)
  refine (error_any _ _ _ _ mA a0 a1 b0 b1 t2).mono ?_
  rintro e w3 ⟨rfl, g3⟩
  have B3 := Below.byNone B2 g3 B2.size
  have t3 := t2.kept g3 (by simp)
  have mA3 := mA.kept g3 (by simp)
  have mB3 := mB.kept g3 (by simp)
  go_wp2_with fail
  refine (error_any _ _ _ _ mB3 c0 c1 d0 d1 t3).mono ?_
  rintro e w4 ⟨rfl, g4⟩
  have B4 := Below.byNone B3 g4 B3.size
  have t4 := t3.kept g4 (by simp)
  have mA4 := mA3.kept g4 (by simp)
  go_wp2_with fail
  refine (error_any _ _ _ _ mA4 a0 a1 b0 b1 t4).mono ?_
  rintro e w5 ⟨rfl, g5⟩
  have B5 := Below.byNone B4 g5 B4.size
  go_wp2_with fail
  refine (decimal_any _ _ _ (Nat.le_refl _) a0 a1).mono ?_
  rintro e w6 ⟨rfl, g6⟩
  have B6 := Below.byNone B5 g6 B5.size
  go_wp2_with fail
  refine (decimal_any _ _ _ (Nat.le_refl _) b0 b1).mono ?_
  rintro e w7 ⟨rfl, g7⟩
  have B7 := Below.byNone B6 g7 B6.size
  go_wp2
  go_ret
  exact ⟨rfl, B7⟩

set_option maxHeartbeats 2000000 in
theorem walk_second (a b d : Int) (w : World) (a0 : -9223372036854775808 ≤ a) (a1 : a ≤ 9223372036854775807) (b0 : -9223372036854775808 ≤ b) (b1 : b ≤ 9223372036854775807) (d0 : -9223372036854775808 ≤ d) (d1 : d ≤ 9223372036854775807) (ht : Tab w) (hne : b ≠ d) :
    Calls Tryd.prog 4 #[.int .i64 a, .int .i64 b, .int .i64 a, .int .i64 d] w fun e w' => e = .returned (.bool true) ∧ Below w.heap.size w w' := by
  have e1 : ((b : Int) == d) = false := by simpa using hne
  have e2 : (shortText a b == shortText a d) = false := by simpa using fun h => hne (shortText_inj _ _ _ _ h).2
  clear hne
  have la := Lib.itoa_length_le a a0 a1
  have lb := Lib.itoa_length_le b b0 b1
  have k1 : ¬ (9223372036854775807 < (Lib.itoa a).length + 4) := by omega
  have k2 : ¬ (9223372036854775807 < (Lib.itoa a).length + 4 + (Lib.itoa b).length) := by omega
  have k3 := text_eq a b
  clear la lb
  go_enter Tryd.func4, Tryd.ntmps4
  go_wp2_with fail
  refine (speaks_any _).mono ?_
  rintro e w1 ⟨rfl, g1⟩
  have B1 := Below.byNone (Below.refl w.heap.size w) g1 (Nat.le_refl _)
  have t1 := ht.kept g1 (by simp)
  go_wp2_with fail
  obtain ⟨mA, mB, gA⟩ := two_boxes w1 a b a d
  generalize (w1.alloc (.cells #[.int .i64 a, .int .i64 b] 39)).alloc (.cells #[.int .i64 a, .int .i64 d] 39) = w2 at *
  have B2 := Below.byNone B1 gA B1.size
  have t2 := t1.kept gA (by simp)
  refine (error_any _ _ _ _ mA a0 a1 b0 b1 t2).mono ?_
  rintro e w3 ⟨rfl, g3⟩
  have B3 := Below.byNone B2 g3 B2.size
  have t3 := t2.kept g3 (by simp)
  have mA3 := mA.kept g3 (by simp)
  have mB3 := mB.kept g3 (by simp)
  go_wp2_with fail
  refine (error_any _ _ _ _ mB3 a0 a1 d0 d1 t3).mono ?_
  rintro e w4 ⟨rfl, g4⟩
  have B4 := Below.byNone B3 g4 B3.size
  have t4 := t3.kept g4 (by simp)
  have mA4 := mA3.kept g4 (by simp)
  go_wp2_with fail
  refine (error_any _ _ _ _ mA4 a0 a1 b0 b1 t4).mono ?_
  rintro e w5 ⟨rfl, g5⟩
  have B5 := Below.byNone B4 g5 B4.size
  go_wp2_with fail
  refine (decimal_any _ _ _ (Nat.le_refl _) a0 a1).mono ?_
  rintro e w6 ⟨rfl, g6⟩
  have B6 := Below.byNone B5 g6 B5.size
  go_wp2_with fail
  refine (decimal_any _ _ _ (Nat.le_refl _) b0 b1).mono ?_
  rintro e w7 ⟨rfl, g7⟩
  have B7 := Below.byNone B6 g7 B6.size
  go_wp2
  go_ret
  exact ⟨rfl, B7⟩

theorem walk (a b c d : Int) (w : World) (wa : (Lit.int .i64 a).wf = true) (wb : (Lit.int .i64 b).wf = true) (wc : (Lit.int .i64 c).wf = true) (wd : (Lit.int .i64 d).wf = true) (ht : Tab w) :
    Calls Tryd.prog 4 #[.int .i64 a, .int .i64 b, .int .i64 c, .int .i64 d] w fun e w' => e = .returned (.bool true) ∧ Below w.heap.size w w' := by
  have ⟨a0, a1⟩ := bounds_i64 wa
  have ⟨b0, b1⟩ := bounds_i64 wb
  have ⟨c0, c1⟩ := bounds_i64 wc
  have ⟨d0, d1⟩ := bounds_i64 wd
  by_cases h1 : a = c
  · by_cases h2 : b = d
    · subst h1 h2; exact walk_same a b w a0 a1 b0 b1 ht
    · subst h1; exact walk_second a b d w a0 a1 b0 b1 d0 d1 ht h2
  · exact walk_first a b c d w a0 a1 b0 b1 c0 c1 d0 d1 ht h1

theorem own : ownKnob Tryd.prog.godebug = none := by kernel_rfl
theorem tTab : (Tryd.prog.globals[2]?).map (·.type) = some 87 := by kernel_rfl
theorem cells87 : Tryd.prog.cellsOf 87 = 20 := by kernel_rfl
theorem cells80 : Tryd.prog.cellsOf 80 = 1 := by kernel_rfl

theorem table {W : World} (h : laidMetH Tryd.prog Rows.meterShortsRow.laid W) : Tab W := by
  rw [MakeChecks.laidMetH_plain _ _ _ (by kernel_rfl)] at h
  exact Lib.tabIs_of_head (rest := []) gTab tTab Tryd.underlying87 Tryd.underlying80 cells80 cells87 h.tail.tail

set_option maxRecDepth 100000 in
theorem contract (H : Type) (enc : TypeId × Value → H) (W : World) (base : Nat) (args : Array Value) (ds gs : List (DataW H)) (before : List MemPlace)
    (hval : ∀ (j : Nat) t v, Tryd.f4.params[j]? = some t → args[j]? = some v → Value.okWide Tryd.prog W .any base t v)
    (hW : DataW.Whole enc Tryd.prog Tryd.f4.params.toList Rows.meterShortsSpec.vars false W args.toList ds gs before) (hL : laidMetH Tryd.prog Rows.meterShortsRow.laid W) :
    Calls Tryd.prog 4 args W fun e W' => ∃ v, e = .returned v ∧ Rows.meterShortsSpec.post enc Tryd.prog Tryd.f4 false true false false W args v W' := by
  have hW' := hW
  obtain ⟨p, q, hA0, hV, rfl, hfz, hnd⟩ := hW
  have hA : DataW.TrodAll enc Tryd.prog W 0 (fun _ => true) true Tryd.f4.params.toList args.toList ds p := hA0
  rw [Tryd.params4] at hA hval
  obtain ⟨v0, vs0, d0, ds0, p0, q0, hargs, rfl, rfl, h0, r0⟩ := trodAll_cons hA
  obtain ⟨v1, vs1, d1, ds1, p1, q1, rfl, rfl, rfl, h1, r1⟩ := trodAll_cons r0
  obtain ⟨v2, vs2, d2, ds2, p2, q2, rfl, rfl, rfl, h2, r2⟩ := trodAll_cons r1
  obtain ⟨v3, vs3, d3, ds3, p3, q3, rfl, rfl, rfl, h3, r3⟩ := trodAll_cons r2
  obtain ⟨rfl, rfl, rfl⟩ := trodAll_nil r3
  obtain rfl : args = #[v0, v1, v2, v3] := by cases args; simp_all
  obtain ⟨rfl, rfl⟩ := trodVars_none hV
  obtain ⟨a0, rfl, rfl, rfl, w0⟩ := open_int Tryd.underlying3 (hval 0 3 v0 rfl rfl) h0
  obtain ⟨a1, rfl, rfl, rfl, w1⟩ := open_int Tryd.underlying3 (hval 1 3 v1 rfl rfl) h1
  obtain ⟨a2, rfl, rfl, rfl, w2⟩ := open_int Tryd.underlying3 (hval 2 3 v2 rfl rfl) h2
  obtain ⟨a3, rfl, rfl, rfl, w3⟩ := open_int Tryd.underlying3 (hval 3 3 v3 rfl rfl) h3
  clear hA0
  simp only [List.append_nil] at hW'
  refine (walk a0 a1 a2 a3 W w0 w1 w2 w3 (table hL)).mono fun e W' ⟨he, hg⟩ => ?_
  subst he
  exact ⟨_, rfl, _, _, _, [], _, [], hW', trodAll_mk1 (shut_bool Tryd.underlying4 _), (trodAll_cons_mk (shut_int Tryd.underlying3 w0) (trodAll_cons_mk (shut_int Tryd.underlying3 w1) (trodAll_cons_mk (shut_int Tryd.underlying3 w2) (trodAll_cons_mk (shut_int Tryd.underlying3 w3) trodAll_mk0)))), rfl, hg.frame _, fun h => by cases h⟩

set_option maxRecDepth 100000 in
theorem laid_met (os : Os) (args : Array Value) : laidMetH Tryd.prog Rows.meterShortsRow.laid ((World.doorLaid Tryd.prog 50 os).forCall (fun _ _ => 0) ⟨#[], args, []⟩).memory :=
  laidMetH_of_parts3 (fuel := 8) (laidMet_of_run' 8 (by kernel_rfl) (by kernel_rfl)) (by kernel_rfl) (by kernel_rfl)

theorem reads (os : Os) {H : Type} (enc : TypeId × Value → H) : ∃ places, DataW.whole enc Tryd.prog ((World.doorLaid Tryd.prog 50 os).forCall (fun _ _ => 0) ⟨#[], #[.int .i64 0, .int .i64 0, .int .i64 0, .int .i64 0], []⟩).memory Tryd.f4.params.toList Rows.meterShortsSpec.vars false #[Value.int .i64 0, .int .i64 0, .int .i64 0, .int .i64 0].toList 8 = some ([.lit (.int .i64 0), .lit (.int .i64 0), .lit (.int .i64 0), .lit (.int .i64 0)], [], places) :=
  ⟨[], by kernel_rfl⟩

set_option maxRecDepth 100000 in
theorem lifted (os : Os) (started : os.Started) (H : Type) (enc : TypeId × Value → H) (F : Stop.Interp) :
    ReturnsInHanded {} Tryd.checked os 4 .any ((OpenSpec.ofChange Rows.meterShortsSpec).preRow enc Tryd.prog Tryd.f4 Rows.meterShortsRow.domain false Rows.meterShortsRow.laid) (((OpenSpec.ofChange Rows.meterShortsSpec).at F).post enc Tryd.prog Tryd.f4 false true false false) := by
  obtain ⟨places, hx⟩ := reads os enc
  refine returnsInHanded_of_row (C := Tryd.checked) (s := OpenSpec.ofChange Rows.meterShortsSpec) own started (by kernel_rfl) Tryd.func4
    (witness_row_at (enc := enc) (C := Tryd.checked) false (World.doorLaid Tryd.prog 50 os) #[.int .i64 0, .int .i64 0, .int .i64 0, .int .i64 0] rfl (by kernel_rfl) (by kernel_rfl) (by kernel_rfl)
      (OpenSpec.preRow_of_cond 8 hx (by kernel_rfl) (fun k hk => by cases hk) (by kernel_rfl) (laid_met os _))) ?_
  intro W base args ds gs before hval hW _ _ _ hL _ _
  exact contract H enc W base args ds gs before hval hW hL

set_option maxRecDepth 100000 in
theorem said : Rows.MeterShortsSaid :=
  OpenClaim.holds_of_cond 4 Tryd.f4 rfl rfl rfl rfl rfl rfl rfl ⟨rfl, rfl, rfl, rfl, rfl⟩ rfl rfl rfl rfl rfl (by kernel_rfl) Tryd.func4 (by kernel_rfl)
    (of_decide_eq_true (by kernel_rfl)) (by unfold Func.isWrapper; first | (rw [if_pos (by decide +kernel)]; kernel_rfl) | (rw [if_neg (by decide +kernel)]; exact ⟨rfl, rfl⟩))
    (fun os started H enc _ F => by rw [OpenClaim.pre_eq_preRow]; exact lifted os started H enc F)

theorem plain (f : FuncId) (fn : Func) (hf : Tryd.pinned.checked.prog.funcNamed "decanter/decanterlaw01.MeterShorts" = some f) (hfn : Tryd.pinned.checked.prog.funcs[f]? = some fn) :
    true = Tryd.pinned.checked.prog.looks [] ∧ ∀ (j : Nat) t, fn.params[j]? = some t → Tryd.pinned.checked.prog.wantsStandIn t = false := by
  obtain rfl : f = 4 := Option.some.inj ((show Tryd.prog.funcNamed "decanter/decanterlaw01.MeterShorts" = some 4 by kernel_rfl).symm.trans hf) |>.symm
  obtain rfl : fn = Tryd.f4 := (Option.some.inj (Tryd.func4.symm.trans hfn)).symm
  refine ⟨by kernel_rfl, fun j t ht => ?_⟩
  rw [Tryd.params4] at ht
  obtain rfl : t = 3 := by simpa using Array.mem_of_getElem? ht
  exact (show Tryd.prog.wantsStandIn 3 = false by kernel_rfl)

set_option maxRecDepth 100000 in
theorem card : Rows.MeterShortsCardSaid :=
  Claim7.holds_tied_plain_at .later [] _ _ _ _ said (fun _ h => by cases h) (by kernel_rfl) (fun _ h => by cases h) meterShorts_row_tie rfl ⟨rfl, rfl⟩ (by kernel_rfl) rfl plain (by kernel_rfl)
#print axioms card
end Go.Proofs.YtdfoolllliaegaaDoor.meterShorts
