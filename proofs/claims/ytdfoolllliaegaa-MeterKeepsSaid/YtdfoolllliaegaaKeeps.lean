/- Proved: for every amount and every list of payments, the law MeterKeeps of layer 1 returns true and leaves what was handed in as it was. Conditions: none beyond the statement's own. -/
import Derived.Test.YtdfoolllliaegaaRows
import Derived.WalkKit
import Derived.ProofKit
import Derived.OpenShut
import Derived.ShutString
import Derived.LoopTactic
import Derived.Test.YtdfoolllliaegaaMeter
import Derived.ChangeOld
import Derived.Below
namespace Go.Proofs.Ytdfoolllliaegaa.meterKeeps
open Go.ChangeShapes Go.WideShapes Go.ChangeAt Go.RowKit
open Go.ChangeMaps (open_string shut_string)
set_option linter.unusedVariables false

theorem own : ownKnob Try.prog.godebug = none := by kernel_rfl
theorem laidOut : laidOutB Try.prog = true := by kernel_rfl

def IsRow (k : IntKind) (w : World) (a : Option Addr) (len cap : Nat) (zs : List Int) : Prop :=
  (a = none ∧ len = 0 ∧ cap = 0 ∧ zs = []) ∨
  ∃ x, a = some x ∧ len ≤ cap ∧ cap ≤ maxLen ∧ zs.length = cap ∧ (∀ i, i < zs.length → w.cell? (x.add i) = some (.int k (zs.getD i 0))) ∧ ∀ n ∈ zs, (Lit.int k n).wf = true

set_option maxHeartbeats 1000000 in
theorem walk_long (a0 : Int) (a1 : Option Addr) (len1 cap1 : Nat) (w : World) (hl : 60 < len1) (hm : len1 ≤ maxLen) :
    Calls Try.prog 3 #[.int .u32 a0, .slice a1 len1 cap1] w fun e w' => e = .returned (.bool true) ∧ Below w.heap.size w w' := by
  unfold maxLen at hm
  go_enter Try.func3, Try.ntmps3
  go_wp2_with fail
  refine (speaks_any _).mono ?_
  rintro e w1 ⟨rfl, g1⟩
  have B1 := Below.byNone (Below.refl w.heap.size w) g1 (Nat.le_refl _)
  go_wp2_with fail
  refine (speaks_any _).mono ?_
  rintro e w2 ⟨rfl, g2⟩
  have B2 := Below.byNone B1 g2 B1.size
  go_wp2
  go_ret
  exact ⟨rfl, B2⟩

set_option maxHeartbeats 1000000 in
theorem walk_none (a0 : Int) (a1 : Option Addr) (len1 cap1 : Nat) (w : World) (b0 : 0 ≤ a0) (b0' : a0 ≤ 4294967295) (hl : len1 ≤ 0) :
    Calls Try.prog 3 #[.int .u32 a0, .slice a1 len1 cap1] w fun e w' => e = .returned (.bool true) ∧ Below w.heap.size w w' := by
  have hd : decide ((60 : Int) < (len1 : Int)) = false := by simp; omega
  go_enter Try.func3, Try.ntmps3
  go_wp2_with fail
  refine (speaks_any _).mono ?_
  rintro e w1 ⟨rfl, g1⟩
  have B1 := Below.byNone (Below.refl w.heap.size w) g1 (Nat.le_refl _)
  have z1 := B1.size
  go_wp2_with fail
  refine (new_any _ _ (by omega)).mono ?_
  rintro e w2 ⟨rfl, m2, g2⟩
  have B2 := Below.byNone B1 g2 B1.size
  have z2 := m2.lt
  go_wp2_with fail
  refine (new_any _ _ (by omega)).mono ?_
  rintro e w3 ⟨rfl, n3, g3⟩
  have B3 := Below.byNone B2 g3 B2.size
  have m3 := m2.kept g3 (by simp)
  generalize w1.heap.size = bm at *
  generalize w2.heap.size = bn at *
  clear g1 g2 g3 m2 B1 B2
  go_wp2
  go_loopw [7, 33] (fun t i wr => ∃ (k : Nat) (s : Int), k ≤ len1 ∧ i = .int .i64 k ∧ t = .int .i64 s ∧ 0 ≤ s ∧ s ≤ a0 ∧ Met wr bm (a0 - s) s ∧ Met wr bn a0 0 ∧ Below w.heap.size w wr)
    (fun _ i _ => len1 - (intOf i).toNat)
  case atStart => exact ⟨0, 0, Nat.zero_le _, rfl, rfl, by omega, by omega, by simpa using m3, n3, B3⟩
  case round =>
    obtain ⟨k, s, hk, rfl, rfl, s0, s1, hm, hn, hB⟩ := hrel
    have hlt : ¬ k < len1 := by omega
    go_wp2_with fail
    refine (pay_ok _ _ _ _ _ hn (by omega) (by omega) (by omega) (by omega)).mono ?_
    rintro e w4 ⟨rfl, n4, g4⟩
    have B4 := Below.byBlock hB g4 hB.size (by omega)
    have m4 := hm.kept g4 (by simp; omega)
    go_wp2_with fail
    refine (left_any _ _ _ _ n4).mono ?_
    rintro e w5 ⟨rfl, rfl⟩
    go_wp2_with fail
    refine (left_any _ _ _ _ m4).mono ?_
    rintro e w5 ⟨rfl, rfl⟩
    go_wp2_with fail
    refine (left_any _ _ _ _ n4).mono ?_
    rintro e w5 ⟨rfl, rfl⟩
    go_wp2_with fail
    refine (pay_ok _ _ _ _ _ n4 (by omega) (by omega) (by omega) (by omega)).mono ?_
    rintro e w5 ⟨rfl, n5, g5⟩
    have B5 := Below.byBlock B4 g5 B4.size (by omega)
    go_wp2_with fail
    refine (left_any _ _ _ _ n5).mono ?_
    rintro e w6 ⟨rfl, rfl⟩
    go_wp2_with fail
    refine (pay_short _ _ _ _ _ n5 (by omega) (by omega)).mono ?_
    rintro e w6 ⟨rfl, _, g6⟩
    have B6 := Below.byNone B5 g6 B5.size
    go_wp2
    go_ret
    exact ⟨rfl, B6⟩

set_option maxHeartbeats 1000000 in
theorem walk_some (a0 : Int) (b off : Nat) (len1 cap1 : Nat) (zs : List Int) (w : World) (b0 : 0 ≤ a0) (b0' : a0 ≤ 4294967295) (hl : len1 ≤ 60) (hz : len1 ≤ zs.length)
    (hx : ∀ j, j < zs.length → w.cell? ⟨b, off + j, none⟩ = some (.int .u32 (zs.getD j 0))) (hw : ∀ n ∈ zs, (Lit.int .u32 n).wf = true) :
    Calls Try.prog 3 #[.int .u32 a0, .slice (some ⟨b, off, none⟩) len1 cap1] w fun e w' => e = .returned (.bool true) ∧ Below w.heap.size w w' := by
  have HX := Lib.hid hx
  have HW := Lib.hid hw
  clear hx hw
  have hd : decide ((60 : Int) < (len1 : Int)) = false := by simp; omega
  go_enter Try.func3, Try.ntmps3
  go_wp2_with fail
  refine (speaks_any _).mono ?_
  rintro e w1 ⟨rfl, g1⟩
  have B1 := Below.byNone (Below.refl w.heap.size w) g1 (Nat.le_refl _)
  have z1 := B1.size
  go_wp2_with fail
  refine (new_any _ _ (by omega)).mono ?_
  rintro e w2 ⟨rfl, m2, g2⟩
  have B2 := Below.byNone B1 g2 B1.size
  have z2 := m2.lt
  go_wp2_with fail
  refine (new_any _ _ (by omega)).mono ?_
  rintro e w3 ⟨rfl, n3, g3⟩
  have B3 := Below.byNone B2 g3 B2.size
  have m3 := m2.kept g3 (by simp)
  generalize w1.heap.size = bm at *
  generalize w2.heap.size = bn at *
  clear g1 g2 g3 m2 B1 B2
  go_wp2
  go_loopw [7, 33] (fun t i wr => ∃ (k : Nat) (s : Int), k ≤ len1 ∧ i = .int .i64 k ∧ t = .int .i64 s ∧ 0 ≤ s ∧ s ≤ a0 ∧ Met wr bm (a0 - s) s ∧ Met wr bn a0 0 ∧ Below w.heap.size w wr)
    (fun _ i _ => len1 - (intOf i).toNat)
  case atStart => exact ⟨0, 0, Nat.zero_le _, rfl, rfl, by omega, by omega, by simpa using m3, n3, B3⟩
  case round =>
    obtain ⟨k, s, hk, rfl, rfl, s0, s1, hm, hn, hB⟩ := hrel
    by_cases hlt : k < len1
    · have hc0 := HX.out k (by omega)
      have hc1 : wr.cell? ⟨b, off + k, none⟩ = some (.int .u32 (zs.getD k 0)) := (hB.cell (World.block_lt_of_cell? w _ hc0)).trans hc0
      have ⟨y0, y1⟩ := range_u32 HW.out k
      have ez : zs.getD k 0 = zs[k]?.getD 0 := by simp
      rw [ez] at hc1
      clear hc0 ez
      generalize zs[k]?.getD 0 = z at *
      by_cases hp : z ≤ a0 - s
      · go_wp2_with fail
        refine (left_any _ _ _ _ hm).mono ?_
        rintro e w5 ⟨rfl, rfl⟩
        go_wp2_with fail
        refine (pay_ok _ _ _ _ _ hm (by omega) (by omega) (by omega) (by omega)).mono ?_
        rintro e w4 ⟨rfl, m4, g4⟩
        have B4 := Below.byBlock hB g4 hB.size (by omega)
        have n4 := hn.kept g4 (by simp; omega)
        go_wp2_with fail
        refine (left_any _ _ _ _ m4).mono ?_
        rintro e w5 ⟨rfl, rfl⟩
        go_wp2_with fail
        refine (spent_any _ _ _ _ m4).mono ?_
        rintro e w5 ⟨rfl, rfl⟩
        go_wp2_with fail
        refine (spent_any _ _ _ _ m4).mono ?_
        rintro e w5 ⟨rfl, rfl⟩
        go_wp2
        go_roundw
        case rel => exact ⟨k + 1, s + z, by omega, by go_num, rfl, by omega, by omega, by rw [show a0 - (s + z) = a0 - s - z from by omega]; exact m4, n4, B4⟩
        case measure => simp [intOf]; omega
      · have hp' : a0 - s < z := by omega
        go_wp2_with fail
        refine (left_any _ _ _ _ hm).mono ?_
        rintro e w5 ⟨rfl, rfl⟩
        go_wp2_with fail
        refine (pay_short _ _ _ _ _ hm (by omega) (by omega)).mono ?_
        rintro e w4 ⟨rfl, _, g4⟩
        have B4 := Below.byNone hB g4 hB.size
        have n4 := hn.kept g4 (by simp)
        have m4 := hm.kept g4 (by simp)
        go_wp2_with fail
        refine (left_any _ _ _ _ m4).mono ?_
        rintro e w5 ⟨rfl, rfl⟩
        go_wp2_with fail
        refine (left_any _ _ _ _ m4).mono ?_
        rintro e w5 ⟨rfl, rfl⟩
        go_wp2_with fail
        refine (spent_any _ _ _ _ m4).mono ?_
        rintro e w5 ⟨rfl, rfl⟩
        go_wp2_with fail
        refine (spent_any _ _ _ _ m4).mono ?_
        rintro e w5 ⟨rfl, rfl⟩
        go_wp2
        go_roundw
        case rel => exact ⟨k + 1, s, by omega, by go_num, rfl, by omega, by omega, m4, n4, B4⟩
        case measure => simp [intOf]; omega
    · go_wp2_with fail
      refine (pay_ok _ _ _ _ _ hn (by omega) (by omega) (by omega) (by omega)).mono ?_
      rintro e w4 ⟨rfl, n4, g4⟩
      have B4 := Below.byBlock hB g4 hB.size (by omega)
      have m4 := hm.kept g4 (by simp; omega)
      go_wp2_with fail
      refine (left_any _ _ _ _ n4).mono ?_
      rintro e w5 ⟨rfl, rfl⟩
      go_wp2_with fail
      refine (left_any _ _ _ _ m4).mono ?_
      rintro e w5 ⟨rfl, rfl⟩
      go_wp2_with fail
      refine (left_any _ _ _ _ n4).mono ?_
      rintro e w5 ⟨rfl, rfl⟩
      go_wp2_with fail
      refine (pay_ok _ _ _ _ _ n4 (by omega) (by omega) (by omega) (by omega)).mono ?_
      rintro e w5 ⟨rfl, n5, g5⟩
      have B5 := Below.byBlock B4 g5 B4.size (by omega)
      go_wp2_with fail
      refine (left_any _ _ _ _ n5).mono ?_
      rintro e w6 ⟨rfl, rfl⟩
      go_wp2_with fail
      refine (pay_short _ _ _ _ _ n5 (by omega) (by omega)).mono ?_
      rintro e w6 ⟨rfl, _, g6⟩
      have B6 := Below.byNone B5 g6 B5.size
      go_wp2
      go_ret
      exact ⟨rfl, B6⟩

theorem walk (a0 : Int) (a1 : Option Addr) (len1 cap1 : Nat) (z1 : List Int) (w : World) (w0 : (Lit.int .u32 a0).wf = true) (w1 : IsRow .u32 w a1 len1 cap1 z1) :
    Calls Try.prog 3 #[.int .u32 a0, .slice a1 len1 cap1] w fun e w' => e = .returned (.bool true) ∧ Below w.heap.size w w' := by
  have ⟨b0, b0'⟩ := bounds_u32 w0
  rcases w1 with ⟨rfl, rfl, rfl, rfl⟩ | ⟨x, rfl, hl, hm, hz, hc, hw⟩
  · exact walk_none a0 none 0 0 w b0 b0' (by omega)
  · by_cases h60 : 60 < len1
    · exact walk_long a0 (some x) len1 cap1 w h60 (by omega)
    · by_cases h0 : len1 ≤ 0
      · exact walk_none a0 (some x) len1 cap1 w b0 b0' h0
      · obtain ⟨b, off, rfl, hc'⟩ := ints_at hc (by omega)
        exact walk_some a0 b off len1 cap1 z1 w b0 b0' (by omega) (by omega) hc' hw

set_option maxRecDepth 100000 in
theorem lifted (os : Os) (started : os.Started) (H : Type) (enc : TypeId × Value → H) :
    ReturnsInHanded {} Try.checked os 3 .any (Rows.meterKeepsSpec.pre6 enc Try.prog Try.f3 Rows.meterKeepsRow.domain false) (Rows.meterKeepsSpec.post enc Try.prog Try.f3 false true false false) := by
  refine returnsInHanded_of_change (C := Try.checked) own started (by kernel_rfl) Try.func3
    (ChangeSpec.witness6 (enc := enc) (C := Try.checked) false ⟨#[], #[.int .u32 0, .slice none 0 0], []⟩ 8 (by kernel_rfl) (by kernel_rfl) (by kernel_rfl) (by kernel_rfl)) ?_
  intro W base args ds gs before hval0 hW hcnd _
  have hval : ∀ (j : Nat) t v, Try.f3.params[j]? = some t → args[j]? = some v → Value.okWide Try.prog W .any base t v := hval0
  have hW' := hW
  obtain ⟨p, q, hA0, hV, rfl, hfz, hnd⟩ := hW
  have hA : DataW.TrodAll enc Try.prog W 0 (fun _ => true) true Try.f3.params.toList args.toList ds p := hA0
  rw [Try.params3] at hA hval
  obtain ⟨v0, vs0, d0, ds0, p0, q0, hargs, rfl, rfl, h0, r0⟩ := trodAll_cons hA
  obtain ⟨v1, vs1, d1, ds1, p1, q1, rfl, rfl, rfl, h1, r1⟩ := trodAll_cons r0
  obtain ⟨rfl, rfl, rfl⟩ := trodAll_nil r1
  obtain rfl : args = #[v0, v1] := by cases args; simp_all
  obtain ⟨rfl, rfl⟩ := trodVars_none hV
  obtain ⟨a0, rfl, rfl, rfl, w0⟩ := open_int Try.underlying22 (hval 0 22 v0 rfl rfl) h0
  obtain ⟨a1, len1, cap1, rfl⟩ := okWide_slice Try.underlying23 (hval 1 23 v1 rfl rfl)
  have k1 := h1
  have lt1 : ∀ x ∈ p1, x.block < W.heap.size := by obtain ⟨m, hm⟩ := k1; exact DataW.trod_lt m _ _ _ hm
  obtain ⟨z1, w1⟩ : ∃ zs, IsRow .u32 W a1 len1 cap1 zs := by
    obtain ⟨fuel, hf⟩ := h1
    rcases open_ints Try.underlying23 Try.underlying22 (by kernel_rfl) hf with ⟨hcs, _⟩ | ⟨x, l, c, zs, hcs, _, hl, hm, hz, _, hcell, hwz⟩
    · simp [Value.cells] at hcs
      obtain ⟨rfl, rfl, rfl⟩ := hcs
      exact ⟨[], .inl ⟨rfl, rfl, rfl, rfl⟩⟩
    · simp [Value.cells] at hcs
      obtain ⟨rfl, rfl, rfl⟩ := hcs
      exact ⟨zs, .inr ⟨_, rfl, hl, hm, by simpa using hz, hcell, hwz⟩⟩
  clear hA0 hval0
  refine (walk a0 a1 len1 cap1 z1 W w0 w1).mono fun e W' ⟨he, bel⟩ => ?_
  subst he
  exact ⟨_, rfl, _, _, _, [], _, [], hW', trodAll_mk1 (shut_bool Try.underlying4 _), (trodAll_cons_mk (shut_int Try.underlying22 w0) (trodAll_cons_mk (Below.trod laidOut (by kernel_rfl) (of_decide_eq_true (by kernel_rfl)) k1 bel lt1) trodAll_mk0)), rfl, bel.frame _, fun h => by cases h⟩

theorem over : Rows.meterKeepsRow.holds Try.pinned (OpenSpec.ofChange Rows.meterKeepsSpec) :=
  OpenClaim.holds_of_wide 3 Try.f3 rfl rfl rfl rfl rfl rfl rfl ⟨rfl, rfl, rfl, rfl, rfl⟩ rfl rfl rfl rfl rfl (by kernel_rfl) Try.func3 (by kernel_rfl)
    (of_decide_eq_true (by kernel_rfl)) (by unfold Func.isWrapper; first | (rw [if_pos (by decide +kernel)]; kernel_rfl) | (rw [if_neg (by decide +kernel)]; exact ⟨rfl, rfl⟩))
    (fun os started H enc _ => lifted os started H enc)

theorem proved : Rows.MeterKeepsSaid := over
#print axioms proved
end Go.Proofs.Ytdfoolllliaegaa.meterKeeps
