/- The law MarkBogus, walked. -/
import Derived.Test.YtplngoikjfimaaaAp
namespace Go.Proofs.Ytplngoikjfimaaa
open Go.RowKit Go.Lib

set_option maxHeartbeats 1000000 in
set_option maxRecDepth 100000 in
theorem markBogus_long (n : Nat) (a : Option Addr) (cap : Nat) (bang : Bool) (w : World) (h : 200 < n) :
    Calls Try.prog 5 #[.slice a n cap, .bool bang] w fun e w' => e = .returned (.bool true) ∧ Below w.heap.size w w' := by
  have h1 : (200 : Int) < (n : Int) := by omega
  go_enter Try.func5, Try.ntmps5
  go_wp2_with fail
  refine (speaks_any w).mono ?_
  rintro e w1 ⟨rfl, hb1⟩
  go_wp2_with fail
  refine (speaks_any w1).mono ?_
  rintro e w2 ⟨rfl, hb2⟩
  go_wp2
  go_ret
  exact ⟨rfl, hb1.trans (hb2.mono hb1.size)⟩

/-- where the loop stands: how far it came, and the end that was not yet found -/
def BgRel (s : List UInt8) (w : World) (v : Value) (wr : World) : Prop :=
  ∃ k : Nat, v = .int .i64 (k : Int) ∧ k ≤ s.length ∧ k + bfr gtE (s.drop k) = 2 + bfr gtE (s.drop 2) ∧ Below w.heap.size w wr

theorem read_bogus (bang : Bool) (l : List UInt8) : rdAns (bogF bang ++ l) 0 = .tuple #[.int .i64 3, .int .i64 ((2 + bfr gtE ((bogF bang ++ l).drop 2) : Nat) : Int), .bool true] := by
  unfold rdAns
  rw [List.drop_zero, bogus_kd]
  show Value.tuple #[_, .int .i64 ((0 + (2 + bfr gtE ((bogF bang ++ l).drop 2)) : Nat) : Int), _] = _
  rw [Nat.zero_add]
  rfl

set_option maxHeartbeats 4000000 in
set_option maxRecDepth 100000 in
theorem markBogus_walk (l : List UInt8) (a : Option Addr) (cap : Nat) (bang : Bool) (w : World) (hs : Sl l a cap w) (h : l.length ≤ 200) :
    Calls Try.prog 5 #[.slice a l.length cap, .bool bang] w fun e w' => e = .returned (.bool true) ∧ Below w.heap.size w w' := by
  have h1 : ¬ ((200 : Int) < (l.length : Int)) := by omega
  have HS := Lib.hid hs
  clear hs
  have HRB := Lib.hid (read_bogus bang l)
  have HLF : (bogF bang ++ l).length ≤ 203 ∧ 2 ≤ (bogF bang ++ l).length := by cases bang <;> simp [bogF] <;> omega
  go_enter Try.func5, Try.ntmps5
  go_wp2_with fail
  refine (speaks_any w).mono ?_
  rintro e w1 ⟨rfl, hb1⟩
  have hz1 := hb1.size
  obtain ⟨hA, hbA, hzA, kA⟩ := sl_const [60, 63] w1 #[.int .u8 60, .int .u8 63] 2 (by rfl) rfl
  obtain ⟨W1, hW1⟩ : ∃ W, w1.alloc (.cells #[.int .u8 60, .int .u8 63] 5 (2, 2 + 1)) = W := ⟨_, rfl⟩
  rw [hW1] at hA hbA hzA kA
  clear hW1
  have hb01 := hb1.trans (hbA.mono hz1)
  have hz01 := hb01.size
  -- the front
  have front : ∀ {v : Value} {wr : World}, Mine (bogF bang) w.heap.size v wr → Below w.heap.size w wr → ∃ v' w', (Builtin.append_ #[22, 22] 22 #[v, .slice a l.length cap]).run Try.prog wr = .ok v' w' ∧ Mine (bogF bang ++ l) w.heap.size v' w' ∧ Below w.heap.size w w' := by
    intro v wr hM hbw
    obtain ⟨hcap, hz | ⟨b, off, rfl, hc⟩⟩ := HS.out
    · subst hz
      exact ⟨v, wr, append_none hM a cap, by rw [List.append_nil]; exact hM, hbw⟩
    · by_cases h0 : l.length = 0
      · obtain rfl : l = [] := List.eq_nil_of_length_eq_zero h0
        exact ⟨v, wr, append_none hM _ cap, by rw [List.append_nil]; exact hM, hbw⟩
      · exact hM.slice hbw b off cap (by omega) (hc.below hbw) (by have : (bogF bang).length ≤ 3 := (by cases bang <;> decide); omega)
  cases bang with
  | false =>
    have hMA : Mine (bogF false) w.heap.size (.slice (some ⟨w1.heap.size, 0, none⟩) 2 2) W1 := Or.inr ⟨w1.heap.size, rfl, hA, hz1⟩
    obtain ⟨v2, w2, hr, hM2, hb2⟩ := front hMA hb01
    have HR := Lib.hid hr
    have HB2 := Lib.hid hb2
    have hz2 := hb2.size
    obtain ⟨a2, cap2, rfl, hsl⟩ := hM2.sl
    have HSL := Lib.hid hsl
    obtain ⟨S, hS⟩ : ∃ S, bogF false ++ l = S := ⟨_, rfl⟩
    rw [hS] at HR HSL HRB HLF
    clear front hM2 hb2 hr hsl hMA hA hbA hb01 hb1 hS
    go_wp2_with (at_builtin; refine Lib.wpList_append_run _ rfl (.tmp 24) (.tmp 25) 22 22 rfl _ _ rfl rfl _ w2 HR.out ?_)
    go_wp2
    go_loopw [6, 7] (fun v6 v7 wr => v6 = .int .i64 ((S.length : Nat) : Int) ∧ Sl S a2 cap2 wr ∧ BgRel S w v7 wr) (fun _ v7 _ => S.length - (RowKit.intOf v7).toNat)
    case atStart => exact ⟨rfl, HSL.out, 2, rfl, HLF.2, rfl, HB2.out⟩
    case round =>
      obtain ⟨rfl, hsr, k, rfl, hk, hbf, hbw⟩ := hrel
      have hsz := hbw.size
      have cR := read_any 0 wr hsr (by omega) (by omega)
      rw [HRB.out] at cR
      have HBW := Lib.hid hbw
      by_cases hlt : k < S.length
      · have hlt' : (k : Int) < (S.length : Int) := by omega
        have HSR := Lib.hid hsr
        obtain ⟨hcp, hz | ⟨b, off, rfl, hc⟩⟩ := hsr
        · rw [hz] at hlt; simp at hlt
        have hcell := hc k hlt
        have hst := bfr_step hlt
        have hbd := at0_lt S k
        obtain ⟨c, hcc⟩ : ∃ c, at0 S k = c := ⟨_, rfl⟩
        rw [hcc] at hcell hst hbd
        by_cases h62 : c = 62
        · subst h62
          rw [if_pos rfl] at hst
          have hN : 2 + bfr gtE (S.drop 2) = k + 1 := by omega
          rw [hN] at cR
          clear hst hbf hN hcc hc hbw
          go_wp2_with fail
          refine cR.mono ?_
          rintro e w3 ⟨rfl, hb3⟩
          go_wp2
          go_ret
          exact ⟨ret_bool (by simp), HBW.out.trans (hb3.mono hsz)⟩
        · rw [if_neg h62] at hst
          have t62 : ((c : Int) == 62) = false := by simp; omega
          have HN := Lib.hid (show k + 1 + bfr gtE (S.drop (k + 1)) = 2 + bfr gtE (S.drop 2) by omega)
          clear hst hbf hcc hc hbw cR
          go_wp2
          go_roundw
          case rel => exact ⟨rfl, HSR.out, k + 1, by go_num, by omega, HN.out, HBW.out⟩
          case measure => simp [RowKit.intOf]; omega
      · have hlt' : ¬ ((k : Int) < (S.length : Int)) := by omega
        have hN : 2 + bfr gtE (S.drop 2) = S.length := by
          rw [← hbf, show k = S.length by omega]
          exact bfr_none S
        rw [hN] at cR
        clear hbf hN hbw
        go_wp2_with fail
        refine cR.mono ?_
        rintro e w3 ⟨rfl, hb3⟩
        go_wp2
        go_ret
        exact ⟨ret_bool (by simp), HBW.out.trans (hb3.mono hsz)⟩
  | true =>
    obtain ⟨hC, hbC, hzC, kC⟩ := sl_const [60, 33, 91] W1 #[.int .u8 60, .int .u8 33, .int .u8 91] 3 (by rfl) rfl
    rw [hzA] at hC kC
    obtain ⟨W2, hW2⟩ : ∃ W, W1.alloc (.cells #[.int .u8 60, .int .u8 33, .int .u8 91] 5 (3, 3 + 1)) = W := ⟨_, rfl⟩
    rw [hW2] at hC hbC hzC kC
    clear hW2
    have hb02 := hb01.trans (hbC.mono hz01)
    have hMA : Mine (bogF true) w.heap.size (.slice (some ⟨w1.heap.size + 1, 0, none⟩) 3 3) W2 := Or.inr ⟨w1.heap.size + 1, rfl, hC, by omega⟩
    obtain ⟨v2, w2, hr, hM2, hb2⟩ := front hMA hb02
    have HR := Lib.hid hr
    have HB2 := Lib.hid hb2
    have hz2 := hb2.size
    obtain ⟨a2, cap2, rfl, hsl⟩ := hM2.sl
    have HSL := Lib.hid hsl
    obtain ⟨S, hS⟩ : ∃ S, bogF true ++ l = S := ⟨_, rfl⟩
    rw [hS] at HR HSL HRB HLF
    clear front hM2 hb2 hr hsl hMA hA hbA hb01 hb1 hS hC hbC hb02
    go_wp2_with (at_builtin; refine Lib.wpList_append_run _ rfl (.tmp 24) (.tmp 25) 22 22 rfl _ _ rfl rfl _ w2 HR.out ?_)
    go_wp2
    go_loopw [6, 7] (fun v6 v7 wr => v6 = .int .i64 ((S.length : Nat) : Int) ∧ Sl S a2 cap2 wr ∧ BgRel S w v7 wr) (fun _ v7 _ => S.length - (RowKit.intOf v7).toNat)
    case atStart => exact ⟨rfl, HSL.out, 2, rfl, HLF.2, rfl, HB2.out⟩
    case round =>
      obtain ⟨rfl, hsr, k, rfl, hk, hbf, hbw⟩ := hrel
      have hsz := hbw.size
      have cR := read_any 0 wr hsr (by omega) (by omega)
      rw [HRB.out] at cR
      have HBW := Lib.hid hbw
      by_cases hlt : k < S.length
      · have hlt' : (k : Int) < (S.length : Int) := by omega
        have HSR := Lib.hid hsr
        obtain ⟨hcp, hz | ⟨b, off, rfl, hc⟩⟩ := hsr
        · rw [hz] at hlt; simp at hlt
        have hcell := hc k hlt
        have hst := bfr_step hlt
        have hbd := at0_lt S k
        obtain ⟨c, hcc⟩ : ∃ c, at0 S k = c := ⟨_, rfl⟩
        rw [hcc] at hcell hst hbd
        by_cases h62 : c = 62
        · subst h62
          rw [if_pos rfl] at hst
          have hN : 2 + bfr gtE (S.drop 2) = k + 1 := by omega
          rw [hN] at cR
          clear hst hbf hN hcc hc hbw
          go_wp2_with fail
          refine cR.mono ?_
          rintro e w3 ⟨rfl, hb3⟩
          go_wp2
          go_ret
          exact ⟨ret_bool (by simp), HBW.out.trans (hb3.mono hsz)⟩
        · rw [if_neg h62] at hst
          have t62 : ((c : Int) == 62) = false := by simp; omega
          have HN := Lib.hid (show k + 1 + bfr gtE (S.drop (k + 1)) = 2 + bfr gtE (S.drop 2) by omega)
          clear hst hbf hcc hc hbw cR
          go_wp2
          go_roundw
          case rel => exact ⟨rfl, HSR.out, k + 1, by go_num, by omega, HN.out, HBW.out⟩
          case measure => simp [RowKit.intOf]; omega
      · have hlt' : ¬ ((k : Int) < (S.length : Int)) := by omega
        have hN : 2 + bfr gtE (S.drop 2) = S.length := by
          rw [← hbf, show k = S.length by omega]
          exact bfr_none S
        rw [hN] at cR
        clear hbf hN hbw
        go_wp2_with fail
        refine cR.mono ?_
        rintro e w3 ⟨rfl, hb3⟩
        go_wp2
        go_ret
        exact ⟨ret_bool (by simp), HBW.out.trans (hb3.mono hsz)⟩
end Go.Proofs.Ytplngoikjfimaaa
