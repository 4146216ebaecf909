/- The law RawNext, walked. -/
import Derived.Test.YtpamdilmoakflaaSp
namespace Go.Proofs.Ytpamdilmoakflaa
open Go.RowKit Go.Lib

set_option maxHeartbeats 1000000 in
set_option maxRecDepth 100000 in
theorem rawNext_long (k : Nat) (a : Option Addr) (cap : Nat) (x : Int) (w : World) (h : 300 < k) :
    Calls Try.prog 5 #[.slice a k cap, .int .u8 x] w fun e w' => e = .returned (.bool true) ∧ Below w.heap.size w w' := by
  have h1' : (300 : Int) < (k : Int) := by omega
  go_enter Try.func5, Try.ntmps5
  go_wp2_with fail
  refine (speaks_any w).mono ?_
  rintro e w1 ⟨rfl, hb1⟩
  go_wp2_with fail
  refine (speaks_any w1).mono ?_
  rintro e w2 ⟨rfl, hb2⟩
  go_wp2
  go_ret
  exact ⟨rfl, hb1.trans (hb2.mono hb1.size)⟩

/-- where the loop stands -/
def NxRel (E : Nat) (w : World) (v : Value) (wr : World) : Prop := ∃ k : Nat, v = .int .i64 (k : Int) ∧ k ≤ E ∧ Below w.heap.size w wr

set_option maxHeartbeats 4000000 in
set_option maxRecDepth 100000 in
theorem rawNext_walk (l : List UInt8) (a : Option Addr) (cap j : Nat) (x : Int) (w : World) (hs : Sl l a cap w) (h : l.length ≤ 300) (hx : 0 ≤ x ∧ x < 256) (hj : x % 9 = (j : Int)) :
    Calls Try.prog 5 #[.slice a l.length cap, .int .u8 x] w fun e w' => e = .returned (.bool true) ∧ Below w.heap.size w w' := by
  have hj9 : j < 9 := by omega
  have h1 : ¬ ((300 : Int) < (l.length : Int)) := by omega
  have HS := Lib.hid hs
  clear hs
  go_enter Try.func5, Try.ntmps5
  go_wp2_with fail
  refine (speaks_any w).mono ?_
  rintro e w1 ⟨rfl, hb1⟩
  have hcell := row_cell' w1 9 j _ nmV (0, 0) (nmV_at hj9)
  obtain ⟨W1, hW1⟩ : ∃ W, w1.alloc (.cells nmV 9) = W := ⟨_, rfl⟩
  have hbA : Below w1.heap.size w1 W1 := by rw [← hW1]; exact (Below.refl _ w1).alloc (Nat.le_refl _) _
  rw [hW1] at hcell
  unfold nmV at hW1
  have hb01 := hb1.trans (hbA.mono hb1.size)
  have hz1 := hb01.size
  have cE := end_any (nm j) 0 W1 (HS.out.below hb01) (by omega) (by omega) (by have := nm_length hj9; omega)
  have hle := ed_le (n := nm j) (l := l) (i := 0) (by omega)
  have HF := Lib.hid (fun i (hi : i ≤ ed (nm j) l 0) => ed_from (n := nm j) (l := l) (nm_kind9 hj9) hi)
  have hnl := nm_length hj9
  generalize nm j = n at *
  obtain ⟨E, hE⟩ : ∃ E, ed n l 0 = E := ⟨_, rfl⟩
  rw [hE] at cE hle HF
  clear hE
  have HB01 := Lib.hid hb01
  clear hb1 hbA hb01
  have e1 : ¬ (l.length < E) := by omega
  go_wp2_with fail
  clear hj hx
  refine cE.mono ?_
  rintro e w2 ⟨rfl, hb2⟩
  have hb02 := HB01.out.trans (hb2.mono hz1)
  have hz2 := hb02.size
  have cE2 := end_any n E w2 (HS.out.below hb02) hle (by omega) (by omega)
  rw [HF.out E (Nat.le_refl _)] at cE2
  have HB02 := Lib.hid hb02
  clear hb02 hb2 HB01
  go_wp2_with fail
  refine cE2.mono ?_
  rintro e w3 ⟨rfl, hb3⟩
  have HB03 := Lib.hid (HB02.out.trans (hb3.mono hz2))
  clear hb3 HB02 cE hcell hW1
  go_wp2
  go_loopw [41] (fun v wr => NxRel E w v wr) (fun v _ => E - (RowKit.intOf v).toNat)
  case atStart => exact ⟨0, rfl, by omega, HB03.out⟩
  case round =>
    clear HB03
    obtain ⟨k, rfl, hk, hbw⟩ := hrel
    have hsz := hbw.size
    have HBW := Lib.hid hbw
    by_cases hlt : k < E
    · have hlt' : (k : Int) < (E : Int) := by omega
      have cE3 := end_any n k wr (HS.out.below hbw) (by omega) (by omega) (by omega)
      rw [HF.out k (by omega)] at cE3
      clear hbw
      go_wp2_with fail
      refine cE3.mono ?_
      rintro e w4 ⟨rfl, hb4⟩
      go_wp2
      go_roundw
      case rel => exact ⟨k + 1, by go_num, by omega, HBW.out.trans (hb4.mono hsz)⟩
      case measure => simp [RowKit.intOf]; omega
    · have hlt' : ¬ ((k : Int) < (E : Int)) := by omega
      obtain ⟨H, hH⟩ : ∃ H : Nat, (l.length : Int) / 2 = (H : Int) ∧ H ≤ l.length := ⟨l.length / 2, by omega, by omega⟩
      have cE4 := end_any [112] H wr (HS.out.below hbw) hH.2 (by omega) (by decide)
      rw [ed_tags] at cE4
      obtain ⟨hH1, -⟩ := hH
      rw [← hH1] at cE4
      clear hbw hH1
      go_wp2_with fail
      refine cE4.mono ?_
      rintro e w4 ⟨rfl, hb4⟩
      go_wp2
      go_ret
      exact ⟨ret_bool (by simp), HBW.out.trans (hb4.mono hsz)⟩
end Go.Proofs.Ytpamdilmoakflaa
