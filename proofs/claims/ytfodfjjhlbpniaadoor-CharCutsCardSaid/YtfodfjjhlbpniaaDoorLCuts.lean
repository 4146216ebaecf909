/- The law CharCuts, walked. -/
import Derived.Test.YtfodfjjhlbpniaaDoorLSteps
namespace Go.Proofs.YtfodfjjhlbpniaaDoor
open Go.RowKit Go.Lib

/-- a place where a character begins, or the end -/
def Begins (l : List UInt8) (i : Nat) : Prop := ∀ t : Int, (i : Int) ≤ t → allFrom l 0 t = allFrom l 0 i ++ allFrom l i t

theorem Begins.zero (l : List UInt8) : Begins l 0 := by
  intro t _
  rw [show allFrom l 0 ((0 : Nat) : Int) = [] from allFrom_late l 0 _ (by omega)]
  rfl

theorem Begins.step {l : List UInt8} {i : Nat} (h : Begins l i) (hi : i < l.length) : Begins l (i + (nx (l.drop i)).2) := by
  have hne : l.drop i ≠ [] := by
    intro e; have := congrArg List.length e; simp at this; omega
  have hw := nx_width _ hne
  intro t ht
  rw [h t (by omega), allFrom_step l i t hi (by omega), h ((i + (nx (l.drop i)).2 : Nat) : Int) (by omega), allFrom_step l i _ hi (by omega),
    allFrom_late l ((i + (nx (l.drop i)).2 : Nat) : Int) ((i + (nx (l.drop i)).2 : Nat) : Int) (by omega)]
  simp

theorem Begins.split {l : List UInt8} {i : Nat} (h : Begins l i) (hi : i ≤ l.length) : allFrom l 0 i ++ allFrom l i l.length = allFrom l 0 l.length := (h l.length (by omega)).symm

/-- the one character that begins at a byte -/
theorem one_char (l : List UInt8) (i : Nat) (hi : i < l.length) : allFrom l i ((i : Int) + 1) = encodeRune ((nx (l.drop i)).1 : Int) := by
  have hne : l.drop i ≠ [] := by
    intro e; have := congrArg List.length e; simp at this; omega
  have hw := nx_width _ hne
  rw [allFrom_step l i _ hi (by omega), allFrom_late l ((i + (nx (l.drop i)).2 : Nat) : Int) _ (by omega), List.append_nil]

def CutRel (l : List UInt8) (x : Int) (w : World) (v5 v19 : Value) (wr : World) : Prop :=
  ∃ (i j : Nat), v5 = .int .i64 i ∧ v19 = .int .u8 j ∧ (j : Int) ≤ x ∧ i ≤ l.length ∧ Begins l i ∧ Below w.heap.size w wr

set_option maxHeartbeats 1000000 in
set_option maxRecDepth 100000 in
theorem charCuts_long (n : Nat) (a : Option Addr) (cap : Nat) (x : Int) (w : World) (hT : Lib.Utf8Tabs 0 1 w) (h : 400 < n) :
    Calls Tryd.prog 7 #[.slice a n cap, .int .u8 x] w fun e w' => e = .returned (.bool true) ∧ Below w.heap.size w w' := by
  have h1 : (400 : Int) < (n : Int) := by omega
  go_enter Tryd.func7, Tryd.ntmps7
  go_wp2_with fail
  refine (speaks_any w hT).mono ?_
  rintro e w1 ⟨rfl, hb1⟩
  go_wp2_with fail
  refine (speaks_any w1 (Tabs_below hT hb1)).mono ?_
  rintro e w2 ⟨rfl, hb2⟩
  go_wp2
  go_ret
  exact ⟨rfl, hb1.trans (hb2.mono hb1.size)⟩

set_option maxHeartbeats 1000000 in
set_option maxRecDepth 100000 in
theorem charCuts_walk (l : List UInt8) (a : Option Addr) (cap : Nat) (x : Int) (w : World) (hs : Sl l a cap w) (hT : Lib.Utf8Tabs 0 1 w) (h : l.length ≤ 400) (hx0 : 0 ≤ x) (hx1 : x ≤ 255) :
    Calls Tryd.prog 7 #[.slice a l.length cap, .int .u8 x] w fun e w' => e = .returned (.bool true) ∧ Below w.heap.size w w' := by
  have h1 : ¬ ((400 : Int) < (l.length : Int)) := by omega
  go_enter Tryd.func7, Tryd.ntmps7
  go_wp2_with fail
  refine (speaks_any w hT).mono ?_
  rintro e w1 ⟨rfl, B1⟩
  go_wp2
  go_loopw [5, 19] (fun v5 v19 wr => CutRel l x w v5 v19 wr) (fun _ v19 _ => (x - RowKit.intOf v19).toNat)
  case atStart => exact ⟨0, 0, rfl, rfl, hx0, by omega, Begins.zero l, B1⟩
  case round =>
    obtain ⟨i, j, rfl, rfl, hjx, hil, hbg, hbw⟩ := hrel
    have hsr := hs.below hbw
    have hTr := Tabs_below hT hbw
    have hsz := hbw.size
    by_cases hlt : (j : Int) < x
    · have hN := next_any l a cap i wr hsr hTr
      by_cases hi : i < l.length
      · rw [nxAt_in hi] at hN
        have hbg2 := hbg.step hi
        have hne : l.drop i ≠ [] := by
          intro e; have := congrArg List.length e; simp at this; omega
        have hw := nx_width _ hne
        simp only [List.length_drop] at hw
        clear hne
        generalize nx (l.drop i) = R at hN hw hbg2
        obtain ⟨c, n⟩ := R
        simp only at hw hN hbg2
        go_wp2_with fail
        refine hN.mono ?_
        rintro e w2 ⟨rfl, hb2⟩
        go_wp2
        go_roundw
        case rel => exact ⟨i + n, j + 1, by go_num, by go_num, by omega, by omega, hbg2, hbw.trans (hb2.mono hsz)⟩
        case measure => simp [RowKit.intOf]; omega
      · rw [nxAt_out (by omega)] at hN
        go_wp2_with fail
        refine hN.mono ?_
        rintro e w2 ⟨rfl, hb2⟩
        go_wp2
        go_roundw
        case rel => exact ⟨i, j + 1, by go_num, by go_num, by omega, by omega, hbg, hbw.trans (hb2.mono hsz)⟩
        case measure => simp [RowKit.intOf]; omega
    · have hlt' : ¬ (j : Int) < x := hlt
      have hsp := hbg.split hil
      have q0 : ¬ ((l.length : Int) < (i : Int)) := by omega
      have l1 := allFrom_len l 0 i
      have l2 := allFrom_len l i l.length
      have kk : ¬ (9223372036854775807 < (allFrom l 0 i).length + (allFrom l i l.length).length) := by omega
      have HSP := Lib.hid hsp
      have sp2 : (((⟨(allFrom l 0 i).toArray⟩ : ByteArray) ++ ⟨(allFrom l i l.length).toArray⟩).toList == allFrom l 0 l.length) = true := by
        rw [str_join, hsp]; simp [go_sem]
      clear hsp hlt
      go_wp2_with fail
      refine (all_any l a cap 0 i wr hsr hTr (by omega)).mono ?_
      rintro e w2 ⟨rfl, b2⟩
      have B2 := hbw.trans (b2.mono hsz)
      go_wp2_with fail
      refine (all_any l a cap i l.length w2 (hs.below B2) (Tabs_below hT B2) (by omega)).mono ?_
      rintro e w3 ⟨rfl, b3⟩
      have B3 := B2.trans (b3.mono B2.size)
      go_wp2_with fail
      refine (all_any l a cap 0 l.length w3 (hs.below B3) (Tabs_below hT B3) (by omega)).mono ?_
      rintro e w4 ⟨rfl, b4⟩
      have B4 := B3.trans (b4.mono B3.size)
      have hN := next_any l a cap i w4 (hs.below B4) (Tabs_below hT B4)
      by_cases hi : i < l.length
      · rw [nxAt_in hi] at hN
        have h1c := one_char l i hi
        have hne : l.drop i ≠ [] := by
          intro e; have := congrArg List.length e; simp at this; omega
        have hw := nx_width _ hne
        have hg := nx_good (l.drop i)
        clear hne
        generalize nx (l.drop i) = R at hN hw hg h1c
        obtain ⟨c, n⟩ := R
        simp only at hw hN hg h1c
        obtain ⟨E, hE⟩ : ∃ E : ByteArray, Utf8.encode (c : Int) = E := ⟨_, rfl⟩
        have hconv : ∀ w, (convert 21 9 (.int .i32 (c : Int))).run Tryd.prog w = .ok (.string E) w := by
          intro w; rw [← hE]; exact run_convert_int_string w 21 9 .i32 c rfl Tryd.underlying9
        have hEl : (allFrom l i ((i : Int) + 1) == E.toList) = true := by
          rw [h1c, ← hE, encode_good c hg]; simp [go_sem]
        have n0 : ((n : Int) == 0) = false := by simp; omega
        have i0 : ((i : Int) == (l.length : Int)) = false := by simp; omega
        clear hE h1c hg
        go_wp2_with fail
        refine hN.mono ?_
        rintro e w5 ⟨rfl, b5⟩
        have B5 := B4.trans (b5.mono B4.size)
        go_wp2_with fail
        refine (all_any l a cap i ((i : Int) + 1) w5 (hs.below B5) (Tabs_below hT B5) (by omega)).mono ?_
        rintro e w6 ⟨rfl, b6⟩
        have B6 := B5.trans (b6.mono B5.size)
        go_wp2
        go_ret
        exact ⟨rfl, B6⟩
      · obtain rfl : i = l.length := by omega
        rw [nxAt_out (by omega)] at hN
        go_wp2_with fail
        refine hN.mono ?_
        rintro e w5 ⟨rfl, b5⟩
        have B5 := B4.trans (b5.mono B4.size)
        go_wp2
        go_ret
        exact ⟨rfl, B5⟩
end Go.Proofs.YtfodfjjhlbpniaaDoor
