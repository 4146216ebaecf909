/- The law CharNext, walked. -/
import Derived.Test.YtfodfjjhlbpniaaDoorAll
namespace Go.Proofs.YtfodfjjhlbpniaaDoor
open Go.RowKit Go.Lib

theorem nxAt_bd (l : List UInt8) (x : Int) : (nxAt l x).1 ≤ 1114111 ∧ (nxAt l x).2 ≤ 4 := by
  unfold nxAt
  split
  · rename_i h
    have hne : l.drop x.toNat ≠ [] := by
      intro e; have := congrArg List.length e; simp at this; omega
    exact ⟨(nx_range _).2.2.1, (nx_width _ hne).2.1⟩
  · simp

set_option maxHeartbeats 1000000 in
set_option maxRecDepth 100000 in
theorem charNext_long (n : Nat) (a : Option Addr) (cap : Nat) (x : Int) (w : World) (hT : Lib.Utf8Tabs 0 1 w) (h : 400 < n) :
    Calls Tryd.prog 3 #[.slice a n cap, .int .i64 x] w fun e w' => e = .returned (.bool true) ∧ Below w.heap.size w w' := by
  have h1 : (400 : Int) < (n : Int) := by omega
  go_enter Tryd.func3, Tryd.ntmps3
  go_wp2_with fail
  refine (speaks_any w hT).mono ?_
  rintro e w1 ⟨rfl, hb1⟩
  go_wp2_with fail
  refine (speaks_any w1 (Tabs_below hT hb1)).mono ?_
  rintro e w2 ⟨rfl, hb2⟩
  go_wp2
  go_ret
  exact ⟨rfl, hb1.trans (hb2.mono hb1.size)⟩

set_option maxHeartbeats 1000000 in
set_option maxRecDepth 100000 in
theorem charNext_walk (l : List UInt8) (a : Option Addr) (cap : Nat) (x : Int) (w : World) (hs : Sl l a cap w) (hT : Lib.Utf8Tabs 0 1 w) (h : l.length ≤ 400) :
    Calls Tryd.prog 3 #[.slice a l.length cap, .int .i64 x] w fun e w' => e = .returned (.bool true) ∧ Below w.heap.size w w' := by
  have h1 : ¬ ((400 : Int) < (l.length : Int)) := by omega
  go_enter Tryd.func3, Tryd.ntmps3
  go_wp2_with fail
  refine (speaks_any w hT).mono ?_
  rintro e w1 ⟨rfl, hb1⟩
  go_wp2
  go_loopw [21] (fun v wr => ∃ k : Nat, k ≤ l.length + 1 ∧ v = .int .i64 k ∧ Below w.heap.size w wr) (fun v _ => l.length + 1 - (RowKit.intOf v).toNat)
  case atStart => exact ⟨0, by omega, rfl, hb1⟩
  case round =>
    obtain ⟨k, hk, rfl, hbw⟩ := hrel
    have hsr := hs.below hbw
    have hTr := Tabs_below hT hbw
    have hsz := hbw.size
    by_cases hlt : k < l.length + 1
    · have hlt' : (k : Int) < (l.length : Int) + 1 := by omega
      by_cases hke : k = l.length
      · subst hke
        have hN := next_any l a cap x wr hsr hTr
        have hbd := nxAt_bd l x
        go_wp2_with fail
        refine hN.mono ?_
        rintro e w2 ⟨rfl, hb2⟩
        have hR := refNext_any l a cap x w2 (hsr.below hb2) (by omega)
        go_wp2_with fail
        refine hR.mono ?_
        rintro e w3 ⟨rfl, rfl⟩
        go_wp2
        go_roundw
        case rel => exact ⟨l.length + 1, by omega, by go_num, hbw.trans (hb2.mono hsz)⟩
        case measure => simp [RowKit.intOf]
      · have hke' : ((k : Int) == (l.length : Int)) = false := by simp; omega
        have hN := next_any l a cap k wr hsr hTr
        have hbd := nxAt_bd l k
        clear hke
        go_wp2_with fail
        refine hN.mono ?_
        rintro e w2 ⟨rfl, hb2⟩
        have hR := refNext_any l a cap k w2 (hsr.below hb2) (by omega)
        go_wp2_with fail
        refine hR.mono ?_
        rintro e w3 ⟨rfl, rfl⟩
        go_wp2
        go_roundw
        case rel => exact ⟨k + 1, by omega, by go_num, hbw.trans (hb2.mono hsz)⟩
        case measure => simp [RowKit.intOf]; omega
    · have hlt' : ¬ (k : Int) < (l.length : Int) + 1 := by omega
      go_wp2
      go_ret
      exact ⟨rfl, hbw⟩
end Go.Proofs.YtfodfjjhlbpniaaDoor
