/- The law ClassLaws, walked. -/
import Derived.Test.YtjbiebbcjofjeaaDoorName
namespace Go.Proofs.YtjbiebbcjofjeaaDoor
open Go.RowKit Go.Lib

theorem str_join (a b : List UInt8) : (⟨a.toArray⟩ ++ ⟨b.toArray⟩ : ByteArray) = ⟨(a ++ b).toArray⟩ := by
  apply ByteArray.ext
  simp [ByteArray.data_append]

set_option maxHeartbeats 1000000 in
set_option maxRecDepth 100000 in
theorem classLaws_walk (s t : List UInt8) (w : World) (hT : Lib.Utf8Tabs 0 1 w) (h : s.length ≤ 300) (h' : t.length ≤ 300) :
    Calls Tryd.prog 4 #[.string ⟨s.toArray⟩, .string ⟨t.toArray⟩] w fun e w' => e = .returned (.bool true) ∧ Below w.heap.size w w' := by
  have h1 : ¬ ((300 : Int) < (s.length : Int)) := by omega
  have h2 : ¬ ((300 : Int) < (t.length : Int)) := by omega
  have k1 : ¬ (9223372036854775807 < s.length + t.length) := by omega
  have k2 : ¬ (9223372036854775807 < (smallL s).length + (smallL t).length) := by rw [smallL_length, smallL_length]; omega
  have k3 := smallL_length s
  have C1 := fun w => smallText_any (smallL s) w
  rw [smallL_smallL] at C1
  have C2 := fun w hT => trim_any (trimL s) w hT (by have := trim_length s; omega)
  rw [trim_trim] at C2
  have C3 := fun w hT => trim_any (smallL s) w hT (by rw [smallL_length]; omega)
  rw [trim_small] at C3
  have C4 := fun w => smallText_any (s ++ t) w
  rw [smallL_append, ← str_join s t] at C4
  have sp : ((smallL s ++ smallL t) == ((⟨(smallL s).toArray⟩ : ByteArray) ++ ⟨(smallL t).toArray⟩).toList) = true := by
    rw [str_join]; simp [go_sem]
  go_enter Tryd.func4, Tryd.ntmps4
  go_wp2_with fail
  refine (speaks_any w).mono ?_
  rintro e w1 ⟨rfl, b1⟩
  go_wp2_with fail
  refine (smallText_any s w1).mono ?_
  rintro e w2 ⟨rfl, b2⟩
  have B2 := below_two b1 b2
  clear b1 b2
  go_wp2_with fail
  refine (trim_any s w2 (Tabs_below hT B2) (by omega)).mono ?_
  rintro e w3 ⟨rfl, b3⟩
  have B3 := below_two B2 b3
  clear B2 b3
  go_wp2_with fail
  refine (C1 w3).mono ?_
  rintro e w4 ⟨rfl, b4⟩
  have B4 := below_two B3 b4
  clear B3 b4
  go_wp2_with fail
  refine (C2 w4 (Tabs_below hT B4)).mono ?_
  rintro e w5 ⟨rfl, b5⟩
  have B5 := below_two B4 b5
  clear B4 b5
  go_wp2_with fail
  refine (C3 w5 (Tabs_below hT B5)).mono ?_
  rintro e w6 ⟨rfl, b6⟩
  have B6 := below_two B5 b6
  clear B5 b6
  go_wp2_with fail
  refine (smallText_any (trimL s) w6).mono ?_
  rintro e w7 ⟨rfl, b7⟩
  have B7 := below_two B6 b7
  clear B6 b7
  go_wp2_with fail
  refine (C4 w7).mono ?_
  rintro e w8 ⟨rfl, b8⟩
  have B8 := below_two B7 b8
  clear B7 b8
  go_wp2_with fail
  refine (smallText_any t w8).mono ?_
  rintro e w9 ⟨rfl, b9⟩
  have B9 := below_two B8 b9
  clear B8 b9
  go_wp2_with fail
  clear C1 C2 C3 C4 sp
  have hN := fun w => name_any s w
  have hM := fun w => name_any t w
  have C5 := fun w => name_any (s ++ t) w
  rw [← str_join s t] at C5
  have C6 := fun w => name_any (s ++ [45] ++ t) w
  rw [← str_join (s ++ [45]) t, ← str_join s [45]] at C6
  cases hn : nameL s
  · rw [hn] at hN
    clear C5 C6 hM
    refine (hN w9).mono ?_
    rintro e wa ⟨rfl, ba⟩
    have Ba := below_two B9 ba
    clear B9 ba
    go_wp2_with fail
    refine (hN wa).mono ?_
    rintro e wb ⟨rfl, bb⟩
    go_wp2
    go_ret
    exact ⟨rfl, below_two Ba bb⟩
  · rw [hn] at hN
    have q1 : (smallL s == s) = true := by rw [name_small hn]; simp
    have q2 : (trimL s == s) = true := by rw [name_trim hn]; simp
    cases hm : nameL t
    · rw [hm] at hM
      clear C5 C6
      refine (hN w9).mono ?_
      rintro e wa ⟨rfl, ba⟩
      have Ba := below_two B9 ba
      clear B9 ba
      go_wp2_with fail
      refine (hN wa).mono ?_
      rintro e wb ⟨rfl, bb⟩
      have Bb := below_two Ba bb
      clear Ba bb
      go_wp2_with fail
      refine (hM wb).mono ?_
      rintro e wc ⟨rfl, bc⟩
      go_wp2
      go_ret
      exact ⟨rfl, below_two Bb bc⟩
    · rw [hm] at hM
      rw [name_append hn (name_all hm)] at C5
      rw [name_dash hn hm] at C6
      refine (hN w9).mono ?_
      rintro e wa ⟨rfl, ba⟩
      have Ba := below_two B9 ba
      clear B9 ba
      go_wp2_with fail
      refine (hN wa).mono ?_
      rintro e wb ⟨rfl, bb⟩
      have Bb := below_two Ba bb
      clear Ba bb
      go_wp2_with fail
      refine (hM wb).mono ?_
      rintro e wc ⟨rfl, bc⟩
      have Bc := below_two Bb bc
      clear Bb bc
      go_wp2_with fail
      refine (C5 wc).mono ?_
      rintro e wd ⟨rfl, bd⟩
      have Bd := below_two Bc bd
      clear Bc bd
      go_wp2_with fail
      refine (C6 wd).mono ?_
      rintro e we ⟨rfl, be⟩
      go_wp2
      go_ret
      exact ⟨rfl, below_two Bd be⟩

set_option maxHeartbeats 1000000 in
set_option maxRecDepth 100000 in
theorem classLaws_long (s t : List UInt8) (w : World) (h : 300 < s.length ∨ 300 < t.length) :
    Calls Tryd.prog 4 #[.string ⟨s.toArray⟩, .string ⟨t.toArray⟩] w fun e w' => e = .returned (.bool true) ∧ Below w.heap.size w w' := by
  by_cases hs : 300 < s.length
  · have h1 : (300 : Int) < (s.length : Int) := by omega
    clear h hs
    go_enter Tryd.func4, Tryd.ntmps4
    go_wp2_with fail
    refine (speaks_any w).mono ?_
    rintro e w1 ⟨rfl, hb1⟩
    go_wp2_with fail
    refine (speaks_any w1).mono ?_
    rintro e w2 ⟨rfl, hb2⟩
    go_wp2
    go_ret
    exact ⟨rfl, below_two hb1 hb2⟩
  · have h0 : ¬ (300 : Int) < (s.length : Int) := by omega
    have h1 : (300 : Int) < (t.length : Int) := by omega
    clear h hs
    go_enter Tryd.func4, Tryd.ntmps4
    go_wp2_with fail
    refine (speaks_any w).mono ?_
    rintro e w1 ⟨rfl, hb1⟩
    go_wp2_with fail
    refine (speaks_any w1).mono ?_
    rintro e w2 ⟨rfl, hb2⟩
    go_wp2
    go_ret
    exact ⟨rfl, below_two hb1 hb2⟩
end Go.Proofs.YtjbiebbcjofjeaaDoor
