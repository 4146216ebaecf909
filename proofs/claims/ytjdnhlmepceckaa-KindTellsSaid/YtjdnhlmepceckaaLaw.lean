/- The reference's Is and Of, the program's Is, the example and the law, walked. -/
import Derived.Test.YtjdnhlmepceckaaRef
namespace Go.Proofs.Ytjdnhlmepceckaa
open Go.RowKit Go.Lib

theorem join_str (a b : List UInt8) : (⟨a.toArray⟩ : ByteArray) ++ ⟨b.toArray⟩ = ⟨(a ++ b).toArray⟩ := by
  apply ByteArray.ext
  simp

theorem joinB (l : List UInt8) : ({ data := #[32] } : ByteArray) ++ { data := l.toArray } ++ { data := #[32] } = ⟨(32 :: (l ++ [32])).toArray⟩ := by
  apply ByteArray.ext
  simp

theorem S_len (k : Nat) (hk : k < 10) : (S k).length ≤ 1000000 := by
  obtain rfl | rfl | rfl | rfl | rfl | rfl | rfl | rfl | rfl | rfl : k = 0 ∨ k = 1 ∨ k = 2 ∨ k = 3 ∨ k = 4 ∨ k = 5 ∨ k = 6 ∨ k = 7 ∨ k = 8 ∨ k = 9 := by omega
  all_goals decide +kernel

set_option maxHeartbeats 2000000 in
set_option maxRecDepth 100000 in
theorem refIs_any (l : List UInt8) (k : Nat) (w : World) (hk : k < 10) (hl : l.length ≤ 100) :
    Calls Try.prog 9 #[.string ⟨l.toArray⟩, .int .i64 (k : Int)] w fun e w' => e = .returned (.bool ((W k).contains l)) ∧ Below w.heap.size w w' := by
  have hkI : (k : Int) < 10 := by omega
  by_cases ho : 32 ∉ l ∧ l ≠ []
  · have c1 := one_any l true ⟨fun _ => ho, fun _ => rfl⟩ w (by omega)
    obtain ⟨R, hR⟩ : ∃ R, (W k).contains l = R := ⟨_, rfl⟩
    have hin : R = true ↔ Sub (S k) (32 :: (l ++ [32])) := by rw [← hR]; exact (S_iff ho.1 k hk).symm
    rw [hR]
    have HIN := Lib.hid hin
    clear hR hin ho
    go_enter Try.func9, Try.ntmps9
    go_wp2_with fail
    refine c1.mono ?_
    rintro e w' ⟨rfl, rfl⟩
    go_wp2_with fail
    refine (lists_any _).mono ?_
    rintro e w' ⟨rfl, hbel, hcells⟩
    have hcell := hcells k hk
    have HC := Lib.hid hcells
    clear hcells
    have hidx : ((k : Nat) : Int) = (k : Int) := rfl
    go_wp2_with fail
    rw [joinB]
    refine (in_any (S k) (32 :: (l ++ [32])) R HIN.out _ (S_len k hk) (by simp; omega)).mono ?_
    rintro e w'' ⟨rfl, rfl⟩
    go_wp2
    go_ret
    exact ⟨rfl, hbel⟩
  · have c1 := one_any l false ⟨fun h => (by cases h), fun h => absurd h ho⟩ w (by omega)
    have hR : (W k).contains l = false := W_plain l (by
      rcases Classical.em (32 ∈ l) with h | h
      · exact Or.inl h
      · right; exact Classical.byContradiction fun h2 => ho ⟨h, h2⟩) k hk
    rw [hR]
    clear hR ho
    go_enter Try.func9, Try.ntmps9
    go_wp2_with fail
    refine c1.mono ?_
    rintro e w' ⟨rfl, rfl⟩
    go_wp2
    go_ret
    exact ⟨rfl, Below.refl _ _⟩

theorem below_trans {w w1 w2 : World} (h : Below w.heap.size w w1) (h2 : Below w1.heap.size w1 w2) : Below w.heap.size w w2 := h.trans (h2.mono h.size)

/-- where the loop of the reference's Of stands -/
def OfRel (l : List UInt8) (w : World) (v3 v4 v6 : Value) (wr : World) : Prop :=
  ∃ i : Nat, v6 = .int .i64 (i : Int) ∧ i ≤ 10 ∧ v3 = .int .i64 (kinds l i : Nat) ∧ v4 = .int .i64 ((2 ^ i : Nat) : Int) ∧ Below w.heap.size w wr

theorem pow_le (i : Nat) (h : i ≤ 10) : 2 ^ i ≤ 1024 := Nat.pow_le_pow_right (by decide) h

set_option maxHeartbeats 2000000 in
set_option maxRecDepth 100000 in
theorem refOf_any (l : List UInt8) (w : World) (hl : l.length ≤ 100) :
    Calls Try.prog 5 #[.string ⟨l.toArray⟩] w fun e w' => e = .returned (.int .i64 (kinds l 10 : Nat)) ∧ Below w.heap.size w w' := by
  go_enter Try.func5, Try.ntmps5
  go_wp2_with fail
  refine (lists_any _).mono ?_
  rintro e w' ⟨rfl, hbel, hcells⟩
  clear hcells
  go_wp2_with fail
  go_loopw [3, 4, 6] (fun v3 v4 v6 wr => OfRel l w v3 v4 v6 wr) (fun _ _ v _ => 10 - (RowKit.intOf v).toNat)
  case atStart => exact ⟨0, rfl, by omega, rfl, rfl, hbel⟩
  case round =>
    obtain ⟨i, rfl, hi, rfl, rfl, hb⟩ := hrel
    have HB := Lib.hid hb
    clear hb hbel
    have hK := kinds_lt l i
    have hP := pow_le i hi
    have hN : kinds l (i + 1) = kinds l i + if (W i).contains l then 2 ^ i else 0 := rfl
    have hP2 : 2 ^ (i + 1) = 2 ^ i * 2 := Nat.pow_succ 2 i
    obtain ⟨T, hT⟩ : ∃ T, kinds l (i + 1) = T := ⟨_, rfl⟩
    rw [hT] at hN
    have HT := Lib.hid hT
    clear hT
    obtain ⟨U, hU⟩ : ∃ U, 2 ^ (i + 1) = U := ⟨_, rfl⟩
    rw [hU] at hP2
    have HU := Lib.hid hU
    clear hU
    by_cases h1 : i < 10
    · have h1' : (i : Int) < 10 := by omega
      have cI := refIs_any l i wr h1 hl
      generalize kinds l i = n at hK hN
      generalize 2 ^ i = b at hK hN hP hP2
      cases hc : (W i).contains l
      · rw [hc] at hN cI
        simp only [Bool.false_eq_true, if_false] at hN
        have HN := Lib.hid hN
        have HP := Lib.hid hP2
        clear hN hP2 hc
        have hs : -9223372036854775808 ≤ (b : Int) * 2 ∧ (b : Int) * 2 ≤ 9223372036854775807 := by omega
        go_wp2_with fail
        refine cI.mono ?_
        rintro e w'' ⟨rfl, hb2⟩
        go_wp2
        go_roundw
        case rel => exact ⟨i + 1, by go_num, by omega, by rw [HT.out, HN.out]; go_num, by rw [HU.out, HP.out]; go_num, below_trans HB.out hb2⟩
        case measure => simp [RowKit.intOf]; omega
      · rw [hc] at hN cI
        simp only [if_true] at hN
        have HN := Lib.hid hN
        have HP := Lib.hid hP2
        clear hN hP2 hc
        have hs : -9223372036854775808 ≤ (b : Int) * 2 ∧ (b : Int) * 2 ≤ 9223372036854775807 := by omega
        have hs2 : -9223372036854775808 ≤ (n : Int) + (b : Int) ∧ (n : Int) + (b : Int) ≤ 9223372036854775807 := by omega
        go_wp2_with fail
        refine cI.mono ?_
        rintro e w'' ⟨rfl, hb2⟩
        go_wp2
        go_roundw
        case rel => exact ⟨i + 1, by go_num, by omega, by rw [HT.out, HN.out]; go_num, by rw [HU.out, HP.out]; go_num, below_trans HB.out hb2⟩
        case measure => simp [RowKit.intOf]; omega
    · have h1' : ¬ ((i : Int) < 10) := by omega
      obtain rfl : i = 10 := by omega
      clear hN hP2 hK hP
      go_wp2
      go_ret
      exact ⟨rfl, HB.out⟩

set_option maxHeartbeats 2000000 in
set_option maxRecDepth 100000 in
theorem is_any (l : List UInt8) (x : Int) (w : World) :
    Calls Try.prog 7 #[.string ⟨l.toArray⟩, .int .i64 x] w fun e w' => e = .returned (.bool (bits .and .i64 (kinds l 10 : Nat) x != 0)) ∧ w = w' := by
  have c1 := of_any l w
  generalize kinds l 10 = n at c1
  go_enter Try.func7, Try.ntmps7
  go_wp2_with fail
  refine c1.mono ?_
  rintro e w' ⟨rfl, rfl⟩
  go_wp2
  go_ret
  exact ⟨rfl, rfl⟩

theorem p_kinds : kinds [112] 10 = 658 := by decide +kernel

set_option maxHeartbeats 2000000 in
set_option maxRecDepth 100000 in
theorem speaks_any (w : World) : Calls Try.prog 4 #[] w fun e w' => e = .returned (.bool true) ∧ w = w' := by
  have c1 := of_any [112] w
  have c2 := is_any [112] 512 w
  have c3 := is_any [112] 1 w
  rw [p_kinds] at c1 c2 c3
  rw [show (bits .and .i64 ((658 : Nat) : Int) 512 != 0) = true by decide +kernel] at c2
  rw [show (bits .and .i64 ((658 : Nat) : Int) 1 != 0) = false by decide +kernel] at c3
  go_enter Try.func4, Try.ntmps4
  go_wp2_with fail
  refine c1.mono ?_
  rintro e w' ⟨rfl, rfl⟩
  go_wp2_with fail
  refine c2.mono ?_
  rintro e w' ⟨rfl, rfl⟩
  go_wp2_with fail
  refine c3.mono ?_
  rintro e w' ⟨rfl, rfl⟩
  go_wp2
  go_ret
  exact ⟨rfl, rfl⟩

set_option maxHeartbeats 2000000 in
set_option maxRecDepth 100000 in
theorem kindTells_walk (l : List UInt8) (x : Int) (w : World) :
    Calls Try.prog 3 #[.string ⟨l.toArray⟩, .int .i64 x] w fun e w' => e = .returned (.bool true) ∧ Below w.heap.size w w' := by
  have c1 := speaks_any w
  by_cases h : l.length ≤ 60
  · have h1 : ¬ ((60 : Int) < (l.length : Int)) := by omega
    have c2 := refOf_any l w (by omega)
    have c3 := fun W => of_any l W
    have c4 := fun W => is_any l x W
    generalize kinds l 10 = n at c2 c3 c4
    go_enter Try.func3, Try.ntmps3
    go_wp2_with fail
    refine c1.mono ?_
    rintro e w' ⟨rfl, rfl⟩
    go_wp2_with fail
    refine c2.mono ?_
    rintro e w' ⟨rfl, hb⟩
    have HB := Lib.hid hb
    clear hb
    go_wp2_with fail
    refine (c3 _).mono ?_
    rintro e w'' ⟨rfl, rfl⟩
    go_wp2_with fail
    refine (c4 _).mono ?_
    rintro e w'' ⟨rfl, rfl⟩
    go_wp2
    go_ret
    exact ⟨by simp, HB.out⟩
  · have h1 : (60 : Int) < (l.length : Int) := by omega
    go_enter Try.func3, Try.ntmps3
    go_wp2_with fail
    refine c1.mono ?_
    rintro e w' ⟨rfl, rfl⟩
    go_wp2_with fail
    refine c1.mono ?_
    rintro e w' ⟨rfl, rfl⟩
    go_wp2
    go_ret
    exact ⟨rfl, Below.refl _ _⟩
end Go.Proofs.Ytjdnhlmepceckaa
