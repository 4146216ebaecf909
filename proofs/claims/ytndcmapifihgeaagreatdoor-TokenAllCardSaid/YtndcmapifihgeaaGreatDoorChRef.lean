/- The reference's helpers, walked: whether a byte goes on with a character, and which character in UTF-8 begins at a byte. Conditions: the slice's bytes lie in memory, and it is no longer than an int can count. -/
import Derived.Test.YtndcmapifihgeaaGreatDoorChMath
import Derived.Test.YtndcmapifihgeaaGreatDoorProg
import Derived.WalkKit
import Derived.LoopTactic
import Derived.Below
import Derived.Lib.Hide
namespace Go.Proofs.YtndcmapifihgeaaGreatDoor.Ch
open Go.RowKit Go.Lib

/-- a slice of bytes that is not nil: what its cells hold -/
def Cells (l : List UInt8) (b off : Nat) (w : World) : Prop := ∀ j, j < l.length → w.cell? ⟨b, off + j, none⟩ = some (.int .u8 ((at0 l j : Nat) : Int))

def goesOn (l : List UInt8) (j : Nat) : Bool := decide (j < l.length ∧ 128 ≤ at0 l j ∧ at0 l j < 192)

theorem ret_bool {a b : Bool} (h : a = b) : Ending.returned (.bool a) = .returned (.bool b) := by rw [h]
theorem ret_two {k k' : IntKind} {a b c d : Int} (h : a = c) (h' : b = d) : Ending.returned (.tuple #[.int k a, .int k' b]) = .returned (.tuple #[.int k c, .int k' d]) := by rw [h, h']

set_option maxHeartbeats 400000 in
theorem more_any (l : List UInt8) (b off cap j : Nat) (w : World) (hc : Cells l b off w) :
    Calls Tryz.prog 90 #[.slice (some ⟨b, off, none⟩) l.length cap, .int .i64 (j : Int)] w fun e w' => e = .returned (.bool (goesOn l j)) ∧ w = w' := by
  by_cases h : j < l.length
  · have hcell := hc j h
    have h1 : (j : Int) < (l.length : Int) := by omega
    go_enter Tryz.func90, Tryz.ntmps90
    go_wp2
    all_goals
      go_ret
      refine ⟨ret_bool ?_, rfl⟩
      unfold goesOn
      rw [Bool.eq_iff_iff]
      simp only [decide_eq_true_eq, Bool.false_eq_true, false_iff]
      omega
  · have h1 : decide ((j : Int) < (l.length : Int)) = false := by simp; omega
    go_enter Tryz.func90, Tryz.ntmps90
    go_wp2
    go_ret
    refine ⟨ret_bool ?_, rfl⟩
    unfold goesOn
    rw [Bool.eq_iff_iff]
    simp only [decide_eq_true_eq, Bool.false_eq_true, false_iff]
    omega

theorem more_yes (l : List UInt8) (b off cap j : Nat) (x : Int) (w : World) (hc : Cells l b off w) (hx : x = (j : Int)) (h : goesOn l j = true) :
    Calls Tryz.prog 90 #[.slice (some ⟨b, off, none⟩) l.length cap, .int .i64 x] w fun e w' => e = .returned (.bool true) ∧ w = w' := by
  subst hx; rw [← h]; exact more_any l b off cap j w hc
theorem more_no (l : List UInt8) (b off cap j : Nat) (x : Int) (w : World) (hc : Cells l b off w) (hx : x = (j : Int)) (h : goesOn l j = false) :
    Calls Tryz.prog 90 #[.slice (some ⟨b, off, none⟩) l.length cap, .int .i64 x] w fun e w' => e = .returned (.bool false) ∧ w = w' := by
  subst hx; rw [← h]; exact more_any l b off cap j w hc

/-- what the bytes that go on add up to -/
def acc (c0 : Int) (l : List UInt8) (i : Nat) : Nat → Int
  | 0 => c0
  | k + 1 => acc c0 l i k * 64 + at0 l (i + (k + 1)) - 128

/-- do so many bytes go on? -/
def runs (l : List UInt8) (i : Nat) : Nat → Bool
  | 0 => true
  | k + 1 => runs l i k && goesOn l (i + (k + 1))

def bad (least n : Int) : Bool := decide (n < least ∨ 1114111 < n ∨ (55296 ≤ n ∧ n < 57344))

/-- the reference's answer behind the choice of a class -/
def utfEnd (many : Nat) (least c0 : Int) (l : List UInt8) (i : Nat) : Int × Int :=
  if runs l i many && !bad least (acc c0 l i many) then (acc c0 l i many, (many : Int) + 1) else (0, 0)

def utfR (l : List UInt8) (i : Nat) : Int × Int :=
  if at0 l i < 128 then ((at0 l i : Int), 1)
  else if 194 ≤ at0 l i ∧ at0 l i < 224 then utfEnd 1 128 (at0 l i - 192) l i
  else if 224 ≤ at0 l i ∧ at0 l i < 240 then utfEnd 2 2048 (at0 l i - 224) l i
  else if 240 ≤ at0 l i ∧ at0 l i < 245 then utfEnd 3 65536 (at0 l i - 240) l i
  else (0, 0)

theorem goesOn_bd {l : List UInt8} {j : Nat} (h : goesOn l j = true) : j < l.length ∧ 128 ≤ at0 l j ∧ at0 l j < 192 := of_decide_eq_true h

theorem runs_mono {l : List UInt8} {i many : Nat} (h : runs l i many = true) : ∀ k, k ≤ many → runs l i k = true := by
  induction many with
  | zero => intro k hk; obtain rfl : k = 0 := by omega
            exact h
  | succ m ih =>
    intro k hk
    by_cases e : k = m + 1
    · subst e; exact h
    · simp [runs] at h; exact ih h.1 k (by omega)

theorem acc_bd (c0 : Int) (l : List UInt8) (i : Nat) (h0 : 0 ≤ c0) (h1 : c0 ≤ 255) : ∀ k, k ≤ 3 → runs l i k = true → 0 ≤ acc c0 l i k ∧ acc c0 l i k ≤ 1000000000 := by
  have s : ∀ k, runs l i (k + 1) = true → runs l i k = true ∧ 128 ≤ at0 l (i + (k + 1)) ∧ at0 l (i + (k + 1)) < 192 := fun k h => by
    simp [runs] at h; exact ⟨h.1, (goesOn_bd h.2).2⟩
  intro k hk hj
  match k, hk with
  | 0, _ => simp [acc]; omega
  | 1, _ => have := (s 0 hj).2; simp only [acc]; omega
  | 2, _ => have a := s 1 hj; have := (s 0 a.1).2; simp only [acc]; omega
  | 3, _ => have a := s 2 hj; have c := s 1 a.1; have := (s 0 c.1).2; simp only [acc]; omega

theorem utfEnd_bad {many : Nat} {least c0 : Int} {l : List UInt8} {i k : Nat} (hk : k < many) (h : goesOn l (i + (k + 1)) = false) : utfEnd many least c0 l i = (0, 0) := by
  unfold utfEnd
  rw [if_neg]
  intro e
  rw [Bool.and_eq_true] at e
  have := runs_mono e.1 (k + 1) (by omega)
  simp [runs, h] at this
theorem utfEnd_no {many : Nat} {least c0 : Int} {l : List UInt8} {i : Nat} (h : bad least (acc c0 l i many) = true) : utfEnd many least c0 l i = (0, 0) := by
  unfold utfEnd
  rw [h]; simp
theorem utfEnd_yes {many : Nat} {least c0 : Int} {l : List UInt8} {i : Nat} (hr : runs l i many = true) (h : bad least (acc c0 l i many) = false) : utfEnd many least c0 l i = (acc c0 l i many, (many : Int) + 1) := by
  unfold utfEnd
  rw [h, hr]; simp

set_option maxRecDepth 100000 in
set_option maxHeartbeats 1000000 in
theorem utf_class1 (l : List UInt8) (b off cap i : Nat) (w : World) (hc : Cells l b off w) (hl : l.length ≤ 9223372036854775000) (hi : i < l.length) (d1 : (194 : Int) ≤ ((at0 l i : Nat) : Int)) (d2 : ((at0 l i : Nat) : Int) < 224) :
    Calls Tryz.prog 61 #[.slice (some ⟨b, off, none⟩) l.length cap, .int .i64 (i : Int)] w fun e w' => e = .returned (.tuple #[.int .i64 (utfEnd 1 128 (at0 l i - 192) l i).1, .int .i64 (utfEnd 1 128 (at0 l i - 192) l i).2]) ∧ w = w' := by
  have hcell := hc i hi
  have h1 : (i : Int) < (l.length : Int) := by omega
  have c0' : ¬ ((at0 l i : Nat) : Int) < 128 := by omega
  obtain ⟨R, hR⟩ : ∃ R, utfEnd 1 128 (at0 l i - 192) l i = R := ⟨_, rfl⟩
  rw [hR]
  have HR := Lib.hid hR
  clear hR
  go_enter Tryz.func61, Tryz.ntmps61
  go_wp2
  go_loop [9, 10] (fun n i' => ∃ k : Nat, k ≤ 1 ∧ i' = .int .i64 ((k : Int) + 1) ∧ n = .int .i64 (acc (at0 l i - 192) l i k) ∧ runs l i k = true) (fun _ i' => 1 + 1 - (intOf i').toNat)
  case atStart => exact ⟨0, by omega, rfl, rfl, rfl⟩
  case round =>
    obtain ⟨k, hk, rfl, rfl, hr⟩ := hrel
    have hbd := acc_bd (at0 l i - 192) l i (by omega) (by omega) k (by omega) hr
    have HRun := Lib.hid hr
    clear hr
    by_cases hkm : k < 1
    · have e1 : ((k : Int) + 1 : Int) ≤ 1 := by omega
      by_cases hg : goesOn l (i + (k + 1)) = true
      · have hgb := goesOn_bd hg
        have hcell2 := hc _ hgb.1
        have HG := Lib.hid hg
        clear hg
        go_wp2_with fail
        refine (more_yes l b off cap (i + (k + 1)) _ w hc (by omega) HG.out).mono ?_
        rintro e w' ⟨rfl, rfl⟩
        go_wp2
        go_round
        case rel => exact ⟨k + 1, by omega, by go_num, rfl, by simp [runs, HRun.out, HG.out]⟩
        case measure => simp [intOf]; omega
      · have hg' : goesOn l (i + (k + 1)) = false := by simpa using hg
        have HG := Lib.hid hg'
        clear hg hg'
        go_wp2_with fail
        refine (more_no l b off cap (i + (k + 1)) _ w hc (by omega) HG.out).mono ?_
        rintro e w' ⟨rfl, rfl⟩
        go_wp2
        go_ret2
        rw [← HR.out, utfEnd_bad hkm HG.out]
        exact ⟨rfl, rfl⟩
    · obtain rfl : k = 1 := by omega
      have e1 : decide (((1 : Nat) : Int) + 1 ≤ 1) = false := by decide
      obtain ⟨A, hA⟩ : ∃ A, acc (at0 l i - 192) l i 1 = A := ⟨_, rfl⟩
      rw [hA] at hbd ⊢
      have HA := Lib.hid hA
      clear hA hkm hk
      by_cases b1 : A < 128
      · go_wp2
        go_ret2
        rw [← HR.out, utfEnd_no (by rw [HA.out]; exact decide_eq_true (by omega))]
        exact ⟨rfl, rfl⟩
      · have b1' : (128 : Int) ≤ A := by omega
        by_cases b2 : (1114111 : Int) < A
        · go_wp2
          go_ret2
          rw [← HR.out, utfEnd_no (by rw [HA.out]; exact decide_eq_true (by omega))]
          exact ⟨rfl, rfl⟩
        · have b2' : A ≤ (1114111 : Int) := by omega
          by_cases b3 : (55296 : Int) ≤ A
          · by_cases b4 : A < (57344 : Int)
            · go_wp2
              go_ret2
              rw [← HR.out, utfEnd_no (by rw [HA.out]; exact decide_eq_true (by omega))]
              exact ⟨rfl, rfl⟩
            · go_wp2
              go_ret2
              rw [← HR.out, utfEnd_yes HRun.out (by rw [HA.out]; exact decide_eq_false (by omega)), HA.out]
              exact ⟨ret_two rfl rfl, rfl⟩
          · have b3' : A < (55296 : Int) := by omega
            go_wp2
            go_ret2
            rw [← HR.out, utfEnd_yes HRun.out (by rw [HA.out]; exact decide_eq_false (by omega)), HA.out]
            exact ⟨ret_two rfl rfl, rfl⟩

set_option maxRecDepth 100000 in
set_option maxHeartbeats 1000000 in
theorem utf_class2 (l : List UInt8) (b off cap i : Nat) (w : World) (hc : Cells l b off w) (hl : l.length ≤ 9223372036854775000) (hi : i < l.length) (d1 : (224 : Int) ≤ ((at0 l i : Nat) : Int)) (d2 : ((at0 l i : Nat) : Int) < 240) :
    Calls Tryz.prog 61 #[.slice (some ⟨b, off, none⟩) l.length cap, .int .i64 (i : Int)] w fun e w' => e = .returned (.tuple #[.int .i64 (utfEnd 2 2048 (at0 l i - 224) l i).1, .int .i64 (utfEnd 2 2048 (at0 l i - 224) l i).2]) ∧ w = w' := by
  have hcell := hc i hi
  have h1 : (i : Int) < (l.length : Int) := by omega
  have c0' : ¬ ((at0 l i : Nat) : Int) < 128 := by omega
  obtain ⟨R, hR⟩ : ∃ R, utfEnd 2 2048 (at0 l i - 224) l i = R := ⟨_, rfl⟩
  rw [hR]
  have HR := Lib.hid hR
  clear hR
  go_enter Tryz.func61, Tryz.ntmps61
  go_wp2
  go_loop [9, 10] (fun n i' => ∃ k : Nat, k ≤ 2 ∧ i' = .int .i64 ((k : Int) + 1) ∧ n = .int .i64 (acc (at0 l i - 224) l i k) ∧ runs l i k = true) (fun _ i' => 2 + 1 - (intOf i').toNat)
  case atStart => exact ⟨0, by omega, rfl, rfl, rfl⟩
  case round =>
    obtain ⟨k, hk, rfl, rfl, hr⟩ := hrel
    have hbd := acc_bd (at0 l i - 224) l i (by omega) (by omega) k (by omega) hr
    have HRun := Lib.hid hr
    clear hr
    by_cases hkm : k < 2
    · have e1 : ((k : Int) + 1 : Int) ≤ 2 := by omega
      by_cases hg : goesOn l (i + (k + 1)) = true
      · have hgb := goesOn_bd hg
        have hcell2 := hc _ hgb.1
        have HG := Lib.hid hg
        clear hg
        go_wp2_with fail
        refine (more_yes l b off cap (i + (k + 1)) _ w hc (by omega) HG.out).mono ?_
        rintro e w' ⟨rfl, rfl⟩
        go_wp2
        go_round
        case rel => exact ⟨k + 1, by omega, by go_num, rfl, by simp [runs, HRun.out, HG.out]⟩
        case measure => simp [intOf]; omega
      · have hg' : goesOn l (i + (k + 1)) = false := by simpa using hg
        have HG := Lib.hid hg'
        clear hg hg'
        go_wp2_with fail
        refine (more_no l b off cap (i + (k + 1)) _ w hc (by omega) HG.out).mono ?_
        rintro e w' ⟨rfl, rfl⟩
        go_wp2
        go_ret2
        rw [← HR.out, utfEnd_bad hkm HG.out]
        exact ⟨rfl, rfl⟩
    · obtain rfl : k = 2 := by omega
      have e1 : decide (((2 : Nat) : Int) + 1 ≤ 2) = false := by decide
      obtain ⟨A, hA⟩ : ∃ A, acc (at0 l i - 224) l i 2 = A := ⟨_, rfl⟩
      rw [hA] at hbd ⊢
      have HA := Lib.hid hA
      clear hA hkm hk
      by_cases b1 : A < 2048
      · go_wp2
        go_ret2
        rw [← HR.out, utfEnd_no (by rw [HA.out]; exact decide_eq_true (by omega))]
        exact ⟨rfl, rfl⟩
      · have b1' : (2048 : Int) ≤ A := by omega
        by_cases b2 : (1114111 : Int) < A
        · go_wp2
          go_ret2
          rw [← HR.out, utfEnd_no (by rw [HA.out]; exact decide_eq_true (by omega))]
          exact ⟨rfl, rfl⟩
        · have b2' : A ≤ (1114111 : Int) := by omega
          by_cases b3 : (55296 : Int) ≤ A
          · by_cases b4 : A < (57344 : Int)
            · go_wp2
              go_ret2
              rw [← HR.out, utfEnd_no (by rw [HA.out]; exact decide_eq_true (by omega))]
              exact ⟨rfl, rfl⟩
            · go_wp2
              go_ret2
              rw [← HR.out, utfEnd_yes HRun.out (by rw [HA.out]; exact decide_eq_false (by omega)), HA.out]
              exact ⟨ret_two rfl rfl, rfl⟩
          · have b3' : A < (55296 : Int) := by omega
            go_wp2
            go_ret2
            rw [← HR.out, utfEnd_yes HRun.out (by rw [HA.out]; exact decide_eq_false (by omega)), HA.out]
            exact ⟨ret_two rfl rfl, rfl⟩

set_option maxRecDepth 100000 in
set_option maxHeartbeats 1000000 in
theorem utf_class3 (l : List UInt8) (b off cap i : Nat) (w : World) (hc : Cells l b off w) (hl : l.length ≤ 9223372036854775000) (hi : i < l.length) (d1 : (240 : Int) ≤ ((at0 l i : Nat) : Int)) (d2 : ((at0 l i : Nat) : Int) < 245) :
    Calls Tryz.prog 61 #[.slice (some ⟨b, off, none⟩) l.length cap, .int .i64 (i : Int)] w fun e w' => e = .returned (.tuple #[.int .i64 (utfEnd 3 65536 (at0 l i - 240) l i).1, .int .i64 (utfEnd 3 65536 (at0 l i - 240) l i).2]) ∧ w = w' := by
  have hcell := hc i hi
  have h1 : (i : Int) < (l.length : Int) := by omega
  have c0' : ¬ ((at0 l i : Nat) : Int) < 128 := by omega
  obtain ⟨R, hR⟩ : ∃ R, utfEnd 3 65536 (at0 l i - 240) l i = R := ⟨_, rfl⟩
  rw [hR]
  have HR := Lib.hid hR
  clear hR
  go_enter Tryz.func61, Tryz.ntmps61
  go_wp2
  go_loop [9, 10] (fun n i' => ∃ k : Nat, k ≤ 3 ∧ i' = .int .i64 ((k : Int) + 1) ∧ n = .int .i64 (acc (at0 l i - 240) l i k) ∧ runs l i k = true) (fun _ i' => 3 + 1 - (intOf i').toNat)
  case atStart => exact ⟨0, by omega, rfl, rfl, rfl⟩
  case round =>
    obtain ⟨k, hk, rfl, rfl, hr⟩ := hrel
    have hbd := acc_bd (at0 l i - 240) l i (by omega) (by omega) k (by omega) hr
    have HRun := Lib.hid hr
    clear hr
    by_cases hkm : k < 3
    · have e1 : ((k : Int) + 1 : Int) ≤ 3 := by omega
      by_cases hg : goesOn l (i + (k + 1)) = true
      · have hgb := goesOn_bd hg
        have hcell2 := hc _ hgb.1
        have HG := Lib.hid hg
        clear hg
        go_wp2_with fail
        refine (more_yes l b off cap (i + (k + 1)) _ w hc (by omega) HG.out).mono ?_
        rintro e w' ⟨rfl, rfl⟩
        go_wp2
        go_round
        case rel => exact ⟨k + 1, by omega, by go_num, rfl, by simp [runs, HRun.out, HG.out]⟩
        case measure => simp [intOf]; omega
      · have hg' : goesOn l (i + (k + 1)) = false := by simpa using hg
        have HG := Lib.hid hg'
        clear hg hg'
        go_wp2_with fail
        refine (more_no l b off cap (i + (k + 1)) _ w hc (by omega) HG.out).mono ?_
        rintro e w' ⟨rfl, rfl⟩
        go_wp2
        go_ret2
        rw [← HR.out, utfEnd_bad hkm HG.out]
        exact ⟨rfl, rfl⟩
    · obtain rfl : k = 3 := by omega
      have e1 : decide (((3 : Nat) : Int) + 1 ≤ 3) = false := by decide
      obtain ⟨A, hA⟩ : ∃ A, acc (at0 l i - 240) l i 3 = A := ⟨_, rfl⟩
      rw [hA] at hbd ⊢
      have HA := Lib.hid hA
      clear hA hkm hk
      by_cases b1 : A < 65536
      · go_wp2
        go_ret2
        rw [← HR.out, utfEnd_no (by rw [HA.out]; exact decide_eq_true (by omega))]
        exact ⟨rfl, rfl⟩
      · have b1' : (65536 : Int) ≤ A := by omega
        by_cases b2 : (1114111 : Int) < A
        · go_wp2
          go_ret2
          rw [← HR.out, utfEnd_no (by rw [HA.out]; exact decide_eq_true (by omega))]
          exact ⟨rfl, rfl⟩
        · have b2' : A ≤ (1114111 : Int) := by omega
          by_cases b3 : (55296 : Int) ≤ A
          · by_cases b4 : A < (57344 : Int)
            · go_wp2
              go_ret2
              rw [← HR.out, utfEnd_no (by rw [HA.out]; exact decide_eq_true (by omega))]
              exact ⟨rfl, rfl⟩
            · go_wp2
              go_ret2
              rw [← HR.out, utfEnd_yes HRun.out (by rw [HA.out]; exact decide_eq_false (by omega)), HA.out]
              exact ⟨ret_two rfl rfl, rfl⟩
          · have b3' : A < (55296 : Int) := by omega
            go_wp2
            go_ret2
            rw [← HR.out, utfEnd_yes HRun.out (by rw [HA.out]; exact decide_eq_false (by omega)), HA.out]
            exact ⟨ret_two rfl rfl, rfl⟩

set_option maxRecDepth 100000 in
set_option maxHeartbeats 1000000 in
theorem utf_any (l : List UInt8) (b off cap i : Nat) (w : World) (hc : Cells l b off w) (hl : l.length ≤ 9223372036854775000) (hi : i < l.length) :
    Calls Tryz.prog 61 #[.slice (some ⟨b, off, none⟩) l.length cap, .int .i64 (i : Int)] w fun e w' => e = .returned (.tuple #[.int .i64 (utfR l i).1, .int .i64 (utfR l i).2]) ∧ w = w' := by
  by_cases c0 : at0 l i < 128
  · have hR : utfR l i = ((at0 l i : Int), 1) := by simp only [utfR, if_pos c0]
    rw [hR]
    have hcell := hc i hi
    have h1 : (i : Int) < (l.length : Int) := by omega
    have c0' : ((at0 l i : Nat) : Int) < 128 := by omega
    clear hR
    go_enter Tryz.func61, Tryz.ntmps61
    go_wp2
    go_ret2
    exact ⟨rfl, rfl⟩
  · by_cases c1 : 194 ≤ at0 l i ∧ at0 l i < 224
    · rw [show utfR l i = utfEnd 1 128 (at0 l i - 192) l i by simp only [utfR, if_neg c0, if_pos c1]]
      exact utf_class1 l b off cap i w hc hl hi (by omega) (by omega)
    · by_cases c2 : 224 ≤ at0 l i ∧ at0 l i < 240
      · rw [show utfR l i = utfEnd 2 2048 (at0 l i - 224) l i by simp only [utfR, if_neg c0, if_neg c1, if_pos c2]]
        exact utf_class2 l b off cap i w hc hl hi (by omega) (by omega)
      · by_cases c3 : 240 ≤ at0 l i ∧ at0 l i < 245
        · rw [show utfR l i = utfEnd 3 65536 (at0 l i - 240) l i by simp only [utfR, if_neg c0, if_neg c1, if_neg c2, if_pos c3]]
          exact utf_class3 l b off cap i w hc hl hi (by omega) (by omega)
        · rw [show utfR l i = (0, 0) by simp only [utfR, if_neg c0, if_neg c1, if_neg c2, if_neg c3]]
          have hcell := hc i hi
          have hb := at0_lt l i
          have h1 : (i : Int) < (l.length : Int) := by omega
          have k0 : ¬ ((at0 l i : Nat) : Int) < 128 := by omega
          by_cases k1 : ((at0 l i : Nat) : Int) < 194
          · have k2 : ¬ (194 : Int) ≤ ((at0 l i : Nat) : Int) := by omega
            have k3 : ¬ (224 : Int) ≤ ((at0 l i : Nat) : Int) := by omega
            have k4 : ¬ (240 : Int) ≤ ((at0 l i : Nat) : Int) := by omega
            clear c0 c1 c2 c3
            go_enter Tryz.func61, Tryz.ntmps61
            go_wp2
            go_ret2
            exact ⟨rfl, rfl⟩
          · have k2 : (194 : Int) ≤ ((at0 l i : Nat) : Int) := by omega
            have k3 : (224 : Int) ≤ ((at0 l i : Nat) : Int) := by omega
            have k4 : (240 : Int) ≤ ((at0 l i : Nat) : Int) := by omega
            have k5 : (245 : Int) ≤ ((at0 l i : Nat) : Int) := by omega
            clear c0 c1 c2 c3
            go_enter Tryz.func61, Tryz.ntmps61
            go_wp2
            go_ret2
            exact ⟨rfl, rfl⟩

end Go.Proofs.YtndcmapifihgeaaGreatDoor.Ch

