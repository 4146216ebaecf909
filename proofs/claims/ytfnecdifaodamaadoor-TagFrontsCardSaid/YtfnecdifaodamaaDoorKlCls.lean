/- Kinds of characters: the functions of class, and of the reference, that take one character. -/
import Derived.Test.YtfnecdifaodamaaDoorKlMath
import Derived.Test.YtfnecdifaodamaaDoorProg
import Derived.WalkKit
import Derived.WalkLawsBesides
namespace Go.Proofs.YtfnecdifaodamaaDoor.Kl
open Go.RowKit Go.Lib

def blankZ (x : Int) : Bool := x == 9 || x == 10 || x == 12 || x == 32
def greatZ (x : Int) : Bool := decide (65 ≤ x) && decide (x ≤ 90)
def smallZ (x : Int) : Bool := decide (97 ≤ x) && decide (x ≤ 122)
def digitZ (x : Int) : Bool := decide (48 ≤ x) && decide (x ≤ 57)
def lowerZ (x : Int) : Int := if greatZ x then x + 32 else x

theorem blankZ_nat (n : Nat) : blankZ (n : Int) = blankN n := by
  unfold blankZ blankN
  rw [Bool.eq_iff_iff]; simp only [Bool.or_eq_true, beq_iff_eq]
  omega
theorem greatZ_nat (n : Nat) : greatZ (n : Int) = greatN n := by
  unfold greatZ greatN
  rw [Bool.eq_iff_iff]; simp only [Bool.and_eq_true, decide_eq_true_eq]
  omega
theorem smallZ_nat (n : Nat) : smallZ (n : Int) = smallN n := by
  unfold smallZ smallN
  rw [Bool.eq_iff_iff]; simp only [Bool.and_eq_true, decide_eq_true_eq]
  omega
theorem digitZ_nat (n : Nat) : digitZ (n : Int) = digitN n := by
  unfold digitZ digitN
  rw [Bool.eq_iff_iff]; simp only [Bool.and_eq_true, decide_eq_true_eq]
  omega

set_option maxHeartbeats 400000 in
theorem blank_any (x : Int) (w : World) :
    Calls Tryd.prog 14 #[.int .i32 x] w fun e w' => e = .returned (.bool (blankZ x)) ∧ w = w' := by
  unfold blankZ
  cases h1 : (x == 9) <;> cases h2 : (x == 10) <;> cases h3 : (x == 12) <;> cases h4 : (x == 32)
  all_goals (go_enter Tryd.func14, Tryd.ntmps14; go_wp2; go_ret; exact ⟨rfl, rfl⟩)

set_option maxHeartbeats 400000 in
theorem great_any (x : Int) (w : World) :
    Calls Tryd.prog 34 #[.int .i32 x] w fun e w' => e = .returned (.bool (greatZ x)) ∧ w = w' := by
  unfold greatZ
  cases h1 : decide (65 ≤ x) <;> cases h2 : decide (x ≤ 90)
  all_goals (go_enter Tryd.func34, Tryd.ntmps34; go_wp2; go_ret; exact ⟨rfl, rfl⟩)

set_option maxHeartbeats 400000 in
theorem small_any (x : Int) (w : World) :
    Calls Tryd.prog 31 #[.int .i32 x] w fun e w' => e = .returned (.bool (smallZ x)) ∧ w = w' := by
  unfold smallZ
  cases h1 : decide (97 ≤ x) <;> cases h2 : decide (x ≤ 122)
  all_goals (go_enter Tryd.func31, Tryd.ntmps31; go_wp2; go_ret; exact ⟨rfl, rfl⟩)

set_option maxHeartbeats 400000 in
theorem digit_any (x : Int) (w : World) :
    Calls Tryd.prog 32 #[.int .i32 x] w fun e w' => e = .returned (.bool (digitZ x)) ∧ w = w' := by
  unfold digitZ
  cases h1 : decide (48 ≤ x) <;> cases h2 : decide (x ≤ 57)
  all_goals (go_enter Tryd.func32, Tryd.ntmps32; go_wp2; go_ret; exact ⟨rfl, rfl⟩)

set_option maxHeartbeats 400000 in
theorem lower_any (x : Int) (w : World) :
    Calls Tryd.prog 50 #[.int .i32 x] w fun e w' => e = .returned (.int .i32 (lowerZ x)) ∧ w = w' := by
  have hG := great_any x w
  unfold lowerZ
  cases h : greatZ x
  · rw [h] at hG
    go_enter Tryd.func50, Tryd.ntmps50
    go_wp2_with fail
    refine hG.mono ?_
    rintro e w' ⟨rfl, rfl⟩
    go_wp2
    go_ret
    exact ⟨rfl, rfl⟩
  · rw [h] at hG
    simp [greatZ] at h
    have e : x + 32 = x - 65 + 97 := by omega
    rw [if_pos rfl, e]
    clear e
    go_enter Tryd.func50, Tryd.ntmps50
    go_wp2_with fail
    refine hG.mono ?_
    rintro e w' ⟨rfl, rfl⟩
    go_wp2
    go_ret
    exact ⟨rfl, rfl⟩

set_option maxHeartbeats 400000 in
theorem refDigit_any (x : Int) (w : World) :
    Calls Tryd.prog 68 #[.int .i64 x] w fun e w' => e = .returned (.bool (digitZ x)) ∧ w = w' := by
  unfold digitZ
  cases h1 : decide (48 ≤ x) <;> cases h2 : decide (x ≤ 57)
  all_goals (go_enter Tryd.func68, Tryd.ntmps68; go_wp2; go_ret; exact ⟨rfl, rfl⟩)

set_option maxHeartbeats 400000 in
theorem refLower_any (x : Int) (w : World) :
    Calls Tryd.prog 26 #[.int .i64 x] w fun e w' => e = .returned (.int .i64 (lowerZ x)) ∧ w = w' := by
  by_cases h1 : 65 ≤ x
  · by_cases h2 : x ≤ 90
    · have e : lowerZ x = x + 32 := by simp [lowerZ, greatZ, h1, h2]
      rw [e]
      clear e
      go_enter Tryd.func26, Tryd.ntmps26
      go_wp2
      go_ret
      exact ⟨rfl, rfl⟩
    · have e : lowerZ x = x := by simp [lowerZ, greatZ, h2]
      rw [e]
      clear e
      have h2' : decide (x ≤ 90) = false := decide_eq_false h2
      go_enter Tryd.func26, Tryd.ntmps26
      go_wp2
      go_ret
      exact ⟨rfl, rfl⟩
  · have e : lowerZ x = x := by simp [lowerZ, greatZ, h1]
    rw [e]
    clear e
    have h1' : decide (65 ≤ x) = false := decide_eq_false h1
    go_enter Tryd.func26, Tryd.ntmps26
    go_wp2
    go_ret
    exact ⟨rfl, rfl⟩

theorem lowerZ_nat (b : UInt8) : lowerZ (b.toNat : Int) = ((lowB b).toNat : Int) := by
  rw [lowB_toNat]
  unfold lowerZ
  rw [greatZ_nat]
  split <;> simp
end Go.Proofs.YtfnecdifaodamaaDoor.Kl
