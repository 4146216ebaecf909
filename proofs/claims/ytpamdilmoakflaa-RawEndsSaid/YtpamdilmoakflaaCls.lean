/- Kinds of characters: the functions of class, and of the reference, that take one character. -/
import Derived.Test.YtpamdilmoakflaaMath
import Derived.Test.YtpamdilmoakflaaProg
import Derived.WalkKit
import Derived.WalkLawsBesides
namespace Go.Proofs.Ytpamdilmoakflaa
open Go.RowKit Go.Lib

def blankZ (x : Int) : Bool := x == 9 || x == 10 || x == 12 || x == 32
def greatZ (x : Int) : Bool := decide (65 ≤ x) && decide (x ≤ 90)
def smallZ (x : Int) : Bool := decide (97 ≤ x) && decide (x ≤ 122)
def digitZ (x : Int) : Bool := decide (48 ≤ x) && decide (x ≤ 57)
def lowerZ (x : Int) : Int := if greatZ x then x + 32 else x

theorem blankZ_nat (n : Nat) : blankZ (n : Int) = blankN n := by
  unfold blankZ blankN
  rw [Bool.eq_iff_iff]; simp only [Bool.or_eq_true, beq_iff_eq]
  omega
theorem greatZ_nat (n : Nat) : greatZ (n : Int) = greatN n := by
  unfold greatZ greatN
  rw [Bool.eq_iff_iff]; simp only [Bool.and_eq_true, decide_eq_true_eq]
  omega
theorem smallZ_nat (n : Nat) : smallZ (n : Int) = smallN n := by
  unfold smallZ smallN
  rw [Bool.eq_iff_iff]; simp only [Bool.and_eq_true, decide_eq_true_eq]
  omega
theorem digitZ_nat (n : Nat) : digitZ (n : Int) = digitN n := by
  unfold digitZ digitN
  rw [Bool.eq_iff_iff]; simp only [Bool.and_eq_true, decide_eq_true_eq]
  omega

set_option maxHeartbeats 400000 in
theorem great_any (x : Int) (w : World) :
    Calls Try.prog 20 #[.int .i32 x] w fun e w' => e = .returned (.bool (greatZ x)) ∧ w = w' := by
  unfold greatZ
  cases h1 : decide (65 ≤ x) <;> cases h2 : decide (x ≤ 90)
  all_goals (go_enter Try.func20, Try.ntmps20; go_wp2; go_ret; exact ⟨rfl, rfl⟩)

set_option maxHeartbeats 400000 in
theorem lower_any (x : Int) (w : World) :
    Calls Try.prog 18 #[.int .i32 x] w fun e w' => e = .returned (.int .i32 (lowerZ x)) ∧ w = w' := by
  have hG := great_any x w
  unfold lowerZ
  cases h : greatZ x
  · rw [h] at hG
    go_enter Try.func18, Try.ntmps18
    go_wp2_with fail
    refine hG.mono ?_
    rintro e w' ⟨rfl, rfl⟩
    go_wp2
    go_ret
    exact ⟨rfl, rfl⟩
  · rw [h] at hG
    simp [greatZ] at h
    have e : x + 32 = x - 65 + 97 := by omega
    rw [if_pos rfl, e]
    clear e
    go_enter Try.func18, Try.ntmps18
    go_wp2_with fail
    refine hG.mono ?_
    rintro e w' ⟨rfl, rfl⟩
    go_wp2
    go_ret
    exact ⟨rfl, rfl⟩

theorem lowerZ_nat (b : UInt8) : lowerZ (b.toNat : Int) = ((lowB b).toNat : Int) := by
  rw [lowB_toNat]
  unfold lowerZ
  rw [greatZ_nat]
  split <;> simp
end Go.Proofs.Ytpamdilmoakflaa
