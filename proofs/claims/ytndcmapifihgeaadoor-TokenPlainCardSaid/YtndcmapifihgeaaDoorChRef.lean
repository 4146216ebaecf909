/- The reference's helpers, walked: whether a byte goes on with a character, and which character in UTF-8 begins at a byte. Conditions: the slice's bytes lie in memory, and it is no longer than an int can count. -/
import Derived.Test.YtndcmapifihgeaaDoorChMath
import Derived.Test.YtndcmapifihgeaaDoorProg
import Derived.WalkKit
import Derived.LoopTactic
import Derived.Below
import Derived.Lib.Hide
namespace Go.Proofs.YtndcmapifihgeaaDoor.Ch
open Go.RowKit Go.Lib

/-- a slice of bytes that is not nil: what its cells hold -/
def Cells (l : List UInt8) (b off : Nat) (w : World) : Prop := ∀ j, j < l.length → w.cell? ⟨b, off + j, none⟩ = some (.int .u8 ((at0 l j : Nat) : Int))

def goesOn (l : List UInt8) (j : Nat) : Bool := decide (j < l.length ∧ 128 ≤ at0 l j ∧ at0 l j < 192)

theorem ret_bool {a b : Bool} (h : a = b) : Ending.returned (.bool a) = .returned (.bool b) := by rw [h]
theorem ret_two {k k' : IntKind} {a b c d : Int} (h : a = c) (h' : b = d) : Ending.returned (.tuple #[.int k a, .int k' b]) = .returned (.tuple #[.int k c, .int k' d]) := by rw [h, h']

/-- what the bytes that go on add up to -/
def acc (c0 : Int) (l : List UInt8) (i : Nat) : Nat → Int
  | 0 => c0
  | k + 1 => acc c0 l i k * 64 + at0 l (i + (k + 1)) - 128

/-- do so many bytes go on? -/
def runs (l : List UInt8) (i : Nat) : Nat → Bool
  | 0 => true
  | k + 1 => runs l i k && goesOn l (i + (k + 1))

def bad (least n : Int) : Bool := decide (n < least ∨ 1114111 < n ∨ (55296 ≤ n ∧ n < 57344))

/-- the reference's answer behind the choice of a class -/
def utfEnd (many : Nat) (least c0 : Int) (l : List UInt8) (i : Nat) : Int × Int :=
  if runs l i many && !bad least (acc c0 l i many) then (acc c0 l i many, (many : Int) + 1) else (0, 0)

def utfR (l : List UInt8) (i : Nat) : Int × Int :=
  if at0 l i < 128 then ((at0 l i : Int), 1)
  else if 194 ≤ at0 l i ∧ at0 l i < 224 then utfEnd 1 128 (at0 l i - 192) l i
  else if 224 ≤ at0 l i ∧ at0 l i < 240 then utfEnd 2 2048 (at0 l i - 224) l i
  else if 240 ≤ at0 l i ∧ at0 l i < 245 then utfEnd 3 65536 (at0 l i - 240) l i
  else (0, 0)

theorem goesOn_bd {l : List UInt8} {j : Nat} (h : goesOn l j = true) : j < l.length ∧ 128 ≤ at0 l j ∧ at0 l j < 192 := of_decide_eq_true h

theorem runs_mono {l : List UInt8} {i many : Nat} (h : runs l i many = true) : ∀ k, k ≤ many → runs l i k = true := by
  induction many with
  | zero => intro k hk; obtain rfl : k = 0 := by omega
            exact h
  | succ m ih =>
    intro k hk
    by_cases e : k = m + 1
    · subst e; exact h
    · simp [runs] at h; exact ih h.1 k (by omega)

theorem acc_bd (c0 : Int) (l : List UInt8) (i : Nat) (h0 : 0 ≤ c0) (h1 : c0 ≤ 255) : ∀ k, k ≤ 3 → runs l i k = true → 0 ≤ acc c0 l i k ∧ acc c0 l i k ≤ 1000000000 := by
  have s : ∀ k, runs l i (k + 1) = true → runs l i k = true ∧ 128 ≤ at0 l (i + (k + 1)) ∧ at0 l (i + (k + 1)) < 192 := fun k h => by
    simp [runs] at h; exact ⟨h.1, (goesOn_bd h.2).2⟩
  intro k hk hj
  match k, hk with
  | 0, _ => simp [acc]; omega
  | 1, _ => have := (s 0 hj).2; simp only [acc]; omega
  | 2, _ => have a := s 1 hj; have := (s 0 a.1).2; simp only [acc]; omega
  | 3, _ => have a := s 2 hj; have c := s 1 a.1; have := (s 0 c.1).2; simp only [acc]; omega

theorem utfEnd_bad {many : Nat} {least c0 : Int} {l : List UInt8} {i k : Nat} (hk : k < many) (h : goesOn l (i + (k + 1)) = false) : utfEnd many least c0 l i = (0, 0) := by
  unfold utfEnd
  rw [if_neg]
  intro e
  rw [Bool.and_eq_true] at e
  have := runs_mono e.1 (k + 1) (by omega)
  simp [runs, h] at this
theorem utfEnd_no {many : Nat} {least c0 : Int} {l : List UInt8} {i : Nat} (h : bad least (acc c0 l i many) = true) : utfEnd many least c0 l i = (0, 0) := by
  unfold utfEnd
  rw [h]; simp
theorem utfEnd_yes {many : Nat} {least c0 : Int} {l : List UInt8} {i : Nat} (hr : runs l i many = true) (h : bad least (acc c0 l i many) = false) : utfEnd many least c0 l i = (acc c0 l i many, (many : Int) + 1) := by
  unfold utfEnd
  rw [h, hr]; simp

end Go.Proofs.YtndcmapifihgeaaDoor.Ch

