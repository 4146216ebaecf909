/- Plain mathematics of layer 2: the character at the head of a list of bytes, all characters of a list, and what becomes of them. Nothing of the program's text. -/
import Derived.Lib.DecodeN
import Derived.Lib.RuneBytes
namespace Go.Proofs.YtndcmapifihgeaaGreatDoor.Ch
open Go.Lib

/-- byte i of a list, as a number; 0 beyond its end -/
def at0 (l : List UInt8) (i : Nat) : Nat := (l.getD i 0).toNat

theorem at0_lt (l : List UInt8) (i : Nat) : at0 l i < 256 := by
  unfold at0; exact UInt8.toNat_lt _

theorem at0_drop (l : List UInt8) (i j : Nat) : at0 (l.drop i) j = at0 l (i + j) := by
  simp [at0, List.getD_eq_getElem?_getD, List.getElem?_drop]

/-- the character at the head of a list, and how many bytes it has -/
def nx (l : List UInt8) : Nat × Nat :=
  if at0 l 0 = 0 then (65533, 1)
  else if at0 l 0 = 13 then (10, if 1 < l.length ∧ at0 l 1 = 10 then 2 else 1)
  else decodeN l.length (at0 l 0) (at0 l 1) (at0 l 2) (at0 l 3)

theorem decodeN_width (n b0 b1 b2 b3 : Nat) (h : 1 ≤ n) : 1 ≤ (decodeN n b0 b1 b2 b3).2 ∧ (decodeN n b0 b1 b2 b3).2 ≤ 4 ∧ (decodeN n b0 b1 b2 b3).2 ≤ n := by
  unfold decodeN
  repeat' split
  all_goals (simp only; omega)

theorem decodeN_range (n b0 b1 b2 b3 : Nat) (h0 : b0 ≠ 0) (h13 : b0 ≠ 13) :
    (decodeN n b0 b1 b2 b3).1 ≠ 0 ∧ (decodeN n b0 b1 b2 b3).1 ≠ 13 ∧ (decodeN n b0 b1 b2 b3).1 ≤ 1114111 ∧ ((decodeN n b0 b1 b2 b3).1 < 55296 ∨ 57343 < (decodeN n b0 b1 b2 b3).1) := by
  unfold decodeN
  repeat' split
  all_goals (simp only; omega)

theorem nx_width (l : List UInt8) (h : l ≠ []) : 1 ≤ (nx l).2 ∧ (nx l).2 ≤ 4 ∧ (nx l).2 ≤ l.length := by
  have hl : 1 ≤ l.length := by cases l with | nil => exact absurd rfl h | cons => simp
  unfold nx
  split
  · simp; omega
  · split
    · split <;> simp <;> omega
    · exact decodeN_width _ _ _ _ _ hl

theorem nx_range (l : List UInt8) : (nx l).1 ≠ 0 ∧ (nx l).1 ≠ 13 ∧ (nx l).1 ≤ 1114111 ∧ ((nx l).1 < 55296 ∨ 57343 < (nx l).1) := by
  unfold nx
  split
  · simp
  · split
    · simp
    · exact decodeN_range _ _ _ _ _ ‹_› ‹_›

/-- all characters of a list, each that begins ahead of the place k, with fuel -/
def allF : Nat → List UInt8 → Nat → List UInt8
  | 0, _, _ => []
  | f + 1, l, k => if l = [] ∨ k = 0 then [] else encodeRune ((nx l).1 : Int) ++ allF f (l.drop (nx l).2) (k - (nx l).2)

def allN (l : List UInt8) (k : Nat) : List UInt8 := allF l.length l k

theorem allF_fuel (f : Nat) : ∀ (g : Nat) (l : List UInt8) (k : Nat), l.length ≤ f → l.length ≤ g → allF f l k = allF g l k := by
  induction f with
  | zero =>
    intro g l k h1 h2
    obtain rfl : l = [] := List.eq_nil_of_length_eq_zero (by omega)
    cases g <;> simp [allF]
  | succ f ih =>
    intro g l k h1 h2
    cases g with
    | zero =>
      obtain rfl : l = [] := List.eq_nil_of_length_eq_zero (by omega)
      simp [allF]
    | succ g =>
      unfold allF
      split
      · rfl
      · rename_i hn
        have hl : l ≠ [] := fun e => hn (Or.inl e)
        have hw := nx_width l hl
        rw [ih g _ _ (by simp; omega) (by simp; omega)]

theorem allN_nil (k : Nat) : allN [] k = [] := by simp [allN, allF]
theorem allN_zero (l : List UInt8) : allN l 0 = [] := by
  unfold allN; cases l.length <;> simp [allF]
theorem allN_step (l : List UInt8) (k : Nat) (hl : l ≠ []) (hk : 0 < k) :
    allN l k = encodeRune ((nx l).1 : Int) ++ allN (l.drop (nx l).2) (k - (nx l).2) := by
  have hw := nx_width l hl
  unfold allN
  cases hn : l.length with
  | zero => omega
  | succ f =>
    rw [allF, if_neg (by simp; exact ⟨hl, by omega⟩), allF_fuel f _ _ _ (by simp; omega) (Nat.le_refl _)]

/-- Characters are at most three times as long as the bytes that are read. -/
theorem enc_len (c : Int) : 1 ≤ (encodeRune c).length ∧ (encodeRune c).length ≤ 4 := by
  rw [← runeCells_length]; exact runeCells_le c

theorem allN_len4 (n : Nat) : ∀ (l : List UInt8) (k : Nat), l.length ≤ n → (allN l k).length ≤ 4 * n := by
  induction n with
  | zero => intro l k h; obtain rfl : l = [] := List.eq_nil_of_length_eq_zero (by omega); simp [allN_nil]
  | succ n ih =>
    intro l k h
    by_cases hl : l = []
    · subst hl; simp [allN_nil]
    · by_cases hk : k = 0
      · subst hk; simp [allN_zero]
      · rw [allN_step l k hl (by omega)]
        have hw := nx_width l hl
        have := ih (l.drop (nx l).2) (k - (nx l).2) (by simp; omega)
        have := (enc_len ((nx l).1 : Int)).2
        simp; omega

/-- From a place on, up to another one: integers as the program has them. -/
def allFrom (l : List UInt8) (frm to : Int) : List UInt8 :=
  if 0 ≤ frm ∧ frm < l.length then allN (l.drop frm.toNat) (to - frm).toNat else []

theorem allFrom_out (l : List UInt8) (frm to : Int) (h : ¬ (0 ≤ frm ∧ frm < l.length)) : allFrom l frm to = [] := if_neg h
theorem allFrom_late (l : List UInt8) (frm to : Int) (h : ¬ frm < to) : allFrom l frm to = [] := by
  unfold allFrom
  split
  · rw [show (to - frm).toNat = 0 by omega, allN_zero]
  · rfl
theorem allFrom_step (l : List UInt8) (i : Nat) (to : Int) (h : i < l.length) (ht : (i : Int) < to) :
    allFrom l i to = encodeRune ((nx (l.drop i)).1 : Int) ++ allFrom l ((i + (nx (l.drop i)).2 : Nat) : Int) to := by
  have hne : l.drop i ≠ [] := by
    intro e; have := congrArg List.length e; simp at this; omega
  have hw := nx_width _ hne
  simp only [List.length_drop] at hw
  unfold allFrom
  rw [if_pos (by omega), allN_step _ _ (by simpa using hne) (by omega)]
  simp only [Int.toNat_natCast, List.drop_drop]
  congr 1
  by_cases hend : i + (nx (l.drop i)).2 < l.length
  · rw [if_pos (by omega)]
    congr 1
    omega
  · rw [if_neg (by omega), List.drop_of_length_le (by omega), allN_nil]

end Go.Proofs.YtndcmapifihgeaaGreatDoor.Ch
