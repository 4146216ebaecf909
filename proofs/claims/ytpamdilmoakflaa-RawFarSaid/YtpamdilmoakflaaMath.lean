/- Plain lists of bytes: small letters. Nothing of the program is in this text. -/
import Derived.Lib.Hide
namespace Go.Proofs.Ytpamdilmoakflaa
open Go.Lib

/-- the byte at a place, as a number -/
def at0 (l : List UInt8) (j : Nat) : Nat := (l.getD j 0).toNat

def blankN (n : Nat) : Bool := n == 9 || n == 10 || n == 12 || n == 32
def greatN (n : Nat) : Bool := decide (65 ≤ n) && decide (n ≤ 90)
def smallN (n : Nat) : Bool := decide (97 ≤ n) && decide (n ≤ 122)
def digitN (n : Nat) : Bool := decide (48 ≤ n) && decide (n ≤ 57)

def bl (b : UInt8) : Bool := blankN b.toNat
/-- a byte with a small letter -/
def lowB (b : UInt8) : UInt8 := if greatN b.toNat then b + 32 else b
def smallL (l : List UInt8) : List UInt8 := l.map lowB
theorem at0_lt (l : List UInt8) (j : Nat) : at0 l j < 256 := UInt8.toNat_lt _

theorem lowB_toNat (b : UInt8) : (lowB b).toNat = if greatN b.toNat then b.toNat + 32 else b.toNat := by
  unfold lowB
  by_cases h : greatN b.toNat = true
  · rw [if_pos h, if_pos h, UInt8.toNat_add]
    simp [greatN] at h
    have : (32 : UInt8).toNat = 32 := rfl
    omega
  · rw [if_neg h, if_neg h]

theorem lowB_high {b : UInt8} (h : 128 ≤ b.toNat) : lowB b = b := by
  unfold lowB
  rw [if_neg (by simp [greatN]; omega)]

theorem lowB_lowB (b : UInt8) : lowB (lowB b) = lowB b := by
  apply UInt8.toNat_inj.1
  rw [lowB_toNat (lowB b), lowB_toNat b]
  by_cases h : greatN b.toNat = true
  · rw [if_pos h]
    simp [greatN] at h
    rw [if_neg (by simp [greatN]; omega)]
  · rw [if_neg h, if_neg h]

theorem bl_lowB (b : UInt8) : bl (lowB b) = bl b := by
  unfold bl
  rw [lowB_toNat]
  by_cases h : greatN b.toNat = true
  · rw [if_pos h]
    simp [greatN] at h
    have h1 : blankN (b.toNat + 32) = false := by simp [blankN]; omega
    have h2 : blankN b.toNat = false := by simp [blankN]; omega
    rw [h1, h2]
  · rw [if_neg h]

theorem smallL_smallL (l : List UInt8) : smallL (smallL l) = smallL l := by
  unfold smallL
  rw [List.map_map]
  apply List.map_congr_left
  intro b _
  exact lowB_lowB b

theorem smallL_append (a b : List UInt8) : smallL (a ++ b) = smallL a ++ smallL b := List.map_append
theorem smallL_length (l : List UInt8) : (smallL l).length = l.length := List.length_map _

theorem getD_at0 {l : List UInt8} {i : Nat} (h : i < l.length) : at0 l i = l[i].toNat := by
  unfold at0; rw [List.getD_eq_getElem?_getD, List.getElem?_eq_getElem h]; rfl
theorem drop_cons {l : List UInt8} {i : Nat} (h : i < l.length) : l.drop i = l[i] :: l.drop (i + 1) := List.drop_eq_getElem_cons h
theorem take_snoc {l : List UInt8} {i : Nat} (h : i < l.length) : l.take (i + 1) = l.take i ++ [l[i]] := List.take_succ_eq_append_getElem h
end Go.Proofs.Ytpamdilmoakflaa
