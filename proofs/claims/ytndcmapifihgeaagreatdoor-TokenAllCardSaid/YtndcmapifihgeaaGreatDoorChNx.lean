/- The reference answers as the program: its character at a byte is the one of the list. -/
import Derived.Test.YtndcmapifihgeaaGreatDoorChRef
namespace Go.Proofs.YtndcmapifihgeaaGreatDoor.Ch
open Go.RowKit Go.Lib

theorem goesOn_false {l : List UInt8} {j : Nat} (h : ¬ (j < l.length ∧ 128 ≤ at0 l j ∧ at0 l j < 192)) : goesOn l j = false := decide_eq_false h
theorem goesOn_true {l : List UInt8} {j : Nat} (h : j < l.length ∧ 128 ≤ at0 l j ∧ at0 l j < 192) : goesOn l j = true := decide_eq_true h

/-- what the reference makes of what 'utf' found -/
def mend (r : Int × Int) : Int × Int := if r.2 = 0 ∨ r.1 = 0 then (65533, 1) else r
theorem mend_none : mend (0, 0) = (65533, 1) := rfl
theorem mend_some {c n : Int} (hc : c ≠ 0) (hn : n ≠ 0) : mend (c, n) = (c, n) := by simp [mend, hc, hn]

def pairI (p : Nat × Nat) : Int × Int := ((p.1 : Int), (p.2 : Int))

set_option maxRecDepth 100000 in
theorem class_two (l : List UInt8) (i : Nat) (h : 194 ≤ at0 l i ∧ at0 l i < 224) :
    mend (utfEnd 1 128 (at0 l i - 192) l i) = pairI (decodeN (l.length - i) (at0 l i) (at0 l (i + 1)) (at0 l (i + 2)) (at0 l (i + 3))) := by
  have c1 : ¬ at0 l i < 128 := by omega
  have c2 : at0 l i / 32 = 6 := by omega
  have c3 : ¬ at0 l i / 16 = 14 := by omega
  have c4 : ¬ at0 l i / 8 = 30 := by omega
  by_cases g : i + 1 < l.length ∧ 128 ≤ at0 l (i + 1) ∧ at0 l (i + 1) < 192
  · rw [utfEnd_yes (by simp [runs, goesOn_true g]) (decide_eq_false (by simp only [acc, Nat.zero_add]; omega)), mend_some (by simp only [acc, Nat.zero_add]; omega) (by omega)]
    unfold decodeN
    rw [if_neg c1, if_pos ⟨c2, by omega, by omega⟩, if_pos (by omega)]
    simp only [acc, pairI, Nat.zero_add]
    apply Prod.ext <;> simp only <;> omega
  · rw [utfEnd_bad (k := 0) (by omega) (goesOn_false g), mend_none]
    unfold decodeN
    rw [if_neg c1, if_neg (by omega), if_neg (by omega), if_neg (by omega)]
    rfl

set_option maxRecDepth 100000 in
theorem class_three (l : List UInt8) (i : Nat) (h : 224 ≤ at0 l i ∧ at0 l i < 240) :
    mend (utfEnd 2 2048 (at0 l i - 224) l i) = pairI (decodeN (l.length - i) (at0 l i) (at0 l (i + 1)) (at0 l (i + 2)) (at0 l (i + 3))) := by
  have c1 : ¬ at0 l i < 128 := by omega
  have c2 : ¬ at0 l i / 32 = 6 := by omega
  have c3 : at0 l i / 16 = 14 := by omega
  have c4 : ¬ at0 l i / 8 = 30 := by omega
  by_cases g : i + 1 < l.length ∧ 128 ≤ at0 l (i + 1) ∧ at0 l (i + 1) < 192
  · by_cases g2 : i + 2 < l.length ∧ 128 ≤ at0 l (i + 2) ∧ at0 l (i + 2) < 192
    · have hr : runs l i 2 = true := by simp [runs, goesOn_true g, goesOn_true g2]
      have ea : acc (at0 l i - 224) l i 2 = (((at0 l i % 16 * 4096 + at0 l (i + 1) % 64 * 64 + at0 l (i + 2) % 64 : Nat)) : Int) := by simp only [acc, Nat.zero_add, Nat.reduceAdd]; omega
      unfold decodeN
      rw [if_neg c1, if_neg (by omega), if_pos ⟨c3, ⟨by omega, by omega⟩, by omega, by omega⟩]
      generalize at0 l i % 16 * 4096 + at0 l (i + 1) % 64 * 64 + at0 l (i + 2) % 64 = N at ea ⊢
      by_cases hv : N ≥ 2048 ∧ (N < 55296 ∨ (57344 ≤ N ∧ N ≤ 1114111))
      · rw [utfEnd_yes hr (decide_eq_false (by rw [ea]; omega)), mend_some (by rw [ea]; omega) (by omega), if_pos hv, ea]
        rfl
      · rw [if_neg hv]
        by_cases hb : bad 2048 (acc (at0 l i - 224) l i 2) = true
        · rw [utfEnd_no hb]; rfl
        · exfalso
          have hb' := of_decide_eq_false (by simpa using hb : bad 2048 (acc (at0 l i - 224) l i 2) = false)
          rw [ea] at hb'; omega
    · rw [utfEnd_bad (k := 1) (by omega) (goesOn_false g2), mend_none]
      unfold decodeN
      rw [if_neg c1, if_neg (by omega), if_neg (by omega), if_neg (by omega)]
      rfl
  · rw [utfEnd_bad (k := 0) (by omega) (goesOn_false g), mend_none]
    unfold decodeN
    rw [if_neg c1, if_neg (by omega), if_neg (by omega), if_neg (by omega)]
    rfl

set_option maxRecDepth 100000 in
theorem class_four (l : List UInt8) (i : Nat) (h : 240 ≤ at0 l i ∧ at0 l i < 245) :
    mend (utfEnd 3 65536 (at0 l i - 240) l i) = pairI (decodeN (l.length - i) (at0 l i) (at0 l (i + 1)) (at0 l (i + 2)) (at0 l (i + 3))) := by
  have c1 : ¬ at0 l i < 128 := by omega
  have c2 : ¬ at0 l i / 32 = 6 := by omega
  have c3 : ¬ at0 l i / 16 = 14 := by omega
  have c4 : at0 l i / 8 = 30 := by omega
  by_cases g : i + 1 < l.length ∧ 128 ≤ at0 l (i + 1) ∧ at0 l (i + 1) < 192
  · by_cases g2 : i + 2 < l.length ∧ 128 ≤ at0 l (i + 2) ∧ at0 l (i + 2) < 192
    · by_cases g3 : i + 3 < l.length ∧ 128 ≤ at0 l (i + 3) ∧ at0 l (i + 3) < 192
      · have hr : runs l i 3 = true := by simp [runs, goesOn_true g, goesOn_true g2, goesOn_true g3]
        have ea : acc (at0 l i - 240) l i 3 = (((at0 l i % 8 * 262144 + at0 l (i + 1) % 64 * 4096 + at0 l (i + 2) % 64 * 64 + at0 l (i + 3) % 64 : Nat)) : Int) := by simp only [acc, Nat.zero_add, Nat.reduceAdd]; omega
        unfold decodeN
        rw [if_neg c1, if_neg (by omega), if_neg (by omega), if_pos ⟨c4, ⟨by omega, by omega⟩, ⟨by omega, by omega⟩, by omega, by omega⟩]
        generalize at0 l i % 8 * 262144 + at0 l (i + 1) % 64 * 4096 + at0 l (i + 2) % 64 * 64 + at0 l (i + 3) % 64 = N at ea ⊢
        by_cases hv : N ≥ 65536 ∧ (N < 55296 ∨ (57344 ≤ N ∧ N ≤ 1114111))
        · rw [utfEnd_yes hr (decide_eq_false (by rw [ea]; omega)), mend_some (by rw [ea]; omega) (by omega), if_pos hv, ea]
          rfl
        · rw [if_neg hv]
          by_cases hb : bad 65536 (acc (at0 l i - 240) l i 3) = true
          · rw [utfEnd_no hb]; rfl
          · exfalso
            have hb' := of_decide_eq_false (by simpa using hb : bad 65536 (acc (at0 l i - 240) l i 3) = false)
            rw [ea] at hb'; omega
      · rw [utfEnd_bad (k := 2) (by omega) (goesOn_false g3), mend_none]
        unfold decodeN
        rw [if_neg c1, if_neg (by omega), if_neg (by omega), if_neg (by omega)]
        rfl
    · rw [utfEnd_bad (k := 1) (by omega) (goesOn_false g2), mend_none]
      unfold decodeN
      rw [if_neg c1, if_neg (by omega), if_neg (by omega), if_neg (by omega)]
      rfl
  · rw [utfEnd_bad (k := 0) (by omega) (goesOn_false g), mend_none]
    unfold decodeN
    rw [if_neg c1, if_neg (by omega), if_neg (by omega), if_neg (by omega)]
    rfl

set_option maxRecDepth 100000 in
/-- the reference's answer is the program's -/
theorem utf_nx (l : List UInt8) (i : Nat) (h13 : at0 l i ≠ 13) : mend (utfR l i) = pairI (nx (l.drop i)) := by
  have e0 : at0 (l.drop i) 0 = at0 l i := by rw [at0_drop]; rfl
  have hb0 := at0_lt l i
  unfold nx
  rw [e0, if_neg h13, at0_drop, at0_drop, at0_drop, List.length_drop]
  unfold utfR
  by_cases c0 : at0 l i < 128
  · rw [if_pos c0]
    by_cases z : at0 l i = 0
    · rw [if_pos z, z]; rfl
    · rw [if_neg z, mend_some (by omega) (by omega)]
      unfold decodeN
      rw [if_pos c0]; rfl
  · rw [if_neg c0, if_neg (show ¬ at0 l i = 0 by omega)]
    by_cases c1 : 194 ≤ at0 l i ∧ at0 l i < 224
    · rw [if_pos c1]; exact class_two l i c1
    · rw [if_neg c1]
      by_cases c2 : 224 ≤ at0 l i ∧ at0 l i < 240
      · rw [if_pos c2]; exact class_three l i c2
      · rw [if_neg c2]
        by_cases c3 : 240 ≤ at0 l i ∧ at0 l i < 245
        · rw [if_pos c3]; exact class_four l i c3
        · rw [if_neg c3, mend_none]
          unfold decodeN
          rw [if_neg c0]
          by_cases k1 : at0 l i / 32 = 6 ∧ (1 < l.length - i ∧ at0 l (i + 1) / 64 = 2)
          · rw [if_pos k1, if_neg (by omega)]; rfl
          · rw [if_neg k1, if_neg (by omega)]
            by_cases k2 : at0 l i / 8 = 30 ∧ (1 < l.length - i ∧ at0 l (i + 1) / 64 = 2) ∧ (2 < l.length - i ∧ at0 l (i + 2) / 64 = 2) ∧ (3 < l.length - i ∧ at0 l (i + 3) / 64 = 2)
            · rw [if_pos k2, if_neg (by omega)]; rfl
            · rw [if_neg k2]; rfl
end Go.Proofs.YtndcmapifihgeaaGreatDoor.Ch
