/- The character of a number, in the program and in the reference; and which byte behind a name says that no name was meant. -/
import Derived.Test.YtndcmapifihgeaaGreatDoorMath
import Derived.Test.YtndcmapifihgeaaGreatDoorKlHex
import Derived.Test.YtndcmapifihgeaaGreatDoorProg
import Derived.WalkKit
import Derived.LoopTactic
import Derived.Below
import Derived.Lib.Hide
import Derived.WalkLawsBesides
namespace Go.Proofs.YtndcmapifihgeaaGreatDoor
open Go.RowKit Go.Lib
open Ch (at0 nx nx_width at0_lt at0_drop enc_len)

theorem ret_int {k : IntKind} {a b : Int} (h : a = b) : Ending.returned (.int k a) = .returned (.int k b) := by rw [h]

/-- the program's table lies as its text lays it -/
def Mv (w : World) : Prop := ∀ i : Nat, i < 32 → w.cell? ⟨2, i, none⟩ = some (.int .i32 ((movedL.getD i 0 : Nat) : Int))

theorem pt_low {n : Int} (h : n ≤ 0) : pt n = 65533 := if_pos (Or.inl h)
theorem pt_high {n : Int} (h : 1114111 < n) : pt n = 65533 := if_pos (Or.inr (Or.inl h))
theorem pt_sur {n : Int} (h : 55296 ≤ n) (h' : n ≤ 57343) : pt n = 65533 := if_pos (Or.inr (Or.inr ⟨h, h'⟩))
theorem pt_moved {i : Nat} (h : i < 32) : pt ((i : Int) + 128) = movedL.getD i 0 := by
  unfold pt
  rw [if_neg (by omega), if_pos (by omega), show ((i : Int) + 128 - 128).toNat = i by omega]
theorem pt_self {n : Nat} (h : (0 < n ∧ n < 128) ∨ (160 ≤ n ∧ n < 55296) ∨ (57343 < n ∧ n ≤ 1114111)) : pt (n : Int) = n := by
  unfold pt
  rw [if_neg (by omega), if_neg (by omega)]
  omega

/-- the five kinds of numbers -/
theorem pt_cases (n : Int) : n ≤ 0 ∨ 1114111 < n ∨ (55296 ≤ n ∧ n ≤ 57343) ∨ (∃ i : Nat, i < 32 ∧ n = (i : Int) + 128) ∨
    ∃ k : Nat, n = k ∧ ((0 < k ∧ k < 128) ∨ (160 ≤ k ∧ k < 55296) ∨ (57343 < k ∧ k ≤ 1114111)) := by
  rcases (by omega : 0 < n ∨ n ≤ 0) with h0 | h0
  · by_cases h1 : 128 ≤ n ∧ n < 160
    · exact Or.inr (Or.inr (Or.inr (Or.inl ⟨(n - 128).toNat, by omega, by omega⟩)))
    · by_cases h2 : 1114111 < n ∨ (55296 ≤ n ∧ n ≤ 57343)
      · omega
      · exact Or.inr (Or.inr (Or.inr (Or.inr ⟨n.toNat, by omega, by omega⟩)))
  · exact Or.inl h0

set_option maxHeartbeats 1000000 in
set_option maxRecDepth 100000 in
theorem point_any (n : Int) (w : World) (hM : Mv w) :
    Calls Tryz.prog 112 #[.int .i64 n] w fun e w' => e = .returned (.int .i32 ((pt n : Nat) : Int)) ∧ w = w' := by
  rcases pt_cases n with h | h | ⟨h, h'⟩ | ⟨i, hi, rfl⟩ | ⟨k, rfl, h⟩
  · rw [pt_low h]
    go_enter Tryz.func112, Tryz.ntmps112
    go_wp2
    go_ret
    exact ⟨rfl, rfl⟩
  · rw [pt_high h]
    have h0 : ¬ n ≤ 0 := by omega
    go_enter Tryz.func112, Tryz.ntmps112
    go_wp2
    go_ret
    exact ⟨rfl, rfl⟩
  · rw [pt_sur h h']
    have h0 : ¬ n ≤ 0 := by omega
    have h1 : ¬ (1114111 : Int) < n := by omega
    go_enter Tryz.func112, Tryz.ntmps112
    go_wp2
    go_ret
    exact ⟨rfl, rfl⟩
  · rw [pt_moved hi]
    have hc := hM i hi
    have h0 : ¬ ((i : Int) + 128) ≤ 0 := by omega
    have h1 : ¬ (1114111 : Int) < (i : Int) + 128 := by omega
    have h2 : ¬ (55296 : Int) ≤ (i : Int) + 128 := by omega
    have h3 : (128 : Int) ≤ (i : Int) + 128 := by omega
    have h4 : (i : Int) + 128 < 160 := by omega
    have h5 : (i : Int) + 128 - 128 = (i : Int) := by omega
    generalize movedL.getD i 0 = M at hc ⊢
    go_enter Tryz.func112, Tryz.ntmps112
    go_wp2
    go_ret
    exact ⟨rfl, rfl⟩
  · rw [pt_self h]
    have h0 : ¬ ((k : Int)) ≤ 0 := by omega
    have h1 : ¬ (1114111 : Int) < (k : Int) := by omega
    by_cases c : k < 55296
    · have h2 : ¬ (55296 : Int) ≤ (k : Int) := by omega
      by_cases c2 : k < 128
      · have h3 : ¬ (128 : Int) ≤ (k : Int) := by omega
        clear h c c2
        go_enter Tryz.func112, Tryz.ntmps112
        go_wp2
        go_ret
        exact ⟨rfl, rfl⟩
      · have h3 : (128 : Int) ≤ (k : Int) := by omega
        have h4 : ¬ (k : Int) < 160 := by omega
        clear h c c2
        go_enter Tryz.func112, Tryz.ntmps112
        go_wp2
        go_ret
        exact ⟨rfl, rfl⟩
    · have h2 : (55296 : Int) ≤ (k : Int) := by omega
      have h2' : ¬ (k : Int) ≤ 57343 := by omega
      have h3 : (128 : Int) ≤ (k : Int) := by omega
      have h4 : ¬ (k : Int) < 160 := by omega
      clear h c
      go_enter Tryz.func112, Tryz.ntmps112
      go_wp2
      go_ret
      exact ⟨rfl, rfl⟩

theorem row_cell (w : World) (t : TypeId) (i : Nat) (v : Value) (cs : Array Value) (h : cs[i]? = some v) : (w.alloc (.cells cs t)).cell? ⟨w.heap.size, i, none⟩ = some v := by
  simp [World.cell?, World.alloc, -World.alloc_eq]
  exact h

def refRow : Array Value := #[.int .i64 8364, .int .i64 129, .int .i64 8218, .int .i64 402, .int .i64 8222, .int .i64 8230, .int .i64 8224, .int .i64 8225, .int .i64 710, .int .i64 8240, .int .i64 352, .int .i64 8249, .int .i64 338, .int .i64 141, .int .i64 381, .int .i64 143, .int .i64 144, .int .i64 8216, .int .i64 8217, .int .i64 8220, .int .i64 8221, .int .i64 8226, .int .i64 8211, .int .i64 8212, .int .i64 732, .int .i64 8482, .int .i64 353, .int .i64 8250, .int .i64 339, .int .i64 157, .int .i64 382, .int .i64 376]
theorem refRow_list : refRow = (movedL.map fun n : Nat => Value.int .i64 (n : Int)).toArray := rfl
theorem refRow_at (i : Nat) (h : i < 32) : refRow[i]? = some (.int .i64 ((movedL.getD i 0 : Nat) : Int)) := by
  have hl : i < movedL.length := h
  rw [refRow_list]
  simp [List.getElem?_eq_getElem hl, List.getD_eq_getElem?_getD]

set_option maxHeartbeats 2000000 in
set_option maxRecDepth 100000 in
theorem refPoint_any (n : Int) (w : World) :
    Calls Tryz.prog 86 #[.int .i64 n] w fun e w' => e = .returned (.int .i64 ((pt n : Nat) : Int)) ∧ Below w.heap.size w w' := by
  rcases pt_cases n with h | h | ⟨h, h'⟩ | ⟨i, hi, rfl⟩ | ⟨k, rfl, h⟩
  · rw [pt_low h]
    go_enter Tryz.func86, Tryz.ntmps86
    go_wp2
    go_ret
    exact ⟨rfl, Below.refl _ _⟩
  · rw [pt_high h]
    have h0 : ¬ n ≤ 0 := by omega
    go_enter Tryz.func86, Tryz.ntmps86
    go_wp2
    go_ret
    exact ⟨rfl, Below.refl _ _⟩
  · rw [pt_sur h h']
    have h0 : ¬ n ≤ 0 := by omega
    have h1 : ¬ (1114111 : Int) < n := by omega
    go_enter Tryz.func86, Tryz.ntmps86
    go_wp2
    go_ret
    exact ⟨rfl, Below.refl _ _⟩
  · rw [pt_moved hi]
    have hc := row_cell w 3 i _ refRow (refRow_at i hi)
    have hB : Below w.heap.size w (w.alloc (.cells refRow 3)) := (Below.refl _ w).alloc (Nat.le_refl _) _
    unfold refRow at hc hB
    have h0 : ¬ ((i : Int) + 128) ≤ 0 := by omega
    have h1 : ¬ (1114111 : Int) < (i : Int) + 128 := by omega
    have h2 : ¬ (55296 : Int) ≤ (i : Int) + 128 := by omega
    have h3 : ¬ (i : Int) + 128 < 128 := by omega
    have h4 : ¬ (159 : Int) < (i : Int) + 128 := by omega
    have h5 : (i : Int) + 128 - 128 = (i : Int) := by omega
    have HB := Lib.hid hB
    clear hB
    generalize movedL.getD i 0 = M at hc ⊢
    go_enter Tryz.func86, Tryz.ntmps86
    go_wp2
    go_ret
    exact ⟨rfl, HB.out⟩
  · rw [pt_self h]
    have h0 : ¬ ((k : Int)) ≤ 0 := by omega
    have h1 : ¬ (1114111 : Int) < (k : Int) := by omega
    by_cases c : k < 55296
    · have h2 : ¬ (55296 : Int) ≤ (k : Int) := by omega
      by_cases c2 : k < 128
      · have h3 : (k : Int) < 128 := by omega
        clear h c c2
        go_enter Tryz.func86, Tryz.ntmps86
        go_wp2
        go_ret
        exact ⟨rfl, Below.refl _ _⟩
      · have h3 : ¬ (k : Int) < 128 := by omega
        have h4 : (159 : Int) < (k : Int) := by omega
        clear h c c2
        go_enter Tryz.func86, Tryz.ntmps86
        go_wp2
        go_ret
        exact ⟨rfl, Below.refl _ _⟩
    · have h2 : (55296 : Int) ≤ (k : Int) := by omega
      have h2' : ¬ (k : Int) ≤ 57343 := by omega
      have h3 : ¬ (k : Int) < 128 := by omega
      have h4 : (159 : Int) < (k : Int) := by omega
      clear h c
      go_enter Tryz.func86, Tryz.ntmps86
      go_wp2
      go_ret
      exact ⟨rfl, Below.refl _ _⟩

def goesZ (x : Int) : Bool := Kl.letterZ x || Kl.digitZ x || x == 61

theorem goesZ_nat (n : Nat) : goesZ (n : Int) = goesN n := by
  unfold goesZ goesN Kl.letterZ Kl.smallZ Kl.greatZ Kl.digitZ letN digN
  rw [Bool.eq_iff_iff]
  simp only [Bool.or_eq_true, Bool.and_eq_true, decide_eq_true_eq, beq_iff_eq]
  omega
theorem goesZ_none : goesZ (-1) = false := by decide

set_option maxHeartbeats 1000000 in
set_option maxRecDepth 100000 in
theorem goesOn_any (x : Int) (w : World) :
    Calls Tryz.prog 114 #[.int .i32 x] w fun e w' => e = .returned (.bool (goesZ x)) ∧ w = w' := by
  have hL := Kl.letter_any x w
  have hD := Kl.digit_any x w
  unfold goesZ
  cases h1 : Kl.letterZ x <;> rw [h1] at hL
  · cases h2 : Kl.digitZ x <;> rw [h2] at hD
    · cases h3 : (x == 61)
      all_goals
        clear h1 h2
        go_enter Tryz.func114, Tryz.ntmps114
        go_wp2_with fail
        refine hL.mono ?_
        rintro e w' ⟨rfl, rfl⟩
        go_wp2_with fail
        refine hD.mono ?_
        rintro e w' ⟨rfl, rfl⟩
        go_wp2
        go_ret
        exact ⟨rfl, rfl⟩
    · clear h1 h2
      go_enter Tryz.func114, Tryz.ntmps114
      go_wp2_with fail
      refine hL.mono ?_
      rintro e w' ⟨rfl, rfl⟩
      go_wp2_with fail
      refine hD.mono ?_
      rintro e w' ⟨rfl, rfl⟩
      go_wp2
      go_ret
      exact ⟨rfl, rfl⟩
  · clear h1
    go_enter Tryz.func114, Tryz.ntmps114
    go_wp2_with fail
    refine hL.mono ?_
    rintro e w' ⟨rfl, rfl⟩
    go_wp2
    go_ret
    exact ⟨rfl, rfl⟩
end Go.Proofs.YtndcmapifihgeaaGreatDoor
