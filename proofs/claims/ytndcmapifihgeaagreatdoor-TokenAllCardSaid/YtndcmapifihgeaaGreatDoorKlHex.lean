/- Plain lists of bytes: small letters, blanks at the ends, plain names. Nothing of the program is in this text. -/
import Derived.Lib.TrimUEq
import Derived.Test.YtndcmapifihgeaaGreatDoorProg
import Derived.WalkKit
import Derived.WalkLawsBesides
import Derived.Lib.OthersKept
import Derived.Lib.ConvBytes
import Derived.Lib.Hide
import Derived.Deep.LoopGhost
import Derived.Laws.OwnMore
import Derived.Laws.BytesArg
namespace Go.Proofs.YtndcmapifihgeaaGreatDoor.Kl
open Go.Lib

/-- the byte at a place, as a number -/
def at0 (l : List UInt8) (j : Nat) : Nat := (l.getD j 0).toNat

def blankN (n : Nat) : Bool := n == 9 || n == 10 || n == 12 || n == 32
def greatN (n : Nat) : Bool := decide (65 ≤ n) && decide (n ≤ 90)
def smallN (n : Nat) : Bool := decide (97 ≤ n) && decide (n ≤ 122)
def digitN (n : Nat) : Bool := decide (48 ≤ n) && decide (n ≤ 57)

def bl (b : UInt8) : Bool := blankN b.toNat
/-- a byte with a small letter -/
def lowB (b : UInt8) : UInt8 := if greatN b.toNat then b + 32 else b
def smallL (l : List UInt8) : List UInt8 := l.map lowB
def rdrop (l : List UInt8) : List UInt8 := (l.reverse.dropWhile bl).reverse
def trimL (l : List UInt8) : List UInt8 := rdrop (l.dropWhile bl)
/-- the bytes of a plain name behind its first -/
def inName (b : UInt8) : Bool := smallN b.toNat || digitN b.toNat || b.toNat == 45
def nameL : List UInt8 → Bool
  | [] => false
  | b :: r => smallN b.toNat && r.all inName

theorem at0_lt (l : List UInt8) (j : Nat) : at0 l j < 256 := UInt8.toNat_lt _

theorem lowB_toNat (b : UInt8) : (lowB b).toNat = if greatN b.toNat then b.toNat + 32 else b.toNat := by
  unfold lowB
  by_cases h : greatN b.toNat = true
  · rw [if_pos h, if_pos h, UInt8.toNat_add]
    simp [greatN] at h
    have : (32 : UInt8).toNat = 32 := rfl
    omega
  · rw [if_neg h, if_neg h]

theorem lowB_high {b : UInt8} (h : 128 ≤ b.toNat) : lowB b = b := by
  unfold lowB
  rw [if_neg (by simp [greatN]; omega)]

theorem lowB_lowB (b : UInt8) : lowB (lowB b) = lowB b := by
  apply UInt8.toNat_inj.1
  rw [lowB_toNat (lowB b), lowB_toNat b]
  by_cases h : greatN b.toNat = true
  · rw [if_pos h]
    simp [greatN] at h
    rw [if_neg (by simp [greatN]; omega)]
  · rw [if_neg h, if_neg h]

theorem bl_lowB (b : UInt8) : bl (lowB b) = bl b := by
  unfold bl
  rw [lowB_toNat]
  by_cases h : greatN b.toNat = true
  · rw [if_pos h]
    simp [greatN] at h
    have h1 : blankN (b.toNat + 32) = false := by simp [blankN]; omega
    have h2 : blankN b.toNat = false := by simp [blankN]; omega
    rw [h1, h2]
  · rw [if_neg h]

theorem smallL_smallL (l : List UInt8) : smallL (smallL l) = smallL l := by
  unfold smallL
  rw [List.map_map]
  apply List.map_congr_left
  intro b _
  exact lowB_lowB b

theorem smallL_append (a b : List UInt8) : smallL (a ++ b) = smallL a ++ smallL b := List.map_append
theorem smallL_length (l : List UInt8) : (smallL l).length = l.length := List.length_map _

theorem dropWhile_small (l : List UInt8) : (smallL l).dropWhile bl = smallL (l.dropWhile bl) := by
  induction l with
  | nil => rfl
  | cons b r ih =>
    show (lowB b :: smallL r).dropWhile bl = _
    rw [List.dropWhile_cons, List.dropWhile_cons, bl_lowB]
    split
    · exact ih
    · rfl

theorem smallL_reverse (l : List UInt8) : (smallL l).reverse = smallL l.reverse := by
  unfold smallL
  rw [List.map_reverse]

theorem trim_small (l : List UInt8) : trimL (smallL l) = smallL (trimL l) := by
  unfold trimL rdrop
  rw [dropWhile_small, smallL_reverse, dropWhile_small, smallL_reverse]

/-- no blank at its front -/
def HeadOk (l : List UInt8) : Prop := ∀ b r, l = b :: r → bl b = false
/-- no blank at its end -/
def LastOk (l : List UInt8) : Prop := ∀ b r, l = r ++ [b] → bl b = false

theorem dropWhile_head (l : List UInt8) : HeadOk (l.dropWhile bl) := by
  induction l with
  | nil => intro b r h; simp at h
  | cons c t ih =>
    intro b r h
    rw [List.dropWhile_cons] at h
    by_cases hc : bl c = true
    · rw [if_pos hc] at h; exact ih b r h
    · rw [if_neg hc] at h
      injection h with h1 _
      subst h1
      simpa using hc

theorem dropWhile_id {l : List UInt8} (h : HeadOk l) : l.dropWhile bl = l := by
  cases l with
  | nil => rfl
  | cons c t => rw [List.dropWhile_cons, h c t rfl]; rfl

theorem LastOk_iff {l : List UInt8} : LastOk l ↔ HeadOk l.reverse := by
  constructor
  · intro h b r e
    exact h b r.reverse (by rw [← List.reverse_reverse l, e]; simp)
  · intro h b r e
    exact h b r.reverse (by rw [e]; simp)

theorem rdrop_last (l : List UInt8) : LastOk (rdrop l) := by
  rw [LastOk_iff]
  unfold rdrop
  rw [List.reverse_reverse]
  exact dropWhile_head _

theorem rdrop_id {l : List UInt8} (h : LastOk l) : rdrop l = l := by
  unfold rdrop
  rw [dropWhile_id (LastOk_iff.1 h), List.reverse_reverse]

theorem rdrop_append_blank (l m : List UInt8) (h : m.all bl = true) : rdrop (l ++ m) = rdrop l := by
  unfold rdrop
  rw [List.reverse_append, List.dropWhile_append_of_pos]
  intro b hb
  exact List.all_eq_true.1 h b (by simpa using hb)

theorem rdrop_prefix (l : List UInt8) : ∃ m, l = rdrop l ++ m ∧ m.all bl = true := by
  refine ⟨(l.reverse.takeWhile bl).reverse, ?_, ?_⟩
  · unfold rdrop
    rw [← List.reverse_append, List.takeWhile_append_dropWhile, List.reverse_reverse]
  · rw [List.all_reverse, List.all_eq_true]
    intro b hb
    exact List.all_eq_true.1 List.all_takeWhile b hb

theorem rdrop_head {l : List UInt8} (h : HeadOk l) : HeadOk (rdrop l) := by
  obtain ⟨m, hm, _⟩ := rdrop_prefix l
  intro b r e
  exact h b (r ++ m) (by rw [hm, e]; rfl)

theorem trim_head (l : List UInt8) : HeadOk (trimL l) := rdrop_head (dropWhile_head l)
theorem trim_last (l : List UInt8) : LastOk (trimL l) := rdrop_last _
theorem trim_id {l : List UInt8} (h1 : HeadOk l) (h2 : LastOk l) : trimL l = l := by
  unfold trimL
  rw [dropWhile_id h1, rdrop_id h2]
theorem trim_trim (l : List UInt8) : trimL (trimL l) = trimL l := trim_id (trim_head l) (trim_last l)

theorem dropWhile_blank_append (a m : List UInt8) (h : a.all bl = true) : (a ++ m).dropWhile bl = m.dropWhile bl :=
  List.dropWhile_append_of_pos fun b hb => List.all_eq_true.1 h b hb

/-- a text between blanks -/
theorem trim_between (a b t : List UInt8) (ha : a.all bl = true) (hb : b.all bl = true) (h1 : HeadOk t) (h2 : LastOk t) : trimL (a ++ t ++ b) = t := by
  unfold trimL
  rw [List.append_assoc, dropWhile_blank_append _ _ ha]
  cases t with
  | nil =>
    show rdrop (b.dropWhile bl) = []
    have : b.dropWhile bl = [] := by
      have := dropWhile_blank_append b [] hb
      rw [List.append_nil] at this
      rw [this]; rfl
    rw [this]; rfl
  | cons c r =>
    rw [show (c :: r) ++ b = c :: (r ++ b) from rfl, List.dropWhile_cons, h1 c r rfl]
    show rdrop ((c :: r) ++ b) = _
    rw [rdrop_append_blank _ _ hb, rdrop_id h2]

theorem trim_blanks (a : List UInt8) (ha : a.all bl = true) : trimL a = [] := by
  have := trim_between a [] [] ha rfl (by intro b r h; simp at h) (by intro b r h; simp at h)
  simpa using this

theorem trim_length (l : List UInt8) : (trimL l).length ≤ l.length := by
  unfold trimL rdrop
  rw [List.length_reverse]
  refine Nat.le_trans (List.dropWhile_sublist _).length_le ?_
  rw [List.length_reverse]
  exact (List.dropWhile_sublist _).length_le

/-! ### plain names -/
theorem smallN_not {b : UInt8} (h : inName b = true) : bl b = false ∧ lowB b = b := by
  simp [inName, smallN, digitN] at h
  refine ⟨by simp [bl, blankN]; omega, ?_⟩
  unfold lowB
  rw [if_neg (by simp [greatN]; omega)]

theorem name_all {l : List UInt8} (h : nameL l = true) : l.all inName = true := by
  cases l with
  | nil => rfl
  | cons b r =>
    simp only [nameL, Bool.and_eq_true] at h
    rw [List.all_cons, h.2, Bool.and_true]
    simp [inName, h.1]

theorem name_small {l : List UInt8} (h : nameL l = true) : smallL l = l := by
  have ha := List.all_eq_true.1 (name_all h)
  unfold smallL
  conv => rhs; rw [← List.map_id l]
  apply List.map_congr_left
  intro b hb
  exact (smallN_not (ha b hb)).2

theorem name_trim {l : List UInt8} (h : nameL l = true) : trimL l = l := by
  have ha := List.all_eq_true.1 (name_all h)
  refine trim_id ?_ ?_
  · intro b r e
    exact (smallN_not (ha b (by rw [e]; simp))).1
  · intro b r e
    exact (smallN_not (ha b (by rw [e]; simp))).1

theorem name_append {a b : List UInt8} (ha : nameL a = true) (hb : b.all inName = true) : nameL (a ++ b) = true := by
  cases a with
  | nil => cases ha
  | cons c r =>
    simp only [nameL, Bool.and_eq_true] at ha
    show nameL (c :: (r ++ b)) = true
    simp only [nameL, Bool.and_eq_true]
    refine ⟨ha.1, ?_⟩
    rw [List.all_append, ha.2, hb]
    rfl

theorem name_dash {a b : List UInt8} (ha : nameL a = true) (hb : nameL b = true) : nameL (a ++ [45] ++ b) = true := by
  rw [List.append_assoc]
  refine name_append ha ?_
  rw [List.all_append, name_all hb]
  rfl

/-! ### what the decoder does -/
set_option maxRecDepth 100000 in
theorem decodeN_high (n b0 b1 b2 b3 : Nat) (h : 128 ≤ b0) : 128 ≤ (decodeN n b0 b1 b2 b3).1 := by
  unfold decodeN
  repeat' split
  all_goals first | (exfalso; omega) | (simp only; omega)

set_option maxRecDepth 100000 in
/-- where a character of more than one byte stands, all its bytes are from 128 on -/
theorem decodeN_span (n b0 b1 b2 b3 : Nat) (hn : 0 < n) (h : 128 ≤ b0) :
    (decodeN n b0 b1 b2 b3).2 ≤ n ∧ (decodeN n b0 b1 b2 b3).2 ≤ 4 ∧ (1 < (decodeN n b0 b1 b2 b3).2 → 128 ≤ b1) ∧ (2 < (decodeN n b0 b1 b2 b3).2 → 128 ≤ b2) ∧ (3 < (decodeN n b0 b1 b2 b3).2 → 128 ≤ b3) := by
  unfold decodeN
  repeat' split
  all_goals first | (exfalso; omega) | (simp only; omega)

/-- the rune and the width at a byte of the list -/
def dec (l : List UInt8) (i : Nat) : Nat × Nat := decodeN (l.length - i) (at0 l i) (at0 l (i + 1)) (at0 l (i + 2)) (at0 l (i + 3))
theorem decode_dec (l : List UInt8) (i : Nat) : Utf8.decode ⟨l.toArray⟩ i = dec l i := by
  rw [decode_N]
  rfl
theorem dec_ascii {l : List UInt8} {i : Nat} (h : at0 l i < 128) : dec l i = (at0 l i, 1) := decodeN_ascii _ _ _ _ _ h
theorem dec_high {l : List UInt8} {i : Nat} (h : 128 ≤ at0 l i) : 128 ≤ (dec l i).1 := decodeN_high _ _ _ _ _ h
theorem dec_pos (l : List UInt8) (i : Nat) : 1 ≤ (dec l i).2 := decodeN_ge1 _ _ _ _ _
theorem dec_le (l : List UInt8) (i : Nat) : (dec l i).1 ≤ 1114111 := decodeN_rune_le _ _ _ _ _ (UInt8.toNat_lt _)
theorem dec_span {l : List UInt8} {i : Nat} (hi : i < l.length) (h : 128 ≤ at0 l i) : i + (dec l i).2 ≤ l.length ∧ ∀ j, i ≤ j → j < i + (dec l i).2 → 128 ≤ at0 l j := by
  have := decodeN_span (l.length - i) (at0 l i) (at0 l (i + 1)) (at0 l (i + 2)) (at0 l (i + 3)) (by omega) h
  change (dec l i).2 ≤ _ ∧ (dec l i).2 ≤ 4 ∧ (1 < (dec l i).2 → _) ∧ (2 < (dec l i).2 → _) ∧ (3 < (dec l i).2 → _) at this
  refine ⟨by omega, fun j h1 h2 => ?_⟩
  obtain ⟨_, h4, k1, k2, k3⟩ := this
  rcases (by omega : j = i ∨ j = i + 1 ∨ j = i + 2 ∨ j = i + 3) with rfl | rfl | rfl | rfl
  · exact h
  · exact k1 (by omega)
  · exact k2 (by omega)
  · exact k3 (by omega)

/-! ### half way through making small -/
/-- made small up to a place -/
def upto (l : List UInt8) (i : Nat) : List UInt8 := smallL (l.take i) ++ l.drop i
theorem upto_zero (l : List UInt8) : upto l 0 = l := rfl
theorem upto_end (l : List UInt8) (i : Nat) (h : l.length ≤ i) : upto l i = smallL l := by
  unfold upto
  rw [List.take_of_length_le h, List.drop_of_length_le h, List.append_nil]
theorem upto_length (l : List UInt8) (i : Nat) : (upto l i).length = l.length := by
  unfold upto
  rw [List.length_append, smallL_length, List.length_take, List.length_drop]
  omega
theorem upto_succ (l : List UInt8) (i : Nat) (h : i < l.length) : upto l (i + 1) = (upto l i).set i (lowB l[i]) := by
  unfold upto
  rw [List.take_succ_eq_append_getElem h, smallL_append, List.append_assoc]
  have hl : (smallL (l.take i)).length = i := by rw [smallL_length, List.length_take]; omega
  rw [List.set_append, if_neg (by omega), hl, Nat.sub_self, List.drop_eq_getElem_cons h]
  rfl
theorem upto_high (l : List UInt8) (i : Nat) (h : i < l.length) (hh : 128 ≤ at0 l i) : upto l (i + 1) = upto l i := by
  unfold upto
  have e : at0 l i = l[i].toNat := by unfold at0; rw [List.getD_eq_getElem?_getD, List.getElem?_eq_getElem h]; rfl
  rw [List.take_succ_eq_append_getElem h, smallL_append, List.append_assoc, List.drop_eq_getElem_cons h]
  have : smallL [l[i]] = [l[i]] := by
    show [lowB l[i]] = _
    rw [lowB_high (by rw [← e]; exact hh)]
  rw [this]
  rfl
theorem upto_span (l : List UInt8) (i : Nat) : ∀ k, i + k ≤ l.length → (∀ j, i ≤ j → j < i + k → 128 ≤ at0 l j) → upto l (i + k) = upto l i
  | 0, _, _ => rfl
  | k + 1, h, hh => by
    rw [← Nat.add_assoc, upto_high l (i + k) (by omega) (hh _ (by omega) (by omega))]
    exact upto_span l i k (by omega) fun j h1 h2 => hh j h1 (by omega)

/-! ### Go's way of trimming -/
theorem getD_at0 {l : List UInt8} {i : Nat} (h : i < l.length) : at0 l i = l[i].toNat := by
  unfold at0; rw [List.getD_eq_getElem?_getD, List.getElem?_eq_getElem h]; rfl
theorem drop_cons {l : List UInt8} {i : Nat} (h : i < l.length) : l.drop i = l[i] :: l.drop (i + 1) := List.drop_eq_getElem_cons h
theorem take_snoc {l : List UInt8} {i : Nat} (h : i < l.length) : l.take (i + 1) = l.take i ++ [l[i]] := List.take_succ_eq_append_getElem h
theorem blankN_high {n : Nat} (h : 128 ≤ n) : blankN n = false := by simp [blankN]; omega
theorem bl_at {l : List UInt8} {i : Nat} (h : i < l.length) : bl l[i] = blankN (at0 l i) := by rw [getD_at0 h]; rfl
end Go.Proofs.YtndcmapifihgeaaGreatDoor.Kl

/- Kinds of characters: the functions of class, and of the reference, that take one character. -/
namespace Go.Proofs.YtndcmapifihgeaaGreatDoor.Kl
open Go.RowKit Go.Lib

def blankZ (x : Int) : Bool := x == 9 || x == 10 || x == 12 || x == 32
def greatZ (x : Int) : Bool := decide (65 ≤ x) && decide (x ≤ 90)
def smallZ (x : Int) : Bool := decide (97 ≤ x) && decide (x ≤ 122)
def digitZ (x : Int) : Bool := decide (48 ≤ x) && decide (x ≤ 57)
def lowerZ (x : Int) : Int := if greatZ x then x + 32 else x

theorem blankZ_nat (n : Nat) : blankZ (n : Int) = blankN n := by
  unfold blankZ blankN
  rw [Bool.eq_iff_iff]; simp only [Bool.or_eq_true, beq_iff_eq]
  omega
theorem greatZ_nat (n : Nat) : greatZ (n : Int) = greatN n := by
  unfold greatZ greatN
  rw [Bool.eq_iff_iff]; simp only [Bool.and_eq_true, decide_eq_true_eq]
  omega
theorem smallZ_nat (n : Nat) : smallZ (n : Int) = smallN n := by
  unfold smallZ smallN
  rw [Bool.eq_iff_iff]; simp only [Bool.and_eq_true, decide_eq_true_eq]
  omega
theorem digitZ_nat (n : Nat) : digitZ (n : Int) = digitN n := by
  unfold digitZ digitN
  rw [Bool.eq_iff_iff]; simp only [Bool.and_eq_true, decide_eq_true_eq]
  omega

set_option maxHeartbeats 400000 in
theorem blank_any (x : Int) (w : World) :
    Calls Tryz.prog 92 #[.int .i32 x] w fun e w' => e = .returned (.bool (blankZ x)) ∧ w = w' := by
  unfold blankZ
  cases h1 : (x == 9) <;> cases h2 : (x == 10) <;> cases h3 : (x == 12) <;> cases h4 : (x == 32)
  all_goals (go_enter Tryz.func92, Tryz.ntmps92; go_wp2; go_ret; exact ⟨rfl, rfl⟩)

set_option maxHeartbeats 400000 in
theorem great_any (x : Int) (w : World) :
    Calls Tryz.prog 100 #[.int .i32 x] w fun e w' => e = .returned (.bool (greatZ x)) ∧ w = w' := by
  unfold greatZ
  cases h1 : decide (65 ≤ x) <;> cases h2 : decide (x ≤ 90)
  all_goals (go_enter Tryz.func100, Tryz.ntmps100; go_wp2; go_ret; exact ⟨rfl, rfl⟩)

set_option maxHeartbeats 400000 in
theorem small_any (x : Int) (w : World) :
    Calls Tryz.prog 99 #[.int .i32 x] w fun e w' => e = .returned (.bool (smallZ x)) ∧ w = w' := by
  unfold smallZ
  cases h1 : decide (97 ≤ x) <;> cases h2 : decide (x ≤ 122)
  all_goals (go_enter Tryz.func99, Tryz.ntmps99; go_wp2; go_ret; exact ⟨rfl, rfl⟩)

set_option maxHeartbeats 400000 in
theorem digit_any (x : Int) (w : World) :
    Calls Tryz.prog 120 #[.int .i32 x] w fun e w' => e = .returned (.bool (digitZ x)) ∧ w = w' := by
  unfold digitZ
  cases h1 : decide (48 ≤ x) <;> cases h2 : decide (x ≤ 57)
  all_goals (go_enter Tryz.func120, Tryz.ntmps120; go_wp2; go_ret; exact ⟨rfl, rfl⟩)

set_option maxHeartbeats 400000 in
theorem lower_any (x : Int) (w : World) :
    Calls Tryz.prog 91 #[.int .i32 x] w fun e w' => e = .returned (.int .i32 (lowerZ x)) ∧ w = w' := by
  have hG := great_any x w
  unfold lowerZ
  cases h : greatZ x
  · rw [h] at hG
    go_enter Tryz.func91, Tryz.ntmps91
    go_wp2_with fail
    refine hG.mono ?_
    rintro e w' ⟨rfl, rfl⟩
    go_wp2
    go_ret
    exact ⟨rfl, rfl⟩
  · rw [h] at hG
    simp [greatZ] at h
    have e : x + 32 = x - 65 + 97 := by omega
    rw [if_pos rfl, e]
    clear e
    go_enter Tryz.func91, Tryz.ntmps91
    go_wp2_with fail
    refine hG.mono ?_
    rintro e w' ⟨rfl, rfl⟩
    go_wp2
    go_ret
    exact ⟨rfl, rfl⟩

set_option maxHeartbeats 400000 in
theorem refDigit_any (x : Int) (w : World) :
    Calls Tryz.prog 60 #[.int .i64 x] w fun e w' => e = .returned (.bool (digitZ x)) ∧ w = w' := by
  unfold digitZ
  cases h1 : decide (48 ≤ x) <;> cases h2 : decide (x ≤ 57)
  all_goals (go_enter Tryz.func60, Tryz.ntmps60; go_wp2; go_ret; exact ⟨rfl, rfl⟩)

set_option maxHeartbeats 400000 in
theorem refLower_any (x : Int) (w : World) :
    Calls Tryz.prog 39 #[.int .i64 x] w fun e w' => e = .returned (.int .i64 (lowerZ x)) ∧ w = w' := by
  by_cases h1 : 65 ≤ x
  · by_cases h2 : x ≤ 90
    · have e : lowerZ x = x + 32 := by simp [lowerZ, greatZ, h1, h2]
      rw [e]
      clear e
      go_enter Tryz.func39, Tryz.ntmps39
      go_wp2
      go_ret
      exact ⟨rfl, rfl⟩
    · have e : lowerZ x = x := by simp [lowerZ, greatZ, h2]
      rw [e]
      clear e
      have h2' : decide (x ≤ 90) = false := decide_eq_false h2
      go_enter Tryz.func39, Tryz.ntmps39
      go_wp2
      go_ret
      exact ⟨rfl, rfl⟩
  · have e : lowerZ x = x := by simp [lowerZ, greatZ, h1]
    rw [e]
    clear e
    have h1' : decide (65 ≤ x) = false := decide_eq_false h1
    go_enter Tryz.func39, Tryz.ntmps39
    go_wp2
    go_ret
    exact ⟨rfl, rfl⟩

theorem lowerZ_nat (b : UInt8) : lowerZ (b.toNat : Int) = ((lowB b).toNat : Int) := by
  rw [lowB_toNat]
  unfold lowerZ
  rw [greatZ_nat]
  split <;> simp
end Go.Proofs.YtndcmapifihgeaaGreatDoor.Kl

/- class.Small: a text with small letters, whatever its bytes are; the example of the document. -/
namespace Go.Proofs.YtndcmapifihgeaaGreatDoor.Kl
open Go.RowKit Go.Lib

theorem str_size (l : List UInt8) : (⟨l.toArray⟩ : ByteArray).size = l.length := by simp [ByteArray.size]

/-- a row of bytes of one's own, whose first ones are those of the list, none of which a string shares -/
def Row (l : List UInt8) (g : Nat) (w : World) : Prop :=
  ∃ (cur : Array Value) (z : Nat), w.heap[g]? = some (.cells cur 5 (z, z + 1)) ∧ l.length ≤ z ∧ ∀ j, j < l.length → cur[j]? = some (.int .u8 (at0 l j : Int))

theorem Row.cell {l : List UInt8} {g : Nat} {w : World} (h : Row l g w) {j : Nat} (hj : j < l.length) : w.cell? ⟨g, j, none⟩ = some (.int .u8 (at0 l j : Int)) := by
  obtain ⟨cur, z, hg, _, hc⟩ := h
  simp [World.cell?, hg, hc j hj]

theorem Row.frozen {l : List UInt8} {g : Nat} {w : World} (h : Row l g w) {j : Nat} (hj : j < l.length) : w.frozen? ⟨g, j, none⟩ = false := by
  obtain ⟨cur, z, hg, hz, _⟩ := h
  simp [World.frozen?, hg]
  omega

theorem Row.other {l : List UInt8} {g : Nat} {w w' : World} (h : Row l g w) (he : w'.heap[g]? = w.heap[g]?) : Row l g w' := by
  obtain ⟨cur, z, hg, hz, hc⟩ := h
  exact ⟨cur, z, by rw [he]; exact hg, hz, hc⟩

theorem Row.set {l : List UInt8} {g : Nat} {w : World} (h : Row l g w) (j : Nat) (b : UInt8) : Row (l.set j b) g (w.setCell ⟨g, j, none⟩ (.int .u8 (b.toNat : Int))) := by
  obtain ⟨cur, z, hg, hz, hc⟩ := h
  refine ⟨cur.setIfInBounds j (.int .u8 (b.toNat : Int)), z, ?_, by rw [List.length_set]; exact hz, fun i hi => ?_⟩
  · have hlt : g < w.heap.size := by
      rcases Nat.lt_or_ge g w.heap.size with h' | h'
      · exact h'
      · simp [Array.getElem?_eq_none h'] at hg
    rw [Array.getElem?_eq_getElem hlt] at hg
    injection hg with hg
    simp [World.setCell, hlt]
    rw [Array.getElem_modify_self, hg]
  · rw [List.length_set] at hi
    rw [Array.getElem?_setIfInBounds]
    have hci := hc i hi
    have hlt : i < cur.size := by
      rcases Nat.lt_or_ge i cur.size with h' | h'
      · exact h'
      · simp [Array.getElem?_eq_none h'] at hci
    by_cases hij : j = i
    · subst hij
      rw [if_pos rfl, if_pos hlt]
      simp [at0, List.getD_eq_getElem?_getD, hi]
    · rw [if_neg hij, hci]
      simp [at0, List.getD_eq_getElem?_getD, hij]

/-- '[]byte(s)': a new row whose bytes are the string's. -/
theorem bytes_row (l : List UInt8) (w : World) : ∃ (cap : Nat) (W : World), (convert 9 22 (.string ⟨l.toArray⟩)).run Tryz.prog w = .ok (.slice (some ⟨w.heap.size, 0, none⟩) l.length cap) W ∧ Row l w.heap.size W ∧ W.heap.size = w.heap.size + 1 ∧ Below w.heap.size w W := by
  refine ⟨grownCap w l.length 0 5, Lib.bytesWorld w 5 ⟨l.toArray⟩, ?_, ?_, Lib.bytesWorld_size _ _ _, ?_⟩
  · have := Lib.run_convert_string_bytes (P := Tryz.prog) w 9 22 5 ⟨l.toArray⟩ Tryz.underlying9 Tryz.underlying22 Tryz.underlying5
    rw [str_size] at this
    exact this
  · refine ⟨_, _, Lib.bytesWorld_at_new w 5 ⟨l.toArray⟩, ?_, fun j hj => ?_⟩
    · simp [Lib.bytesCells]
    · have := Lib.bytesWorld_cell w 5 ⟨l.toArray⟩ j (by rw [str_size]; exact hj)
      simp only [World.cell?, Lib.bytesWorld_at_new] at this
      exact this
  · exact ⟨rfl, rfl, rfl, by rw [Lib.bytesWorld_size]; omega, fun k hk => Lib.bytesWorld_at_old w 5 _ k hk⟩

/-- 'string(b)' of such a row -/
theorem string_row {l : List UInt8} {g cap : Nat} {w : World} (h : Row l g w) : (convert 22 9 (.slice (some ⟨g, 0, none⟩) l.length cap)).run Tryz.prog w = .ok (.string ⟨l.toArray⟩) w := by
  refine run_convert_bytes_back w 22 9 5 ⟨g, 0, none⟩ cap l Tryz.underlying22 Tryz.underlying5 Tryz.underlying9 fun j hj => ?_
  have e : (⟨g, 0, none⟩ : Addr).add j = ⟨g, j, none⟩ := by unfold Addr.add; split <;> simp_all
  rw [e, h.cell hj]
  simp [at0, List.getD_eq_getElem?_getD, hj]

theorem ret_str {l m : List UInt8} (h : l = m) : Ending.returned (.string ⟨l.toArray⟩) = .returned (.string ⟨m.toArray⟩) := by rw [h]

theorem low_at {l : List UInt8} {i : Nat} (h : i < l.length) : lowerZ (at0 l i : Int) % 256 = ((lowB l[i]).toNat : Int) := by
  rw [getD_at0 h, lowerZ_nat]
  have := UInt8.toNat_lt (lowB l[i])
  omega

theorem upto_same {l : List UInt8} {i : Nat} (h : i < l.length) (hg : greatZ (at0 l i : Int) = false) : upto l (i + 1) = upto l i := by
  rw [getD_at0 h, greatZ_nat] at hg
  have e : smallL [l[i]] = [l[i]] := by
    show [lowB l[i]] = _
    unfold lowB
    rw [hg]
    rfl
  unfold upto
  rw [List.take_succ_eq_append_getElem h, smallL_append, List.append_assoc, List.drop_eq_getElem_cons h, e]
  rfl

/-- half way -/
def SmallRel (l : List UInt8) (w : World) (k : Nat) (gf : Nat) (wr : World) : Prop :=
  ∃ pos : Nat, wr.heap[k]? = some (.stringIter ⟨l.toArray⟩ pos) ∧ Row (upto l pos) w.heap.size wr ∧ Below w.heap.size w wr ∧ l.length ≤ pos + gf

end Go.Proofs.YtndcmapifihgeaaGreatDoor.Kl

/- The digits of base 16 and the letters: class.Hex, class.Letter and the reference's. -/
namespace Go.Proofs.YtndcmapifihgeaaGreatDoor.Kl
open Go.RowKit Go.Lib

/-- the value of a digit of base 16, or -1 -/
def hexZ (x : Int) : Int := if digitZ x then x - 48 else if 97 ≤ x ∧ x ≤ 102 then x - 87 else if 65 ≤ x ∧ x ≤ 70 then x - 55 else -1
def letterZ (x : Int) : Bool := smallZ x || greatZ x

theorem ret_pair {a b : Int} {p q : Bool} (h1 : a = b) (h2 : p = q) : Ending.returned (.tuple #[.int .i64 a, .bool p]) = .returned (.tuple #[.int .i64 b, .bool q]) := by rw [h1, h2]
theorem ret_int {a b : Int} (h : a = b) : Ending.returned (.int .i64 a) = .returned (.int .i64 b) := by rw [h]

theorem digit_true {x : Int} (h : digitZ x = true) : 48 ≤ x ∧ x ≤ 57 := by simpa [digitZ] using h
theorem digit_false {x : Int} (h : digitZ x = false) : ¬ (48 ≤ x ∧ x ≤ 57) := by
  intro h'; rw [show digitZ x = true by simpa [digitZ] using h'] at h; cases h

theorem lower_cases (x : Int) : (65 ≤ x ∧ x ≤ 90 ∧ lowerZ x = x + 32) ∨ (¬ (65 ≤ x ∧ x ≤ 90) ∧ lowerZ x = x) := by
  by_cases h : 65 ≤ x ∧ x ≤ 90
  · exact Or.inl ⟨h.1, h.2, by simp [lowerZ, greatZ, h.1, h.2]⟩
  · refine Or.inr ⟨h, ?_⟩
    unfold lowerZ
    rw [if_neg (by simpa [greatZ] using h)]

theorem hex_low {x : Int} (h : digitZ x = false) (h2 : 97 ≤ lowerZ x ∧ lowerZ x ≤ 102) : hexZ x = lowerZ x - 97 + 10 := by
  unfold hexZ
  rw [h]
  simp only [Bool.false_eq_true, if_false]
  rcases lower_cases x with ⟨a, b, e⟩ | ⟨a, e⟩
  · rw [e] at h2 ⊢; rw [if_neg (by omega), if_pos (by omega)]; omega
  · rw [e] at h2 ⊢; rw [if_pos (by omega)]; omega
theorem hex_none {x : Int} (h : digitZ x = false) (h2 : ¬ (97 ≤ lowerZ x ∧ lowerZ x ≤ 102)) : hexZ x = -1 := by
  unfold hexZ
  rw [h]
  simp only [Bool.false_eq_true, if_false]
  rcases lower_cases x with ⟨a, b, e⟩ | ⟨a, e⟩
  · rw [e] at h2; rw [if_neg (by omega), if_neg (by omega)]
  · rw [e] at h2; rw [if_neg (by omega), if_neg (by omega)]
theorem hex_digit {x : Int} (h : digitZ x = true) : hexZ x = x - 48 := by unfold hexZ; rw [h]; rfl

def HexRes (x : Int) : Ending := .returned (.tuple #[.int .i64 (max (hexZ x) 0), .bool (decide (0 ≤ hexZ x))])

set_option maxHeartbeats 400000 in
theorem hex_any (x : Int) (w : World) :
    Calls Tryz.prog 118 #[.int .i32 x] w fun e w' => e = HexRes x ∧ w = w' := by
  have hD := digit_any x w
  have hL := lower_any x w
  cases hd : digitZ x
  · rw [hd] at hD
    by_cases h : 97 ≤ lowerZ x ∧ lowerZ x ≤ 102
    · have hv : Hid (Ending.returned (.tuple #[.int .i64 (lowerZ x - 97 + 10), .bool true]) = HexRes x) := Lib.hid (ret_pair (by rw [hex_low hd h]; omega) (by rw [hex_low hd h]; simp; omega))
      generalize lowerZ x = y at hL h hv
      obtain ⟨ha, hb⟩ := h
      clear hd
      go_enter Tryz.func118, Tryz.ntmps118
      go_wp2_with fail
      refine hD.mono ?_
      rintro e w' ⟨rfl, rfl⟩
      go_wp2_with fail
      refine hL.mono ?_
      rintro e w' ⟨rfl, rfl⟩
      go_wp2
      go_ret2
      exact ⟨hv.out, rfl⟩
    · have hv : Hid (Ending.returned (.tuple #[.int .i64 0, .bool false]) = HexRes x) := Lib.hid (ret_pair (by rw [hex_none hd h]; rfl) (by rw [hex_none hd h]; rfl))
      generalize lowerZ x = y at hL h hv
      clear hd
      by_cases ha : 97 ≤ y
      · have hb : decide (y ≤ 102) = false := decide_eq_false (fun hb => h ⟨ha, hb⟩)
        clear h
        go_enter Tryz.func118, Tryz.ntmps118
        go_wp2_with fail
        refine hD.mono ?_
        rintro e w' ⟨rfl, rfl⟩
        go_wp2_with fail
        refine hL.mono ?_
        rintro e w' ⟨rfl, rfl⟩
        go_wp2
        go_ret2
        exact ⟨hv.out, rfl⟩
      · have hb : decide (97 ≤ y) = false := decide_eq_false ha
        clear h ha
        go_enter Tryz.func118, Tryz.ntmps118
        go_wp2_with fail
        refine hD.mono ?_
        rintro e w' ⟨rfl, rfl⟩
        go_wp2_with fail
        refine hL.mono ?_
        rintro e w' ⟨rfl, rfl⟩
        go_wp2
        go_ret2
        exact ⟨hv.out, rfl⟩
  · rw [hd] at hD
    obtain ⟨ha, hb⟩ := digit_true hd
    have hv : Hid (Ending.returned (.tuple #[.int .i64 (x - 48), .bool true]) = HexRes x) := Lib.hid (ret_pair (by rw [hex_digit hd]; omega) (by rw [hex_digit hd]; simp; omega))
    clear hd hL
    go_enter Tryz.func118, Tryz.ntmps118
    go_wp2_with fail
    refine hD.mono ?_
    rintro e w' ⟨rfl, rfl⟩
    go_wp2
    go_ret2
    exact ⟨hv.out, rfl⟩

set_option maxHeartbeats 400000 in
theorem letter_any (x : Int) (w : World) :
    Calls Tryz.prog 74 #[.int .i32 x] w fun e w' => e = .returned (.bool (letterZ x)) ∧ w = w' := by
  have hS := small_any x w
  have hG := great_any x w
  unfold letterZ
  cases h1 : smallZ x <;> cases h2 : greatZ x <;> rw [h1] at hS <;> rw [h2] at hG
  · go_enter Tryz.func74, Tryz.ntmps74
    go_wp2_with fail
    refine hS.mono ?_
    rintro e w' ⟨rfl, rfl⟩
    go_wp2_with fail
    refine hG.mono ?_
    rintro e w' ⟨rfl, rfl⟩
    go_wp2
    go_ret
    exact ⟨rfl, rfl⟩
  · go_enter Tryz.func74, Tryz.ntmps74
    go_wp2_with fail
    refine hS.mono ?_
    rintro e w' ⟨rfl, rfl⟩
    go_wp2_with fail
    refine hG.mono ?_
    rintro e w' ⟨rfl, rfl⟩
    go_wp2
    go_ret
    exact ⟨rfl, rfl⟩
  all_goals
    go_enter Tryz.func74, Tryz.ntmps74
    go_wp2_with fail
    refine hS.mono ?_
    rintro e w' ⟨rfl, rfl⟩
    go_wp2
    go_ret
    exact ⟨rfl, rfl⟩

set_option maxHeartbeats 400000 in
theorem refLetter_any (x : Int) (w : World) :
    Calls Tryz.prog 45 #[.int .i64 x] w fun e w' => e = .returned (.bool (letterZ x)) ∧ w = w' := by
  unfold letterZ smallZ greatZ
  cases h1 : decide (65 ≤ x) <;> cases h2 : decide (x ≤ 90) <;> cases h3 : decide (97 ≤ x) <;> cases h4 : decide (x ≤ 122)
  all_goals first
    | (exfalso; simp at h1 h2 h3 h4; omega)
    | (go_enter Tryz.func45, Tryz.ntmps45; go_wp2; go_ret; exact ⟨rfl, rfl⟩)

set_option maxHeartbeats 400000 in
theorem refHex_any (x : Int) (w : World) (hlo : -2147483648 ≤ x) :
    Calls Tryz.prog 85 #[.int .i64 x] w fun e w' => e = .returned (.int .i64 (hexZ x)) ∧ w = w' := by
  have hD := refDigit_any x w
  unfold hexZ
  cases hd : digitZ x
  · rw [hd] at hD
    simp only [Bool.false_eq_true, if_false]
    by_cases c1 : 97 ≤ x
    · by_cases c2 : x ≤ 102
      · rw [if_pos ⟨c1, c2⟩]
        clear hd
        go_enter Tryz.func85, Tryz.ntmps85
        go_wp2_with fail
        refine hD.mono ?_
        rintro e w' ⟨rfl, rfl⟩
        go_wp2
        go_ret
        exact ⟨rfl, rfl⟩
      · rw [if_neg (by omega), if_neg (by omega)]
        have c2' : decide (x ≤ 102) = false := decide_eq_false c2
        have c3 : 65 ≤ x := by omega
        have c4 : decide (x ≤ 70) = false := decide_eq_false (by omega)
        clear hd c2
        go_enter Tryz.func85, Tryz.ntmps85
        go_wp2_with fail
        refine hD.mono ?_
        rintro e w' ⟨rfl, rfl⟩
        go_wp2
        go_ret
        exact ⟨rfl, rfl⟩
    · have c1' : decide (97 ≤ x) = false := decide_eq_false c1
      rw [if_neg (by omega)]
      by_cases c3 : 65 ≤ x
      · by_cases c4 : x ≤ 70
        · rw [if_pos ⟨c3, c4⟩]
          clear hd c1
          go_enter Tryz.func85, Tryz.ntmps85
          go_wp2_with fail
          refine hD.mono ?_
          rintro e w' ⟨rfl, rfl⟩
          go_wp2
          go_ret
          exact ⟨rfl, rfl⟩
        · rw [if_neg (by omega)]
          have c4' : decide (x ≤ 70) = false := decide_eq_false c4
          clear hd c1 c4
          go_enter Tryz.func85, Tryz.ntmps85
          go_wp2_with fail
          refine hD.mono ?_
          rintro e w' ⟨rfl, rfl⟩
          go_wp2
          go_ret
          exact ⟨rfl, rfl⟩
      · rw [if_neg (by omega)]
        have c3' : decide (65 ≤ x) = false := decide_eq_false c3
        clear hd c1 c3
        go_enter Tryz.func85, Tryz.ntmps85
        go_wp2_with fail
        refine hD.mono ?_
        rintro e w' ⟨rfl, rfl⟩
        go_wp2
        go_ret
        exact ⟨rfl, rfl⟩
  · rw [hd] at hD
    rw [if_pos rfl]
    have hx := digit_true hd
    obtain ⟨ha, hb⟩ := hx
    clear hd
    go_enter Tryz.func85, Tryz.ntmps85
    go_wp2_with fail
    refine hD.mono ?_
    rintro e w' ⟨rfl, rfl⟩
    go_wp2
    go_ret
    exact ⟨rfl, rfl⟩
end Go.Proofs.YtndcmapifihgeaaGreatDoor.Kl
