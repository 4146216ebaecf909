/- Plain lists of bytes: small letters, blanks at the ends, plain names. Nothing of the program is in this text. -/
import Derived.Lib.TrimUEq
namespace Go.Proofs.YtndcmapifihgeaaGreatDoor.Mk
open Go.Lib

/-- the byte at a place, as a number -/
def at0 (l : List UInt8) (j : Nat) : Nat := (l.getD j 0).toNat

def blankN (n : Nat) : Bool := n == 9 || n == 10 || n == 12 || n == 32
def greatN (n : Nat) : Bool := decide (65 ≤ n) && decide (n ≤ 90)
def smallN (n : Nat) : Bool := decide (97 ≤ n) && decide (n ≤ 122)
def digitN (n : Nat) : Bool := decide (48 ≤ n) && decide (n ≤ 57)

def bl (b : UInt8) : Bool := blankN b.toNat
/-- a byte with a small letter -/
def lowB (b : UInt8) : UInt8 := if greatN b.toNat then b + 32 else b
def smallL (l : List UInt8) : List UInt8 := l.map lowB
def rdrop (l : List UInt8) : List UInt8 := (l.reverse.dropWhile bl).reverse
def trimL (l : List UInt8) : List UInt8 := rdrop (l.dropWhile bl)
/-- the bytes of a plain name behind its first -/
def inName (b : UInt8) : Bool := smallN b.toNat || digitN b.toNat || b.toNat == 45
def nameL : List UInt8 → Bool
  | [] => false
  | b :: r => smallN b.toNat && r.all inName

theorem at0_lt (l : List UInt8) (j : Nat) : at0 l j < 256 := UInt8.toNat_lt _

theorem lowB_toNat (b : UInt8) : (lowB b).toNat = if greatN b.toNat then b.toNat + 32 else b.toNat := by
  unfold lowB
  by_cases h : greatN b.toNat = true
  · rw [if_pos h, if_pos h, UInt8.toNat_add]
    simp [greatN] at h
    have : (32 : UInt8).toNat = 32 := rfl
    omega
  · rw [if_neg h, if_neg h]

theorem lowB_high {b : UInt8} (h : 128 ≤ b.toNat) : lowB b = b := by
  unfold lowB
  rw [if_neg (by simp [greatN]; omega)]

theorem lowB_lowB (b : UInt8) : lowB (lowB b) = lowB b := by
  apply UInt8.toNat_inj.1
  rw [lowB_toNat (lowB b), lowB_toNat b]
  by_cases h : greatN b.toNat = true
  · rw [if_pos h]
    simp [greatN] at h
    rw [if_neg (by simp [greatN]; omega)]
  · rw [if_neg h, if_neg h]

theorem bl_lowB (b : UInt8) : bl (lowB b) = bl b := by
  unfold bl
  rw [lowB_toNat]
  by_cases h : greatN b.toNat = true
  · rw [if_pos h]
    simp [greatN] at h
    have h1 : blankN (b.toNat + 32) = false := by simp [blankN]; omega
    have h2 : blankN b.toNat = false := by simp [blankN]; omega
    rw [h1, h2]
  · rw [if_neg h]

theorem smallL_smallL (l : List UInt8) : smallL (smallL l) = smallL l := by
  unfold smallL
  rw [List.map_map]
  apply List.map_congr_left
  intro b _
  exact lowB_lowB b

theorem smallL_append (a b : List UInt8) : smallL (a ++ b) = smallL a ++ smallL b := List.map_append
theorem smallL_length (l : List UInt8) : (smallL l).length = l.length := List.length_map _

theorem dropWhile_small (l : List UInt8) : (smallL l).dropWhile bl = smallL (l.dropWhile bl) := by
  induction l with
  | nil => rfl
  | cons b r ih =>
    show (lowB b :: smallL r).dropWhile bl = _
    rw [List.dropWhile_cons, List.dropWhile_cons, bl_lowB]
    split
    · exact ih
    · rfl

theorem smallL_reverse (l : List UInt8) : (smallL l).reverse = smallL l.reverse := by
  unfold smallL
  rw [List.map_reverse]

theorem trim_small (l : List UInt8) : trimL (smallL l) = smallL (trimL l) := by
  unfold trimL rdrop
  rw [dropWhile_small, smallL_reverse, dropWhile_small, smallL_reverse]

/-- no blank at its front -/
def HeadOk (l : List UInt8) : Prop := ∀ b r, l = b :: r → bl b = false
/-- no blank at its end -/
def LastOk (l : List UInt8) : Prop := ∀ b r, l = r ++ [b] → bl b = false

theorem dropWhile_head (l : List UInt8) : HeadOk (l.dropWhile bl) := by
  induction l with
  | nil => intro b r h; simp at h
  | cons c t ih =>
    intro b r h
    rw [List.dropWhile_cons] at h
    by_cases hc : bl c = true
    · rw [if_pos hc] at h; exact ih b r h
    · rw [if_neg hc] at h
      injection h with h1 _
      subst h1
      simpa using hc

theorem dropWhile_id {l : List UInt8} (h : HeadOk l) : l.dropWhile bl = l := by
  cases l with
  | nil => rfl
  | cons c t => rw [List.dropWhile_cons, h c t rfl]; rfl

theorem LastOk_iff {l : List UInt8} : LastOk l ↔ HeadOk l.reverse := by
  constructor
  · intro h b r e
    exact h b r.reverse (by rw [← List.reverse_reverse l, e]; simp)
  · intro h b r e
    exact h b r.reverse (by rw [e]; simp)

theorem rdrop_last (l : List UInt8) : LastOk (rdrop l) := by
  rw [LastOk_iff]
  unfold rdrop
  rw [List.reverse_reverse]
  exact dropWhile_head _

theorem rdrop_id {l : List UInt8} (h : LastOk l) : rdrop l = l := by
  unfold rdrop
  rw [dropWhile_id (LastOk_iff.1 h), List.reverse_reverse]

theorem rdrop_append_blank (l m : List UInt8) (h : m.all bl = true) : rdrop (l ++ m) = rdrop l := by
  unfold rdrop
  rw [List.reverse_append, List.dropWhile_append_of_pos]
  intro b hb
  exact List.all_eq_true.1 h b (by simpa using hb)

theorem rdrop_prefix (l : List UInt8) : ∃ m, l = rdrop l ++ m ∧ m.all bl = true := by
  refine ⟨(l.reverse.takeWhile bl).reverse, ?_, ?_⟩
  · unfold rdrop
    rw [← List.reverse_append, List.takeWhile_append_dropWhile, List.reverse_reverse]
  · rw [List.all_reverse, List.all_eq_true]
    intro b hb
    exact List.all_eq_true.1 List.all_takeWhile b hb

theorem rdrop_head {l : List UInt8} (h : HeadOk l) : HeadOk (rdrop l) := by
  obtain ⟨m, hm, _⟩ := rdrop_prefix l
  intro b r e
  exact h b (r ++ m) (by rw [hm, e]; rfl)

theorem trim_head (l : List UInt8) : HeadOk (trimL l) := rdrop_head (dropWhile_head l)
theorem trim_last (l : List UInt8) : LastOk (trimL l) := rdrop_last _
theorem trim_id {l : List UInt8} (h1 : HeadOk l) (h2 : LastOk l) : trimL l = l := by
  unfold trimL
  rw [dropWhile_id h1, rdrop_id h2]
theorem trim_trim (l : List UInt8) : trimL (trimL l) = trimL l := trim_id (trim_head l) (trim_last l)

theorem dropWhile_blank_append (a m : List UInt8) (h : a.all bl = true) : (a ++ m).dropWhile bl = m.dropWhile bl :=
  List.dropWhile_append_of_pos fun b hb => List.all_eq_true.1 h b hb

/-- a text between blanks -/
theorem trim_between (a b t : List UInt8) (ha : a.all bl = true) (hb : b.all bl = true) (h1 : HeadOk t) (h2 : LastOk t) : trimL (a ++ t ++ b) = t := by
  unfold trimL
  rw [List.append_assoc, dropWhile_blank_append _ _ ha]
  cases t with
  | nil =>
    show rdrop (b.dropWhile bl) = []
    have : b.dropWhile bl = [] := by
      have := dropWhile_blank_append b [] hb
      rw [List.append_nil] at this
      rw [this]; rfl
    rw [this]; rfl
  | cons c r =>
    rw [show (c :: r) ++ b = c :: (r ++ b) from rfl, List.dropWhile_cons, h1 c r rfl]
    show rdrop ((c :: r) ++ b) = _
    rw [rdrop_append_blank _ _ hb, rdrop_id h2]

theorem trim_blanks (a : List UInt8) (ha : a.all bl = true) : trimL a = [] := by
  have := trim_between a [] [] ha rfl (by intro b r h; simp at h) (by intro b r h; simp at h)
  simpa using this

theorem trim_length (l : List UInt8) : (trimL l).length ≤ l.length := by
  unfold trimL rdrop
  rw [List.length_reverse]
  refine Nat.le_trans (List.dropWhile_sublist _).length_le ?_
  rw [List.length_reverse]
  exact (List.dropWhile_sublist _).length_le

/-! ### plain names -/
theorem smallN_not {b : UInt8} (h : inName b = true) : bl b = false ∧ lowB b = b := by
  simp [inName, smallN, digitN] at h
  refine ⟨by simp [bl, blankN]; omega, ?_⟩
  unfold lowB
  rw [if_neg (by simp [greatN]; omega)]

theorem name_all {l : List UInt8} (h : nameL l = true) : l.all inName = true := by
  cases l with
  | nil => rfl
  | cons b r =>
    simp only [nameL, Bool.and_eq_true] at h
    rw [List.all_cons, h.2, Bool.and_true]
    simp [inName, h.1]

theorem name_small {l : List UInt8} (h : nameL l = true) : smallL l = l := by
  have ha := List.all_eq_true.1 (name_all h)
  unfold smallL
  conv => rhs; rw [← List.map_id l]
  apply List.map_congr_left
  intro b hb
  exact (smallN_not (ha b hb)).2

theorem name_trim {l : List UInt8} (h : nameL l = true) : trimL l = l := by
  have ha := List.all_eq_true.1 (name_all h)
  refine trim_id ?_ ?_
  · intro b r e
    exact (smallN_not (ha b (by rw [e]; simp))).1
  · intro b r e
    exact (smallN_not (ha b (by rw [e]; simp))).1

theorem name_append {a b : List UInt8} (ha : nameL a = true) (hb : b.all inName = true) : nameL (a ++ b) = true := by
  cases a with
  | nil => cases ha
  | cons c r =>
    simp only [nameL, Bool.and_eq_true] at ha
    show nameL (c :: (r ++ b)) = true
    simp only [nameL, Bool.and_eq_true]
    refine ⟨ha.1, ?_⟩
    rw [List.all_append, ha.2, hb]
    rfl

theorem name_dash {a b : List UInt8} (ha : nameL a = true) (hb : nameL b = true) : nameL (a ++ [45] ++ b) = true := by
  rw [List.append_assoc]
  refine name_append ha ?_
  rw [List.all_append, name_all hb]
  rfl

/-! ### what the decoder does -/
set_option maxRecDepth 100000 in
theorem decodeN_high (n b0 b1 b2 b3 : Nat) (h : 128 ≤ b0) : 128 ≤ (decodeN n b0 b1 b2 b3).1 := by
  unfold decodeN
  repeat' split
  all_goals first | (exfalso; omega) | (simp only; omega)

set_option maxRecDepth 100000 in
/-- where a character of more than one byte stands, all its bytes are from 128 on -/
theorem decodeN_span (n b0 b1 b2 b3 : Nat) (hn : 0 < n) (h : 128 ≤ b0) :
    (decodeN n b0 b1 b2 b3).2 ≤ n ∧ (decodeN n b0 b1 b2 b3).2 ≤ 4 ∧ (1 < (decodeN n b0 b1 b2 b3).2 → 128 ≤ b1) ∧ (2 < (decodeN n b0 b1 b2 b3).2 → 128 ≤ b2) ∧ (3 < (decodeN n b0 b1 b2 b3).2 → 128 ≤ b3) := by
  unfold decodeN
  repeat' split
  all_goals first | (exfalso; omega) | (simp only; omega)

/-- the rune and the width at a byte of the list -/
def dec (l : List UInt8) (i : Nat) : Nat × Nat := decodeN (l.length - i) (at0 l i) (at0 l (i + 1)) (at0 l (i + 2)) (at0 l (i + 3))
theorem decode_dec (l : List UInt8) (i : Nat) : Utf8.decode ⟨l.toArray⟩ i = dec l i := by
  rw [decode_N]
  rfl
theorem dec_ascii {l : List UInt8} {i : Nat} (h : at0 l i < 128) : dec l i = (at0 l i, 1) := decodeN_ascii _ _ _ _ _ h
theorem dec_high {l : List UInt8} {i : Nat} (h : 128 ≤ at0 l i) : 128 ≤ (dec l i).1 := decodeN_high _ _ _ _ _ h
theorem dec_pos (l : List UInt8) (i : Nat) : 1 ≤ (dec l i).2 := decodeN_ge1 _ _ _ _ _
theorem dec_le (l : List UInt8) (i : Nat) : (dec l i).1 ≤ 1114111 := decodeN_rune_le _ _ _ _ _ (UInt8.toNat_lt _)
theorem dec_span {l : List UInt8} {i : Nat} (hi : i < l.length) (h : 128 ≤ at0 l i) : i + (dec l i).2 ≤ l.length ∧ ∀ j, i ≤ j → j < i + (dec l i).2 → 128 ≤ at0 l j := by
  have := decodeN_span (l.length - i) (at0 l i) (at0 l (i + 1)) (at0 l (i + 2)) (at0 l (i + 3)) (by omega) h
  change (dec l i).2 ≤ _ ∧ (dec l i).2 ≤ 4 ∧ (1 < (dec l i).2 → _) ∧ (2 < (dec l i).2 → _) ∧ (3 < (dec l i).2 → _) at this
  refine ⟨by omega, fun j h1 h2 => ?_⟩
  obtain ⟨_, h4, k1, k2, k3⟩ := this
  rcases (by omega : j = i ∨ j = i + 1 ∨ j = i + 2 ∨ j = i + 3) with rfl | rfl | rfl | rfl
  · exact h
  · exact k1 (by omega)
  · exact k2 (by omega)
  · exact k3 (by omega)

/-! ### half way through making small -/
/-- made small up to a place -/
def upto (l : List UInt8) (i : Nat) : List UInt8 := smallL (l.take i) ++ l.drop i
theorem upto_zero (l : List UInt8) : upto l 0 = l := rfl
theorem upto_end (l : List UInt8) (i : Nat) (h : l.length ≤ i) : upto l i = smallL l := by
  unfold upto
  rw [List.take_of_length_le h, List.drop_of_length_le h, List.append_nil]
theorem upto_length (l : List UInt8) (i : Nat) : (upto l i).length = l.length := by
  unfold upto
  rw [List.length_append, smallL_length, List.length_take, List.length_drop]
  omega
theorem upto_succ (l : List UInt8) (i : Nat) (h : i < l.length) : upto l (i + 1) = (upto l i).set i (lowB l[i]) := by
  unfold upto
  rw [List.take_succ_eq_append_getElem h, smallL_append, List.append_assoc]
  have hl : (smallL (l.take i)).length = i := by rw [smallL_length, List.length_take]; omega
  rw [List.set_append, if_neg (by omega), hl, Nat.sub_self, List.drop_eq_getElem_cons h]
  rfl
theorem upto_high (l : List UInt8) (i : Nat) (h : i < l.length) (hh : 128 ≤ at0 l i) : upto l (i + 1) = upto l i := by
  unfold upto
  have e : at0 l i = l[i].toNat := by unfold at0; rw [List.getD_eq_getElem?_getD, List.getElem?_eq_getElem h]; rfl
  rw [List.take_succ_eq_append_getElem h, smallL_append, List.append_assoc, List.drop_eq_getElem_cons h]
  have : smallL [l[i]] = [l[i]] := by
    show [lowB l[i]] = _
    rw [lowB_high (by rw [← e]; exact hh)]
  rw [this]
  rfl
theorem upto_span (l : List UInt8) (i : Nat) : ∀ k, i + k ≤ l.length → (∀ j, i ≤ j → j < i + k → 128 ≤ at0 l j) → upto l (i + k) = upto l i
  | 0, _, _ => rfl
  | k + 1, h, hh => by
    rw [← Nat.add_assoc, upto_high l (i + k) (by omega) (hh _ (by omega) (by omega))]
    exact upto_span l i k (by omega) fun j h1 h2 => hh j h1 (by omega)

/-! ### Go's way of trimming -/
theorem getD_at0 {l : List UInt8} {i : Nat} (h : i < l.length) : at0 l i = l[i].toNat := by
  unfold at0; rw [List.getD_eq_getElem?_getD, List.getElem?_eq_getElem h]; rfl
theorem drop_cons {l : List UInt8} {i : Nat} (h : i < l.length) : l.drop i = l[i] :: l.drop (i + 1) := List.drop_eq_getElem_cons h
theorem take_snoc {l : List UInt8} {i : Nat} (h : i < l.length) : l.take (i + 1) = l.take i ++ [l[i]] := List.take_succ_eq_append_getElem h
theorem blankN_high {n : Nat} (h : 128 ≤ n) : blankN n = false := by simp [blankN]; omega
theorem bl_at {l : List UInt8} {i : Nat} (h : i < l.length) : bl l[i] = blankN (at0 l i) := by rw [getD_at0 h]; rfl
end Go.Proofs.YtndcmapifihgeaaGreatDoor.Mk

/- Plain mathematics of layer 8: which mark begins a list of bytes, and how many bytes it has. Nothing of the program's text. -/
namespace Go.Proofs.YtndcmapifihgeaaGreatDoor.Mk
open Go.Lib

/-- a word stands at the front -/
def fits (p m : List UInt8) : Bool := p.isPrefixOf m
/-- the bytes of the first word of some that stands at the front; 0: none does -/
def hit : List (List UInt8) → List UInt8 → Nat
  | [], _ => 0
  | p :: E, m => if fits p m then p.length else hit E m
/-- how many bytes there are up to the end of the first of some words, or of all -/
def bfr (E : List (List UInt8)) : List UInt8 → Nat
  | [] => 0
  | c :: r => if hit E (c :: r) = 0 then bfr E r + 1 else hit E (c :: r)

def gtE : List (List UInt8) := [[62]]
def coE : List (List UInt8) := [[45, 45, 62], [45, 45, 33, 62]]
def dty : List UInt8 := [60, 33, 100, 111, 99, 116, 121, 112, 101]
def letN (c : Nat) : Bool := smallN c || greatN c
/-- </ and a byte behind that is no letter -/
def bogusEnd (m : List UInt8) : Bool := fits [60, 47] m && (decide (2 < m.length) && !letN (at0 m 2))
def isDty (m : List UInt8) : Bool := smallL (m.take 9) == dty
/-- the kind of the mark at the front -/
def kd (m : List UInt8) : Nat :=
  if fits [60, 33, 45, 45] m then 1 else if isDty m then 2 else if fits [60, 47, 62] m then 4 else if fits [60, 33] m then 3 else if fits [60, 63] m then 3 else if bogusEnd m then 3 else 0
def cln (m : List UInt8) : Nat := if fits [62] (m.drop 4) then 5 else if fits [45, 62] (m.drop 4) then 6 else 4 + bfr coE (m.drop 4)
/-- how many bytes the mark of a kind has -/
def ln (m : List UInt8) (k : Nat) : Nat := if k = 1 then cln m else if k = 2 then 9 + bfr gtE (m.drop 9) else if k = 4 then 3 else 2 + bfr gtE (m.drop 2)

theorem fits_nil (m : List UInt8) : fits [] m = true := by cases m <;> rfl
theorem fits_cons (p : UInt8) (ps m : List UInt8) : fits (p :: ps) m = (decide (0 < m.length) && (at0 m 0 == p.toNat && fits ps (m.drop 1))) := by
  cases m with
  | nil => rfl
  | cons c r =>
    show (p == c && List.isPrefixOf ps r) = _
    have : (at0 (c :: r) 0 == p.toNat) = (p == c) := by
      show (c.toNat == p.toNat) = (p == c)
      rw [Bool.eq_iff_iff]; simp only [beq_iff_eq]
      exact ⟨fun h => (UInt8.toNat_inj.1 h).symm, fun h => by rw [h]⟩
    rw [this]
    simp [fits]
theorem fits_len {p m : List UInt8} (h : fits p m = true) : p.length ≤ m.length := by
  have := List.isPrefixOf_iff_prefix.1 h
  exact this.length_le
theorem fits_take {p m : List UInt8} (_ : p.length ≤ m.length) : fits p m = decide (m.take p.length = p) := by
  rw [Bool.eq_iff_iff]
  simp only [decide_eq_true_eq]
  unfold fits
  rw [List.isPrefixOf_iff_prefix, List.prefix_iff_eq_take]
  exact ⟨fun h => h.symm, fun h => h.symm⟩
theorem fits_short {p m : List UInt8} (h : m.length < p.length) : fits p m = false := by
  cases hf : fits p m with
  | false => rfl
  | true => have := fits_len hf; omega

theorem at0_drop (m : List UInt8) (k j : Nat) : at0 (m.drop k) j = at0 m (k + j) := by
  unfold at0
  rw [List.getD_eq_getElem?_getD, List.getD_eq_getElem?_getD, List.getElem?_drop]
theorem at0_out {m : List UInt8} {j : Nat} (h : m.length ≤ j) : at0 m j = 0 := by
  unfold at0
  rw [List.getD_eq_getElem?_getD, List.getElem?_eq_none h]
  rfl
theorem at0_pos {m : List UInt8} {j : Nat} (h : at0 m j ≠ 0) : j < m.length := by
  rcases Nat.lt_or_ge j m.length with h' | h'
  · exact h'
  · exact absurd (at0_out h') h

/-- a word at the front, byte by byte -/
theorem fits_iff {p m : List UInt8} : fits p m = true ↔ p.length ≤ m.length ∧ ∀ j, j < p.length → at0 m j = at0 p j := by
  constructor
  · intro h
    refine ⟨fits_len h, fun j hj => ?_⟩
    obtain ⟨t, rfl⟩ := List.isPrefixOf_iff_prefix.1 h
    unfold at0
    rw [List.getD_eq_getElem?_getD, List.getD_eq_getElem?_getD, List.getElem?_append_left hj]
  · rintro ⟨h, hj⟩
    rw [fits_take h]
    apply decide_eq_true
    apply List.ext_getElem
    · rw [List.length_take]; omega
    · intro i h1 h2
      rw [List.length_take] at h1
      have := hj i h2
      rw [getD_at0 (by omega), getD_at0 h2] at this
      rw [List.getElem_take]
      exact UInt8.toNat_inj.1 this

theorem hit_zero_or (E : List (List UInt8)) (m : List UInt8) : hit E m = 0 ∨ ∃ p ∈ E, fits p m = true ∧ hit E m = p.length := by
  induction E with
  | nil => exact Or.inl rfl
  | cons p E ih =>
    unfold hit
    by_cases h : fits p m = true
    · rw [if_pos h]; exact Or.inr ⟨p, by simp, h, rfl⟩
    · rw [if_neg h]
      rcases ih with h0 | ⟨q, hq, hf, hl⟩
      · exact Or.inl h0
      · exact Or.inr ⟨q, by simp [hq], hf, hl⟩

/-- each word ends with a > -/
def Ends (E : List (List UInt8)) : Prop := ∀ p ∈ E, 1 ≤ p.length ∧ at0 p (p.length - 1) = 62
theorem gtE_ends : Ends gtE := by intro p hp; simp [gtE] at hp; subst hp; decide
theorem coE_ends : Ends coE := by intro p hp; simp [coE] at hp; rcases hp with rfl | rfl <;> decide

theorem bfr_le (E : List (List UInt8)) : ∀ m, bfr E m ≤ m.length
  | [] => Nat.le_refl _
  | c :: r => by
    unfold bfr
    have ih := bfr_le E r
    by_cases h : hit E (c :: r) = 0
    · rw [if_pos h]; simp only [List.length_cons]; omega
    · rw [if_neg h]
      rcases hit_zero_or E (c :: r) with h0 | ⟨p, _, hf, hl⟩
      · exact absurd h0 h
      · rw [hl]; exact fits_len hf

theorem bfr_end {E : List (List UInt8)} (hE : Ends E) : ∀ m, bfr E m < m.length → 1 ≤ bfr E m ∧ at0 m (bfr E m - 1) = 62
  | [], h => by simp [bfr] at h
  | c :: r, h => by
    unfold bfr at h ⊢
    by_cases h0 : hit E (c :: r) = 0
    · rw [if_pos h0] at h ⊢
      simp only [List.length_cons] at h
      have ih := bfr_end hE r (by omega)
      refine ⟨by omega, ?_⟩
      have := at0_drop (c :: r) 1 (bfr E r - 1)
      rw [show (c :: r).drop 1 = r from rfl, ih.2] at this
      rw [show bfr E r + 1 - 1 = 1 + (bfr E r - 1) by omega]
      exact this.symm
    · rw [if_neg h0] at h ⊢
      rcases hit_zero_or E (c :: r) with h1 | ⟨p, hp, hf, hl⟩
      · exact absurd h1 h0
      · rw [hl]
        refine ⟨(hE p hp).1, ?_⟩
        rw [(fits_iff.1 hf).2 _ (by have := (hE p hp).1; omega)]
        exact (hE p hp).2

/-- the same, from a place on -/
theorem bfr_from {E : List (List UInt8)} (hE : Ends E) (m : List UInt8) (k : Nat) (hk : 1 ≤ k) (hm : k ≤ m.length) :
    k + bfr E (m.drop k) ≤ m.length ∧ (k + bfr E (m.drop k) < m.length → at0 m (k + bfr E (m.drop k) - 1) = 62) := by
  have h1 := bfr_le E (m.drop k)
  rw [List.length_drop] at h1
  refine ⟨by omega, fun h => ?_⟩
  have := bfr_end hE (m.drop k) (by rw [List.length_drop]; omega)
  rw [at0_drop] at this
  rw [show k + bfr E (m.drop k) - 1 = k + (bfr E (m.drop k) - 1) by omega]
  exact this.2

theorem lowB_eq {b : UInt8} {c : Nat} (h : (lowB b).toNat = c) (hc : c < 97) : b.toNat = c := by
  rw [lowB_toNat] at h
  split at h
  · rename_i hg; simp [greatN] at hg; omega
  · exact h

theorem dty_head {m : List UInt8} (h : isDty m = true) : 9 ≤ m.length ∧ at0 m 0 = 60 ∧ at0 m 1 = 33 := by
  have e : smallL (m.take 9) = dty := by simpa [isDty] using h
  have hl := congrArg List.length e
  rw [smallL_length, List.length_take] at hl
  have hl9 : 9 ≤ m.length := by
    have : dty.length = 9 := rfl
    omega
  match m, hl9 with
  | a :: b :: r, hl9 =>
    have e' : lowB a :: lowB b :: smallL (r.take 7) = dty := e
    unfold dty at e'
    injection e' with e1 e2
    injection e2 with e2 _
    exact ⟨hl9, lowB_eq (congrArg UInt8.toNat e1) (by decide), lowB_eq (congrArg UInt8.toNat e2) (by decide)⟩

theorem two_of {p : List UInt8} {m : List UInt8} (h : fits p m = true) (hp : 2 ≤ p.length) : 2 ≤ m.length ∧ at0 m 0 = at0 p 0 ∧ at0 m 1 = at0 p 1 := by
  have := fits_iff.1 h
  exact ⟨by omega, this.2 0 (by omega), this.2 1 (by omega)⟩

/-- what a mark is like -/
theorem mark_is {m : List UInt8} (h : kd m ≠ 0) : at0 m 0 = 60 ∧ letN (at0 m 1) = false ∧ ¬ (at0 m 1 = 47 ∧ letN (at0 m 2) = true) ∧ 2 ≤ ln m (kd m) ∧ ln m (kd m) ≤ m.length ∧ (ln m (kd m) < m.length → at0 m (ln m (kd m) - 1) = 62) := by
  unfold kd at h ⊢
  by_cases c1 : fits [60, 33, 45, 45] m = true
  · simp only [if_pos c1]
    have hf := fits_iff.1 c1
    have hl : 4 ≤ m.length := hf.1
    have e0 : at0 m 0 = 60 := hf.2 0 (by decide)
    have e1 : at0 m 1 = 33 := hf.2 1 (by decide)
    rw [e1]
    refine ⟨e0, by decide, fun h => absurd h.1 (by decide), ?_⟩
    show 2 ≤ cln m ∧ cln m ≤ m.length ∧ _
    unfold ln cln
    simp only [if_pos]
    by_cases d1 : fits [62] (m.drop 4) = true
    · rw [if_pos d1]
      have g := fits_iff.1 d1
      simp only [List.length_drop, List.length_cons, List.length_nil] at g
      have g0 := g.2 0 (by omega)
      rw [at0_drop] at g0
      exact ⟨by omega, by omega, fun _ => g0⟩
    · rw [if_neg d1]
      by_cases d2 : fits [45, 62] (m.drop 4) = true
      · rw [if_pos d2]
        have g := fits_iff.1 d2
        simp only [List.length_drop, List.length_cons, List.length_nil] at g
        have g0 := g.2 1 (by omega)
        rw [at0_drop] at g0
        exact ⟨by omega, by omega, fun _ => g0⟩
      · rw [if_neg d2]
        have g := bfr_from coE_ends m 4 (by omega) hl
        exact ⟨by omega, g.1, g.2⟩
  · simp only [if_neg c1] at h ⊢
    by_cases c2 : isDty m = true
    · simp only [if_pos c2]
      have hd := dty_head c2
      have g := bfr_from gtE_ends m 9 (by omega) hd.1
      rw [hd.2.2]
      exact ⟨hd.2.1, by decide, fun h => absurd h.1 (by decide), (by show 2 ≤ 9 + bfr gtE (m.drop 9); omega), g.1, g.2⟩
    · simp only [if_neg c2] at h ⊢
      by_cases c3 : fits [60, 47, 62] m = true
      · simp only [if_pos c3]
        have hf := fits_iff.1 c3
        have e0 : at0 m 0 = 60 := hf.2 0 (by decide)
        have e1 : at0 m 1 = 47 := hf.2 1 (by decide)
        have e2 : at0 m 2 = 62 := hf.2 2 (by decide)
        rw [e1, e2]
        exact ⟨e0, by decide, by decide, (by show 2 ≤ 3; decide), hf.1, fun _ => e2⟩
      · simp only [if_neg c3] at h ⊢
        have tail : 2 ≤ m.length → 2 ≤ ln m 3 ∧ ln m 3 ≤ m.length ∧ (ln m 3 < m.length → at0 m (ln m 3 - 1) = 62) := by
          intro hl
          have g := bfr_from gtE_ends m 2 (by omega) hl
          exact ⟨(by show 2 ≤ 2 + bfr gtE (m.drop 2); omega), g.1, g.2⟩
        by_cases c4 : fits [60, 33] m = true
        · simp only [if_pos c4]
          have hf := two_of c4 (by decide)
          have e1 : at0 m 1 = 33 := hf.2.2
          rw [e1]
          exact ⟨hf.2.1, by decide, fun h => absurd h.1 (by decide), tail hf.1⟩
        · simp only [if_neg c4] at h ⊢
          by_cases c5 : fits [60, 63] m = true
          · simp only [if_pos c5]
            have hf := two_of c5 (by decide)
            have e1 : at0 m 1 = 63 := hf.2.2
            rw [e1]
            exact ⟨hf.2.1, by decide, fun h => absurd h.1 (by decide), tail hf.1⟩
          · simp only [if_neg c5] at h ⊢
            by_cases c6 : bogusEnd m = true
            · simp only [if_pos c6]
              unfold bogusEnd at c6
              simp only [Bool.and_eq_true, decide_eq_true_eq, Bool.not_eq_true'] at c6
              have hf := two_of c6.1 (by decide)
              have e1 : at0 m 1 = 47 := hf.2.2
              rw [e1]
              refine ⟨hf.2.1, by decide, ?_, tail hf.1⟩
              rintro ⟨_, h2⟩
              rw [c6.2.2] at h2
              cases h2
            · simp only [if_neg c6] at h
              exact absurd rfl h

/-! ### comments -/
def keep (b : UInt8) : Bool := b != 62 && b != 45
theorem keep_ne {b : UInt8} (h : keep b = true) : b ≠ 62 ∧ b ≠ 45 := by simpa [keep] using h

theorem hit_keep {c : UInt8} {r : List UInt8} (h : keep c = true) : hit coE (c :: r) = 0 := by
  have hk := keep_ne h
  have f1 : fits [45, 45, 62] (c :: r) = false := by
    show (45 == c && _) = false
    rw [beq_eq_false_iff_ne.2 (fun e => hk.2 e.symm)]; rfl
  have f2 : fits [45, 45, 33, 62] (c :: r) = false := by
    show (45 == c && _) = false
    rw [beq_eq_false_iff_ne.2 (fun e => hk.2 e.symm)]; rfl
  simp [coE, hit, f1, f2]

theorem bfr_keep (t : List UInt8) : ∀ f : List UInt8, (∀ b ∈ f, keep b = true) → bfr coE (f ++ t) = f.length + bfr coE t
  | [], _ => by simp
  | c :: r, h => by
    have ih := bfr_keep t r (fun b hb => h b (by simp [hb]))
    show bfr coE (c :: (r ++ t)) = _
    rw [bfr, if_pos (hit_keep (h c (by simp))), ih]
    simp only [List.length_cons]
    omega

def endOf (bang : Bool) : List UInt8 := if bang then [45, 45, 33, 62] else [45, 45, 62]

theorem bfr_endOf (bang : Bool) : bfr coE (endOf bang ++ [120, 45, 45, 62]) = (endOf bang).length := by cases bang <;> decide

theorem comment_is (f : List UInt8) (hf : ∀ b ∈ f, keep b = true) (bang : Bool) :
    kd ([60, 33, 45, 45] ++ f ++ endOf bang ++ [120, 45, 45, 62]) = 1 ∧ ln ([60, 33, 45, 45] ++ f ++ endOf bang ++ [120, 45, 45, 62]) 1 = ([60, 33, 45, 45] ++ f ++ endOf bang).length := by
  have hd : ([60, 33, 45, 45] ++ f ++ endOf bang ++ [120, 45, 45, 62] : List UInt8).drop 4 = f ++ (endOf bang ++ [120, 45, 45, 62]) := by simp
  have h1 : fits [60, 33, 45, 45] ([60, 33, 45, 45] ++ f ++ endOf bang ++ [120, 45, 45, 62]) = true := by
    apply List.isPrefixOf_iff_prefix.2
    exact ⟨f ++ endOf bang ++ [120, 45, 45, 62], by simp⟩
  refine ⟨by unfold kd; rw [if_pos h1], ?_⟩
  show cln _ = _
  unfold cln
  rw [hd]
  have k1 : fits [62] (f ++ (endOf bang ++ [120, 45, 45, 62])) = false := by
    cases f with
    | nil => cases bang <;> decide
    | cons c r =>
      show (62 == c && _) = false
      rw [beq_eq_false_iff_ne.2 (fun e => (keep_ne (hf c (by simp))).1 e.symm)]; rfl
  have k2 : fits [45, 62] (f ++ (endOf bang ++ [120, 45, 45, 62])) = false := by
    cases f with
    | nil => cases bang <;> decide
    | cons c r =>
      show (45 == c && _) = false
      rw [beq_eq_false_iff_ne.2 (fun e => (keep_ne (hf c (by simp))).2 e.symm)]; rfl
  rw [if_neg (by rw [k1]; decide), if_neg (by rw [k2]; decide), bfr_keep _ f hf, bfr_endOf]
  simp only [List.length_append, List.length_cons, List.length_nil]
  omega

/-! ### bogus ones -/
def bogF (bang : Bool) : List UInt8 := if bang then [60, 33, 91] else [60, 63]

theorem bogus_kd (bang : Bool) (m : List UInt8) : kd (bogF bang ++ m) = 3 := by
  cases bang with
  | false =>
    have h1 : fits [60, 33, 45, 45] (60 :: 63 :: m) = false := rfl
    have h2 : isDty (60 :: 63 :: m) = false := by
      cases h : isDty (60 :: 63 :: m) with
      | false => rfl
      | true => have := (dty_head h).2.2; simp [at0] at this
    have h3 : fits [60, 47, 62] (60 :: 63 :: m) = false := rfl
    have h4 : fits [60, 33] (60 :: 63 :: m) = false := rfl
    have h5 : fits [60, 63] (60 :: 63 :: m) = true := by simp [fits]
    show kd (60 :: 63 :: m) = 3
    unfold kd
    rw [h1, h2, h3, h4, h5]; rfl
  | true =>
    have h1 : fits [60, 33, 45, 45] (60 :: 33 :: 91 :: m) = false := rfl
    have h2 : isDty (60 :: 33 :: 91 :: m) = false := by
      cases h : isDty (60 :: 33 :: 91 :: m) with
      | false => rfl
      | true =>
        have e : smallL ((60 :: 33 :: 91 :: m).take 9) = dty := by simpa [isDty] using h
        have e' : lowB 60 :: lowB 33 :: lowB 91 :: smallL (m.take 6) = dty := e
        unfold dty at e'
        injection e' with _ e2
        injection e2 with _ e3
        injection e3 with e3 _
        exact absurd e3 (by decide)
    have h3 : fits [60, 47, 62] (60 :: 33 :: 91 :: m) = false := rfl
    have h4 : fits [60, 33] (60 :: 33 :: 91 :: m) = true := by simp [fits]
    show kd (60 :: 33 :: 91 :: m) = 3
    unfold kd
    rw [h1, h2, h3, h4]; rfl

theorem bfr_step {s : List UInt8} {i : Nat} (h : i < s.length) : i + bfr gtE (s.drop i) = if at0 s i = 62 then i + 1 else i + 1 + bfr gtE (s.drop (i + 1)) := by
  rw [drop_cons h]
  have hh : hit gtE (s[i] :: s.drop (i + 1)) = if at0 s i = 62 then 1 else 0 := by
    have : fits [62] (s[i] :: s.drop (i + 1)) = decide (at0 s i = 62) := by
      show (62 == s[i] && true) = _
      rw [Bool.and_true, Bool.eq_iff_iff, getD_at0 h]
      simp only [beq_iff_eq, decide_eq_true_eq]
      exact ⟨fun e => by rw [← e]; rfl, fun e => (UInt8.toNat_inj.1 e).symm⟩
    simp only [gtE, hit, this, decide_eq_true_eq]
    rfl
  conv => lhs; unfold bfr
  rw [hh]
  by_cases h62 : at0 s i = 62
  · simp only [if_pos h62]; rfl
  · simp only [if_neg h62, if_true]; omega
theorem bfr_none (s : List UInt8) : s.length + bfr gtE (s.drop s.length) = s.length := by
  rw [List.drop_length]; rfl
end Go.Proofs.YtndcmapifihgeaaGreatDoor.Mk
