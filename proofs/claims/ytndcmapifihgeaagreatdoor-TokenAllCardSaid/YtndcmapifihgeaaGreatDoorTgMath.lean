/- Plain mathematics of layer 7: a tag at the head of a list of bytes: its name, its attributes, where it ends. Nothing of the program's text. -/
import Derived.Test.YtndcmapifihgeaaGreatDoorMath3
import Derived.Test.YtndcmapifihgeaaGreatDoorChRAll
import Derived.Test.YtndcmapifihgeaaGreatDoorKlHex
import Derived.Test.YtndcmapifihgeaaGreatDoorAtMath2
namespace Go.Proofs.YtndcmapifihgeaaGreatDoor.Tg
open Go.Lib
open Ch (at0 nx nx_width nx_range at0_lt at0_drop enc_len nx_enc good nx_good Good)
open Kl (blankN greatN)
open At (ads names)

/-- the first character; 0: there is none -/
def hd (m : List UInt8) : Nat := if m = [] then 0 else (nx m).1
/-- how many bytes it has -/
def wd (m : List UInt8) : Nat := if m = [] then 0 else (nx m).2
theorem hd_ne {m : List UInt8} (h : m ≠ []) : hd m = (nx m).1 := if_neg h
theorem wd_ne {m : List UInt8} (h : m ≠ []) : wd m = (nx m).2 := if_neg h
theorem hd_nil : hd [] = 0 := rfl
theorem wd_nil : wd [] = 0 := rfl
theorem wd_le (m : List UInt8) : wd m ≤ m.length := by
  by_cases h : m = []
  · subst h; exact Nat.zero_le _
  · rw [wd_ne h]; exact (nx_width m h).2.2
theorem hd_pos {m : List UInt8} (h : hd m ≠ 0) : m ≠ [] := by rintro rfl; exact h rfl
theorem hd_zero {m : List UInt8} : hd m = 0 ↔ m = [] := by
  constructor
  · intro h
    by_cases k : m = []
    · exact k
    · rw [hd_ne k] at h; exact absurd h (nx_range m).1
  · rintro rfl; rfl

/-- a letter made small -/
def lowN (c : Nat) : Nat := if greatN c then c + 32 else c
theorem lowN_good {c : Nat} (h : good c) : good (lowN c) := by
  unfold lowN
  split
  · rename_i k
    simp [greatN] at k
    unfold good at *
    omega
  · exact h

/-- over characters of which p is true: how many bytes; with fuel -/
def ovF (p : Nat → Bool) : Nat → List UInt8 → Nat
  | 0, _ => 0
  | f + 1, m => if m = [] then 0 else if p (nx m).1 = true then (nx m).2 + ovF p f (m.drop (nx m).2) else 0
def ov (p : Nat → Bool) (m : List UInt8) : Nat := ovF p m.length m
/-- these characters, their letters small; with fuel -/
def lwF (p : Nat → Bool) : Nat → List UInt8 → List UInt8
  | 0, _ => []
  | f + 1, m => if m = [] then [] else if p (nx m).1 = true then encodeRune ((lowN (nx m).1 : Nat) : Int) ++ lwF p f (m.drop (nx m).2) else []
def lw (p : Nat → Bool) (m : List UInt8) : List UInt8 := lwF p m.length m

theorem ovF_fuel (p : Nat → Bool) (f : Nat) : ∀ (g : Nat) (m : List UInt8), m.length ≤ f → m.length ≤ g → ovF p f m = ovF p g m ∧ lwF p f m = lwF p g m := by
  induction f with
  | zero =>
    intro g m h1 h2
    obtain rfl : m = [] := List.eq_nil_of_length_eq_zero (by omega)
    cases g <;> simp [ovF, lwF]
  | succ f ih =>
    intro g m h1 h2
    cases g with
    | zero =>
      obtain rfl : m = [] := List.eq_nil_of_length_eq_zero (by omega)
      simp [ovF, lwF]
    | succ g =>
      unfold ovF lwF
      by_cases hm : m = []
      · simp [hm]
      · have hw := nx_width m hm
        have := ih g (m.drop (nx m).2) (by simp; omega) (by simp; omega)
        rw [this.1, this.2]
        exact ⟨rfl, rfl⟩

theorem ov_nil (p : Nat → Bool) : ov p [] = 0 := rfl
theorem lw_nil (p : Nat → Bool) : lw p [] = [] := rfl
theorem ov_stop {p : Nat → Bool} {m : List UInt8} (h : p (nx m).1 = false) : ov p m = 0 ∧ lw p m = [] := by
  unfold ov lw
  cases m.length with
  | zero => exact ⟨rfl, rfl⟩
  | succ f =>
    unfold ovF lwF
    by_cases hm : m = []
    · simp [hm]
    · rw [if_neg hm, if_neg hm, if_neg (by simp [h]), if_neg (by simp [h])]
      exact ⟨rfl, rfl⟩
theorem ov_step {p : Nat → Bool} {m : List UInt8} (hm : m ≠ []) (h : p (nx m).1 = true) :
    ov p m = (nx m).2 + ov p (m.drop (nx m).2) ∧ lw p m = encodeRune ((lowN (nx m).1 : Nat) : Int) ++ lw p (m.drop (nx m).2) := by
  have hw := nx_width m hm
  unfold ov lw
  cases hl : m.length with
  | zero => omega
  | succ f =>
    have := ovF_fuel p f (m.drop (nx m).2).length (m.drop (nx m).2) (by simp; omega) (Nat.le_refl _)
    rw [← this.1, ← this.2]
    have e1 : ovF p (f + 1) m = if m = [] then 0 else if p (nx m).1 = true then (nx m).2 + ovF p f (m.drop (nx m).2) else 0 := rfl
    have e2 : lwF p (f + 1) m = if m = [] then [] else if p (nx m).1 = true then encodeRune ((lowN (nx m).1 : Nat) : Int) ++ lwF p f (m.drop (nx m).2) else [] := rfl
    rw [e1, e2, if_neg hm, if_pos h, if_neg hm, if_pos h]
    exact ⟨rfl, rfl⟩

theorem ov_le (p : Nat → Bool) (n : Nat) : ∀ m : List UInt8, m.length ≤ n → ov p m ≤ m.length ∧ (lw p m).length ≤ 4 * m.length := by
  induction n with
  | zero => intro m h; obtain rfl : m = [] := List.eq_nil_of_length_eq_zero (by omega); simp [ov_nil, lw_nil]
  | succ n ih =>
    intro m h
    by_cases hm : m = []
    · subst hm; simp [ov_nil, lw_nil]
    · cases hp : p (nx m).1 with
      | false => rw [(ov_stop hp).1, (ov_stop hp).2]; simp
      | true =>
        have hw := nx_width m hm
        have := ih (m.drop (nx m).2) (by simp; omega)
        have he := (enc_len ((lowN (nx m).1 : Nat) : Int)).2
        rw [(ov_step hm hp).1, (ov_step hm hp).2]
        simp only [List.length_drop, List.length_append] at *
        omega
theorem ov_len (p : Nat → Bool) (m : List UInt8) : ov p m ≤ m.length := (ov_le p m.length m (Nat.le_refl _)).1
theorem lw_len (p : Nat → Bool) (m : List UInt8) : (lw p m).length ≤ 4 * m.length := (ov_le p m.length m (Nat.le_refl _)).2

/-- one stops at the end, or at a character of which it is false -/
theorem ov_end (p : Nat → Bool) (n : Nat) : ∀ m : List UInt8, m.length ≤ n → m.drop (ov p m) = [] ∨ p (nx (m.drop (ov p m))).1 = false := by
  induction n with
  | zero => intro m h; obtain rfl : m = [] := List.eq_nil_of_length_eq_zero (by omega); exact Or.inl rfl
  | succ n ih =>
    intro m h
    by_cases hm : m = []
    · subst hm; exact Or.inl rfl
    · cases hp : p (nx m).1 with
      | false => rw [(ov_stop hp).1]; exact Or.inr hp
      | true =>
        have hw := nx_width m hm
        have := ih (m.drop (nx m).2) (by simp; omega)
        rw [(ov_step hm hp).1]
        rw [List.drop_drop] at this
        exact this

/-- what keeps attributes apart; where names, and values without quotes, stop -/
def pGap (c : Nat) : Bool := blankN c || c == 47
def pTag (c : Nat) : Bool := !blankN c && !(c == 47 || c == 62)
def pAtt (c : Nat) : Bool := !blankN c && !(c == 47 || c == 62 || c == 61)
def pBare (c : Nat) : Bool := !blankN c && !(c == 62)
def pQ (q c : Nat) : Bool := !(c == q)

/-- a value, and how many bytes it has -/
def vl (m : List UInt8) : List UInt8 × Nat :=
  if hd m = 34 ∨ hd m = 39 then (txt true ((m.drop 1).take (ov (pQ (hd m)) (m.drop 1))), 1 + ov (pQ (hd m)) (m.drop 1) + wd (m.drop (1 + ov (pQ (hd m)) (m.drop 1))))
  else (txt true (m.take (ov pBare m)), ov pBare m)

/-- an attribute's name, where it ends, where the blanks behind it end, where the blanks behind its = end -/
def aN (m : List UInt8) : List UInt8 := encodeRune ((lowN (nx m).1 : Nat) : Int) ++ lw pAtt (m.drop (nx m).2)
def a1 (m : List UInt8) : Nat := (nx m).2 + ov pAtt (m.drop (nx m).2)
def a2 (m : List UInt8) : Nat := a1 m + ov blankN (m.drop (a1 m))
def a3 (m : List UInt8) : Nat := a2 m + 1 + ov blankN (m.drop (a2 m + 1))
/-- an attribute, and where it ends -/
def ab (m : List UInt8) : At.At × Nat :=
  if hd (m.drop (a2 m)) = 61 then ((aN m, (vl (m.drop (a3 m))).1), a3 m + (vl (m.drop (a3 m))).2) else ((aN m, []), a2 m)

theorem drop_len_ov (p : Nat → Bool) (m : List UInt8) (k : Nat) (h : k ≤ m.length) : k + ov p (m.drop k) ≤ m.length := by
  have := ov_len p (m.drop k)
  simp only [List.length_drop] at this
  omega

theorem vl_le (m : List UInt8) : (vl m).2 ≤ m.length := by
  unfold vl
  split
  · rename_i h
    have hne : m ≠ [] := hd_pos (by omega)
    have h1 := drop_len_ov (pQ (hd m)) m 1 (List.length_pos_iff.2 hne)
    have h2 := wd_le (m.drop (1 + ov (pQ (hd m)) (m.drop 1)))
    simp only [List.length_drop] at h2
    simp only
    omega
  · exact ov_len _ _

theorem a1_le {m : List UInt8} (h : m ≠ []) : 1 ≤ a1 m ∧ a1 m ≤ m.length := by
  have hw := nx_width m h
  have := drop_len_ov pAtt m (nx m).2 hw.2.2
  unfold a1
  omega
theorem a2_le {m : List UInt8} (h : m ≠ []) : a1 m ≤ a2 m ∧ a2 m ≤ m.length := by
  have := drop_len_ov blankN m (a1 m) (a1_le h).2
  unfold a2
  omega
theorem a3_le {m : List UInt8} (_hm : m ≠ []) (h : hd (m.drop (a2 m)) = 61) : a2 m + 1 ≤ a3 m ∧ a3 m ≤ m.length := by
  have hne := List.length_pos_iff.2 (hd_pos (m := m.drop (a2 m)) (by omega))
  simp only [List.length_drop] at hne
  have := drop_len_ov blankN m (a2 m + 1) (by omega)
  unfold a3
  omega
theorem ab_le {m : List UInt8} (h : m ≠ []) : 1 ≤ (ab m).2 ∧ (ab m).2 ≤ m.length := by
  have h1 := a1_le h
  have h2 := a2_le h
  unfold ab
  split
  · rename_i k
    have h3 := a3_le h k
    have h4 := vl_le (m.drop (a3 m))
    simp only [List.length_drop] at h4
    simp only
    omega
  · simp only
    omega

/-- the attributes up to the tag's end, and where that is; none: the bytes end first; with fuel -/
def atsF : Nat → List UInt8 → Option (List At.At × Nat)
  | 0, _ => none
  | f + 1, m =>
    if m.drop (ov pGap m) = [] then none
    else if hd (m.drop (ov pGap m)) = 62 then some ([], ov pGap m + 1)
    else (atsF f ((m.drop (ov pGap m)).drop (ab (m.drop (ov pGap m))).2)).map fun p => ((ab (m.drop (ov pGap m))).1 :: p.1, ov pGap m + (ab (m.drop (ov pGap m))).2 + p.2)
def ats (m : List UInt8) : Option (List At.At × Nat) := atsF (m.length + 1) m

theorem atsF_fuel (f : Nat) : ∀ (g : Nat) (m : List UInt8), m.length < f → m.length < g → atsF f m = atsF g m := by
  induction f with
  | zero => intro g m h; omega
  | succ f ih =>
    intro g m h1 h2
    cases g with
    | zero => omega
    | succ g =>
      unfold atsF
      by_cases hm : m.drop (ov pGap m) = []
      · rw [if_pos hm, if_pos hm]
      · rw [if_neg hm, if_neg hm]
        have hb := ab_le hm
        simp only [List.length_drop] at hb
        rw [ih g ((m.drop (ov pGap m)).drop (ab (m.drop (ov pGap m))).2) (by simp; omega) (by simp; omega)]

theorem ats_end {m : List UInt8} (h : m.drop (ov pGap m) = []) : ats m = none := by
  unfold ats atsF
  rw [if_pos h]
theorem ats_gt {m : List UInt8} (h : hd (m.drop (ov pGap m)) = 62) : ats m = some ([], ov pGap m + 1) := by
  unfold ats atsF
  rw [if_neg (hd_pos (by omega)), if_pos h]
theorem ats_more {m : List UInt8} (h0 : m.drop (ov pGap m) ≠ []) (h : hd (m.drop (ov pGap m)) ≠ 62) :
    ats m = (ats ((m.drop (ov pGap m)).drop (ab (m.drop (ov pGap m))).2)).map fun p => ((ab (m.drop (ov pGap m))).1 :: p.1, ov pGap m + (ab (m.drop (ov pGap m))).2 + p.2) := by
  have hb := ab_le h0
  simp only [List.length_drop] at hb
  unfold ats
  conv => lhs; unfold atsF
  rw [if_neg h0, if_neg h]
  rw [atsF_fuel m.length (((m.drop (ov pGap m)).drop (ab (m.drop (ov pGap m))).2).length + 1) _ (by simp; omega) (by simp)]

/-- does a tag begin; 1: a start tag, 2: an end tag -/
def bg (m : List UInt8) : Nat :=
  if at0 m 0 = 60 then (if letN (at0 m 1) = true then 1 else if at0 m 1 = 47 ∧ letN (at0 m 2) = true then 2 else 0) else 0

/-- the tag's name's end -/
def tw (m : List UInt8) : Nat := bg m + ov pTag (m.drop (bg m))
def tn (m : List UInt8) : List UInt8 := lw pTag (m.drop (bg m))
/-- its attributes, and its end -/
def tr (m : List UInt8) : Option (List At.At × Nat) := (ats (m.drop (tw m))).map fun p => (p.1, tw m + p.2)

/-- a token: kind, name, attributes, from, to -/
structure Tk where
  kind : Nat
  name : List UInt8
  attrs : List At.At
  frm : Int
  upto : Int

/-- the token of the tag that begins at a byte -/
def tkIn (l : List UInt8) (i : Nat) : Tk := match tr (l.drop i) with
  | none => ⟨0, [], [], (i : Int), (l.length : Int)⟩
  | some (L, e) => ⟨bg (l.drop i) + 1, tn (l.drop i), if bg (l.drop i) = 1 then ads L else [], (i : Int), (i : Int) + (e : Int)⟩
def bgAt (l : List UInt8) (x : Int) : Nat := if 0 ≤ x ∧ x < (l.length : Int) then bg (l.drop x.toNat) else 0
def tkAt (l : List UInt8) (x : Int) : Tk := if bgAt l x = 0 then ⟨0, [], [], 0, 0⟩ else tkIn l x.toNat

/-! ### characters of one byte -/
theorem nx_low {m : List UInt8} (h : at0 m 0 < 128) (h0 : at0 m 0 ≠ 0) (h13 : at0 m 0 ≠ 13) : nx m = (at0 m 0, 1) := by
  unfold nx
  rw [if_neg h0, if_neg h13]
  exact decodeN_ascii _ _ _ _ _ h
theorem nx_high {m : List UInt8} (h : 128 ≤ at0 m 0) : 128 ≤ (nx m).1 := by
  unfold nx
  rw [if_neg (by omega), if_neg (by omega)]
  exact Kl.decodeN_high _ _ _ _ _ h
/-- a character of one byte, but a line's end, is just that byte -/
theorem nx_is {m : List UInt8} {c : Nat} (hc : c < 128) (h10 : c ≠ 10) (h : (nx m).1 = c) : at0 m 0 = c ∧ (nx m).2 = 1 ∧ m ≠ [] := by
  have hl : at0 m 0 < 128 := by
    rcases Nat.lt_or_ge (at0 m 0) 128 with k | k
    · exact k
    · have := nx_high k; omega
  have h0 : at0 m 0 ≠ 0 := by
    intro k
    unfold nx at h
    rw [if_pos k] at h
    simp only at h
    omega
  have h13 : at0 m 0 ≠ 13 := by
    intro k
    unfold nx at h
    rw [if_neg h0, if_pos k] at h
    simp only at h
    omega
  have e := nx_low hl h0 h13
  rw [e] at h ⊢
  refine ⟨h, rfl, ?_⟩
  rintro rfl
  exact h0 rfl
theorem hd_is {m : List UInt8} {c : Nat} (hc : c < 128) (h0 : c ≠ 0) (h10 : c ≠ 10) (h : hd m = c) : at0 m 0 = c ∧ nx m = (c, 1) ∧ m ≠ [] := by
  have hm : m ≠ [] := hd_pos (by omega)
  rw [hd_ne hm] at h
  have := nx_is hc h10 h
  exact ⟨this.1, Prod.ext h this.2.1, hm⟩
theorem hd_of {m : List UInt8} {c : Nat} (hc : c < 128) (h0 : c ≠ 0) (h13 : c ≠ 13) (h : at0 m 0 = c) : hd m = c ∧ nx m = (c, 1) ∧ m ≠ [] := by
  have hm : m ≠ [] := by rintro rfl; exact h0 h.symm
  have e := nx_low (m := m) (by omega) (by omega) (by omega)
  rw [h] at e
  exact ⟨by rw [hd_ne hm, e], e, hm⟩
theorem cons_of {m : List UInt8} {c : Nat} (h0 : c ≠ 0) (h : at0 m 0 = c) : ∃ b r, m = b :: r ∧ b.toNat = c := by
  cases m with
  | nil => exact absurd h.symm h0
  | cons b r => exact ⟨b, r, rfl, h⟩
theorem letN_tag {c : Nat} (h : letN c = true) : pTag c = true ∧ c < 128 ∧ c ≠ 0 ∧ c ≠ 10 ∧ c ≠ 13 := by
  simp [letN] at h
  refine ⟨?_, by omega, by omega, by omega, by omega⟩
  simp [pTag, blankN]
  omega

theorem bg_cases (m : List UInt8) : bg m = 0 ∨ (bg m = 1 ∧ at0 m 0 = 60 ∧ letN (at0 m 1) = true) ∨ (bg m = 2 ∧ at0 m 0 = 60 ∧ at0 m 1 = 47 ∧ letN (at0 m 2) = true) := by
  unfold bg
  split
  · split
    · exact Or.inr (Or.inl ⟨rfl, by assumption, by assumption⟩)
    · split
      · rename_i h
        exact Or.inr (Or.inr ⟨rfl, by assumption, h.1, h.2⟩)
      · exact Or.inl rfl
  · exact Or.inl rfl
theorem bg_letter {m : List UInt8} (h : bg m ≠ 0) : letN (at0 m (bg m)) = true := by
  rcases bg_cases m with k | ⟨k, -, k2⟩ | ⟨k, -, -, k2⟩
  · exact absurd k h
  · rw [k]; exact k2
  · rw [k]; exact k2
theorem bg_le (m : List UInt8) : bg m ≤ 2 := by
  rcases bg_cases m with k | k | k <;> omega
/-- the name's first letter -/
theorem bg_head {m : List UInt8} (h : bg m ≠ 0) : m.drop (bg m) ≠ [] ∧ nx (m.drop (bg m)) = (at0 m (bg m), 1) ∧ pTag (at0 m (bg m)) = true := by
  have hl := bg_letter h
  have ht := letN_tag hl
  have e : at0 (m.drop (bg m)) 0 = at0 m (bg m) := by rw [at0_drop]; rfl
  have := hd_of (m := m.drop (bg m)) (c := at0 m (bg m)) ht.2.1 ht.2.2.1 ht.2.2.2.2 e
  exact ⟨this.2.2, this.2.1, ht.1⟩
theorem tn_eq {m : List UInt8} (h : bg m ≠ 0) : tn m = encodeRune ((lowN (nx (m.drop (bg m))).1 : Nat) : Int) ++ lw pTag ((m.drop (bg m)).drop (nx (m.drop (bg m))).2) ∧
    tw m = bg m + ((nx (m.drop (bg m))).2 + ov pTag ((m.drop (bg m)).drop (nx (m.drop (bg m))).2)) := by
  have hh := bg_head h
  have := ov_step (p := pTag) hh.1 (by rw [hh.2.1]; exact hh.2.2)
  exact ⟨this.2, by unfold tw; rw [this.1]⟩
theorem tw_le {m : List UInt8} (h : bg m ≠ 0) : bg m + 1 ≤ tw m ∧ tw m ≤ m.length := by
  have hh := bg_head h
  have e := (tn_eq h).2
  have h1 : bg m ≤ m.length := by
    have := List.length_pos_iff.2 hh.1
    simp at this
    omega
  have h2 := drop_len_ov pTag m (bg m) h1
  have h3 : tw m = bg m + ov pTag (m.drop (bg m)) := rfl
  rw [hh.2.1] at e
  simp only at e
  omega
end Go.Proofs.YtndcmapifihgeaaGreatDoor.Tg
