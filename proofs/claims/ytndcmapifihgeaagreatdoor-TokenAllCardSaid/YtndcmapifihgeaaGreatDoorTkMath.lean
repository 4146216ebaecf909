/- Plain mathematics of layer 10: the token at a byte in an element's text, and all tokens; what stands behind bytes; bytes without a <. Nothing of the program's text. -/
import Derived.Test.YtndcmapifihgeaaGreatDoorTgStab
import Derived.Test.YtndcmapifihgeaaGreatDoorMkMk
import Derived.Test.YtndcmapifihgeaaGreatDoorRwRw
namespace Go.Proofs.YtndcmapifihgeaaGreatDoor.Tk
open Go.Lib
open Ch (at0 nx nx_width at0_drop allN allN_nil allN_zero allN_step)
open Tg (bg tr tn tw bg_cases bg_le tr_stab lw_len)
open At (ads)

/-- a token -/
structure Tok where
  kind : Nat
  name : List UInt8
  attrs : List At.At
  text : List UInt8
  frm : Nat
  upto : Nat

/-- the bytes from a place up to another one -/
def sl (l : List UInt8) (i e : Nat) : List UInt8 := (l.drop i).take (e - i)
/-- does a tag or a mark begin? -/
def brk (m : List UInt8) : Bool := decide (bg m ≠ 0) || decide (Mk.kd m ≠ 0)
/-- how many bytes stand ahead of the first place where one begins -/
def tx : List UInt8 → Nat
  | [] => 0
  | c :: r => if brk (c :: r) then 0 else tx r + 1
def te (l : List UInt8) (i : Nat) : Nat := i + 1 + tx (l.drop (i + 1))
/-- the token of a tag -/
def tgT (l : List UInt8) (i : Nat) : Tok := match tr (l.drop i) with
  | none => ⟨0, [], [], [], i, l.length⟩
  | some (L, e) => ⟨bg (l.drop i) + 1, tn (l.drop i), if bg (l.drop i) = 1 then ads L else [], [], i, i + e⟩
/-- the token where tags are read -/
def tdT (l : List UInt8) (i : Nat) : Tok :=
  if bg (l.drop i) ≠ 0 then tgT l i
  else if Mk.kd (l.drop i) ≠ 0 then ⟨0, [], [], [], i, i + Mk.ln (l.drop i) (Mk.kd (l.drop i))⟩
  else ⟨1, [], [], txt false (sl l i (te l i)), i, te l i⟩
/-- the text of an element that is not of the way Tags -/
def rwT (l n : List UInt8) (i e : Nat) : Tok := ⟨1, [], [], if Rw.kdN n = 1 then txt false (sl l i e) else all0 (sl l i e), i, e⟩
/-- the token at a byte in an element's text -/
def nxT (l n : List UInt8) (i : Nat) : Tok := if Rw.ed n l i ≠ i then rwT l n i (Rw.ed n l i) else tdT l i
/-- the element behind a token -/
def wi (n : List UInt8) (t : Tok) : List UInt8 := if t.kind = 2 then t.name else if t.kind = 3 then [] else n
def alF : Nat → List UInt8 → List UInt8 → Nat → List Tok
  | 0, _, _, _ => []
  | f + 1, l, n, i => if i < l.length then nxT l n i :: alF f l (wi n (nxT l n i)) (nxT l n i).upto else []
def al (l n : List UInt8) (i : Nat) : List Tok := alF (l.length - i) l n i

/-! ### small things -/
theorem mk_at0 (m : List UInt8) (j : Nat) : Mk.at0 m j = at0 m j := rfl
theorem mk_let (c : Nat) : Mk.letN c = letN c := rfl
theorem at0_app {m : List UInt8} {j : Nat} (h : j < m.length) (y : List UInt8) : at0 (m ++ y) j = at0 m j := by
  unfold at0
  rw [List.getD_eq_getElem?_getD, List.getD_eq_getElem?_getD, List.getElem?_append_left h]
theorem at0_pos {m : List UInt8} {j : Nat} (h : at0 m j ≠ 0) : j < m.length := Mk.at0_pos h
theorem letN_pos {c : Nat} (h : letN c = true) : c ≠ 0 ∧ c ≠ 33 ∧ c ≠ 63 ∧ c ≠ 47 ∧ c ≠ 62 := by
  simp [letN] at h
  omega

theorem tx_le : ∀ m, tx m ≤ m.length
  | [] => Nat.zero_le _
  | c :: r => by
    unfold tx
    have := tx_le r
    split
    · exact Nat.zero_le _
    · simp only [List.length_cons]; omega
theorem tx_at {l : List UInt8} {i : Nat} (h : i < l.length) : tx (l.drop i) = if brk (l.drop i) then 0 else tx (l.drop (i + 1)) + 1 := by
  rw [List.drop_eq_getElem_cons h]
  rfl
theorem te_le {l : List UInt8} {i : Nat} (h : i < l.length) : te l i ≤ l.length ∧ i < te l i := by
  have := tx_le (l.drop (i + 1))
  rw [List.length_drop] at this
  unfold te
  omega

theorem kd_iff (m : List UInt8) : Mk.kd m ≠ 0 ↔ at0 m 0 = 60 ∧ (at0 m 1 = 33 ∨ at0 m 1 = 63 ∨ (at0 m 1 = 47 ∧ 2 < m.length ∧ letN (at0 m 2) = false)) := by
  constructor
  · intro h
    unfold Mk.kd at h
    by_cases c1 : Mk.fits [60, 33, 45, 45] m = true
    · have := Mk.two_of c1 (by decide)
      exact ⟨this.2.1, Or.inl this.2.2⟩
    rw [if_neg c1] at h
    by_cases c2 : Mk.isDty m = true
    · have := Mk.dty_head c2
      exact ⟨this.2.1, Or.inl this.2.2⟩
    rw [if_neg c2] at h
    by_cases c3 : Mk.fits [60, 47, 62] m = true
    · have f := Mk.fits_iff.1 c3
      have e2 : at0 m 2 = 62 := f.2 2 (by decide)
      exact ⟨f.2 0 (by decide), Or.inr (Or.inr ⟨f.2 1 (by decide), f.1, by rw [e2]; decide⟩)⟩
    rw [if_neg c3] at h
    by_cases c4 : Mk.fits [60, 33] m = true
    · have := Mk.two_of c4 (by decide)
      exact ⟨this.2.1, Or.inl this.2.2⟩
    rw [if_neg c4] at h
    by_cases c5 : Mk.fits [60, 63] m = true
    · have := Mk.two_of c5 (by decide)
      exact ⟨this.2.1, Or.inr (Or.inl this.2.2)⟩
    rw [if_neg c5] at h
    by_cases c6 : Mk.bogusEnd m = true
    · unfold Mk.bogusEnd at c6
      simp only [Bool.and_eq_true, decide_eq_true_eq, Bool.not_eq_true'] at c6
      have f := Mk.two_of c6.1 (by decide)
      exact ⟨f.2.1, Or.inr (Or.inr ⟨f.2.2, c6.2.1, c6.2.2⟩)⟩
    · rw [if_neg c6] at h
      exact absurd rfl h
  · rintro ⟨h0, h1⟩
    have fit2 : ∀ c : UInt8, at0 m 1 = c.toNat → c.toNat ≠ 0 → Mk.fits [60, c] m = true := by
      intro c hc hc0
      refine Mk.fits_iff.2 ⟨?_, ?_⟩
      · have := at0_pos (m := m) (j := 1) (by omega)
        simp; omega
      · intro j hj
        rcases (by simp at hj; omega : j = 0 ∨ j = 1) with rfl | rfl
        · exact h0
        · exact hc
    unfold Mk.kd
    split
    · decide
    split
    · decide
    split
    · decide
    rcases h1 with h1 | h1 | ⟨h1, h2, h3⟩
    · rw [if_pos (fit2 33 h1 (by decide))]; decide
    · split
      · decide
      rw [if_pos (fit2 63 h1 (by decide))]; decide
    · have : Mk.bogusEnd m = true := by
        unfold Mk.bogusEnd
        rw [fit2 47 h1 (by decide)]
        simp [h2]
        exact h3
      rw [this]
      split
      · decide
      split
      · decide
      · simp

theorem bg_iff (m : List UInt8) : bg m ≠ 0 ↔ at0 m 0 = 60 ∧ (letN (at0 m 1) = true ∨ (at0 m 1 = 47 ∧ letN (at0 m 2) = true)) := by
  constructor
  · intro h
    rcases bg_cases m with k | ⟨-, k1, k2⟩ | ⟨-, k1, k2, k3⟩
    · exact absurd k h
    · exact ⟨k1, Or.inl k2⟩
    · exact ⟨k1, Or.inr ⟨k2, k3⟩⟩
  · rintro ⟨h0, h1⟩
    unfold bg
    rw [if_pos h0]
    rcases h1 with h1 | h1
    · rw [if_pos h1]; decide
    · split
      · decide
      · first | decide | (rw [if_pos h1]; decide)

theorem brk_iff (m : List UInt8) : brk m = true ↔ at0 m 0 = 60 ∧ (letN (at0 m 1) = true ∨ at0 m 1 = 33 ∨ at0 m 1 = 63 ∨ (at0 m 1 = 47 ∧ 2 < m.length)) := by
  unfold brk
  rw [Bool.or_eq_true, decide_eq_true_eq, decide_eq_true_eq, kd_iff, bg_iff]
  constructor
  · rintro (⟨h0, h1 | ⟨h1, h2⟩⟩ | ⟨h0, h1 | h1 | ⟨h1, h2, h3⟩⟩)
    · exact ⟨h0, Or.inl h1⟩
    · exact ⟨h0, Or.inr (Or.inr (Or.inr ⟨h1, at0_pos (letN_pos h2).1⟩))⟩
    · exact ⟨h0, Or.inr (Or.inl h1)⟩
    · exact ⟨h0, Or.inr (Or.inr (Or.inl h1))⟩
    · exact ⟨h0, Or.inr (Or.inr (Or.inr ⟨h1, h2⟩))⟩
  · rintro ⟨h0, h1 | h1 | h1 | ⟨h1, h2⟩⟩
    · exact Or.inl ⟨h0, Or.inl h1⟩
    · exact Or.inr ⟨h0, Or.inl h1⟩
    · exact Or.inr ⟨h0, Or.inr (Or.inl h1)⟩
    · cases h3 : letN (at0 m 2) with
      | true => exact Or.inl ⟨h0, Or.inr ⟨h1, rfl⟩⟩
      | false => exact Or.inr ⟨h0, Or.inr (Or.inr ⟨h1, h2, rfl⟩)⟩
theorem brk_len {m : List UInt8} (h : brk m = true) : 2 ≤ m.length := by
  obtain ⟨_, h1⟩ := (brk_iff m).1 h
  have : at0 m 1 ≠ 0 := by
    rcases h1 with h1 | h1 | h1 | ⟨h1, _⟩
    · exact (letN_pos h1).1
    · omega
    · omega
    · omega
  exact at0_pos this
theorem brk_app {m : List UInt8} (h : brk m = true) (y : List UInt8) : brk (m ++ y) = true := by
  have hl := brk_len h
  obtain ⟨h0, h1⟩ := (brk_iff m).1 h
  refine (brk_iff _).2 ⟨by rw [at0_app (by omega)]; exact h0, ?_⟩
  rw [at0_app (by omega)]
  rcases h1 with h1 | h1 | h1 | ⟨h1, h2⟩
  · exact Or.inl h1
  · exact Or.inr (Or.inl h1)
  · exact Or.inr (Or.inr (Or.inl h1))
  · exact Or.inr (Or.inr (Or.inr ⟨h1, by rw [List.length_append]; omega⟩))
theorem brk_not {m : List UInt8} (h : brk m = false) (hl : 3 ≤ m.length) (y : List UInt8) : brk (m ++ y) = false := by
  cases hb : brk (m ++ y) with
  | false => rfl
  | true =>
    obtain ⟨h0, h1⟩ := (brk_iff _).1 hb
    rw [at0_app (by omega)] at h0 h1
    rw [← h]
    refine ((brk_iff m).2 ⟨h0, ?_⟩).symm
    rcases h1 with h1 | h1 | h1 | ⟨h1, h2⟩
    · exact Or.inl h1
    · exact Or.inr (Or.inl h1)
    · exact Or.inr (Or.inr (Or.inl h1))
    · exact Or.inr (Or.inr (Or.inr ⟨h1, by omega⟩))
theorem brk_off {m : List UInt8} (h : brk m = false) : bg m = 0 ∧ Mk.kd m = 0 := by
  unfold brk at h
  simpa using h
theorem brk_none {m : List UInt8} (h1 : bg m = 0) (h2 : Mk.kd m = 0) : brk m = false := by unfold brk; simp [h1, h2]

theorem tx_stab : ∀ (m y : List UInt8), tx m < m.length → tx (m ++ y) = tx m ∧ 2 ≤ m.length
  | [], _, h => by simp [tx] at h
  | c :: r, y, h => by
    by_cases hb : brk (c :: r) = true
    · have := brk_app hb y
      have hl := brk_len hb
      refine ⟨?_, hl⟩
      show tx (c :: (r ++ y)) = _
      have e1 : tx (c :: (r ++ y)) = 0 := by unfold tx; rw [if_pos (show brk (c :: (r ++ y)) = true from this)]
      have e2 : tx (c :: r) = 0 := by unfold tx; rw [if_pos hb]
      rw [e1, e2]
    · have e2 : tx (c :: r) = tx r + 1 := by conv => lhs; unfold tx
                                             rw [if_neg hb]
      rw [e2] at h
      simp only [List.length_cons] at h
      have ih := tx_stab r y (by omega)
      have hb' := brk_not (m := c :: r) (by simpa using hb) (by simp only [List.length_cons]; omega) y
      refine ⟨?_, by simp only [List.length_cons]; omega⟩
      show tx (c :: (r ++ y)) = _
      have e1 : tx (c :: (r ++ y)) = tx (r ++ y) + 1 := by
        conv => lhs; unfold tx
        rw [if_neg (by rw [show c :: (r ++ y) = (c :: r) ++ y from rfl, hb']; decide)]
      rw [e1, ih.1, e2]

/-! ### raw -/
theorem isE_app {p m : List UInt8} (h : p.length < m.length) (y : List UInt8) : Rw.isE p (m ++ y) = Rw.isE p m := by
  unfold Rw.isE
  have e1 : (m ++ y).take p.length = m.take p.length := List.take_append_of_le_length (by omega)
  have e2 : Rw.at0 (m ++ y) p.length = Rw.at0 m p.length := at0_app h y
  rw [e1, e2, decide_eq_true h, decide_eq_true (show p.length < (m ++ y).length by rw [List.length_append]; omega)]
theorem isE_len {p m : List UInt8} (h : Rw.isE p m = true) : p.length < m.length := by
  unfold Rw.isE at h
  simp only [Bool.and_eq_true, decide_eq_true_eq] at h
  exact h.1
theorem isE_head {p m : List UInt8} (hp : ∃ q, p = 60 :: q) (h : Rw.isE p m = true) : at0 m 0 = 60 := by
  cases m with
  | nil => have := isE_len h; simp at this
  | cons c r =>
    by_cases hc : c = 60
    · rw [hc]; rfl
    · rw [Rw.isE_keep hp (by simpa [Rw.keep] using hc)] at h
      cases h
theorem fe_stab (p : List UInt8) : ∀ (m y : List UInt8), Rw.fe p m < m.length → Rw.fe p (m ++ y) = Rw.fe p m ∧ p.length < m.length
  | [], _, h => by simp [Rw.fe] at h
  | c :: r, y, h => by
    by_cases hb : Rw.isE p (c :: r) = true
    · have hl := isE_len hb
      refine ⟨?_, hl⟩
      have hb' := isE_app hl y
      show Rw.fe p (c :: (r ++ y)) = _
      rw [Rw.fe_cons, Rw.fe_cons, if_pos hb, if_pos (by rw [← hb]; exact hb')]
    · have e2 : Rw.fe p (c :: r) = Rw.fe p r + 1 := by rw [Rw.fe_cons, if_neg hb]
      rw [e2] at h
      simp only [List.length_cons] at h
      have ih := fe_stab p r y (by omega)
      have hl : p.length < (c :: r).length := by simp only [List.length_cons]; omega
      have hb' := isE_app hl y
      refine ⟨?_, hl⟩
      show Rw.fe p (c :: (r ++ y)) = _
      rw [Rw.fe_cons, if_neg (by rw [show c :: (r ++ y) = (c :: r) ++ y from rfl, hb']; exact hb), ih.1, e2]
theorem fe_is (p : List UInt8) : ∀ (m : List UInt8), Rw.fe p m < m.length → Rw.isE p (m.drop (Rw.fe p m)) = true
  | [], h => by simp [Rw.fe] at h
  | c :: r, h => by
    by_cases hb : Rw.isE p (c :: r) = true
    · rw [Rw.fe_cons, if_pos hb]; exact hb
    · have e2 : Rw.fe p (c :: r) = Rw.fe p r + 1 := by rw [Rw.fe_cons, if_neg hb]
      rw [e2] at h ⊢
      simp only [List.length_cons] at h
      exact fe_is p r (by omega)

theorem ed_ge (n l : List UInt8) (i : Nat) (h : i ≤ l.length) : i ≤ Rw.ed n l i := by
  unfold Rw.ed
  split
  · omega
  · split
    · exact h
    · omega
theorem ed_stab {n l : List UInt8} {i : Nat} (h : i < l.length) (he : Rw.ed n l i < l.length) (y : List UInt8) : Rw.ed n (l ++ y) i = Rw.ed n l i := by
  unfold Rw.ed at he ⊢
  by_cases h0 : Rw.kdN n = 0
  · rw [if_pos h0, if_pos h0]
  · rw [if_neg h0] at he ⊢
    rw [if_neg h0]
    by_cases h3 : Rw.kdN n = 3
    · rw [if_pos h3] at he; omega
    · rw [if_neg h3] at he ⊢
      rw [if_neg h3, List.drop_append_of_le_length (by omega)]
      rw [(fe_stab _ (l.drop i) y (by rw [List.length_drop]; omega)).1]
/-- what stands where an element's text ends -/
theorem ed_head {n l : List UInt8} {i : Nat} (he : Rw.ed n l i ≠ i) (hl : Rw.ed n l i < l.length) : at0 l (Rw.ed n l i) = 60 := by
  unfold Rw.ed at he hl ⊢
  by_cases h0 : Rw.kdN n = 0
  · rw [if_pos h0] at he; exact absurd rfl he
  · rw [if_neg h0] at hl ⊢
    by_cases h3 : Rw.kdN n = 3
    · rw [if_pos h3] at hl; omega
    · rw [if_neg h3] at hl ⊢
      have := isE_head (Rw.fr_head n) (fe_is (Rw.fr n) (l.drop i) (by rw [List.length_drop]; omega))
      rw [at0_drop, at0_drop] at this
      exact this

/-! ### marks -/
theorem fits_app {p m : List UInt8} (h : p.length ≤ m.length) (y : List UInt8) : Mk.fits p (m ++ y) = Mk.fits p m := by
  rw [Mk.fits_take h, Mk.fits_take (by rw [List.length_append]; omega), List.take_append_of_le_length h]
theorem hit_app {E : List (List UInt8)} {m : List UInt8} (h : ∀ p ∈ E, p.length ≤ m.length) (y : List UInt8) : Mk.hit E (m ++ y) = Mk.hit E m := by
  induction E with
  | nil => rfl
  | cons p E ih =>
    unfold Mk.hit
    rw [fits_app (h p (by simp)), ih (fun q hq => h q (by simp [hq]))]
theorem bfr_stab {E : List (List UInt8)} {a : Nat} (h1 : ∀ p ∈ E, a ≤ p.length ∧ p.length ≤ a + 1) : ∀ (m y : List UInt8), Mk.bfr E m < m.length → Mk.bfr E (m ++ y) = Mk.bfr E m ∧ a + 1 ≤ m.length
  | [], _, h => by simp [Mk.bfr] at h
  | c :: r, y, h => by
    by_cases h0 : Mk.hit E (c :: r) = 0
    · have e2 : Mk.bfr E (c :: r) = Mk.bfr E r + 1 := by conv => lhs; unfold Mk.bfr
                                                         rw [if_pos h0]
      rw [e2] at h
      simp only [List.length_cons] at h
      have ih := bfr_stab h1 r y (by omega)
      have hl : a + 1 ≤ (c :: r).length := by simp only [List.length_cons]; omega
      have hh := hit_app (E := E) (m := c :: r) (fun p hp => by have := h1 p hp; omega) y
      refine ⟨?_, hl⟩
      show Mk.bfr E (c :: (r ++ y)) = _
      have e1 : Mk.bfr E (c :: (r ++ y)) = Mk.bfr E (r ++ y) + 1 := by
        conv => lhs; unfold Mk.bfr
        rw [if_pos (by rw [show c :: (r ++ y) = (c :: r) ++ y from rfl, hh]; exact h0)]
      rw [e1, ih.1, e2]
    · have e2 : Mk.bfr E (c :: r) = Mk.hit E (c :: r) := by conv => lhs; unfold Mk.bfr
                                                            rw [if_neg h0]
      have hl : a + 1 ≤ (c :: r).length := by
        rcases Mk.hit_zero_or E (c :: r) with k | ⟨p, hp, _, hq⟩
        · exact absurd k h0
        · rw [e2, hq] at h
          have := (h1 p hp).1
          omega
      have hh := hit_app (E := E) (m := c :: r) (fun p hp => by have := h1 p hp; omega) y
      refine ⟨?_, hl⟩
      show Mk.bfr E (c :: (r ++ y)) = _
      have e1 : Mk.bfr E (c :: (r ++ y)) = Mk.hit E (c :: r) := by
        conv => lhs; unfold Mk.bfr
        rw [show c :: (r ++ y) = (c :: r) ++ y from rfl, hh, if_neg h0]
      rw [e1, e2]
theorem gt_stab (m y : List UInt8) (h : Mk.bfr Mk.gtE m < m.length) : Mk.bfr Mk.gtE (m ++ y) = Mk.bfr Mk.gtE m := (bfr_stab (a := 1) (by decide) m y h).1
theorem co_stab (m y : List UInt8) (h : Mk.bfr Mk.coE m < m.length) : Mk.bfr Mk.coE (m ++ y) = Mk.bfr Mk.coE m ∧ 4 ≤ m.length := bfr_stab (a := 3) (by decide) m y h

theorem dty_no {m : List UInt8} {j : Nat} (hj : j < 9) (h : at0 m j = 62) : Mk.isDty m = false := by
  cases hd : Mk.isDty m with
  | false => rfl
  | true =>
    exfalso
    have hjl : j < m.length := at0_pos (by omega)
    have e : Mk.smallL (m.take 9) = Mk.dty := by simpa [Mk.isDty] using hd
    have e2 : (Mk.smallL (m.take 9))[j]? = Mk.dty[j]? := by rw [e]
    have hm : m[j] = 62 := by
      unfold at0 at h
      rw [List.getD_eq_getElem?_getD, List.getElem?_eq_getElem hjl] at h
      exact UInt8.toNat_inj.1 h
    have e3 : (Mk.smallL (m.take 9))[j]? = some 62 := by
      show ((m.take 9).map Mk.lowB)[j]? = some 62
      rw [List.getElem?_map, List.getElem?_take, if_pos hj, List.getElem?_eq_getElem hjl, hm]
      decide
    rw [e3] at e2
    have : ∀ j < 9, Mk.dty[j]? ≠ some 62 := by decide
    exact this j hj e2.symm

theorem mark_stab {m : List UInt8} (h : Mk.kd m ≠ 0) (hl : Mk.ln m (Mk.kd m) < m.length) (y : List UInt8) : Mk.kd (m ++ y) = Mk.kd m ∧ Mk.ln (m ++ y) (Mk.kd m) = Mk.ln m (Mk.kd m) := by
  have hm := Mk.mark_is h
  have h62 : at0 m (Mk.ln m (Mk.kd m) - 1) = 62 := hm.2.2.2.2.2 hl
  have hk := (kd_iff m).1 h
  have h3 : 3 ≤ Mk.ln m (Mk.kd m) := by
    rcases Nat.lt_or_ge (Mk.ln m (Mk.kd m)) 3 with k | k
    · exfalso
      have e : Mk.ln m (Mk.kd m) - 1 = 1 := by have := hm.2.2.2.1; omega
      rw [e] at h62
      omega
    · exact k
  have hl4 : 4 ≤ m.length := by omega
  have hkd : Mk.kd (m ++ y) = Mk.kd m := by
    have f1 := fits_app (p := [60, 33, 45, 45]) (m := m) hl4 y
    have f3 := fits_app (p := [60, 47, 62]) (m := m) (by simp; omega) y
    have f4 := fits_app (p := [60, 33]) (m := m) (by simp; omega) y
    have f5 := fits_app (p := [60, 63]) (m := m) (by simp; omega) y
    have f6 : Mk.bogusEnd (m ++ y) = Mk.bogusEnd m := by
      unfold Mk.bogusEnd
      rw [fits_app (p := [60, 47]) (by simp; omega) y, decide_eq_true (show 2 < (m ++ y).length by rw [List.length_append]; omega), decide_eq_true (show 2 < m.length by omega), show Mk.at0 (m ++ y) 2 = Mk.at0 m 2 from at0_app (by omega) y]
    have f2 : Mk.isDty (m ++ y) = Mk.isDty m := by
      rcases Nat.lt_or_ge m.length 9 with k | k
      · rw [dty_no (m := m) (j := Mk.ln m (Mk.kd m) - 1) (by omega) h62, dty_no (m := m ++ y) (j := Mk.ln m (Mk.kd m) - 1) (by omega) (by rw [at0_app (by omega)]; exact h62)]
      · unfold Mk.isDty
        rw [List.take_append_of_le_length k]
    unfold Mk.kd
    rw [f1, f2, f3, f4, f5, f6]
  refine ⟨hkd, ?_⟩
  generalize Mk.kd m = k at hl ⊢
  unfold Mk.ln at hl ⊢
  by_cases k1 : k = 1
  · rw [if_pos k1] at hl ⊢
    rw [if_pos k1]
    unfold Mk.cln at hl ⊢
    rw [List.drop_append_of_le_length (show 4 ≤ m.length by omega)]
    by_cases g1 : Mk.fits [62] (m.drop 4) = true
    · rw [if_pos g1, if_pos (by rw [fits_app (Mk.fits_len g1)]; exact g1)]
    · rw [if_neg g1] at hl ⊢
      by_cases g2 : Mk.fits [45, 62] (m.drop 4) = true
      · have hl2 := Mk.fits_len g2
        rw [if_pos g2, if_neg (by rw [fits_app (by simp at hl2 ⊢; omega)]; exact g1), if_pos (by rw [fits_app hl2]; exact g2)]
      · rw [if_neg g2] at hl ⊢
        have hc := co_stab (m.drop 4) y (by rw [List.length_drop]; omega)
        rw [if_neg (by rw [fits_app (by simp at hc ⊢; omega)]; exact g1), if_neg (by rw [fits_app (by simp at hc ⊢; omega)]; exact g2), hc.1]
  · rw [if_neg k1] at hl ⊢
    rw [if_neg k1]
    by_cases k2 : k = 2
    · rw [if_pos k2] at hl ⊢
      rw [if_pos k2, List.drop_append_of_le_length (by omega), gt_stab _ y (by rw [List.length_drop]; omega)]
    · rw [if_neg k2] at hl ⊢
      rw [if_neg k2]
      by_cases k4 : k = 4
      · rw [if_pos k4, if_pos k4]
      · rw [if_neg k4] at hl ⊢
        rw [if_neg k4, List.drop_append_of_le_length (by omega), gt_stab _ y (by rw [List.length_drop]; omega)]

/-! ### the token -/
theorem tgT_prog {l : List UInt8} {i : Nat} (h : i < l.length) (hb : bg (l.drop i) ≠ 0) : (tgT l i).frm = i ∧ i < (tgT l i).upto ∧ (tgT l i).upto ≤ l.length ∧ ((tgT l i).kind = 0 ∨ (tgT l i).kind = 2 ∨ (tgT l i).kind = 3) ∧ (tgT l i).text = [] ∧ (tgT l i).name.length ≤ 4 * l.length := by
  unfold tgT
  have h2 := bg_le (l.drop i)
  cases ht : tr (l.drop i) with
  | none => exact ⟨rfl, h, Nat.le_refl _, Or.inl rfl, rfl, by simp⟩
  | some p =>
    obtain ⟨L, e⟩ := p
    have := tr_stab hb ht
    have hle := this.2.1
    have hn := lw_len Tg.pTag ((l.drop i).drop (bg (l.drop i)))
    rw [List.length_drop] at hle
    simp only [List.length_drop] at hn
    refine ⟨rfl, ?_, ?_, ?_, rfl, ?_⟩
    · show i < i + e; omega
    · show i + e ≤ l.length; omega
    · show bg (l.drop i) + 1 = 0 ∨ bg (l.drop i) + 1 = 2 ∨ bg (l.drop i) + 1 = 3; omega
    · show (tn (l.drop i)).length ≤ _
      unfold tn
      omega

/-- what a token is like -/
theorem nxT_is {l n : List UInt8} {i : Nat} (h : i < l.length) : (nxT l n i).frm = i ∧ i < (nxT l n i).upto ∧ (nxT l n i).upto ≤ l.length ∧ (nxT l n i).kind ≤ 3 ∧ (nxT l n i).name.length ≤ 4 * l.length ∧
    ((nxT l n i).kind ≠ 1 → (nxT l n i).text = []) ∧ ((nxT l n i).kind = 1 → (nxT l n i).name = [] ∧ (nxT l n i).attrs = [] ∧ ((∀ b ∈ sl l i (nxT l n i).upto, b ≠ 38) → (nxT l n i).text = all0 (sl l i (nxT l n i).upto))) := by
  unfold nxT
  by_cases he : Rw.ed n l i ≠ i
  · rw [if_pos he]
    have h1 := ed_ge n l i (by omega)
    have h2 := Rw.ed_le (n := n) (l := l) (i := i) (by omega)
    refine ⟨rfl, ?_, h2, (show 1 ≤ 3 by decide), by simp [rwT], fun k => absurd rfl k, fun _ => ⟨rfl, rfl, fun hk => ?_⟩⟩
    · show i < Rw.ed n l i; omega
    · show (if Rw.kdN n = 1 then txt false (sl l i (Rw.ed n l i)) else all0 (sl l i (Rw.ed n l i))) = _
      split
      · exact txt_plain false _ _ (Nat.le_refl _) hk
      · rfl
  · rw [if_neg he]
    unfold tdT
    by_cases hb : bg (l.drop i) ≠ 0
    · rw [if_pos hb]
      obtain ⟨t1, t2, t3, t4, t5, t6⟩ := tgT_prog h hb
      exact ⟨t1, t2, t3, by omega, t6, fun _ => t5, fun k => by omega⟩
    · rw [if_neg hb]
      by_cases hk : Mk.kd (l.drop i) ≠ 0
      · rw [if_pos hk]
        have hm := Mk.mark_is hk
        have h2 := hm.2.2.2.1
        have h3 := hm.2.2.2.2.1
        rw [List.length_drop] at h3
        exact ⟨rfl, by show i < i + _; omega, by show i + _ ≤ l.length; omega, (show 0 ≤ 3 by decide), by simp, fun _ => rfl, fun k => by cases k⟩
      · rw [if_neg hk]
        have ht := te_le h
        exact ⟨rfl, ht.2, ht.1, (show 1 ≤ 3 by decide), by simp, fun k => absurd rfl k, fun _ => ⟨rfl, rfl, fun hk => txt_plain false _ _ (Nat.le_refl _) hk⟩⟩

theorem sl_app {l : List UInt8} {i e : Nat} (h1 : i ≤ e) (h2 : e ≤ l.length) (y : List UInt8) : sl (l ++ y) i e = sl l i e := by
  unfold sl
  rw [List.drop_append_of_le_length (by omega), List.take_append_of_le_length (by rw [List.length_drop]; omega)]

/-- what stands behind bytes changes no token that ends ahead of them -/
theorem nxT_stab {l n : List UInt8} {i : Nat} (h : i < l.length) (hu : (nxT l n i).upto < l.length) (y : List UInt8) : nxT (l ++ y) n i = nxT l n i := by
  have hd : (l ++ y).drop i = l.drop i ++ y := List.drop_append_of_le_length (by omega)
  unfold nxT at hu ⊢
  by_cases he : Rw.ed n l i ≠ i
  · rw [if_pos he] at hu ⊢
    have hu' : Rw.ed n l i < l.length := hu
    have es := ed_stab h hu' y
    rw [es, if_pos he]
    unfold rwT
    rw [sl_app (ed_ge n l i (by omega)) (by omega) y]
  · rw [if_neg he] at hu ⊢
    have he' : Rw.ed n l i = i := by simpa using he
    have es := ed_stab (n := n) h (by omega) y
    rw [es, if_neg he]
    unfold tdT at hu ⊢
    rw [hd]
    by_cases hb : bg (l.drop i) ≠ 0
    · rw [if_pos hb] at hu ⊢
      unfold tgT at hu ⊢
      rw [hd]
      cases ht : tr (l.drop i) with
      | none => rw [ht] at hu; exact absurd hu (Nat.lt_irrefl _)
      | some p =>
        obtain ⟨L, e⟩ := p
        obtain ⟨t1, t2, t3, t4⟩ := tr_stab hb ht
        have t5 := t4 ((l.drop i).drop e ++ y)
        rw [← List.append_assoc, List.take_append_drop] at t5
        rw [t5.1, t5.2.1, t5.2.2, if_pos hb]
    · rw [if_neg hb] at hu ⊢
      have hb0 : bg (l.drop i) = 0 := by simpa using hb
      by_cases hk : Mk.kd (l.drop i) ≠ 0
      · rw [if_pos hk] at hu ⊢
        have hu' : i + Mk.ln (l.drop i) (Mk.kd (l.drop i)) < l.length := hu
        have hs := mark_stab hk (by rw [List.length_drop]; omega) y
        have hm := Mk.mark_is hk
        have hl3 : 3 ≤ (l.drop i).length := by rw [List.length_drop]; have := hm.2.2.2.1; omega
        have hbg : bg (l.drop i ++ y) = 0 := by
          cases hz : bg (l.drop i ++ y) with
          | zero => rfl
          | succ z =>
            exfalso
            have := (bg_iff _).1 (show bg (l.drop i ++ y) ≠ 0 by omega)
            rw [at0_app (by omega), at0_app (by omega), at0_app (by omega)] at this
            exact (bg_iff (l.drop i)).2 this hb0
        rw [if_neg (by rw [hbg]; simp), hs.1, if_pos hk, hs.2]
      · rw [if_neg hk] at hu ⊢
        have hk0 : Mk.kd (l.drop i) = 0 := by simpa using hk
        have hu' : te l i < l.length := hu
        unfold te at hu'
        have hts := tx_stab (l.drop (i + 1)) y (by rw [List.length_drop]; omega)
        have hl3 : 3 ≤ (l.drop i).length := by have := hts.2; rw [List.length_drop] at this ⊢; omega
        have ho := brk_off (brk_not (brk_none hb0 hk0) hl3 y)
        rw [if_neg (by rw [ho.1]; simp), if_neg (by rw [ho.2]; simp)]
        have ete : te (l ++ y) i = te l i := by
          unfold te
          rw [List.drop_append_of_le_length (by omega), hts.1]
        rw [ete, sl_app (by have := te_le h; omega) (by have := te_le h; omega) y]

/-! ### all tokens -/
theorem alF_fuel (f : Nat) : ∀ (g : Nat) (l n : List UInt8) (i : Nat), l.length - i ≤ f → l.length - i ≤ g → alF f l n i = alF g l n i := by
  induction f with
  | zero =>
    intro g l n i h1 h2
    cases g with
    | zero => rfl
    | succ g => unfold alF; rw [if_neg (by omega)]
  | succ f ih =>
    intro g l n i h1 h2
    cases g with
    | zero => unfold alF; rw [if_neg (by omega)]
    | succ g =>
      unfold alF
      by_cases h : i < l.length
      · rw [if_pos h, if_pos h]
        have := nxT_is (n := n) h
        rw [ih g l _ _ (by omega) (by omega)]
      · rw [if_neg h, if_neg h]
theorem al_step {l n : List UInt8} {i : Nat} (h : i < l.length) : al l n i = nxT l n i :: al l (wi n (nxT l n i)) (nxT l n i).upto := by
  unfold al
  have hp := nxT_is (n := n) h
  rw [alF_fuel (l.length - i) (l.length - i - 1 + 1) l n i (Nat.le_refl _) (by omega)]
  conv => lhs; unfold alF
  rw [if_pos h, alF_fuel (l.length - i - 1) (l.length - (nxT l n i).upto) l _ _ (by omega) (Nat.le_refl _)]
theorem al_end {l n : List UInt8} {i : Nat} (h : l.length ≤ i) : al l n i = [] := by
  unfold al
  rw [show l.length - i = 0 by omega]
  rfl
theorem al_len (f : Nat) : ∀ (l n : List UInt8) (i : Nat), l.length - i ≤ f → (al l n i).length ≤ l.length - i := by
  induction f with
  | zero => intro l n i h; rw [al_end (by omega)]; simp
  | succ f ih =>
    intro l n i h
    by_cases hi : i < l.length
    · rw [al_step hi]
      have hp := nxT_is (n := n) hi
      have := ih l (wi n (nxT l n i)) (nxT l n i).upto (by omega)
      simp only [List.length_cons]
      omega
    · rw [al_end (by omega)]; simp

/-- what stands behind bytes changes none of their tokens but the last one -/
theorem al_front (f : Nat) : ∀ (l n y : List UInt8) (i : Nat), l.length - i ≤ f → (al l n i).length ≤ (al (l ++ y) n i).length ∧ ∀ j, j + 1 < (al l n i).length → (al (l ++ y) n i)[j]? = (al l n i)[j]? := by
  induction f with
  | zero => intro l n y i h; rw [al_end (by omega)]; simp
  | succ f ih =>
    intro l n y i h
    by_cases hi : i < l.length
    · have hp := nxT_is (n := n) hi
      have hi2 : i < (l ++ y).length := by rw [List.length_append]; omega
      rw [al_step hi, al_step hi2]
      by_cases hu : (nxT l n i).upto < l.length
      · rw [nxT_stab hi hu y]
        have := ih l (wi n (nxT l n i)) y (nxT l n i).upto (by omega)
        refine ⟨by simp only [List.length_cons]; omega, fun j hj => ?_⟩
        cases j with
        | zero => rfl
        | succ j =>
          simp only [List.length_cons] at hj
          simp only [List.getElem?_cons_succ]
          exact this.2 j (by omega)
      · rw [al_end (l := l) (i := (nxT l n i).upto) (by omega)]
        refine ⟨by simp, fun j hj => ?_⟩
        simp only [List.length_cons, List.length_nil] at hj
        omega
    · rw [al_end (by omega)]; simp

/-! ### bytes without a < -/
theorem brk_keep {c : UInt8} {r : List UInt8} (h : c ≠ 60) : brk (c :: r) = false := by
  cases hb : brk (c :: r) with
  | false => rfl
  | true =>
    have := ((brk_iff _).1 hb).1
    exact absurd (UInt8.toNat_inj.1 (show c.toNat = (60 : UInt8).toNat from this)) h
theorem tx_keep (t : List UInt8) : ∀ f : List UInt8, (∀ b ∈ f, b ≠ 60) → tx (f ++ t) = f.length + tx t
  | [], _ => by simp
  | c :: r, h => by
    have e : tx (c :: (r ++ t)) = tx (r ++ t) + 1 := by
      conv => lhs; unfold tx
      rw [if_neg (by rw [brk_keep (h c (by simp))]; decide)]
    show tx (c :: (r ++ t)) = _
    rw [e, tx_keep t r fun b hb => h b (by simp [hb])]
    simp only [List.length_cons]
    omega
def tagI : List UInt8 := [60, 105, 62]
theorem tagI_brk (r : List UInt8) : brk (tagI ++ r) = true := (brk_iff _).2 ⟨rfl, Or.inl rfl⟩
theorem tagI_bg (r : List UInt8) : bg (tagI ++ r) = 1 := rfl
theorem tx_tag (r : List UInt8) : tx (tagI ++ r) = 0 := by
  show tx (60 :: ([105, 62] ++ r)) = 0
  unfold tx
  rw [if_pos (show brk (60 :: ([105, 62] ++ r)) = true from tagI_brk r)]
theorem tagI_name (r : List UInt8) : Tg.ov Tg.pTag (105 :: 62 :: r) = 1 ∧ Tg.lw Tg.pTag (105 :: 62 :: r) = [105] := by
  have e1 : nx (105 :: 62 :: r) = (105, 1) := Tg.nx_low (m := 105 :: 62 :: r) (by show 105 < 128; decide) (by show 105 ≠ 0; decide) (by show 105 ≠ 13; decide)
  have s1 := Tg.ov_step (p := Tg.pTag) (m := 105 :: 62 :: r) (by simp) (by rw [e1]; decide)
  have s2 := Tg.ov_stop (p := Tg.pTag) (m := 62 :: r) (by rw [Tg.nx_gt]; decide)
  rw [e1] at s1
  simp only [List.drop_succ_cons, List.drop_zero] at s1
  rw [s1.1, s1.2, s2.1, s2.2]
  exact ⟨rfl, by decide⟩
theorem tagI_tr (r : List UInt8) : tr (tagI ++ r) = some ([], 3) := by
  have hn := tagI_name r
  have h2 : tw (tagI ++ r) = 2 := by
    show 1 + Tg.ov Tg.pTag (105 :: 62 :: r) = 2
    rw [hn.1]
  have s2 := Tg.ov_stop (p := Tg.pGap) (m := 62 :: r) (by rw [Tg.nx_gt]; decide)
  have ha : Tg.ats (62 :: r) = some ([], 1) := by
    have := Tg.ats_gt (m := 62 :: r) (by rw [s2.1, List.drop_zero, Tg.hd_ne (by simp), Tg.nx_gt])
    rw [s2.1] at this
    exact this
  unfold tr
  rw [h2, show (tagI ++ r).drop 2 = 62 :: r from rfl, ha]
  rfl
theorem tagI_tn (r : List UInt8) : tn (tagI ++ r) = [105] := (tagI_name r).2

/-- a name of the way Tags -/
theorem ed_tags {n l : List UInt8} {i : Nat} (h : Rw.kdN n = 0) : Rw.ed n l i = i := by unfold Rw.ed; rw [if_pos h]
/-- the token of <i> -/
theorem nxT_tag {l n r : List UInt8} {i : Nat} (hn : Rw.kdN n = 0) (hd : l.drop i = tagI ++ r) : nxT l n i = ⟨2, [105], [], [], i, i + 3⟩ := by
  unfold nxT
  rw [ed_tags hn, if_neg (by simp)]
  unfold tdT tgT
  rw [hd, tagI_bg, tagI_tr, tagI_tn, if_pos (by decide)]
  rfl
/-- the token of bytes without a <, up to the end or to <i> -/
theorem nxT_text {l n f t : List UInt8} {i : Nat} (hn : Rw.kdN n = 0) (hf : ∀ b ∈ f, b ≠ 60) (h0 : f ≠ []) (hd : l.drop i = f ++ t) (ht : t = [] ∨ ∃ r, t = tagI ++ r) : nxT l n i = ⟨1, [], [], txt false f, i, i + f.length⟩ := by
  unfold nxT
  rw [ed_tags hn, if_neg (by simp)]
  obtain ⟨c, r, rfl⟩ := List.exists_cons_of_ne_nil h0
  have hb := brk_off (brk_keep (c := c) (r := r ++ t) (hf c (by simp)))
  have h1 : l.drop (i + 1) = r ++ t := by
    rw [← List.drop_drop, hd]
    rfl
  have ht0 : tx t = 0 := by
    rcases ht with rfl | ⟨q, rfl⟩
    · rfl
    · exact tx_tag q
  have hte : te l i = i + (c :: r).length := by
    unfold te
    rw [h1, tx_keep t r (fun b hb => hf b (by simp [hb])), ht0]
    simp only [List.length_cons]
    omega
  unfold tdT
  rw [hd]
  rw [if_neg (by rw [show c :: r ++ t = c :: (r ++ t) from rfl, hb.1]; simp), if_neg (by rw [show c :: r ++ t = c :: (r ++ t) from rfl, hb.2]; simp), hte]
  unfold sl
  rw [hd, show i + (c :: r).length - i = (c :: r).length by omega, List.take_left']
  rfl
end Go.Proofs.YtndcmapifihgeaaGreatDoor.Tk
