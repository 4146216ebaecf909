/- Plain mathematics of layer 10, on: bytes without a <, and pages of them with <i> between. Nothing of the program's text. -/
import Derived.Test.YtndcmapifihgeaaDoorTkMath
namespace Go.Proofs.YtndcmapifihgeaaDoor.Tk
open Go.Lib
open Ch (at0)

/-- the bytes of a list that are no < -/
def fl (l : List UInt8) : List UInt8 := l.filter (· != 60)
theorem fl_ne (l : List UInt8) : ∀ b ∈ fl l, b ≠ 60 := by
  intro b hb
  have := (List.mem_filter.1 hb).2
  simpa using this
theorem fl_len (l : List UInt8) : (fl l).length ≤ l.length := List.length_filter_le _ _
theorem fl_take {l : List UInt8} {k : Nat} (h : k < l.length) : fl (l.take (k + 1)) = if at0 l k = 60 then fl (l.take k) else fl (l.take k) ++ [l[k]] := by
  unfold fl
  rw [List.take_succ_eq_append_getElem h, List.filter_append]
  have hk : at0 l k = l[k].toNat := by
    unfold at0
    rw [List.getD_eq_getElem?_getD, List.getElem?_eq_getElem h]
    rfl
  by_cases h60 : at0 l k = 60
  · rw [if_pos h60]
    have : l[k] = 60 := UInt8.toNat_inj.1 (by rw [← hk]; exact h60)
    simp [this]
  · rw [if_neg h60]
    have : l[k] ≠ 60 := fun e => h60 (by rw [hk, e]; rfl)
    simp [this]

theorem al_plain {f : List UInt8} (hf : ∀ b ∈ f, b ≠ 60) (h0 : f ≠ []) : al f [] 0 = [⟨1, [], [], txt false f, 0, f.length⟩] := by
  have hl := List.length_pos_iff.2 h0
  have ht := nxT_text (l := f) (n := []) (f := f) (t := []) (i := 0) (by decide) hf h0 (by simp) (Or.inl rfl)
  rw [Nat.zero_add] at ht
  rw [al_step hl, ht, al_end (by simp)]

/-- a page -/
def pg (f : List UInt8) : Nat → List UInt8
  | 0 => []
  | k + 1 => f ++ tagI ++ pg f k
theorem pg_snoc (f : List UInt8) (k : Nat) : pg f (k + 1) = pg f k ++ f ++ tagI := by
  induction k with
  | zero => simp [pg]
  | succ k ih =>
    show f ++ tagI ++ pg f (k + 1) = (f ++ tagI ++ pg f k) ++ f ++ tagI
    rw [ih]
    simp only [List.append_assoc]
theorem pg_len (f : List UInt8) (k : Nat) : (pg f k).length = k * (f.length + 3) := by
  induction k with
  | zero => simp [pg]
  | succ k ih =>
    show (f ++ tagI ++ pg f k).length = _
    rw [List.length_append, List.length_append, ih, Nat.add_mul]
    simp [tagI]
    omega

theorem al_page {f : List UInt8} (hf : ∀ b ∈ f, b ≠ 60) (h0 : f ≠ []) (k : Nat) : ∀ (l n : List UInt8) (i : Nat), Rw.kdN n = 0 → l.drop i = pg f k → (al l n i).length = 2 * k ∧ ∀ (j : Nat) (t : Tok), (al l n i)[j]? = some t → (j % 2 = 0 → t.text = txt false f) ∧ (j % 2 = 1 → t.name = [105]) := by
  induction k with
  | zero =>
    intro l n i hn hd
    have hl : l.length ≤ i := by
      have := congrArg List.length hd
      simp [pg] at this
      omega
    rw [al_end hl]
    exact ⟨rfl, fun j t h => by simp at h⟩
  | succ k ih =>
    intro l n i hn hd
    have hd1 : l.drop i = f ++ (tagI ++ pg f k) := by rw [hd]; simp [pg]
    have hl : i < l.length := by
      rcases Nat.lt_or_ge i l.length with h | h
      · exact h
      · rw [List.drop_of_length_le h] at hd1
        have := congrArg List.length hd1
        have := List.length_pos_iff.2 h0
        simp at *
        omega
    have t1 := nxT_text (l := l) (n := n) hn hf h0 hd1 (Or.inr ⟨_, rfl⟩)
    have hd2 : l.drop (i + f.length) = tagI ++ pg f k := by rw [← List.drop_drop, hd1, List.drop_left]
    have hl2 : i + f.length < l.length := by
      rcases Nat.lt_or_ge (i + f.length) l.length with h | h
      · exact h
      · rw [List.drop_of_length_le h] at hd2
        have := congrArg List.length hd2
        simp [tagI] at this
    have t2 := nxT_tag (l := l) (n := n) hn hd2
    have hd3 : l.drop (i + f.length + 3) = pg f k := by rw [← List.drop_drop, hd2]; rfl
    have h3 := ih l [105] (i + f.length + 3) (by decide) hd3
    rw [al_step hl, t1]
    show (_ :: al l n (i + f.length)).length = _ ∧ ∀ (j : Nat) (t : Tok), (_ :: al l n (i + f.length))[j]? = some t → _
    rw [al_step hl2, t2]
    show (_ :: _ :: al l [105] (i + f.length + 3)).length = _ ∧ ∀ (j : Nat) (t : Tok), (_ :: _ :: al l [105] (i + f.length + 3))[j]? = some t → _
    refine ⟨by simp only [List.length_cons, h3.1]; omega, fun j t h => ?_⟩
    match j, h with
    | 0, h =>
      simp only [List.getElem?_cons_zero, Option.some.injEq] at h
      subst h
      exact ⟨fun _ => rfl, fun h => by omega⟩
    | 1, h =>
      simp only [List.getElem?_cons_succ, List.getElem?_cons_zero, Option.some.injEq] at h
      subst h
      exact ⟨fun h => by omega, fun _ => rfl⟩
    | j + 2, h =>
      simp only [List.getElem?_cons_succ] at h
      have := h3.2 j t h
      exact ⟨fun e => this.1 (by omega), fun e => this.2 (by omega)⟩
end Go.Proofs.YtndcmapifihgeaaDoor.Tk
