/- Plain mathematics of layer 7, on: a tag without = whose letters are made great is the same tag. Nothing of the program's text. -/
import Derived.Test.YtfnecdifaodamaaDoorTgStab
namespace Go.Proofs.YtfnecdifaodamaaDoor.Tg
open Go.Lib
open Ch (at0 nx nx_width nx_range at0_lt at0_drop enc_len nx_enc good nx_good Good)
open Kl (blankN greatN)
open At (ads names)

/-- a letter made great -/
def upN (c : Nat) : Nat := if 97 ≤ c ∧ c ≤ 122 then c - 32 else c
def upB (b : UInt8) : UInt8 := if 97 ≤ b.toNat ∧ b.toNat ≤ 122 then b - 32 else b
theorem upB_nat (b : UInt8) : (upB b).toNat = upN b.toNat := by
  unfold upB upN
  split
  · rename_i h
    rw [UInt8.toNat_sub_of_le]
    · rfl
    · rw [UInt8.le_iff_toNat_le]
      show 32 ≤ b.toNat
      omega
  · rfl
def upL (m : List UInt8) : List UInt8 := m.map upB
theorem upL_len (m : List UInt8) : (upL m).length = m.length := List.length_map _
theorem upL_drop (m : List UInt8) (k : Nat) : (upL m).drop k = upL (m.drop k) := (List.map_drop).symm
theorem upL_nil {m : List UInt8} : upL m = [] ↔ m = [] := List.map_eq_nil_iff
theorem at0_up (m : List UInt8) (j : Nat) : at0 (upL m) j = upN (at0 m j) := by
  unfold at0 upL
  rw [List.getD_eq_getElem?_getD, List.getD_eq_getElem?_getD, List.getElem?_map]
  cases m[j]? with
  | none => rfl
  | some b => exact upB_nat b
theorem upN_high {c : Nat} (h : 128 ≤ c) : upN c = c := if_neg (by omega)
theorem upN_lt (c : Nat) (h : c < 128) : upN c < 128 := by unfold upN; split <;> omega
theorem upN_eq (c d : Nat) (hd : ¬ (65 ≤ d ∧ d ≤ 90) ∧ ¬ (97 ≤ d ∧ d ≤ 122)) : upN c = d ↔ c = d := by
  unfold upN; split <;> omega
theorem upN_div (c : Nat) : upN c / 64 = 2 ↔ c / 64 = 2 := by
  unfold upN; split <;> omega
theorem upN_same (c : Nat) (h : c / 64 = 2) : upN c = c := upN_high (by omega)

set_option maxRecDepth 100000 in
theorem nx_up (m : List UInt8) : nx (upL m) = (upN (nx m).1, (nx m).2) := by
  unfold nx
  rw [at0_up, at0_up, at0_up, at0_up, upL_len]
  by_cases h0 : at0 m 0 = 0
  · rw [if_pos h0, if_pos ((upN_eq _ 0 (by omega)).2 h0)]; rfl
  · rw [if_neg h0, if_neg (fun k => h0 ((upN_eq _ 0 (by omega)).1 k))]
    by_cases h13 : at0 m 0 = 13
    · rw [if_pos h13, if_pos ((upN_eq _ 13 (by omega)).2 h13)]
      simp only [upN_eq (at0 m 1) 10 (by omega)]
      rfl
    · rw [if_neg h13, if_neg (fun k => h13 ((upN_eq _ 13 (by omega)).1 k))]
      by_cases hl : at0 m 0 < 128
      · rw [decodeN_ascii _ _ _ _ _ hl, decodeN_ascii _ _ _ _ _ (upN_lt _ hl)]
      · rw [upN_high (by omega : 128 ≤ at0 m 0)]
        have e : decodeN m.length (at0 m 0) (upN (at0 m 1)) (upN (at0 m 2)) (upN (at0 m 3)) = decodeN m.length (at0 m 0) (at0 m 1) (at0 m 2) (at0 m 3) := by
          apply decodeN_eq
          · rw [upN_div]
          · exact fun k => upN_same _ k.2
          · intro _; rw [upN_div]
          · exact fun _ k => upN_same _ k.2
          · intro _ _; rw [upN_div]
          · exact fun _ _ k => upN_same _ k.2
        rw [e]
        have hh := Kl.decodeN_high m.length (at0 m 0) (at0 m 1) (at0 m 2) (at0 m 3) (by omega)
        rw [upN_high hh]

theorem lowN_up (c : Nat) : lowN (upN c) = lowN c := by
  unfold lowN upN greatN
  split
  · rename_i h
    simp only [Bool.and_eq_true, decide_eq_true_eq]
    rw [if_pos (by omega), if_neg (by omega)]
    omega
  · rfl

/-- of which it is no matter whether letters are great -/
def Inv (p : Nat → Bool) : Prop := ∀ c, p (upN c) = p c
theorem inv_blank : Inv blankN := by
  intro c; unfold blankN upN; split
  · rw [Bool.eq_iff_iff]; simp; omega
  · rfl
theorem inv_gap : Inv pGap := by
  intro c; unfold pGap; rw [inv_blank c]; congr 1
  rw [Bool.eq_iff_iff]; simp only [beq_iff_eq]; exact upN_eq _ _ (by omega)
theorem inv_tag : Inv pTag := by
  intro c; unfold pTag; rw [inv_blank c]; congr 2
  rw [Bool.eq_iff_iff]; simp only [Bool.or_eq_true, beq_iff_eq, upN_eq c 47 (by omega), upN_eq c 62 (by omega)]
theorem inv_att : Inv pAtt := by
  intro c; unfold pAtt; rw [inv_blank c]; congr 2
  rw [Bool.eq_iff_iff]; simp only [Bool.or_eq_true, beq_iff_eq, upN_eq c 47 (by omega), upN_eq c 62 (by omega), upN_eq c 61 (by omega)]

theorem ov_up {p : Nat → Bool} (hp : Inv p) (n : Nat) : ∀ m : List UInt8, m.length ≤ n → ov p (upL m) = ov p m ∧ lw p (upL m) = lw p m := by
  induction n with
  | zero => intro m h; obtain rfl : m = [] := List.eq_nil_of_length_eq_zero (by omega); exact ⟨rfl, rfl⟩
  | succ n ih =>
    intro m h
    by_cases hm : m = []
    · subst hm; exact ⟨rfl, rfl⟩
    · have hw := nx_width m hm
      have hu : upL m ≠ [] := fun k => hm (upL_nil.1 k)
      cases hc : p (nx m).1 with
      | false =>
        have h1 := ov_stop (p := p) (m := m) hc
        have h2 := ov_stop (p := p) (m := upL m) (by rw [nx_up]; simp only; rw [hp]; exact hc)
        rw [h1.1, h1.2, h2.1, h2.2]; exact ⟨rfl, rfl⟩
      | true =>
        have h1 := ov_step (p := p) hm hc
        have h2 := ov_step (p := p) hu (by rw [nx_up]; simp only; rw [hp]; exact hc)
        rw [nx_up] at h2
        simp only at h2
        rw [upL_drop, lowN_up] at h2
        have := ih (m.drop (nx m).2) (by simp; omega)
        rw [h1.1, h1.2, h2.1, h2.2, this.1, this.2]; exact ⟨rfl, rfl⟩
theorem ov_upL {p : Nat → Bool} (hp : Inv p) (m : List UInt8) : ov p (upL m) = ov p m := (ov_up hp m.length m (Nat.le_refl _)).1
theorem lw_upL {p : Nat → Bool} (hp : Inv p) (m : List UInt8) : lw p (upL m) = lw p m := (ov_up hp m.length m (Nat.le_refl _)).2
theorem hd_up (m : List UInt8) : hd (upL m) = upN (hd m) := by
  by_cases hm : m = []
  · subst hm; rfl
  · rw [hd_ne hm, hd_ne (fun k => hm (upL_nil.1 k)), nx_up]

theorem no_eq {m : List UInt8} (h : (61 : UInt8) ∉ m) (k : Nat) : hd (m.drop k) ≠ 61 := by
  intro e
  have q := hd_is (c := 61) (by decide) (by decide) (by decide) e
  have h1 := q.1
  rw [at0_drop, Nat.add_zero] at h1
  have hk := at0_in (m := m) (j := k) (by omega)
  unfold at0 at h1
  rw [List.getD_eq_getElem?_getD, List.getElem?_eq_getElem hk] at h1
  have : m[k] = 61 := UInt8.toNat_inj.1 h1
  exact h (this ▸ List.getElem_mem hk)
theorem ab_up {m : List UInt8} (h : (61 : UInt8) ∉ m) : ab (upL m) = ab m := by
  have e1 : a1 (upL m) = a1 m ∧ aN (upL m) = aN m := by
    unfold a1 aN
    rw [nx_up]
    simp only
    rw [upL_drop, ov_upL inv_att, lw_upL inv_att, lowN_up]
    exact ⟨rfl, rfl⟩
  have e2 : a2 (upL m) = a2 m := by
    unfold a2
    rw [e1.1, upL_drop, ov_upL inv_blank]
  unfold ab
  rw [e1.2, e2, upL_drop, hd_up, if_neg (no_eq h _), if_neg (fun k => no_eq h _ ((upN_eq _ 61 (by omega)).1 k))]

theorem ats_up (n : Nat) : ∀ m : List UInt8, m.length ≤ n → (61 : UInt8) ∉ m → ats (upL m) = ats m := by
  induction n with
  | zero => intro m h _; obtain rfl : m = [] := List.eq_nil_of_length_eq_zero (by omega); rfl
  | succ n ih =>
    intro m h h61
    have eo := ov_upL inv_gap m
    by_cases h0 : m.drop (ov pGap m) = []
    · rw [ats_end h0, ats_end (by rw [eo, upL_drop, h0]; rfl)]
    by_cases h62 : hd (m.drop (ov pGap m)) = 62
    · rw [ats_gt h62, ats_gt (by rw [eo, upL_drop, hd_up]; exact (upN_eq _ 62 (by omega)).2 h62), eo]
    · have hn : (61 : UInt8) ∉ m.drop (ov pGap m) := fun k => h61 (List.mem_of_mem_drop k)
      have hb := ab_le h0
      simp only [List.length_drop] at hb
      rw [ats_more h0 h62, ats_more (m := upL m) (by rw [eo, upL_drop]; exact fun k => h0 (upL_nil.1 k)) (by rw [eo, upL_drop, hd_up]; exact fun k => h62 ((upN_eq _ 62 (by omega)).1 k))]
      rw [eo, upL_drop, ab_up hn, upL_drop, ih _ (by simp; omega) (fun k => hn (List.mem_of_mem_drop k))]

theorem letN_up (c : Nat) : letN (upN c) = letN c := by
  unfold letN upN
  split
  · rw [Bool.eq_iff_iff]; simp; omega
  · rfl
theorem bg_up (m : List UInt8) : bg (upL m) = bg m := by
  unfold bg
  rw [at0_up, at0_up, at0_up, letN_up, letN_up]
  simp only [upN_eq (at0 m 0) 60 (by omega), upN_eq (at0 m 1) 47 (by omega)]
/-- with letters made great it is the same tag -/
theorem tr_up {m : List UInt8} (h : (61 : UInt8) ∉ m) : bg (upL m) = bg m ∧ tn (upL m) = tn m ∧ tr (upL m) = tr m := by
  have e1 := bg_up m
  have e2 : tw (upL m) = tw m := by unfold tw; rw [e1, upL_drop, ov_upL inv_tag]
  refine ⟨e1, ?_, ?_⟩
  · unfold tn; rw [e1, upL_drop, lw_upL inv_tag]
  · unfold tr; rw [e2, upL_drop, ats_up _ _ (Nat.le_refl _) (fun k => h (List.mem_of_mem_drop k))]
end Go.Proofs.YtfnecdifaodamaaDoor.Tg
