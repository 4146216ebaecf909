/- Plain mathematics of layer 7, on: what a tag's names and values are made of. Nothing of the program's text. -/
import Derived.Test.YtfnecdifaodamaaDoorTgStab
namespace Go.Proofs.YtfnecdifaodamaaDoor.Tg
open Go.Lib
open Ch (at0 nx nx_width nx_range at0_lt at0_drop enc_len nx_enc good nx_good Good enc_bytes)
open Kl (blankN greatN)
open En (findL nmL findL_is)
open At (ads names)

/-- characters one behind the other, each of which Q is true -/
inductive Chs (Q : Nat → Prop) : List UInt8 → Prop
  | nil : Chs Q []
  | cons (c : Nat) (m : List UInt8) : good c → Q c → Chs Q m → Chs Q (encodeRune (c : Int) ++ m)

/-- a character of a tag's name; of an attribute's name behind its first -/
def OkT (c : Nat) : Prop := blankN c = false ∧ c ≠ 47 ∧ c ≠ 62 ∧ greatN c = false
def OkA (c : Nat) : Prop := OkT c ∧ c ≠ 61

theorem low_great (c : Nat) : greatN (lowN c) = false := by
  unfold lowN
  split
  · rename_i h
    simp [greatN] at h ⊢
    omega
  · rename_i h
    simpa using h
theorem tag_low {c : Nat} (h : pTag c = true) : OkT (lowN c) := by
  refine ⟨?_, ?_, ?_, low_great c⟩
  all_goals
    unfold pTag blankN at h
    simp at h
    unfold lowN
    split
    · rename_i k
      simp [greatN, blankN] at k ⊢
      try omega
    · first | (unfold blankN; simp; omega) | omega
theorem att_low {c : Nat} (h : pAtt c = true) : OkA (lowN c) := by
  have h' : pTag c = true := by
    unfold pAtt at h
    unfold pTag
    simp at h ⊢
    exact ⟨h.1, h.2.1.1, h.2.1.2⟩
  refine ⟨tag_low h', ?_⟩
  unfold pAtt at h
  simp at h
  unfold lowN
  split
  · rename_i k
    simp [greatN] at k
    omega
  · exact h.2.2

theorem lw_chs {p : Nat → Bool} {Q : Nat → Prop} (hp : ∀ c, p c = true → Q (lowN c)) (n : Nat) : ∀ m : List UInt8, m.length ≤ n → Chs Q (lw p m) := by
  induction n with
  | zero => intro m h; obtain rfl : m = [] := List.eq_nil_of_length_eq_zero (by omega); exact .nil
  | succ n ih =>
    intro m h
    by_cases hm : m = []
    · subst hm; exact .nil
    · cases hc : p (nx m).1 with
      | false => rw [(ov_stop hc).2]; exact .nil
      | true =>
        have hw := nx_width m hm
        rw [(ov_step hm hc).2]
        exact .cons _ _ (lowN_good (nx_good m)) (hp _ hc) (ih _ (by simp; omega))

/-- a tag's name -/
theorem tn_chs (m : List UInt8) : Chs OkT (tn m) := lw_chs (fun _ h => tag_low h) _ _ (Nat.le_refl _)
theorem tn_ne {m : List UInt8} (h : bg m ≠ 0) : tn m ≠ [] := by
  rw [(tn_eq h).1]
  exact Ch.enc_ne _ _

/-- an attribute's name: one character, and those behind it -/
def NameOk (s : List UInt8) : Prop := ∃ c r, s = encodeRune ((c : Nat) : Int) ++ r ∧ good c ∧ greatN c = false ∧ Chs OkA r
theorem aN_ok (m : List UInt8) : NameOk (aN m) := ⟨lowN (nx m).1, lw pAtt (m.drop (nx m).2), rfl, lowN_good (nx_good m), low_great _, lw_chs (fun _ h => att_low h) _ _ (Nat.le_refl _)⟩
theorem NameOk.ne {s : List UInt8} (h : NameOk s) : s ≠ [] := by
  obtain ⟨c, r, rfl, -⟩ := h
  exact Ch.enc_ne _ _

/-- no byte 0 -/
def NoZ (s : List UInt8) : Prop := ∀ b ∈ s, b.toNat ≠ 0
theorem enc_nz {c : Nat} (h : ok c) : NoZ (encodeRune (c : Int)) := by
  intro b hb
  unfold ok at h
  by_cases h13 : c = 13
  · subst h13
    have e : encodeRune ((13 : Nat) : Int) = [13] := by decide +kernel
    rw [e] at hb
    simp at hb
    subst hb
    decide
  · exact (enc_bytes c (by unfold good; omega) b hb).1
theorem nm_nz : ∀ p ∈ nmL, ∀ b ∈ p.2, b.toNat ≠ 0 := by decide
theorem NoZ.append {a b : List UInt8} (ha : NoZ a) (hb : NoZ b) : NoZ (a ++ b) := by
  intro x hx
  rcases List.mem_append.1 hx with h | h
  · exact ha x h
  · exact hb x h
theorem rd_nz {m s : List UInt8} {e : Nat} {attr : Bool} (h : rd m attr = some (s, e)) : NoZ s := by
  unfold rd at h
  split at h
  · split at h
    · unfold sh at h
      rw [Option.map_eq_some_iff] at h
      obtain ⟨⟨s', e'⟩, hn, he⟩ := h
      simp only [Prod.mk.injEq] at he
      obtain ⟨rfl, rfl⟩ := he
      unfold numM at hn
      split at hn
      · cases hn
      · simp only [Option.some.injEq, Prod.mk.injEq] at hn
        obtain ⟨rfl, -⟩ := hn
        exact enc_nz (pt_ok _)
    · unfold sh at h
      rw [Option.map_eq_some_iff] at h
      obtain ⟨⟨s', e'⟩, hn, he⟩ := h
      simp only [Prod.mk.injEq] at he
      obtain ⟨rfl, rfl⟩ := he
      unfold nameM at hn
      split at hn
      · cases hn
      · rename_i h0
        split at hn
        · cases hn
        · simp only [Option.some.injEq, Prod.mk.injEq] at hn
          obtain ⟨rfl, -⟩ := hn
          rcases findL_is (m.drop 1) with ⟨q, -, -⟩ | ⟨q, -, -⟩
          · exact absurd q h0
          · exact fun b hb => nm_nz _ q b hb
  · cases h
theorem txt_nz (attr : Bool) (n : Nat) : ∀ m : List UInt8, m.length ≤ n → NoZ (txt attr m) := by
  induction n with
  | zero => intro m h; obtain rfl : m = [] := List.eq_nil_of_length_eq_zero (by omega); intro b hb; rw [txt_nil] at hb; cases hb
  | succ n ih =>
    intro m h
    by_cases hm : m = []
    · subst hm; intro b hb; rw [txt_nil] at hb; cases hb
    · cases hr : rd m attr with
      | none =>
        have hw := nx_width m hm
        rw [txt_char hm hr]
        exact NoZ.append (fun b hb => (enc_bytes _ (nx_good m) b hb).1) (ih _ (by simp; omega))
      | some p =>
        have hb := rd_bd (s := p.1) (e := p.2) hr
        rw [txt_ref (s := p.1) (e := p.2) hr]
        exact NoZ.append (rd_nz (s := p.1) (e := p.2) hr) (ih _ (by simp; omega))
theorem vl_nz (m : List UInt8) : NoZ (vl m).1 := by
  unfold vl
  split
  · exact txt_nz true _ _ (Nat.le_refl _)
  · exact txt_nz true _ _ (Nat.le_refl _)
theorem ab_ok (m : List UInt8) : NameOk (ab m).1.1 ∧ NoZ (ab m).1.2 := by
  unfold ab
  split
  · exact ⟨aN_ok m, vl_nz _⟩
  · exact ⟨aN_ok m, fun b hb => by cases hb⟩
theorem ats_ok (n : Nat) : ∀ (m : List UInt8), m.length ≤ n → ∀ (L : List At.At) (e : Nat), ats m = some (L, e) → ∀ x ∈ L, NameOk x.1 ∧ NoZ x.2 := by
  induction n with
  | zero =>
    intro m h L e ha
    obtain rfl : m = [] := List.eq_nil_of_length_eq_zero (by omega)
    rw [ats_end rfl] at ha
    cases ha
  | succ n ih =>
    intro m h L e ha
    by_cases h0 : m.drop (ov pGap m) = []
    · rw [ats_end h0] at ha; cases ha
    by_cases h62 : hd (m.drop (ov pGap m)) = 62
    · rw [ats_gt h62] at ha
      simp only [Option.some.injEq, Prod.mk.injEq] at ha
      obtain ⟨rfl, rfl⟩ := ha
      intro x hx; cases hx
    · rw [ats_more h0 h62, Option.map_eq_some_iff] at ha
      obtain ⟨⟨L', e'⟩, ha', he⟩ := ha
      simp only [Prod.mk.injEq] at he
      obtain ⟨rfl, rfl⟩ := he
      have hb := ab_le h0
      simp only [List.length_drop] at hb
      intro x hx
      rcases List.mem_cons.1 hx with rfl | hx
      · exact ab_ok _
      · exact ih _ (by simp; omega) L' e' ha' x hx
theorem fold_sub : ∀ (L acc : List At.At) (x : At.At), x ∈ L.foldl At.add acc → x ∈ acc ∨ x ∈ L
  | [], acc, x, h => Or.inl h
  | y :: r, acc, x, h => by
    rw [List.foldl_cons] at h
    rcases fold_sub r _ x h with q | q
    · by_cases hy : y.1 ∈ names acc
      · rw [At.add_in hy] at q; exact Or.inl q
      · rw [At.add_out hy] at q
        rcases List.mem_append.1 q with q | q
        · exact Or.inl q
        · simp at q; subst q; exact Or.inr (by simp)
    · exact Or.inr (List.mem_cons_of_mem _ q)
theorem ads_sub {L : List At.At} {x : At.At} (h : x ∈ ads L) : x ∈ L := by
  rcases fold_sub L [] x h with q | q
  · cases q
  · exact q
/-- all that is said of a tag's attributes -/
theorem tr_ok {m : List UInt8} {L : List At.At} {e : Nat} (h : tr m = some (L, e)) : (∀ x ∈ ads L, NameOk x.1 ∧ NoZ x.2) ∧ (names (ads L)).Nodup := by
  unfold tr at h
  rw [Option.map_eq_some_iff] at h
  obtain ⟨⟨L', e'⟩, ha, he⟩ := h
  simp only [Prod.mk.injEq] at he
  obtain ⟨rfl, rfl⟩ := he
  exact ⟨fun x hx => ats_ok _ _ (Nat.le_refl _) _ _ ha x (ads_sub hx), At.ads_nodup _⟩
end Go.Proofs.YtfnecdifaodamaaDoor.Tg
