/- Entries in which each element stands once, and what the acts make of them. -/
import Derived.Test.YtnnidajflnandaaRs2
import Derived.Test.YtnnidajflnandaaRi
namespace Go.Proofs.Ytnnidajflnandaa
open Go.RowKit Go.Lib

/-- each element stands once (marks may stand often) -/
def On (E : List Int) : Prop := (E.filter nm).Nodup

theorem nm_yes {x : Int} (h : x ≠ -1) : nm x = true := by simp [nm, h]
theorem On.sub {E E' : List Int} (h : On E) (s : E'.Sublist E) : On E' := List.Nodup.sublist (s.filter nm) h
theorem On.nil : On [] := List.nodup_nil
theorem On.once {E : List Int} (h : On E) : Once E := by
  have lt : ∀ (p q : Nat) (x : Int), E[p]? = some x → E[q]? = some x → x ≠ -1 → ¬ p < q := by
    intro p q x hp hq hx hlt
    have e := cut_at hq
    have hm : x ∈ E.take q := List.mem_of_getElem? (i := p) (by rw [List.getElem?_take_of_lt hlt]; exact hp)
    unfold On at h
    rw [e, List.filter_append, List.filter_cons_of_pos (nm_yes hx)] at h
    exact (List.nodup_append.1 h).2.2 x (List.mem_filter.2 ⟨hm, nm_yes hx⟩) x (List.mem_cons_self ..) rfl
  intro p q x hp hq hx
  have h1 := lt p q x hp hq hx
  have h2 := lt q p x hq hp hx
  omega
theorem On.ins {E : List Int} (h : On E) {x : Int} (hx : x ∉ E) (i : Nat) : On (ins E i x) := by
  have hp : List.Perm (Ytnnidajflnandaa.ins E i x) (x :: E) := by
    unfold Ytnnidajflnandaa.ins
    refine List.perm_middle.trans ?_
    rw [List.take_append_drop]
  have hf := hp.filter nm
  unfold On
  rw [hf.nodup_iff]
  by_cases h1 : nm x = true
  · rw [List.filter_cons_of_pos h1]
    exact List.nodup_cons.2 ⟨fun hm => hx (List.mem_filter.1 hm).1, h⟩
  · rw [List.filter_cons_of_neg h1]
    exact h
theorem On.snoc {E : List Int} (h : On E) {x : Int} (hx : x ∉ E) : On (E ++ [x]) := by
  have := h.ins hx E.length
  unfold Ytnnidajflnandaa.ins at this
  simpa using this
theorem On.mark {E : List Int} (h : On E) : On (E ++ [-1]) := by
  unfold On
  rw [List.filter_append]
  have h' : (E.filter nm).Nodup := h
  simpa [nm] using h'

theorem cutA_sublist (L : List QN) (n : QN) (E : List Int) : (cutA L n E).Sublist E := by
  unfold cutA
  split
  · exact List.eraseIdx_sublist _ _
  · exact List.Sublist.refl _
theorem On.psh {E : List Int} (h : On E) {m : Nat} (hm : (m : Int) ∉ E) (L : List QN) (n : QN) : On (psh L n E m) :=
  (h.sub (cutA_sublist L n E)).snoc fun hx => hm (cutA_sub L n E _ hx)

/-- one at a place, taken out by its number, or another one put in its place -/
theorem rmv_at {E : List Int} (h : On E) {i : Nat} {x : Int} (hx : E[i]? = some x) (h1 : x ≠ -1) : rmv E x = E.eraseIdx i := by
  have hp := plc_at h1 hx fun q hq => h.once q i x hq hx h1
  unfold rmv
  rw [hp, if_neg (by omega), Int.toNat_natCast]
theorem rpl_at {E : List Int} (h : On E) {i : Nat} {x : Int} (hx : E[i]? = some x) (h1 : x ≠ -1) (y : Int) : rpl E x y = ins (E.eraseIdx i) i y := by
  have hp := plc_at h1 hx fun q hq => h.once q i x hq hx h1
  have hi := (List.getElem?_eq_some_iff.1 hx).1
  unfold rpl ins
  rw [hp, if_neg (by omega), Int.toNat_natCast]
  rw [List.set_eq_take_append_cons_drop, if_pos hi, List.eraseIdx_eq_take_drop_succ]
  rw [List.take_append_of_le_length (by simp; omega), List.take_take, Nat.min_self, List.drop_append_of_le_length (by simp; omega), show List.drop i (List.take i E) = [] from List.drop_eq_nil_of_le (by simp; omega), List.nil_append]
theorem rpl_none {E : List Int} {i : Int} (h : i ∉ E) (y : Int) : rpl E i y = E := by unfold rpl; rw [if_pos (plc_none h)]

theorem ins_mem {E : List Int} {i : Nat} {x y : Int} (h : y ∈ ins E i x) : y = x ∨ y ∈ E := by
  unfold ins at h
  rcases List.mem_append.1 h with h | h
  · exact Or.inr (List.mem_of_mem_take h)
  · rcases List.mem_cons.1 h with h | h
    · exact Or.inl h
    · exact Or.inr (List.mem_of_mem_drop h)
theorem ins_length {E : List Int} {i : Nat} (x : Int) (h : i ≤ E.length) : (ins E i x).length = E.length + 1 := by
  unfold ins
  simp
  omega
end Go.Proofs.Ytnnidajflnandaa
