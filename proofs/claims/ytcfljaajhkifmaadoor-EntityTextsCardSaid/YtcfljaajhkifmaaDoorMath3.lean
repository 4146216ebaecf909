/- What is found behind a name, and of a name alone. Nothing here is of the program. -/
import Derived.Test.YtcfljaajhkifmaaDoorMath2
namespace Go.Proofs.YtcfljaajhkifmaaDoor

theorem name_facts {x : List UInt8} (h : x ∈ nameL) : findL x = (x.length, mean x) ∧ (x, mean x) ∈ nmL ∧ x.length ≤ 8 ∧ 2 ≤ x.length := by
  have h1 := List.all_eq_true.1 names_tell x h
  unfold tellsName at h1
  simp only [Bool.and_eq_true, decide_eq_true_eq, beq_iff_eq] at h1
  obtain ⟨⟨h1, h2⟩, h3⟩ := h1
  rcases findL_is x with ⟨h4, _, _⟩ | ⟨h4, _, _⟩
  · omega
  · rw [h1, List.take_length] at h4
    have h5 := (nm_facts _ h4).1
    simp only at h5
    refine ⟨?_, ?_, h2, h3⟩
    · rw [Prod.ext_iff]
      exact ⟨h1, h5.symm⟩
    · rw [h5]; exact h4

theorem find_behind {x : List UInt8} (h : x ∈ nameL) (b : List UInt8) :
    x.length ≤ (findL (x ++ b)).1 ∧ (findL (x ++ b)).1 ≤ x.length + b.length ∧ ((findL (x ++ b)).1 = x.length → (findL (x ++ b)).2 = mean x) ∧
    findL ((x ++ b).take (findL (x ++ b)).1) = findL (x ++ b) := by
  obtain ⟨-, h2, -, h4⟩ := name_facts h
  have hp : x <+: x ++ b := List.prefix_append x b
  have hf := findL_is (x ++ b)
  generalize findL (x ++ b) = q at hf
  obtain ⟨n, t⟩ := q
  simp only at hf ⊢
  rcases hf with ⟨-, -, k⟩ | ⟨k1, k2, k3⟩
  · exact absurd hp (k _ h2)
  · have k4 := k3 _ h2 hp
    simp only at k4
    refine ⟨k4, by simpa using k2, fun e => ?_, ?_⟩
    · subst e
      rw [List.take_left'  rfl] at k1
      exact (nm_facts _ k1).1.symm
    · refine (findL_is ((x ++ b).take n)).one (Or.inr ⟨?_, ?_, fun p hp hl => ?_⟩)
      · rw [List.take_take, Nat.min_self]; exact k1
      · rw [List.length_take]; omega
      · have := hl.length_le
        rw [List.length_take] at this
        omega

/-- the byte at a place, as a number -/
def at0 (l : List UInt8) (j : Nat) : Nat := (l.getD j 0).toNat

/-- a name ends with a semicolon, or has the same text with one -/
def semiTells (l : List UInt8) : Bool := (at0 l (l.length - 1) == 59) || (findL (l ++ [59]) == (l.length + 1, (findL l).2))

set_option maxRecDepth 100000 in
theorem names_semi : nameL.all semiTells = true := by decide

theorem name_at (k : Nat) (h : k < 61) : nameL.getD k [] ∈ nameL := by
  have hk : k < nameL.length := h
  rw [List.getD_eq_getElem?_getD, List.getElem?_eq_getElem hk]
  exact List.getElem_mem hk

end Go.Proofs.YtcfljaajhkifmaaDoor
