/- What every claim of this seat shares: how names and attributes that came in are read. -/
import Derived.Test.YtnnidajflnandaaNs
import Derived.Test.YtnnidajflnandaaChecked
import Derived.Test.YtnnidajflnandaaRows
import Derived.WalkKit
import Derived.ProofKit
import Derived.OpenShut
import Derived.ChangeOld
import Derived.ChangeMaps5
import Derived.Carry
import Derived.Deep.SlicePairs
import Derived.Deep.Strs
namespace Go.Proofs.Ytnnidajflnandaa
open Go.ChangeShapes Go.WideShapes Go.ChangeAt Go.RowKit
open At (Str cellsA cellsA_len Sl)

theorem own : ownKnob Try.prog.godebug = none := by kernel_rfl
theorem laidOut : laidOutB Try.prog = true := by kernel_rfl

theorem u8_bd {n : Int} (h : (Lit.int .u8 n).wf = true) : ∃ q : Nat, n = (q : Int) ∧ q < 256 := by
  have := bounds_u8 h
  exact ⟨n.toNat, by omega, by omega⟩
theorem str_list (s : ByteArray) : ∃ l : Str, s = ⟨l.toArray⟩ := ⟨s.data.toList, rfl⟩

theorem choose_list {α : Type} (d : α) (n : Nat) (P : Nat → α → Prop) (h : ∀ i, i < n → ∃ x, P i x) : ∃ L : List α, L.length = n ∧ ∀ i, i < n → P i (L.getD i d) := by
  induction n with
  | zero => exact ⟨[], rfl, fun i hi => absurd hi (by omega)⟩
  | succ n ih =>
    obtain ⟨L, hl, hL⟩ := ih (fun i hi => h i (by omega))
    obtain ⟨x, hx⟩ := h n (by omega)
    refine ⟨L ++ [x], by simp [hl], fun i hi => ?_⟩
    rw [List.getD_eq_getElem?_getD]
    rcases Nat.lt_or_ge i n with g | g
    · rw [List.getElem?_append_left (by omega), ← List.getD_eq_getElem?_getD]; exact hL i g
    · obtain rfl : i = n := by omega
      rw [List.getElem?_append_right (by omega), hl, Nat.sub_self]
      exact hx

/-- names that came in, read -/
theorem open_names {H : Type} {enc : TypeId × Value → H} {W : World} {a : Option Addr} {len cap : Nat} {d : DataW H} {p : List MemPlace}
    (h : DataW.Trod enc Try.prog W 0 (fun _ => true) true 26 (.slice a len cap) d p) : ∃ N : List Str, N.length = len ∧ Ns N a cap W := by
  obtain ⟨fuel, hf⟩ := h
  rcases Go.Deep.open_strs Try.underlying26 Try.underlying9 (by kernel_rfl) hf with ⟨hcs, _⟩ | ⟨x, l, c, m, Sx, hcs, _, hl, hm, hmm, _, hx⟩
  · simp [Value.cells] at hcs
    obtain ⟨rfl, rfl, rfl⟩ := hcs
    exact ⟨[], rfl, ⟨Nat.le_refl _, fun _ => ⟨rfl, rfl⟩⟩, Or.inl rfl⟩
  · simp [Value.cells] at hcs
    obtain ⟨rfl, rfl, rfl⟩ := hcs
    simp only [if_true] at hmm
    subst hmm
    obtain ⟨N, hN, hNi⟩ := choose_list (α := Str) [] len (fun i y => W.cell? (x.add i) = some (.string ⟨y.toArray⟩)) (by
      intro i hi
      obtain ⟨h1, -⟩ := hx i (by omega)
      obtain ⟨l1, e1⟩ := str_list (Sx i)
      exact ⟨l1, by rw [h1, e1]⟩)
    refine ⟨N, hN, ⟨by omega, fun h => by cases h⟩, ?_⟩
    by_cases h0 : len = 0
    · left; exact List.eq_nil_of_length_eq_zero (by omega)
    · right
      obtain ⟨b, off, spot⟩ := x
      have hspot : spot = none := by simpa [Addr.add] using World.cell?_spot (hNi 0 (by omega))
      subst hspot
      refine ⟨b, off, rfl, fun j s hs => ?_⟩
      have hj : j < len := by have := (List.getElem?_eq_some_iff.1 hs).1; omega
      have k := hNi j hj
      rw [At.add_lit, List.getD_eq_getElem?_getD, hs] at k
      exact k

/-- attributes that came in, read -/
theorem open_attrs {H : Type} {enc : TypeId × Value → H} {W : World} {a : Option Addr} {len cap : Nat} {d : DataW H} {p : List MemPlace}
    (h : DataW.Trod enc Try.prog W 0 (fun _ => true) true 35 (.slice a len cap) d p) : ∃ L : List At.At, L.length = len ∧ Sl L a cap W := by
  obtain ⟨fuel, hf⟩ := h
  rcases Go.Deep.open_slice_pairs Try.underlying35 Try.underlying71 (by kernel_rfl) rfl rfl (by kernel_rfl) (by kernel_rfl) hf with ⟨hcs, _⟩ | ⟨x, l, c, m, n, V0, V1, D0, D1, P0, P1, hcs, _, hl, hm, hmm, _, hx⟩
  · simp [Value.cells] at hcs
    obtain ⟨rfl, rfl, rfl⟩ := hcs
    exact ⟨[], rfl, Nat.zero_le _, fun _ => ⟨rfl, rfl⟩, Or.inl rfl⟩
  · simp [Value.cells] at hcs
    obtain ⟨rfl, rfl, rfl⟩ := hcs
    simp only [if_true] at hmm
    subst hmm
    obtain ⟨L, hL, hLi⟩ := choose_list (α := At.At) ([], []) len (fun i y => W.cell? (x.add (i * 2)) = some (.string ⟨y.1.toArray⟩) ∧ W.cell? (x.add (i * 2 + 1)) = some (.string ⟨y.2.toArray⟩)) (by
      intro i hi
      obtain ⟨h1, h2, h3, h4⟩ := hx i (by omega)
      obtain ⟨s, hs, _⟩ := DataW.trod_string Try.underlying9 h3
      obtain ⟨t, ht, _⟩ := DataW.trod_string Try.underlying9 h4
      obtain ⟨l1, rfl⟩ := str_list s
      obtain ⟨l2, rfl⟩ := str_list t
      simp only [List.cons.injEq, and_true] at hs ht
      exact ⟨(l1, l2), by rw [h1, hs], by rw [h2, ht]⟩)
    refine ⟨L, hL, by omega, (fun h => by cases h), ?_⟩
    by_cases h0 : len = 0
    · left; exact List.eq_nil_of_length_eq_zero (by omega)
    · right
      obtain ⟨b, off, spot⟩ := x
      have hspot : spot = none := by simpa [Addr.add] using World.cell?_spot (hLi 0 (by omega)).1
      subst hspot
      refine ⟨b, off, rfl, fun i hi => ?_⟩
      obtain ⟨k1, k2⟩ := hLi i (by omega)
      rw [At.add_lit] at k1 k2
      exact ⟨k1, by rw [Nat.add_assoc]; exact k2⟩
end Go.Proofs.Ytnnidajflnandaa
