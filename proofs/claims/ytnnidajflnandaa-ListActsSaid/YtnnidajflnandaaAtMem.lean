/- Lists of attributes in memory: a slice of structs of two strings reads as a list; a row of one's own likewise. -/
import Derived.Test.YtnnidajflnandaaAtMath
import Derived.Test.YtnnidajflnandaaProg
import Derived.WalkKit
import Derived.LoopTactic
import Derived.Below
import Derived.Lib.Hide
import Derived.Lib.AppendZeros
import Derived.Maps.AppendAt
import Derived.Laws.AppendOwnNone
namespace Go.Proofs.Ytnnidajflnandaa.At
open Go.RowKit Go.Lib

/-- a slice of attributes that is not nil: what its cells hold -/
def Cells (L : List At) (b off : Nat) (w : World) : Prop :=
  ∀ i, i < L.length → w.cell? ⟨b, off + i * 2, none⟩ = some (.string ⟨(at0 L i).1.toArray⟩) ∧ w.cell? ⟨b, off + i * 2 + 1, none⟩ = some (.string ⟨(at0 L i).2.toArray⟩)

/-- a slice of attributes, nil or not -/
def Sl (L : List At) (a : Option Addr) (cap : Nat) (w : World) : Prop :=
  L.length ≤ cap ∧ (a = none → L.length = 0 ∧ cap = 0) ∧ (L = [] ∨ ∃ b off, a = some ⟨b, off, none⟩ ∧ Cells L b off w)

theorem Cells.below {L : List At} {b off : Nat} {w w' : World} (h : Cells L b off w) (hb : Below w.heap.size w w') : Cells L b off w' := by
  intro i hi
  obtain ⟨h1, h2⟩ := h i hi
  have hlt : b < w.heap.size := World.block_lt_of_cell? w _ h1
  exact ⟨(World.cell?_of_block (hb.block b hlt)).trans h1, (World.cell?_of_block (hb.block b hlt)).trans h2⟩

theorem Sl.below {L : List At} {a : Option Addr} {cap : Nat} {w w' : World} (h : Sl L a cap w) (hb : Below w.heap.size w w') : Sl L a cap w' := by
  obtain ⟨h1, h2, h3 | ⟨b, off, rfl, hc⟩⟩ := h
  · exact ⟨h1, h2, Or.inl h3⟩
  · exact ⟨h1, h2, Or.inr ⟨b, off, rfl, hc.below hb⟩⟩

theorem Cells.block {L : List At} {b off : Nat} {w w' : World} (h : Cells L b off w) (hb : w'.heap[b]? = w.heap[b]?) : Cells L b off w' := by
  intro i hi
  obtain ⟨h1, h2⟩ := h i hi
  exact ⟨(World.cell?_of_block hb).trans h1, (World.cell?_of_block hb).trans h2⟩

/-- the cells of a list -/
def cellsA (L : List At) : List Value := L.flatMap fun a => [.string ⟨a.1.toArray⟩, .string ⟨a.2.toArray⟩]
theorem cellsA_nil : cellsA [] = [] := rfl
theorem cellsA_len (L : List At) : (cellsA L).length = L.length * 2 := by
  induction L with
  | nil => rfl
  | cons a r ih => unfold cellsA at *; rw [List.flatMap_cons, List.length_append, ih]; simp; omega
theorem cellsA_append (L M : List At) : cellsA (L ++ M) = cellsA L ++ cellsA M := by unfold cellsA; rw [List.flatMap_append]
theorem cellsA_at : ∀ (L : List At) (i : Nat), i < L.length → (cellsA L)[i * 2]? = some (.string ⟨(at0 L i).1.toArray⟩) ∧ (cellsA L)[i * 2 + 1]? = some (.string ⟨(at0 L i).2.toArray⟩)
  | [], _, h => absurd h (by simp)
  | a :: r, 0, _ => ⟨rfl, rfl⟩
  | a :: r, i + 1, h => by
    have ih := cellsA_at r i (by simpa using h)
    rw [show (i + 1) * 2 = i * 2 + 1 + 1 by omega]
    exact ih
theorem cellsA_one (L : List At) : ∀ u ∈ cellsA L, u.oneCell' = true := by
  intro u hu
  unfold cellsA at hu
  obtain ⟨a, _, ha⟩ := List.mem_flatMap.1 hu
  simp at ha
  rcases ha with rfl | rfl <;> rfl

theorem add_lit (b off j : Nat) : (⟨b, off, none⟩ : Addr).add j = ⟨b, off + j, none⟩ := by unfold Addr.add; split <;> simp_all

/-- the cells, one behind the other -/
theorem Cells.news {L : List At} {b off : Nat} {w : World} (h : Cells L b off w) : ∀ (j : Nat) (u : Value), (cellsA L)[j]? = some u → w.cell? ((⟨b, off, none⟩ : Addr).add j) = some u := by
  intro j u hj
  have hjl : j < L.length * 2 := by
    rcases Nat.lt_or_ge j (L.length * 2) with k | k
    · exact k
    · rw [List.getElem?_eq_none (by rw [cellsA_len]; exact k)] at hj; cases hj
  rw [add_lit]
  have hi : j / 2 < L.length := by omega
  obtain ⟨h1, h2⟩ := h (j / 2) hi
  obtain ⟨e1, e2⟩ := cellsA_at L (j / 2) hi
  rcases Nat.mod_two_eq_zero_or_one j with m | m
  · have ej : j / 2 * 2 = j := by omega
    rw [ej] at h1 e1
    rw [h1, ← e1, hj]
  · have ej : j / 2 * 2 + 1 = j := by omega
    rw [Nat.add_assoc, ej] at h2
    rw [ej] at e2
    rw [h2, ← e2, hj]

/-- a row of one's own as a slice -/
theorem sl_own {w : World} {B : Nat} {e : TypeId} {v : Value} {L : List At} (h : w.ownsRow B e 2 v L.length (cellsA L)) :
    ∃ a cap, v = .slice a L.length cap ∧ Sl L a cap w := by
  rcases h.2 with ⟨hv, h0⟩ | ⟨g, cap, cur, hv, hg, hh, hn, hm, hs, ht⟩
  · obtain rfl : L = [] := List.eq_nil_of_length_eq_zero h0
    exact ⟨none, 0, hv, Nat.le_refl _, fun _ => ⟨rfl, rfl⟩, Or.inl rfl⟩
  · refine ⟨_, cap, hv, hn, (fun h => by cases h), Or.inr ⟨g, 0, rfl, fun i hi => ?_⟩⟩
    have hc := h.cells (g := g) (by rw [hv]; rfl)
    obtain ⟨e1, e2⟩ := cellsA_at L i hi
    have h1 := hc _ _ e1
    have h2 := hc _ _ e2
    rw [add_lit] at h1 h2
    exact ⟨h1, by rw [Nat.add_assoc]; exact h2⟩

theorem grown_of_below {w w' : World} (h : Below w.heap.size w w') : w.grownBy w' none := ⟨h.os, h.tape, h.output, h.size, fun k hk _ => h.block k hk⟩

theorem ownsRow_below {w w' : World} {base : Nat} {e : TypeId} {size : Nat} {v : Value} {n : Nat} {xs : List Value} (h : w.ownsRow base e size v n xs) (hb : Below w.heap.size w w') : w'.ownsRow base e size v n xs := by
  refine h.kept (grown_of_below hb) ?_
  cases v.ownBlock with
  | none => exact Or.inl rfl
  | some g => exact Or.inr (by simp)

theorem ownsRow_base {w : World} {base B : Nat} {e : TypeId} {size : Nat} {v : Value} {n : Nat} {xs : List Value} (h : w.ownsRow base e size v n xs) (hB : B ≤ base) : w.ownsRow B e size v n xs := by
  refine ⟨h.1, ?_⟩
  rcases h.2 with hn | ⟨g, cap, cur, rfl, hb, r⟩
  · exact Or.inl hn
  · exact Or.inr ⟨g, cap, cur, rfl, by omega, r⟩

theorem below_alloc {w : World} (o : Obj) : Below w.heap.size w (w.alloc o) := (Below.refl _ w).alloc (Nat.le_refl _) _

theorem ret_bool {a b : Bool} (h : a = b) : Ending.returned (.bool a) = .returned (.bool b) := by rw [h]
end Go.Proofs.Ytnnidajflnandaa.At
