/- Names that came in: how they lie in memory. -/
import Derived.Test.YtnnidajflnandaaSp
namespace Go.Proofs.Ytnnidajflnandaa
open Go.RowKit Go.Lib
open At (Str cellsA cellsA_len Sl)

/-- names that came in -/
def Ns (N : List Str) (a : Option Addr) (c : Nat) (w : World) : Prop :=
  Fits N.length a c ∧ (N = [] ∨ ∃ b off, a = some ⟨b, off, none⟩ ∧ ∀ (j : Nat) (s : Str), N[j]? = some s → w.cell? ⟨b, off + j, none⟩ = some (.string ⟨s.toArray⟩))
theorem Ns.below {N : List Str} {a : Option Addr} {c : Nat} {w w' : World} (h : Ns N a c w) (hb : Below w.heap.size w w') : Ns N a c w' := by
  refine ⟨h.1, ?_⟩
  rcases h.2 with h0 | ⟨b, off, rfl, hc⟩
  · exact Or.inl h0
  · exact Or.inr ⟨b, off, rfl, fun j s hs => (hb.cell (p := ⟨b, off + j, none⟩) (World.block_lt_of_cell? w _ (hc j s hs))).trans (hc j s hs)⟩
theorem Ns.at {N : List Str} {a : Option Addr} {c : Nat} {w : World} (h : Ns N a c w) {j : Nat} (hj : j < N.length) : ∃ b off, a = some ⟨b, off, none⟩ ∧ w.cell? ⟨b, off + j, none⟩ = some (.string ⟨(N[j]).toArray⟩) := by
  rcases h.2 with h0 | ⟨b, off, rfl, hc⟩
  · subst h0; simp at hj
  · exact ⟨b, off, rfl, hc j _ (List.getElem?_eq_getElem hj)⟩

theorem psh_len (L : List QN) (n : QN) (E : List Int) (m : Nat) : (psh L n E m).length ≤ E.length + 1 := by
  unfold psh
  have := cutA_len L n E
  simp
  omega
theorem ST.hB {B R Ls : Nat} {w : World} {L : List QN} {E : List Int} {vn v : Value} (h : ST B w R Ls L E vn v) : B ≤ w.heap.size := Nat.le_trans h.lr.hB (Nat.le_of_lt h.lr.lt)
theorem ST.ev {B R Ls : Nat} {w w' : World} {L : List QN} {E : List Int} {vn v : Value} (h : ST B w R Ls L E vn v) (hb : Below w.heap.size w w') : Ev B v v w w' := Ev.of_below h.hB hb
theorem Ok.notin {L : List QN} {E : List Int} (h : Ok L E) (m : Nat) (hm : L.length ≤ m) : (m : Int) ∉ E := fun hx => by
  have := (h _ hx (by omega)).2
  simp at this
  omega
end Go.Proofs.Ytnnidajflnandaa
