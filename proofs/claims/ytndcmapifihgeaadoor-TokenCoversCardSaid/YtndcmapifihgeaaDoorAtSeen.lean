/- A map of names of the call's own: which names it bears; looked up, and written. -/
import Derived.Test.YtndcmapifihgeaaDoorAtMath2
import Derived.Maps.Views
import Derived.Maps.OwnOps
namespace Go.Proofs.YtndcmapifihgeaaDoor.At
open Go.RowKit Go.Lib Go.Maps Go.ChangeMaps

/-- the map's block bears just these names -/
def Seen (S : List Str) (b n : Nat) (w : World) : Prop :=
  ∃ D : DataW Unit, w.ownsMap Tryd.prog 9 (plainElem Tryd.prog 4) b n D ∧ IsMap D ∧ ∀ s : Str, D.atKey (.string s) (.lit (.bool false)) = .lit (.bool (decide (s ∈ S)))

theorem law9 : Keyed Tryd.prog 9 := string_keyed Tryd.underlying9
theorem zero4 (w : World) : (zeroValue 4).run Tryd.prog w = .ok (.bool false) w := by kernel_rfl
theorem key9 {s : Str} (h : s.length ≤ maxLen) : keyOf Tryd.prog 9 (.string ⟨s.toArray⟩) = some (.string s) := Go.WideMaps.keyOf_string_mk Tryd.underlying9 (s := ⟨s.toArray⟩) (show s.toArray.size ≤ maxLen by simpa using h)

theorem seen_made (w : World) : Seen [] w.heap.size 0 (w.alloc (.map #[] 0)) := by
  refine ⟨.map [], World.ownsMap_made w _ _ _, ⟨[], rfl⟩, fun s => ?_⟩
  rw [decide_eq_false (by simp)]
  rfl

theorem Seen.kept {S : List Str} {b n : Nat} {w w' : World} {row : Option Nat} (h : Seen S b n w) (hg : w.grownBy w' row) (hne : some b ≠ row) : Seen S b n w' := by
  obtain ⟨D, h1, h2, h3⟩ := h
  exact ⟨D, h1.kept hg hne, h2, h3⟩

set_option maxRecDepth 100000 in
theorem bool_inv {v : Value} {z : DataW Unit × List MemPlace} (h : plainElem Tryd.prog 4 v = some z) : ∃ x, v = .bool x ∧ z = (.lit (.bool x), []) := by
  unfold plainElem at h
  rw [Tryd.underlying4] at h
  cases v <;> simp at h
  exact ⟨_, rfl, h.symm⟩

set_option maxRecDepth 100000 in
/-- 'seen[s]' -/
theorem Seen.look {S : List Str} {b n : Nat} {w : World} (h : Seen S b n w) {s : Str} (hs : s.length ≤ maxLen) :
    (Instr.lookup 106 (.map (some b)) (.string ⟨s.toArray⟩) false).run Tryd.prog w = .ok (.bool (decide (s ∈ S))) w := by
  obtain ⟨D, h1, h2, h3⟩ := h
  obtain ⟨v, ps, hrun, hv⟩ := h1.lookup law9 Tryd.underlying106 (zero4 w) (plainElem_bool Tryd.underlying4 false) (key9 hs)
  obtain ⟨x, rfl, hx⟩ := bool_inv hv
  simp only [Prod.mk.injEq] at hx
  rw [h3 s] at hx
  have := hx.1
  injection this with this
  injection this with this
  rw [hrun, this]

set_option maxRecDepth 100000 in
/-- 'seen[s] = true' -/
theorem Seen.put {S : List Str} {b n : Nat} {w : World} (h : Seen S b n w) (hn : n < maxLen) {s : Str} (hs : s.length ≤ maxLen) :
    ∃ w', (Instr.mapUpdate 106 (.map (some b)) (.string ⟨s.toArray⟩) (.bool true)).run Tryd.prog w = .ok () w' ∧ Seen (S ++ [s]) b (n + 1) w' ∧ w.grownBy w' (some b) := by
  obtain ⟨D, h1, h2, h3⟩ := h
  obtain ⟨w', hrun, h4, h5⟩ := h1.update law9 Tryd.underlying106 hn (key9 hs) (plainElem_bool Tryd.underlying4 true)
  refine ⟨w', hrun, ⟨_, h4, h2.put _ _, fun t => ?_⟩, h5⟩
  by_cases he : t = s
  · subst he
    rw [atKey_put_same h2 (k := .string t) (by simp [WideAt.IsKeyLit]), decide_eq_true (by simp)]
  · rw [atKey_put_other (by intro e; injection e with e; exact he e), h3 t]
    congr 2
    exact decide_eq_decide.2 (by simp [he])
end Go.Proofs.YtndcmapifihgeaaDoor.At
