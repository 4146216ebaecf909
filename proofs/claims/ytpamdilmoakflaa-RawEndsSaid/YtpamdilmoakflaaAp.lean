/- Rows of bytes of the call's own, out of a constant, and what is appended to them. -/
import Derived.Test.YtpamdilmoakflaaSpk
import Derived.Deep.Upon
import Derived.Lib.AppendStr
import Derived.Maps.AppendAt
import Derived.Lib.AppendZeros
namespace Go.Proofs.Ytpamdilmoakflaa
open Go.RowKit Go.Lib

variable {w w' : World}

theorem info5 : ∃ j, Try.prog.info? 5 = some j ∧ (j.zero, j.size, j.bytes) = (some (.int .u8 0), 1, 1) :=
  Option.map_eq_some_iff.1 (by kernel_rfl : (Try.prog.info? 5).map (fun i => (i.zero, i.size, i.bytes)) = some (some (.int .u8 0), 1, 1))

theorem addr_add0 (g j : Nat) : (⟨g, 0, none⟩ : Addr).add j = ⟨g, j, none⟩ := by unfold Addr.add; split <;> simp_all
theorem addr_add (b o j : Nat) : (⟨b, o, none⟩ : Addr).add j = ⟨b, o + j, none⟩ := by unfold Addr.add; split <;> simp_all

theorem cellsB_length (l : List UInt8) : (cellsB l).length = l.length := List.length_map _
theorem cellsB_append (l m : List UInt8) : cellsB (l ++ m) = cellsB l ++ cellsB m := List.map_append
theorem cellsB_str (l : List UInt8) : strCells ⟨l.toArray⟩ = cellsB l := rfl
theorem cellsB_one (l : List UInt8) : ∀ u ∈ cellsB l, u.oneCell' = true := by
  intro u hu
  obtain ⟨_, _, rfl⟩ := List.mem_map.1 hu
  rfl
theorem Cells.news {l : List UInt8} {b off : Nat} (h : Cells l b off w) : ∀ (j : Nat) (u : Value), (cellsB l)[j]? = some u → w.cell? ((⟨b, off, none⟩ : Addr).add j) = some u := by
  intro j u hu
  have hj : j < l.length := by
    rcases Nat.lt_or_ge j l.length with h' | h'
    · exact h'
    · rw [List.getElem?_eq_none (by rw [cellsB_length]; exact h')] at hu; cases hu
  rw [cellsB_at hj] at hu
  rw [addr_add, h j hj, hu]

/-- a constant's row has no room: what is appended makes a new one -/
theorem grow_src (tx : TypeId) (s t : List UInt8) (g : Nat) (x : Value) (w : World) (hs : Src Try.prog 1 tx x t.length (cellsB t) w) (hc : Cells s g 0 w) (ht : 0 < t.length) (hlen : s.length + t.length ≤ 100000) :
    ∃ v' w', (Builtin.append_ #[22, tx] 22 #[.slice (some ⟨g, 0, none⟩) s.length s.length, x]).run Try.prog w = .ok v' w' ∧ w'.ownsRow w.heap.size 5 1 v' (s ++ t).length (cellsB (s ++ t)) ∧ w.grownBy w' none := by
  obtain ⟨i5, hi5, hp5⟩ := info5
  simp only [Prod.mk.injEq] at hp5
  obtain ⟨hz5, hsz5, hby5⟩ := hp5
  have hold := run_firstCells_some (P := Try.prog) w.drew i5.size s.length ⟨g, 0, none⟩ s.length s.length (cellsB s) (by rw [cellsB_length, hsz5, Nat.mul_one]) (by simpa using hc.news)
  have hge := grownCap_ge w (s.length + t.length) s.length 5
  have hcm : grownCap w (s.length + t.length) s.length 5 ≤ maxLen := grownCap_le_maxLen w (s.length + t.length) s.length 5 (by unfold maxLen; omega)
  have hr := run_append_grow_src (P := Try.prog) w 22 tx 22 5 i5 (.int .u8 0) Try.underlying22 hi5 hz5 (some ⟨g, 0, none⟩) s.length s.length (cellsB s) hold x t.length (cellsB t) (by rw [hsz5]; exact hs) (by omega) (by omega) (by rw [hby5]; exact growslice_fits (by omega) (by omega))
  have hl : (cellsB s ++ cellsB t).length = s.length + t.length := by rw [List.length_append, cellsB_length, cellsB_length]
  refine ⟨_, _, hr, ⟨by rw [cellsB_length, Nat.mul_one], .inr ⟨w.heap.size, _, _, by rw [List.length_append], Nat.le_refl _, heap_alloc_new w.drew _, by rw [List.length_append]; exact hge, hcm, ?_, ?_⟩⟩, ⟨rfl, rfl, rfl, by simp, fun k hk _ => Below.heap_alloc w.drew _ k hk⟩⟩
  · rw [Array.size_append, List.size_toArray, size_zeroCells, hl]
    simp only [Value.cells, List.size_toArray, List.length_cons, List.length_nil]
    omega
  · rw [Array.toList_append, List.length_append, Nat.mul_one, ← hl, cellsB_append]
    exact List.take_left

/-- a row of bytes of the call's own: a constant's, or one that was made -/
def Mine (s : List UInt8) (B : Nat) (v : Value) (w : World) : Prop :=
  w.ownsRow B 5 1 v s.length (cellsB s) ∨ ∃ g, v = .slice (some ⟨g, 0, none⟩) s.length s.length ∧ Cells s g 0 w ∧ B ≤ g

theorem grown_of {w w' : World} (h : Below w.heap.size w w') : w.grownBy w' none := ⟨h.os, h.tape, h.output, h.size, fun k hk _ => h.block k hk⟩
theorem ownsRow_below {base : Nat} {e : TypeId} {size : Nat} {v : Value} {n : Nat} {xs : List Value} (h : w.ownsRow base e size v n xs) (hb : Below w.heap.size w w') : w'.ownsRow base e size v n xs := by
  refine h.kept (grown_of hb) ?_
  cases v.ownBlock with
  | none => exact Or.inl rfl
  | some g => exact Or.inr (by simp)
theorem Mine.below {s : List UInt8} {B : Nat} {v : Value} (h : Mine s B v w) (hb : Below w.heap.size w w') : Mine s B v w' := by
  rcases h with h | ⟨g, hv, hc, hB⟩
  · exact Or.inl (ownsRow_below h hb)
  · exact Or.inr ⟨g, hv, hc.below hb, hB⟩

/-- as a slice -/
theorem Mine.sl {s : List UInt8} {B : Nat} {v : Value} (h : Mine s B v w) : ∃ a cap, v = .slice a s.length cap ∧ Sl s a cap w := by
  rcases h with h | ⟨g, hv, hc, hB⟩
  · rcases h.2 with ⟨hv, h0⟩ | ⟨g, cap, cur, hv, hg, hh, hn, r⟩
    · obtain rfl : s = [] := List.eq_nil_of_length_eq_zero h0
      exact ⟨none, 0, hv, Nat.zero_le _, Or.inl rfl⟩
    · refine ⟨some ⟨g, 0, none⟩, cap, hv, hn, Or.inr ⟨g, 0, rfl, fun j hj => ?_⟩⟩
      have := h.cells (g := g) (by rw [hv]; rfl) j _ (cellsB_at hj)
      rw [addr_add0] at this
      rw [Nat.zero_add]
      exact this
  · exact ⟨_, _, hv, Nat.le_refl _, Or.inr ⟨g, 0, rfl, hc⟩⟩

theorem below_grown {w0 : World} (hb : Below w0.heap.size w0 w) {r : Option Nat} (hg : w.grownBy w' r) (hr : ∀ k, r = some k → w0.heap.size ≤ k) : Below w0.heap.size w0 w' :=
  hb.grown hg hb.size hr

/-- bytes behind it -/
theorem Mine.slice {s t : List UInt8} {v : Value} {w0 : World} (h : Mine s w0.heap.size v w) (hb : Below w0.heap.size w0 w) (b off c : Nat) (ht : 0 < t.length) (hc : Cells t b off w) (hlen : s.length + t.length ≤ 100000) :
    ∃ v' w', (Builtin.append_ #[22, 22] 22 #[v, .slice (some ⟨b, off, none⟩) t.length c]).run Try.prog w = .ok v' w' ∧ Mine (s ++ t) w0.heap.size v' w' ∧ Below w0.heap.size w0 w' := by
  have hsz := hb.size
  rcases h with h | ⟨g, rfl, hcs, hB⟩
  · obtain ⟨i5, hi5, hp5⟩ := info5
    simp only [Prod.mk.injEq] at hp5
    obtain ⟨hz5, hsz5, hby5⟩ := hp5
    obtain ⟨v', w', hr, h2, h3, _, h5⟩ := run_append_own_at (P := Try.prog) w w0.heap.size 22 22 5 i5 (.int .u8 0) 1 1 Try.underlying22 hi5 hz5 hsz5 hby5 rfl (by decide) v s.length (cellsB s) h ⟨b, off, none⟩ t.length c (cellsB t) (by rw [cellsB_length, Nat.mul_one]) hc.news (cellsB_one t) (by unfold maxLen; omega) (by omega) hsz
    refine ⟨v', w', hr, Or.inl (by rw [List.length_append, cellsB_append]; exact h2), below_grown hb h3 (fun k hk => (h.lt k hk).1)⟩
  · obtain ⟨v', w', hr, h2, h3⟩ := grow_src 22 s t g _ w (Src.ofSlice w Try.underlying22 ⟨b, off, none⟩ t.length c (cellsB t) (by rw [cellsB_length, Nat.mul_one]) hc.news (cellsB_one t)) hcs ht hlen
    refine ⟨v', w', hr, Or.inl ⟨h2.1, ?_⟩, below_grown hb h3 (fun k hk => by cases hk)⟩
    rcases h2.2 with k | ⟨g', cap, cur, hv, hg, r⟩
    · exact Or.inl k
    · exact Or.inr ⟨g', cap, cur, hv, by omega, r⟩

theorem Mine.str {s : List UInt8} {v : Value} {w0 : World} (h : Mine s w0.heap.size v w) (hb : Below w0.heap.size w0 w) (t : List UInt8) (ht : 0 < t.length) (hlen : s.length + t.length ≤ 100000) :
    ∃ v' w', (Builtin.append_ #[22, 9] 22 #[v, .string ⟨t.toArray⟩]).run Try.prog w = .ok v' w' ∧ Mine (s ++ t) w0.heap.size v' w' ∧ Below w0.heap.size w0 w' := by
  have hsz := hb.size
  rcases h with h | ⟨g, rfl, hcs, hB⟩
  · obtain ⟨i5, hi5, hp5⟩ := info5
    simp only [Prod.mk.injEq] at hp5
    obtain ⟨hz5, hsz5, hby5⟩ := hp5
    obtain ⟨v', w', hr, h2, h3, _⟩ := run_append_own_string (P := Try.prog) w w0.heap.size 22 9 22 5 i5 Try.underlying22 Try.underlying9 hi5 hz5 hsz5 hby5 v s.length (cellsB s) h ⟨t.toArray⟩ (by rw [str_size]; unfold maxLen; omega) (by rw [str_size]; omega) hsz
    rw [str_size, cellsB_str] at h2
    refine ⟨v', w', hr, Or.inl (by rw [List.length_append, cellsB_append]; exact h2), below_grown hb h3 (fun k hk => (h.lt k hk).1)⟩
  · have hS := Src.ofString (P := Try.prog) w (tx := 9) Try.underlying9 ⟨t.toArray⟩
    rw [str_size] at hS
    obtain ⟨v', w', hr, h2, h3⟩ := grow_src 9 s t g _ w hS hcs ht hlen
    refine ⟨v', w', hr, Or.inl ⟨h2.1, ?_⟩, below_grown hb h3 (fun k hk => by cases hk)⟩
    rcases h2.2 with k | ⟨g', cap, cur, hv, hg, r⟩
    · exact Or.inl k
    · exact Or.inr ⟨g', cap, cur, hv, by omega, r⟩

/-- nothing behind it -/
theorem append_none {v : Value} {s : List UInt8} {B : Nat} (h : Mine s B v w) (a : Option Addr) (c : Nat) : (Builtin.append_ #[22, 22] 22 #[v, .slice a 0 c]).run Try.prog w = .ok v w := by
  obtain ⟨i5, hi5, hp5⟩ := info5
  simp only [Prod.mk.injEq] at hp5
  obtain ⟨hz5, hsz5, hby5⟩ := hp5
  obtain ⟨a', cap, rfl, hs⟩ := h.sl
  have hS : Src Try.prog i5.size 22 (.slice a 0 c) 0 [] w := by
    cases a with
    | none => exact Src.ofNil w Try.underlying22 c
    | some x => exact Src.ofSlice w Try.underlying22 x 0 c [] (by simp) (by simp) (by simp)
  exact run_append_nothing (P := Try.prog) w 22 22 22 5 i5 Try.underlying22 hi5 a' s.length cap hs.1 _ hS
end Go.Proofs.Ytpamdilmoakflaa
