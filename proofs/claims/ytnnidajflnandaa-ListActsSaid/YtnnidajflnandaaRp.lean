/- The document's Push, walked. -/
import Derived.Test.YtnnidajflnandaaRq
import Derived.Test.YtnnidajflnandaaAtRSame
namespace Go.Proofs.Ytnnidajflnandaa
open Go.RowKit Go.Lib
open At (Str cellsA cellsA_len Sl)

theorem bw_fst (R : List Int) : (bw R).map (·.1) = (List.range R.length).reverse := by
  induction R with
  | nil => rfl
  | cons i r ih => simp only [bw, List.map_cons, ih, List.length_cons, List.range_succ, List.reverse_append, List.reverse_cons, List.reverse_nil, List.nil_append, List.cons_append]

/-- the places behind the last mark -/
theorem bb_fst (E : List Int) : (bb E.reverse).map (·.1) = (List.range' (snc E) (E.length - snc E)).reverse := by
  obtain ⟨s, hs⟩ := bb_pre E.reverse
  have hb : (bb E.reverse).length ≤ E.length := by
    have := congrArg List.length hs
    rw [bw_len, List.length_reverse, List.length_append] at this
    omega
  have h1 : (bb E.reverse).map (·.1) = ((bw E.reverse).map (·.1)).take (bb E.reverse).length := by
    rw [hs, List.map_append, List.take_append_of_le_length (by simp), List.take_of_length_le (by simp)]
  rw [h1, bw_fst, List.length_reverse, List.take_reverse, List.length_range, List.range_eq_range', List.drop_range']
  unfold snc
  rw [Nat.zero_add, Nat.mul_one]

/-- is the one at a place alike? -/
def hit (L : List QN) (s : List UInt8) (t : List At.At) (E : List Int) (j : Nat) : Bool := match E[j]? with | some x => alk L s t x | none => false
def U (L : List QN) (s : List UInt8) (t : List At.At) (E : List Int) (i : Nat) : List Nat := (List.range' (snc E) (i - snc E)).filter (hit L s t E)
def fh (l : List Nat) : Int := match l.head? with | some p => (p : Int) | none => -1

theorem U_yes {L : List QN} {s : List UInt8} {t : List At.At} {E : List Int} {i : Nat} (hi : snc E ≤ i) (h : hit L s t E i = true) : U L s t E (i + 1) = U L s t E i ++ [i] := by
  unfold U
  rw [show i + 1 - snc E = (i - snc E) + 1 by omega, List.range'_concat, List.filter_append, show snc E + 1 * (i - snc E) = i by omega]
  simp [h]
theorem U_no {L : List QN} {s : List UInt8} {t : List At.At} {E : List Int} {i : Nat} (hi : snc E ≤ i) (h : hit L s t E i = false) : U L s t E (i + 1) = U L s t E i := by
  unfold U
  rw [show i + 1 - snc E = (i - snc E) + 1 by omega, List.range'_concat, List.filter_append, show snc E + 1 * (i - snc E) = i by omega]
  simp [h]
theorem fh_snoc (l : List Nat) (i : Nat) : fh (l ++ [i]) = if l = [] then (i : Int) else fh l := by
  cases l with
  | nil => rfl
  | cons x r => simp [fh]
theorem fh_lt {l : List Nat} : fh l < 0 ↔ l = [] := by
  cases l with
  | nil => simp [fh]
  | cons x r => simp [fh]

theorem U_flt (L : List QN) (s : List UInt8) (t : List At.At) (E : List Int) : (flt L s t (bb E.reverse)).map (·.1) = (U L s t E E.length).reverse := by
  have h1 : flt L s t (bb E.reverse) = (bb E.reverse).filter ((hit L s t E) ∘ (·.1)) := by
    unfold flt
    refine List.filter_congr fun p hp => ?_
    simp only [Function.comp, hit, (bb_mem hp).2.2]
  rw [h1, ← List.filter_map, bb_fst, List.filter_reverse]
  rfl
theorem U_len (L : List QN) (s : List UInt8) (t : List At.At) (E : List Int) : (flt L s t (bb E.reverse)).length = (U L s t E E.length).length := by
  have := congrArg List.length (U_flt L s t E)
  simpa using this
theorem U_fst (L : List QN) (s : List UInt8) (t : List At.At) (E : List Int) : fst (flt L s t (bb E.reverse)) = fh (U L s t E E.length) := by
  have h := congrArg List.getLast? (U_flt L s t E)
  rw [List.getLast?_map, List.getLast?_reverse] at h
  unfold fst fh
  rw [← h]
  cases (flt L s t (bb E.reverse)).getLast? <;> rfl

theorem ri_src {E : List Int} {a : Option Addr} {c : Nat} {w : World} (h : Ri E a c w) : Src Try.prog 1 29 (.slice a E.length c) E.length (ints E) w := by
  cases a with
  | none =>
    obtain ⟨h0, rfl⟩ := h.1.2 rfl
    obtain rfl : E = [] := List.eq_nil_of_length_eq_zero h0
    exact nil_src w
  | some ad =>
    by_cases h0 : E = []
    · subst h0
      exact no_src ad c w
    · rcases h.2 with h1 | ⟨b, hb, hc⟩
      · exact absurd h1 h0
      · cases hb
        have := part_src (c' := c) h 0 E.length (by omega)
        rw [List.drop_zero, List.take_length] at this
        exact this

/-- a copy with one more -/
theorem copy_push {E : List Int} {a : Option Addr} {c : Nat} {w : World} (h : Ri E a c w) (hl : E.length ≤ 1000000) (x : Int) :
    ∃ v1 w1 v2 w2, (Builtin.append_ #[29, 29] 29 #[.slice (some ⟨w.heap.size, 0, none⟩) 0 0, .slice a E.length c]).run Try.prog (w.alloc (.cells #[] 3)) = .ok v1 w1 ∧ (Builtin.append_ #[29, 29] 29 #[v1, .slice (some ⟨w1.heap.size, 0, none⟩) 1 1]).run Try.prog (w1.alloc (.cells #[.int .i64 x] 3)) = .ok v2 w2 ∧
      Rw w.heap.size 3 1 v2 (E ++ [x]).length (ints (E ++ [x])) w2 ∧ Below w.heap.size w w2 := by
  have hA : Below w.heap.size w (w.alloc (.cells #[] 3)) := At.below_alloc _
  obtain ⟨v1, w1, r1, q1, b1⟩ := app_more (row_empty w) (ri_src (h.below hA)) (by omega) hA.size
  rw [List.nil_append, Nat.zero_add] at q1
  have hs1 := Nat.le_trans hA.size b1.size
  have hA1 : Below w1.heap.size w1 (w1.alloc (.cells #[.int .i64 x] 3)) := At.below_alloc _
  obtain ⟨v2, w2, r2, q2, b2⟩ := app_more (q1.below hA1) (one_src w1 x) (by omega) (Nat.le_trans hs1 hA1.size)
  rw [← ints_append, show E.length + 1 = (E ++ [x]).length by simp] at q2
  exact ⟨v1, w1, v2, w2, r1, r2, q2, hA.trans (b1.trans ((hA1.mono hs1).trans b2))⟩

theorem sl_heap {L : List At.At} {a : Option Addr} {c : Nat} {w W : World} (h : Sl L a c w) (hW : W.heap = w.heap) : Sl L a c W := by
  refine ⟨h.1, h.2.1, ?_⟩
  rcases h.2.2 with h0 | ⟨b, off, rfl, hc⟩
  · exact Or.inl h0
  · refine Or.inr ⟨b, off, rfl, fun i hi => ?_⟩
    obtain ⟨h1, h2⟩ := hc i hi
    exact ⟨(World.cell?_of_block (a := ⟨b, off + i * 2, none⟩) (by rw [hW])).trans h1, (World.cell?_of_block (a := ⟨b, off + i * 2 + 1, none⟩) (by rw [hW])).trans h2⟩
end Go.Proofs.Ytnnidajflnandaa
