/- Entries behind a mark; names that came in, one behind the other. -/
import Derived.Test.YtnnidajflnandaaLPl
namespace Go.Proofs.Ytnnidajflnandaa
open Go.RowKit Go.Lib
open At (Str cellsA cellsA_len Sl)

theorem bb_front : ∀ {H : List Int} (r : List Int), (∀ x ∈ H, x ≠ -1) → (bb (H ++ -1 :: r)).length = H.length ∧ ∀ p ∈ bb (H ++ -1 :: r), r.length + 1 ≤ p.1 := by
  intro H
  induction H with
  | nil => intro r _; rw [List.nil_append, bb_mark]; exact ⟨rfl, fun p hp => by cases hp⟩
  | cons i H ih =>
    intro r hn
    obtain ⟨h1, h2⟩ := ih r fun x hx => hn x (List.mem_cons_of_mem _ hx)
    rw [List.cons_append, bb_cons (hn i (List.mem_cons_self ..))]
    refine ⟨by simp [h1], fun p hp => ?_⟩
    rcases List.mem_cons.1 hp with rfl | hp
    · simp
    · exact h2 p hp

theorem behind_rev (W G : List Int) : (W ++ -1 :: G).reverse = G.reverse ++ -1 :: W.reverse := by simp

theorem bb_behind {W G : List Int} (h : ∀ x ∈ G, x ≠ -1) : (bb (W ++ -1 :: G).reverse).length = G.length ∧ ∀ p ∈ bb (W ++ -1 :: G).reverse, W.length + 1 ≤ p.1 := by
  rw [behind_rev]
  have := bb_front (H := G.reverse) W.reverse fun x hx => h x (List.mem_reverse.1 hx)
  simpa using this

theorem clr_behind {W G : List Int} (h : ∀ x ∈ G, x ≠ -1) : (W ++ -1 :: G).take (clrN (W ++ -1 :: G)) = W := by
  have : clrN (W ++ -1 :: G) = W.length := by
    unfold clrN
    rw [(bb_behind h).1]
    simp
    omega
  rw [this]
  simp

theorem fst_le {L : List QN} {s : List UInt8} {t : List At.At} {l : List (Nat × Int)} (h : 0 < (flt L s t l).length) : ∃ q ∈ l, fst (flt L s t l) = (q.1 : Int) := by
  cases hl : (flt L s t l).getLast? with
  | none =>
    rw [List.getLast?_eq_none_iff] at hl
    rw [hl] at h
    simp at h
  | some q => exact ⟨q, (List.mem_filter.1 (List.mem_of_getLast? hl)).1, by unfold fst; rw [hl]⟩

theorem cut_behind {L : List QN} {n : QN} {W G : List Int} (h : ∀ x ∈ G, x ≠ -1) : ∃ G', cutA L n (W ++ -1 :: G) = W ++ -1 :: G' ∧ G'.length ≤ G.length ∧ ∀ x ∈ G', x ∈ G := by
  unfold cutA
  split
  · rename_i h3
    obtain ⟨q, hq, hf⟩ := fst_le (L := L) (s := n.nm) (t := n.ats) (l := bb (W ++ -1 :: G).reverse) (by omega)
    have hp := (bb_behind h).2 q hq
    rw [hf, Int.toNat_natCast]
    refine ⟨G.eraseIdx (q.1 - (W.length + 1)), ?_, List.length_eraseIdx_le _ _, fun x hx => List.mem_of_mem_eraseIdx hx⟩
    rw [List.eraseIdx_append_of_length_le (by omega), show q.1 - W.length = (q.1 - (W.length + 1)) + 1 by omega, List.eraseIdx_cons_succ]
  · exact ⟨G, rfl, Nat.le_refl _, fun x hx => hx⟩

theorem lst_mark (L : List QN) (W : List Int) (s : List UInt8) : lst L (W ++ [-1]) s = none := by
  unfold lst
  rw [List.reverse_append, List.reverse_cons, List.reverse_nil, List.nil_append, List.cons_append, List.nil_append, bb_mark]
  rfl
theorem lst_last {L : List QN} {X : List Int} {m : Nat} {n : QN} {s : List UInt8} (hn : L[m]? = some n) (hs : n.nm = s) : lst L (X ++ [(m : Int)]) s = some (X.length, (m : Int)) := by
  unfold lst
  rw [List.reverse_append, List.reverse_cons, List.reverse_nil, List.nil_append, List.cons_append, List.nil_append, bb_cons (by omega), List.find?_cons_of_pos, List.length_reverse]
  unfold nmAt
  rw [Int.toNat_natCast, hn]
  simp [hs]

/-- what psh leaves behind a mark -/
theorem psh_behind {L : List QN} {n : QN} {W G : List Int} (h : ∀ x ∈ G, x ≠ -1) (m : Nat) : ∃ G', psh L n (W ++ -1 :: G) m = W ++ -1 :: (G' ++ [(m : Int)]) ∧ G'.length ≤ G.length ∧ ∀ x ∈ G', x ∈ G := by
  obtain ⟨G', h1, h2, h3⟩ := cut_behind (L := L) (n := n) (W := W) h
  refine ⟨G', ?_, h2, h3⟩
  unfold psh
  rw [h1, List.append_assoc, List.cons_append]

/-- names, as cells -/
def strs (N : List Str) : List Value := N.map fun s => .string ⟨s.toArray⟩
theorem Ns.src {N : List Str} {a : Option Addr} {c : Nat} {w : World} (h : Ns N a c w) : Src Try.prog 1 26 (.slice a N.length c) N.length (strs N) w := by
  cases a with
  | none =>
    obtain ⟨h0, rfl⟩ := h.1.2 rfl
    obtain rfl : N = [] := List.eq_nil_of_length_eq_zero h0
    exact Src.ofNil w Try.underlying26 0
  | some ad =>
    refine Src.ofSlice w Try.underlying26 ad _ _ _ (by simp [strs]) (fun j u hj => ?_) (fun x hx => ?_)
    · unfold strs at hj
      rw [List.getElem?_map] at hj
      cases hN : N[j]? with
      | none => rw [hN] at hj; cases hj
      | some s =>
        rw [hN] at hj
        cases hj
        rcases h.2 with h0 | ⟨b, off, hb, hc⟩
        · subst h0; cases hN
        · cases hb
          rw [At.add_lit]
          exact hc j s hN
    · unfold strs at hx
      obtain ⟨s, -, rfl⟩ := List.mem_map.1 hx
      rfl

/-- two slices of names laid one behind the other -/
theorem cat_names (u : World) {N M : List Str} {a a2 : Option Addr} {c c2 : Nat} (h : Ns N a c u) (h2 : Ns M a2 c2 u) (hl : N.length ≤ 1000) (hl2 : M.length ≤ 1000) :
    ∃ v1 u1 a3 c3 u2, (Builtin.append_ #[26, 26] 26 #[.slice (some ⟨u.heap.size, 0, none⟩) 0 0, .slice a N.length c]).run Try.prog (u.alloc (.cells #[] 9)) = .ok v1 u1 ∧ (Builtin.append_ #[26, 26] 26 #[v1, .slice a2 M.length c2]).run Try.prog u1 = .ok (.slice a3 (N ++ M).length c3) u2 ∧ Ns (N ++ M) a3 c3 u2 ∧ Below u.heap.size u u2 := by
  obtain ⟨i, z, hi, hz, hsz, hby, hzs⟩ := row26.info
  have hA : Below u.heap.size u (u.alloc (.cells #[] 9)) := At.below_alloc _
  have h0 : Rw u.heap.size 9 1 (.slice (some ⟨u.heap.size, 0, none⟩) 0 0) 0 [] (u.alloc (.cells #[] 9)) := ⟨by simp, Or.inr ⟨u.heap.size, 0, rfl, Nat.le_refl _, ⟨_, _, heap_alloc_new u _⟩, Nat.le_refl _, Nat.zero_le _, fun j x hj => by simp at hj, fun j hj => by omega⟩⟩
  obtain ⟨v1, u1, r1, q1, g1, -, -⟩ := h0.append (P := Try.prog) 26 26 i z _ row26.ht hi hz hsz hby hzs _ N.length (strs N) (h.below hA).src (by unfold maxLen; omega) (by omega) (by simp)
  have b1 : Below u.heap.size u u1 := hA.grown g1 (by simp) (fun q hq => by cases hq; exact Nat.le_refl _)
  obtain ⟨v2, u2, r2, q2, g2, -, -⟩ := q1.append (P := Try.prog) 26 26 i z _ row26.ht hi hz hsz hby hzs _ M.length (strs M) (h2.below b1).src (by unfold maxLen; omega) (by omega) b1.size
  rw [Nat.zero_add, List.nil_append] at q2
  have hs : strs N ++ strs M = strs (N ++ M) := by simp [strs]
  rw [hs, ← List.length_append] at q2
  obtain ⟨a3, c3, rfl, hf⟩ := q2.slice
  refine ⟨v1, u1, a3, c3, u2, r1, r2, ⟨hf, ?_⟩, b1.grown g2 b1.size (fun q hq => (q1.lt q hq).1)⟩
  by_cases hE : N ++ M = []
  · exact Or.inl hE
  · obtain ⟨g, c', hv, -, -, -, -, hc, -⟩ := q2.blk (List.length_pos_iff.2 hE)
    cases hv
    exact Or.inr ⟨g, 0, rfl, fun j s hj => by
      rw [Nat.zero_add]
      refine hc j _ ?_
      unfold strs
      rw [List.getElem?_map, hj]
      rfl⟩
end Go.Proofs.Ytnnidajflnandaa
