/- Rows of the call's own, of whatever type: told by their cells; what is appended, what is stored, and what stays. -/
import Derived.Test.YtnnidajflnandaaNd
import Derived.Deep.Upon
import Derived.Deep.MidRow
import Derived.Deep.AppendSrc
import Derived.Lib.ConvBytes
namespace Go.Proofs.Ytnnidajflnandaa
open Go.RowKit Go.Lib

/-- the type of a block's cells -/
def Ty (w : World) (g : Nat) (e : TypeId) : Prop := ∃ cur fr, w.heap[g]? = some (.cells cur e fr)

theorem Ty.lt {w : World} {g : Nat} {e : TypeId} (h : Ty w g e) : g < w.heap.size := by
  obtain ⟨cur, fr, h⟩ := h
  exact (Array.getElem?_eq_some_iff.1 h).1
theorem Ty.same {w w' : World} {g : Nat} {e : TypeId} (h : Ty w g e) (hb : w'.heap[g]? = w.heap[g]?) : Ty w' g e := by
  obtain ⟨cur, fr, h⟩ := h
  exact ⟨cur, fr, by rw [hb]; exact h⟩
theorem Ty.uniq {w : World} {g : Nat} {e e' : TypeId} (h : Ty w g e) (h' : Ty w g e') : e = e' := by
  obtain ⟨cur, fr, h⟩ := h
  obtain ⟨cur', fr', h'⟩ := h'
  rw [h] at h'
  injection h' with h'
  injection h'
theorem Ty.setCell {w : World} {g : Nat} {e : TypeId} (h : Ty w g e) (a : Addr) (u : Value) (ha : a.spot = none) : Ty (w.setCell a u) g e := by
  obtain ⟨cur, fr, h⟩ := h
  by_cases hg : g = a.block
  · subst hg
    refine ⟨cur.setIfInBounds a.off u, fr, ?_⟩
    obtain ⟨b, o, s⟩ := a
    simp only at ha
    subst ha
    simp only at h
    simp [World.setCell, Array.getElem?_modify, h]
  · exact ⟨cur, fr, by rw [Below.heap_setCell _ _ _ _ hg]; exact h⟩
theorem Ty.setCells {g : Nat} {e : TypeId} (b : Nat) : ∀ (vs : List Value) (o : Nat) (w : World), Ty w g e → Ty (w.setCells b o vs) g e
  | [], _, _, h => h
  | v :: r, o, _, h => Ty.setCells b r (o + 1) _ (h.setCell ⟨b, o, none⟩ v rfl)

theorem cell_of_heap {w : World} {g : Nat} {cs : Array Value} {t : TypeId} {fr : Nat × Nat} (hg : w.heap[g]? = some (.cells cs t fr)) (j : Nat) : w.cell? ⟨g, j, none⟩ = cs[j]? := by simp [World.cell?, hg]
theorem frozen_of_heap {w : World} {g : Nat} {cs : Array Value} {t : TypeId} (hg : w.heap[g]? = some (.cells cs t (0, 0))) (j : Nat) : w.frozen? ⟨g, j, none⟩ = false := by simp [World.frozen?, hg]

/-- a row of n elements of k cells each, of the type e, in a block from B on; nil if it has no block -/
def Rw (B e k : Nat) (v : Value) (n : Nat) (xs : List Value) (w : World) : Prop :=
  xs.length = n * k ∧ ((v = .slice none 0 0 ∧ n = 0) ∨ ∃ g c, v = .slice (some ⟨g, 0, none⟩) n c ∧ B ≤ g ∧ Ty w g e ∧ n ≤ c ∧ c ≤ maxLen ∧
    (∀ (j : Nat) (u : Value), xs[j]? = some u → w.cell? ⟨g, j, none⟩ = some u) ∧ (∀ j, j < c * k → (w.cell? ⟨g, j, none⟩).isSome = true ∧ w.frozen? ⟨g, j, none⟩ = false))

theorem Rw.nil (B e k : Nat) (w : World) : Rw B e k (.slice none 0 0) 0 [] w := ⟨by simp, Or.inl ⟨rfl, rfl⟩⟩

theorem Rw.len {B e k : Nat} {v : Value} {n : Nat} {xs : List Value} {w : World} (h : Rw B e k v n xs w) : xs.length = n * k := h.1

theorem Rw.lt {B e k : Nat} {v : Value} {n : Nat} {xs : List Value} {w : World} (h : Rw B e k v n xs w) (g : Nat) (hg : v.ownBlock = some g) : B ≤ g ∧ g < w.heap.size := by
  rcases h.2 with ⟨rfl, -⟩ | ⟨g', c, rfl, hB, hT, -⟩
  · cases hg
  · simp only [Value.ownBlock, Option.some.injEq] at hg
    subst hg
    exact ⟨hB, hT.lt⟩

theorem Rw.base {B B' e k : Nat} {v : Value} {n : Nat} {xs : List Value} {w : World} (h : Rw B e k v n xs w) (hB : B' ≤ B) : Rw B' e k v n xs w := by
  refine ⟨h.1, ?_⟩
  rcases h.2 with h | ⟨g', c, hv, h1, r⟩
  · exact Or.inl h
  · exact Or.inr ⟨g', c, hv, Nat.le_trans hB h1, r⟩

theorem Rw.of_own {B e k : Nat} {v : Value} {n : Nat} {xs : List Value} {w : World} (h : w.ownsRow B e k v n xs) : Rw B e k v n xs w := by
  refine ⟨h.1, ?_⟩
  rcases h.2 with h0 | ⟨g, cap, cur, hv, hg, hh, hn, hm, hs, ht⟩
  · exact Or.inl h0
  · refine Or.inr ⟨g, cap, hv, hg, ⟨cur, _, hh⟩, hn, hm, fun j u hj => ?_, fun j hj => ?_⟩
    · have := h.cells (g := g) (by rw [hv]; rfl) j u hj
      rw [At.add_lit, Nat.zero_add] at this
      exact this
    · have hc : w.cell? ⟨g, j, none⟩ = cur[j]? := cell_of_heap hh j
      rw [hc]
      refine ⟨?_, frozen_of_heap hh j⟩
      rw [Array.getElem?_eq_getElem (by rw [hs]; exact hj)]
      rfl

/-- a row whose block is as it was -/
theorem Rw.same {B e k : Nat} {v : Value} {n : Nat} {xs : List Value} {w w' : World} (h : Rw B e k v n xs w) (hb : ∀ g, v.ownBlock = some g → w'.heap[g]? = w.heap[g]?) : Rw B e k v n xs w' := by
  refine ⟨h.1, ?_⟩
  rcases h.2 with h | ⟨g, c, rfl, h1, hT, h3, h4, h5, h6⟩
  · exact Or.inl h
  · have hg := hb g rfl
    refine Or.inr ⟨g, c, rfl, h1, hT.same hg, h3, h4, fun j u hj => (World.cell?_of_block (a := ⟨g, j, none⟩) hg).trans (h5 j u hj), fun j hj => ?_⟩
    rw [World.cell?_of_block (a := ⟨g, j, none⟩) hg, World.frozen?_of_block (a := ⟨g, j, none⟩) hg]
    exact h6 j hj

theorem Rw.below {B e k : Nat} {v : Value} {n : Nat} {xs : List Value} {w w' : World} (h : Rw B e k v n xs w) (hb : Below w.heap.size w w') : Rw B e k v n xs w' :=
  h.same fun g hg => hb.block g (h.lt g hg).2

/-- two values whose rows are apart -/
def Apart (u v : Value) : Prop := u.ownBlock = none ∨ u.ownBlock ≠ v.ownBlock

theorem Apart.symm {u v : Value} (h : Apart u v) : Apart v u := by
  unfold Apart at *
  rcases h with h | h
  · cases hv : v.ownBlock with
    | none => exact Or.inl rfl
    | some g => right; rw [h]; simp
  · right; exact fun e => h e.symm

theorem Rw.kept {B e k : Nat} {v u : Value} {n : Nat} {xs : List Value} {w w' : World} (h : Rw B e k v n xs w) (hg : w.grownBy w' u.ownBlock) (hap : Apart v u) : Rw B e k v n xs w' := by
  refine h.same fun g hv => hg.block g (h.lt g hv).2 ?_
  rcases hap with h0 | h0
  · rw [h0] at hv; cases hv
  · rw [← hv]; exact h0

theorem Rw.types {B e k B' e' k' : Nat} {v u : Value} {n m : Nat} {xs ys : List Value} {w : World} (h : Rw B e k v n xs w) (h' : Rw B' e' k' u m ys w) (hne : e ≠ e') : Apart v u := by
  rcases h.2 with ⟨rfl, -⟩ | ⟨g, c, rfl, -, hT, -⟩
  · exact Or.inl rfl
  · rcases h'.2 with ⟨rfl, -⟩ | ⟨g', c', rfl, -, hT', -⟩
    · right; simp [Value.ownBlock]
    · right
      simp only [Value.ownBlock, ne_eq, Option.some.injEq]
      intro he
      subst he
      exact hne (hT.uniq hT')

/-- a block of another type is none of the row's -/
theorem Rw.type_ne {B e k : Nat} {v : Value} {n : Nat} {xs : List Value} {w : World} (h : Rw B e k v n xs w) {g : Nat} {e' : TypeId} (hT : Ty w g e') (hne : e ≠ e') : some g ≠ v.ownBlock := by
  rcases h.2 with ⟨rfl, -⟩ | ⟨g', c, rfl, -, hT', -⟩
  · simp [Value.ownBlock]
  · simp only [Value.ownBlock, ne_eq, Option.some.injEq]
    intro he
    subst he
    exact hne (hT'.uniq hT)

theorem Rw.slice {B e k : Nat} {v : Value} {n : Nat} {xs : List Value} {w : World} (h : Rw B e k v n xs w) : ∃ a c, v = .slice a n c ∧ Fits n a c := by
  rcases h.2 with ⟨rfl, rfl⟩ | ⟨g, c, rfl, -, -, h3, -⟩
  · exact ⟨none, 0, rfl, Nat.le_refl _, fun _ => ⟨rfl, rfl⟩⟩
  · exact ⟨_, c, rfl, h3, fun h => by cases h⟩

/-- a row that has an element has a block -/
theorem Rw.blk {B e k : Nat} {v : Value} {n : Nat} {xs : List Value} {w : World} (h : Rw B e k v n xs w) (hn : 0 < n) : ∃ g c, v = .slice (some ⟨g, 0, none⟩) n c ∧ B ≤ g ∧ g < w.heap.size ∧ Ty w g e ∧ n ≤ c ∧
    (∀ (j : Nat) (u : Value), xs[j]? = some u → w.cell? ⟨g, j, none⟩ = some u) ∧ (∀ j, j < n * k → w.frozen? ⟨g, j, none⟩ = false) := by
  rcases h.2 with ⟨rfl, rfl⟩ | ⟨g, c, rfl, hB, hT, h3, h4, h5, h6⟩
  · omega
  · exact ⟨g, c, rfl, hB, hT.lt, hT, h3, h5, fun j hj => (h6 j (Nat.lt_of_lt_of_le hj (Nat.mul_le_mul_right _ h3))).2⟩

/-- a store into the row -/
theorem Rw.set {B e k : Nat} {g n c : Nat} {xs : List Value} {w : World} (h : Rw B e k (.slice (some ⟨g, 0, none⟩) n c) n xs w) (j : Nat) (hj : j < n * k) (u : Value) : Rw B e k (.slice (some ⟨g, 0, none⟩) n c) n (xs.set j u) (w.setCell ⟨g, j, none⟩ u) := by
  refine ⟨by rw [List.length_set]; exact h.1, ?_⟩
  rcases h.2 with ⟨h0, -⟩ | ⟨g', c', hv, h1, hT, h3, h4, h5, h6⟩
  · cases h0
  · cases hv
    have hjc : j < c * k := Nat.lt_of_lt_of_le hj (Nat.mul_le_mul_right _ h3)
    refine Or.inr ⟨g, c, rfl, h1, hT.setCell _ _ rfl, h3, h4, fun i x hi => ?_, fun i hi => ?_⟩
    · by_cases hij : i = j
      · subst hij
        have hl : i < xs.length := by rw [h.1]; exact hj
        rw [List.getElem?_set_self hl] at hi
        injection hi with hi
        subst hi
        exact World.cell?_setCell_same' w _ _ (h6 i hjc).1
      · rw [List.getElem?_set_ne (fun e => hij e.symm)] at hi
        rw [World.cell?_setCell_other w ⟨g, j, none⟩ ⟨g, i, none⟩ u (by intro e; injection e with _ e; exact hij e.symm)]
        exact h5 i x hi
    · rw [World.frozen?_setCell]
      refine ⟨?_, (h6 i hi).2⟩
      by_cases hij : i = j
      · subst hij
        rw [World.cell?_setCell_same' w _ _ (h6 i hjc).1]
        rfl
      · rw [World.cell?_setCell_other w ⟨g, j, none⟩ ⟨g, i, none⟩ u (by intro e; injection e with _ e; exact hij e.symm)]
        exact (h6 i hi).1

theorem grown_setCell (w : World) (g j : Nat) (u : Value) : w.grownBy (w.setCell ⟨g, j, none⟩ u) (some g) :=
  ⟨rfl, rfl, rfl, by rw [World.size_setCell]; exact Nat.le_refl _, fun k _ hk => Below.heap_setCell _ _ _ _ (fun e => hk (by rw [e]))⟩

theorem setCells_kept (w : World) (g o : Nat) (vs : List Value) : w.grownBy (w.setCells g o vs) (some g) := by
  have hk := World.keptBut_setCells g (may := fun p => p.block = g) vs o w (fun _ _ => rfl)
  refine ⟨World.os_setCells w g o vs, ?_, World.output_setCells w g o vs, hk.size, fun k hk' hne => World.heap_setCells_other w g o vs hk' (fun e => hne (by rw [e]))⟩
  clear hk
  induction vs generalizing o w with
  | nil => rfl
  | cons v r ih => exact ih (w.setCell ⟨g, o, none⟩ v) (o + 1)

/-- n elements more, out of whatever source -/
theorem Rw.append {P : Program} {B e k : Nat} {v : Value} {n : Nat} {xs : List Value} {w : World} (h : Rw B e k v n xs w) (t tx : TypeId) (i : TypeInfo) (z : Value) (bytes : Nat) (ht : P.underlying t = some (.slice e)) (hi : P.info? e = some i) (hz : i.zero = some z) (hsize : i.size = k) (hby : i.bytes = bytes) (hzs : z.cells.size = k)
    (x : Value) (m : Nat) (news : List Value) (hs : Src P k tx x m news w) (h63 : n + m ≤ maxLen) (hbytes : (n + m) * bytes ≤ 140737488355328) (hB : B ≤ w.heap.size) :
    ∃ v' w', (Builtin.append_ #[t, tx] t #[v, x]).run P w = .ok v' w' ∧ Rw B e k v' (n + m) (xs ++ news) w' ∧ w.grownBy w' v.ownBlock ∧ (v'.ownBlock = v.ownBlock ∨ v'.ownBlock = some w.heap.size) ∧ (0 < n + m → v' ≠ .slice none 0 0) := by
  subst hsize
  subst hby
  have hsmall : n + m ≤ 9223372036854775807 := by simp only [maxLen] at h63; omega
  have hnl := hs.newsLen
  have hlen : (xs ++ news).length = (n + m) * i.size := by rw [List.length_append, h.1, hnl, Nat.add_mul]
  -- a new row
  have grown : ∀ (base : Option Addr) (sc : Nat), sc < n + m → (Builtin.firstCells i.size n (.slice base n sc)).run P w.drew = .ok xs.toArray w.drew → ∀ row,
      ∃ v' w', (Builtin.append_ #[t, tx] t #[.slice base n sc, x]).run P w = .ok v' w' ∧ Rw B e i.size v' (n + m) (xs ++ news) w' ∧ w.grownBy w' row ∧ v'.ownBlock = some w.heap.size ∧ v' ≠ .slice none 0 0 := by
    intro base sc hsc hold row
    have hrun := run_append_grow_src (P := P) w t tx t e i z ht hi hz base n sc xs hold x m news hs hsc (by omega) (growslice_fits hsc hbytes)
    have hge := grownCap_ge w (n + m) sc e
    have hcm : grownCap w (n + m) sc e ≤ maxLen := grownCap_le_maxLen w (n + m) sc e h63
    refine ⟨_, _, hrun, ⟨hlen, Or.inr ⟨w.heap.size, _, rfl, hB, ⟨_, _, heap_alloc_new w.drew _⟩, hge, hcm, fun j u hj => ?_, fun j hj => ?_⟩⟩, ⟨rfl, rfl, rfl, by simp, fun q hq _ => Below.heap_alloc w.drew _ q hq⟩, rfl, by simp⟩
    · show (w.drew.alloc _).cell? ⟨w.drew.heap.size, j, none⟩ = some u
      rw [cell_of_heap (heap_alloc_new w.drew _) j]
      have hjl : j < (xs ++ news).length := by
        rcases Nat.lt_or_ge j (xs ++ news).length with h' | h'
        · exact h'
        · rw [List.getElem?_eq_none h'] at hj; cases hj
      rw [Array.getElem?_append_left (by simpa using hjl)]
      simpa using hj
    · refine ⟨?_, frozen_of_heap (heap_alloc_new w.drew _) j⟩
      show ((w.drew.alloc _).cell? ⟨w.drew.heap.size, j, none⟩).isSome = true
      rw [cell_of_heap (heap_alloc_new w.drew _) j, Array.getElem?_eq_getElem]
      · rfl
      · rw [Array.size_append, List.size_toArray, size_zeroCells, hlen, hzs, ← Nat.add_mul]
        exact Nat.lt_of_lt_of_le hj (Nat.mul_le_mul_right _ (by omega))
  rcases h.2 with ⟨rfl, rfl⟩ | ⟨g, c, rfl, h1, hT, h3, h4, h5, h6⟩
  · have hx : xs = [] := List.eq_nil_of_length_eq_zero (by simpa using h.1)
    subst hx
    by_cases hm : m = 0
    · subst hm
      have hn : news = [] := List.eq_nil_of_length_eq_zero (by simpa using hnl)
      subst hn
      exact ⟨_, w, run_append_nothing (P := P) w t tx t e i ht hi none 0 0 (Nat.le_refl _) x hs, Rw.nil B e i.size w, ⟨rfl, rfl, rfl, Nat.le_refl _, fun _ _ _ => rfl⟩, Or.inl rfl, fun h => absurd h (by omega)⟩
    · obtain ⟨v', w', h1, h2, h3, h4, h5⟩ := grown none 0 (by omega) (by simpa using run_firstCells_none (P := P) w.drew i.size 0 0 0) (Value.ownBlock (.slice none 0 0))
      exact ⟨v', w', h1, h2, h3, Or.inr h4, fun _ => h5⟩
  · by_cases hroom : n + m ≤ c
    · have hpos : ∀ j, j < news.length → n * i.size + j < c * i.size := by
        intro j hj
        rw [hnl] at hj
        have := Nat.mul_le_mul_right i.size hroom
        rw [Nat.add_mul] at this
        omega
      have hr := run_append_room_src (P := P) (w := w) t tx t e i ht hi g 0 n c x m news hs hroom (fun j hj => by rw [Nat.zero_add]; exact (h6 _ (hpos j hj)).1) (fun j hj => by rw [Nat.zero_add]; exact (h6 _ (hpos j hj)).2)
      rw [Nat.zero_add] at hr
      refine ⟨_, _, hr, ⟨hlen, Or.inr ⟨g, c, rfl, h1, Ty.setCells g news _ w hT, hroom, h4, fun j u hj => ?_, fun j hj => ?_⟩⟩, setCells_kept w g _ news, Or.inl rfl, fun _ => by simp⟩
      · by_cases hjx : j < xs.length
        · rw [List.getElem?_append_left hjx] at hj
          rw [World.cell?_setCells_out g news (n * i.size) w ⟨g, j, none⟩ (fun _ _ => Or.inl (by show j < _; rw [← h.1]; exact hjx))]
          exact h5 j u hj
        · rw [List.getElem?_append_right (by omega)] at hj
          have hjn : j - xs.length < news.length := by
            rcases Nat.lt_or_ge (j - xs.length) news.length with h' | h'
            · exact h'
            · rw [List.getElem?_eq_none h'] at hj; cases hj
          have := World.cell?_setCells_in g news (n * i.size) w (fun q hq => (h6 _ (hpos q hq)).1) (j - xs.length) hjn
          rw [show n * i.size + (j - xs.length) = j by rw [← h.1]; omega] at this
          rw [this]
          rw [List.getElem?_eq_getElem hjn] at hj
          exact hj
      · rw [World.frozen?_setCells]
        exact ⟨World.isSome_setCells g news _ w _ (h6 j hj).1, (h6 j hj).2⟩
    · have hold : (Builtin.firstCells i.size n (.slice (some ⟨g, 0, none⟩) n c)).run P w.drew = .ok xs.toArray w.drew :=
        run_firstCells_some (P := P) w.drew i.size n ⟨g, 0, none⟩ n c xs h.1 (fun j u hj => by rw [At.add_lit, Nat.zero_add]; exact h5 j u hj)
      obtain ⟨v', w', h1, h2, h3, h4, h5⟩ := grown (some ⟨g, 0, none⟩) c (by omega) hold (Value.ownBlock (.slice (some ⟨g, 0, none⟩) n c))
      exact ⟨v', w', h1, h2, h3, Or.inr h4, fun _ => h5⟩
end Go.Proofs.Ytnnidajflnandaa
