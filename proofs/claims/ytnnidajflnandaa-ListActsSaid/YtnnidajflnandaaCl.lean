/- Clear, walked: all behind the last mark is taken out, and that mark. -/
import Derived.Test.YtnnidajflnandaaFd
import Derived.Shelf.RegionOpen
namespace Go.Proofs.Ytnnidajflnandaa
open Go.RowKit Go.Lib
attribute [local go_sem] Oper.semAt_some

theorem bw_place : ∀ {R : List Int} {pre : List (Nat × Int)} {x : Nat × Int}, pre ++ [x] <+: bw R → x.1 + (pre.length + 1) = R.length := by
  intro R
  induction R with
  | nil => intro pre x h; have := h.length_le; simp [bw] at this
  | cons i r ih =>
    intro pre x h
    cases pre with
    | nil =>
      simp only [bw, List.nil_append] at h
      obtain ⟨s, h⟩ := h
      simp only [List.cons_append, List.nil_append, List.cons.injEq] at h
      rw [h.1]
      simp
    | cons p pre =>
      simp only [bw, List.cons_append] at h
      have h2 := (List.prefix_cons_iff.1 h).resolve_left (by simp)
      obtain ⟨t, ht, h3⟩ := h2
      simp only [List.cons.injEq] at ht
      obtain ⟨-, rfl⟩ := ht
      have := ih h3
      simp only [List.length_cons]
      omega

/-- how many entries are left by Clear -/
def clrN (E : List Int) : Nat := E.length - (bb E.reverse).length - 1

theorem Rw.take {B e : Nat} {a : Option Addr} {n c : Nat} {E : List Int} {w : World} (h : Rw B e 1 (.slice a n c) n (ints E) w) (hn : n = E.length) (k : Nat) (hk : k ≤ n) : Rw B e 1 (.slice a k c) k (ints (E.take k)) w := by
  refine ⟨by simp [ints]; omega, ?_⟩
  rcases h.2 with ⟨h1, h2⟩ | ⟨g, c', hv, h1, hT, h3, h4, h5, h6⟩
  · cases h1
    exact Or.inl ⟨by rw [show k = 0 by omega], by omega⟩
  · cases hv
    refine Or.inr ⟨g, c, rfl, h1, hT, by omega, h4, fun j u hj => h5 j u ?_, h6⟩
    unfold ints at hj ⊢
    rw [List.map_take] at hj
    have hjk : j < k := by
      rcases Nat.lt_or_ge j k with h | h
      · exact h
      · rw [List.getElem?_eq_none (by simp; omega)] at hj; cases hj
    rw [List.getElem?_take_of_lt hjk] at hj
    exact hj

theorem own_len (a : Option Addr) (n k c : Nat) : (Value.slice a n c).ownBlock = (Value.slice a k c).ownBlock := by cases a <;> rfl

/-- what a list's own doings change: its block, and its entries' row -/
structure ChL (Ls : Nat) (v v' : Value) (w w' : World) : Prop where
  os : w'.os = w.os
  tape : w'.tape = w.tape
  output : w'.output = w.output
  size : w.heap.size ≤ w'.heap.size
  same : ∀ g, g < w.heap.size → g ≠ Ls → some g ≠ v.ownBlock → w'.heap[g]? = w.heap[g]?
  own : ∀ g, g < w.heap.size → some g ≠ v.ownBlock → some g ≠ v'.ownBlock

set_option maxRecDepth 100000 in
set_option maxHeartbeats 4000000 in
theorem clear_any {B Ls R : Nat} {w : World} {E : List Int} {v : Value} (h : LR B w Ls R E v) (hl : E.length ≤ 1000000) :
    Calls Try.prog 17 #[.pointer (some ⟨Ls, 0, none⟩)] w fun e w' => e = .returned (.tuple #[]) ∧ ∃ v', LR B w' Ls R (E.take (clrN E)) v' ∧ ChL Ls v v' w w' := by
  have hlt := h.lt
  have hmix : Try.prog.follows .mixedOrders = true := by kernel_rfl
  obtain ⟨a, c, rfl, hfit⟩ := h.row.slice
  refine (callsIn_wide (n := 0)).1 (callsIn_of_wp_marks Try.func17 rfl trivial ?_ rfl)
  simp only [Try.ntmps17, List.size_toArray, List.length_cons, List.length_nil, Nat.reduceAdd, Nat.reduceSub, Array.replicate_succ, Array.replicate_zero, List.push_toArray, List.append_toArray, List.nil_append, List.cons_append]
  have cB := fun W => behindMark_any Ls W
  have c1 := h.c1
  gi_wp2_with (refine ⟨trivial, rfl, ?_⟩; gi_at_call 35; refine (callsIn_wide.2 (cB _)).mono ?_; rintro e w' ⟨rfl, rfl⟩)
  obtain ⟨W2, hW2⟩ : ∃ W2, (w.alloc (.cells #[.int .i64 (E.length : Int)] 3)).alloc (.cells #[.pointer (some ⟨Ls, 0, none⟩)] 33) = W2 := ⟨_, rfl⟩
  have z2 : W2.heap.size = w.heap.size + 2 := by rw [← hW2]; simp
  have b2 : Below w.heap.size w W2 := by rw [← hW2]; exact (At.below_alloc _).alloc (by simp) _
  have x0 : Bx w.heap.size #[.int .i64 (E.length : Int)] 3 W2 := by rw [← hW2]; exact (bx_new w _ 3).below (At.below_alloc _)
  have x4 : W2.cell? ⟨w.heap.size + 1, 0, none⟩ = some (.pointer (some ⟨Ls, 0, none⟩)) := by
    have := (bx_new (w.alloc (.cells #[.int .i64 (E.length : Int)] 3)) #[.pointer (some ⟨Ls, 0, none⟩)] 33).cell 0
    rw [hW2] at this
    simpa using this
  have h2 := h.below b2
  have hown : ∀ q, some q = (Value.slice a E.length c).ownBlock → q < w.heap.size := fun q hq => (h.row.lt q hq.symm).2
  rw [hW2]
  clear hW2
  refine range_law (gf := 44) (lb := #[.pointer (some ⟨w.heap.size + 1, 0, none⟩)]) rfl (enters_of Try.func44 (by kernel_rfl) rfl) (mark_gives (w.heap.size + 1) Ls B R _ E hl W2 x4 h2)
    (fun g hg => by have := hown g hg; omega) (Below.refl _ _) (fun _ => rfl)
    (fun pre X => Below w.heap.size w X ∧ Bx w.heap.size #[.int .i64 ((E.length - pre.length : Nat) : Int)] 3 X)
    (fun c pre X => False)
    (fun s X Y h hb => ⟨h.1.trans (hb.mono (by omega)), (hb.block _ (by omega)).trans h.2⟩)
    (fun c s X Y h hb => h)
    ⟨b2, x0⟩
    (fun x => { tmps := #[.pointer (some ⟨Ls, 0, none⟩), undef, .pointer (some ⟨w.heap.size, 0, none⟩), .int .i64 (x.1 : Int), .pointer (some ⟨Ls, 0, none⟩), .pointer (some ⟨Ls, 0, none⟩), .pointer (some ⟨Ls, 1, none⟩), .slice a E.length c, .int .i64 (E.length : Int), .pointer (some ⟨Ls, 0, none⟩), .func (.func 44) #[] #[.pointer (some ⟨w.heap.size + 1, 0, none⟩)], .int .i64 (x.1 : Int), .int .i64 x.2, undef, undef, undef, undef, undef, undef, undef, undef, undef, undef, undef, undef], defers := [] })
    ?assign ?body ?done ?stop
  case assign =>
    intro l2 x X K hK
    unfold enc2
    gi_wp2
    exact hK
  case body =>
    rintro l2 pre ⟨k, j⟩ X hpre ⟨hb, y0⟩ hX
    have e0 := y0.cell 0
    have f0 := y0.fr 0
    have hk := bw_place (hpre.trans (List.takeWhile_prefix _))
    simp only [List.length_reverse] at hk
    have HK := Lib.hid hk
    clear hk hpre
    gi_wp2
    refine ⟨Kr.setCell _ _ _ (by show w.heap.size < _; omega) (fun h => by have := hown _ h; simp only at this; omega), below_set hb (Nat.le_refl _) _ _, ?_⟩
    have hh : E.length - (pre ++ [(k, j)]).length = k := by have := HK.out; simp; omega
    rw [hh]
    exact y0.set 0 _
  case done =>
    rintro D X hD ⟨hb, y0⟩ hK
    obtain ⟨f, hf⟩ : ∃ f, E.length - (bb E.reverse).length = f := ⟨_, rfl⟩
    rw [hf] at y0
    have e0 := y0.cell 0
    have c1X := (h.below hb).c1
    have fr1 := (h.below hb).blk.fr 1
    have hfl : f ≤ E.length := by omega
    obtain ⟨k, hk, hkE, hkf⟩ : ∃ k : Nat, clrN E = k ∧ k ≤ E.length ∧ k = f - 1 := ⟨clrN E, rfl, by unfold clrN; omega, by unfold clrN; omega⟩
    have hkc : k ≤ c := Nat.le_trans hkE hfit.1
    have hwr : IntKind.i64.wrap ((f : Int) - 1) = (f : Int) - 1 := by simp [IntKind.wrap, IntKind.bits, IntKind.signed]; omega
    have hmax : (if (f : Int) - 1 < 0 then 0 else (f : Int) - 1).toNat = k := by split <;> omega
    clear hkf hf hfl
    have hXl : Ls < X.heap.size := Nat.lt_of_lt_of_le hlt hb.size
    gi_wp2
    refine wpIn_wide.2 (wp_region_noPanic ?_)
    go_region
    all_goals (refine NoPanic.normal ?_)
    have hK' : ((X.setCell ⟨Ls, 1, none⟩ (.slice a k c)).drew).heap[D]? = some (.deferred (some [])) := (Below.heap_setCell _ _ _ _ (by show D ≠ Ls; omega)).trans hK
    refine ⟨by simp, .inl ⟨_, _, rfl, run_takeDeferred hK', ?_⟩⟩
    have hDl := (Array.getElem?_eq_some_iff.1 hK').1
    have hX := h.below hb
    have hsame : ∀ g, g < w.heap.size → g ≠ Ls → (((X.setCell ⟨Ls, 1, none⟩ (.slice a k c)).drew).putObj D (.deferred none)).heap[g]? = w.heap[g]? := fun g hg hne =>
      (World.putObj_heap_other (by omega)).trans ((Below.heap_setCell _ _ _ _ hne).trans (hb.block g hg))
    refine ⟨_, results_none rfl _ _ _, rfl, .slice a k c, ⟨h.hB, ?_, ?_⟩, ⟨hb.os, hb.tape, hb.output, ?_, fun g hg hne _ => hsame g hg hne, fun g hg hne => ?_⟩⟩
    · exact ((hX.blk.set 1 (.slice a k c)).below (below_drew _)).put (by omega) _
    · have h1 := (hX.row.take rfl k hkE)
      have hT : ∀ g, (Value.slice a k c).ownBlock = some g → g ≠ Ls ∧ g < X.heap.size ∧ g ≠ D := by
        intro g hg
        have hg' : (Value.slice a E.length c).ownBlock = some g := (own_len a _ _ c).trans hg
        have := hown g hg'.symm
        refine ⟨fun e => ?_, by have := hb.size; omega, by omega⟩
        subst e
        exact hX.row.type_ne hX.blk.ty (by decide) hg'.symm
      rw [hk]
      have hlen : (E.take k).length = k := by simp; omega
      rw [hlen]
      exact h1.same fun g hg => (World.putObj_heap_other (hT g hg).2.2).trans (Below.heap_setCell _ _ _ _ (hT g hg).1)
    · show w.heap.size ≤ _
      simp
      exact hb.size
    · exact fun e => hne (e.trans (own_len a _ _ c))
  case stop =>
    rintro D c pre X hD hpre h hK
    exact h.elim
end Go.Proofs.Ytnnidajflnandaa
