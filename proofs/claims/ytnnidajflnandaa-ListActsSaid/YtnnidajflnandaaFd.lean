/- Find, walked: the place of an entry. -/
import Derived.Test.YtnnidajflnandaaBm
import Derived.Test.YtnnidajflnandaaRb
namespace Go.Proofs.Ytnnidajflnandaa
open Go.RowKit Go.Lib
attribute [local go_sem] Oper.semAt_some

theorem Bx.put {g D : Nat} {cs : Array Value} {t : TypeId} {w : World} (h : Bx g cs t w) (hne : g ≠ D) (o : Obj) : Bx g cs t (w.putObj D o) := (World.putObj_heap_other hne).trans h

/-- the first one that is asked for, behind those that aren't -/
theorem find_front {α : Type} {P : α → Bool} {q L : List α} {x : α} (h : q ++ [x] <+: L) (hq : ∀ y ∈ q, P y = false) (hx : P x = true) : L.find? P = some x := by
  obtain ⟨s, rfl⟩ := h
  induction q with
  | nil => simp [hx]
  | cons y q ih =>
    simp only [List.cons_append, List.append_assoc, List.nil_append] at ih ⊢
    rw [List.find?_cons_of_neg (by simp [hq y])]
    exact ih fun z hz => hq z (by simp [hz])
theorem find_no {α : Type} {P : α → Bool} {L : List α} (hq : ∀ y ∈ L, P y = false) : L.find? P = none := by
  rw [List.find?_eq_none]
  intro y hy
  simp [hq y hy]

/-- the place that Find answers -/
def plc (E : List Int) (i : Int) : Int :=
  if i = -1 then -1 else match (bw E.reverse).find? (fun p => p.2 == i) with
    | some p => (p.1 : Int)
    | none => -1

set_option maxRecDepth 100000 in
set_option maxHeartbeats 4000000 in
theorem find_any {B Ls R : Nat} {w : World} {E : List Int} {v : Value} (h : LR B w Ls R E v) (hl : E.length ≤ 1000000) (i : Int) :
    Calls Try.prog 26 #[.pointer (some ⟨Ls, 0, none⟩), .int .i64 i] w fun e w' => e = .returned (.int .i64 (plc E i)) ∧ Below w.heap.size w w' := by
  have hlt := h.lt
  by_cases hi : i = -1
  · subst hi
    go_enter Try.func26, Try.ntmps26
    go_wp2
    refine bodyPost_ret (v := .int .i64 (-1)) (by simp [results, Try.f26, go_sem]) rfl ?_
    exact ⟨rfl, (At.below_alloc _).alloc (by simp) _⟩
  · obtain ⟨a, c, rfl, -⟩ := h.row.slice
    have hi' : (i == -1) = false := by simp [hi]
    refine (callsIn_wide (n := 0)).1 (callsIn_of_wp_marks Try.func26 rfl trivial ?_ rfl)
    simp only [Try.ntmps26, List.size_toArray, List.length_cons, List.length_nil, Nat.reduceAdd, Nat.reduceSub, Array.replicate_succ, Array.replicate_zero, List.push_toArray, List.append_toArray, List.nil_append, List.cons_append]
    have c1 := h.c1
    gi_wp2_with (refine ⟨trivial, rfl, ?_⟩; gi_at_call 38; refine (callsIn_wide.2 (backward_any _ _ _ _)).mono ?_; rintro e w' ⟨rfl, rfl⟩)
    obtain ⟨W2, hW2⟩ : ∃ W2, ((w.alloc (.cells #[.int .i64 i] 3)).alloc (.cells #[.int .i64 0] 3)).alloc (.cells #[.slice a E.length c] 29) = W2 := ⟨_, rfl⟩
    have z2 : W2.heap.size = w.heap.size + 3 := by rw [← hW2]; simp
    have b2 : Below w.heap.size w W2 := by rw [← hW2]; exact ((At.below_alloc _).alloc (by simp) _).alloc (by simp; omega) _
    have x0 : Bx w.heap.size #[.int .i64 i] 3 W2 := by rw [← hW2]; exact ((bx_new w _ 3).below (At.below_alloc _)).below (At.below_alloc _)
    have x1 : Bx (w.heap.size + 1) #[.int .i64 0] 3 W2 := by
      have := (bx_new (w.alloc (.cells #[.int .i64 i] 3)) #[.int .i64 0] 3).below (At.below_alloc (.cells #[.slice a E.length c] 29))
      rw [hW2] at this
      simpa using this
    have x2 : W2.cell? ⟨w.heap.size + 2, 0, none⟩ = some (.slice a E.length c) := by
      have := (bx_new ((w.alloc (.cells #[.int .i64 i] 3)).alloc (.cells #[.int .i64 0] 3)) #[.slice a E.length c] 29).cell 0
      rw [hW2] at this
      simpa using this
    have hrow2 := h.row.below b2
    have hown : ∀ q, some q = (Value.slice a E.length c).ownBlock → q < w.heap.size := fun q hq => (h.row.lt q hq.symm).2
    rw [hW2]
    clear hW2 c1 h
    refine range_law (gf := 47) (lb := #[.pointer (some ⟨w.heap.size + 1 + 1, 0, none⟩)]) rfl (enters_of Try.func47 (by kernel_rfl) rfl) (back_gives (w.heap.size + 1 + 1) B _ E hl W2 x2 hrow2)
      (fun g hg => by
        rcases hg with rfl | hg
        · omega
        · have := hown g hg; omega) (Below.refl _ _) (fun _ => rfl)
      (fun pre X => (∀ p ∈ pre, (p.2 == i) = false) ∧ Below w.heap.size w X ∧ Bx w.heap.size #[.int .i64 i] 3 X ∧ Bx (w.heap.size + 1) #[.int .i64 0] 3 X)
      (fun c pre X => c = .ret ∧ Below w.heap.size w X ∧ ∃ q p, pre = q ++ [p] ∧ (∀ p ∈ q, (p.2 == i) = false) ∧ (p.2 == i) = true ∧ Bx (w.heap.size + 1) #[.int .i64 (p.1 : Int)] 3 X)
      (fun s X Y h hb => ⟨h.1, h.2.1.trans (hb.mono (by omega)), (hb.block _ (by omega)).trans h.2.2.1, (hb.block _ (by omega)).trans h.2.2.2⟩)
      (fun c s X Y h hb => ⟨h.1, h.2.1.trans (hb.mono (by omega)), by
        obtain ⟨q, p, h1, h2, h3, h4⟩ := h.2.2
        exact ⟨q, p, h1, h2, h3, (hb.block _ (by omega)).trans h4⟩⟩)
      ⟨fun p hp => (by cases hp), b2, x0, x1⟩
      (fun x => { tmps := #[.pointer (some ⟨Ls, 0, none⟩), .int .i64 i, undef, .pointer (some ⟨w.heap.size, 0, none⟩), .pointer (some ⟨w.heap.size + 1, 0, none⟩), .int .i64 (x.1 : Int), .int .i64 x.2, .int .i64 i, .bool false, .pointer (some ⟨Ls, 0, none⟩), .pointer (some ⟨Ls, 0, none⟩), .pointer (some ⟨Ls, 1, none⟩), .slice a E.length c, .func (.func 47) #[] #[.pointer (some ⟨w.heap.size + 1 + 1, 0, none⟩)], .int .i64 (x.1 : Int), .int .i64 x.2, undef, undef, undef, undef], defers := [] })
      ?assign ?body ?done ?stop
    case assign =>
      intro l2 x X K hK
      unfold enc2
      gi_wp2
      exact hK
    case body =>
      rintro l2 pre ⟨k, j⟩ X hpre ⟨hn, hb, y0, y1⟩ hX
      have e0 := y0.cell 0
      have e1 := y1.cell 0
      have f1 := y1.fr 0
      have HN := Lib.hid hn
      have HB := Lib.hid hb
      have Y0 := Lib.hid y0
      have Y1 := Lib.hid y1
      clear hn hb y0 y1 hpre
      by_cases hj : (j == i) = true
      · gi_wp2
        exact ⟨Kr.setCell _ _ _ (by show w.heap.size + 1 < _; omega) (by
          show ¬ (w.heap.size + 1 = w.heap.size + 1 + 1 ∨ some (w.heap.size + 1) = _)
          rintro (h | h)
          · omega
          · have := hown _ h; omega), rfl, below_set HB.out (Nat.le_succ _) _ _, pre, (k, j), rfl, HN.out, hj, Y1.out.set 0 _⟩
      · have hj' : (j == i) = false := by simpa using hj
        gi_wp2
        exact ⟨Kr.refl _ _ _, by
          intro p hp
          rcases List.mem_append.1 hp with hp | hp
          · exact HN.out p hp
          · simp only [List.mem_singleton] at hp; subst hp; exact hj', HB.out, Y0.out, Y1.out⟩
    case done =>
      rintro D X hD ⟨hn, hb, y0, y1⟩ hK
      have e1 := y1.cell 0
      have f1 := y1.fr 0
      gi_wp2
      have hK' : (X.setCell ⟨w.heap.size + 1, 0, none⟩ (.int .i64 (-1))).heap[D]? = some (.deferred (some [])) := (Below.heap_setCell _ _ _ _ (by show D ≠ w.heap.size + 1; omega)).trans hK
      refine ⟨by simp, .inl ⟨_, _, rfl, run_takeDeferred hK', ?_⟩⟩
      have hc := ((y1.set 0 (.int .i64 (-1))).put (show w.heap.size + 1 ≠ D by omega) (.deferred none)).cell 0
      refine ⟨.int .i64 (-1), by simp [results, Try.f26, go_sem, hc], ?_, (below_set hb (Nat.le_succ _) _ _).trans (below_put _ _ _ (by omega) (Array.getElem?_eq_some_iff.1 hK').1)⟩
      unfold plc
      rw [if_neg hi, find_no hn]
    case stop =>
      rintro D c pre X hD hpre ⟨rfl, hb, q, p, rfl, hq, hp, y1⟩ hK
      gi_wp2
      refine ⟨by simp, .inl ⟨_, _, rfl, run_takeDeferred hK, ?_⟩⟩
      have hc := (y1.put (show w.heap.size + 1 ≠ D by omega) (.deferred none)).cell 0
      refine ⟨.int .i64 (p.1 : Int), by simp [results, Try.f26, go_sem, hc], ?_, hb.trans (below_put _ _ _ (by omega) (Array.getElem?_eq_some_iff.1 hK).1)⟩
      unfold plc
      rw [if_neg hi, find_front hpre hq hp]
end Go.Proofs.Ytnnidajflnandaa
