/- Last, walked: the last element of a name behind the last mark. -/
import Derived.Test.YtnnidajflnandaaFd
import Derived.Test.YtnnidajflnandaaGet
import Derived.Shelf.RegionOpen
namespace Go.Proofs.Ytnnidajflnandaa
open Go.RowKit Go.Lib
attribute [local go_sem] Oper.semAt_some

/-- the name of an element's number -/
def nmAt (L : List QN) (i : Int) : List UInt8 := match L[i.toNat]? with | some n => n.nm | none => []
/-- all entries but marks are elements -/
def Ok (L : List QN) (E : List Int) : Prop := ∀ x ∈ E, x ≠ -1 → 0 < x ∧ x.toNat < L.length

theorem Ok.at {L : List QN} {E : List Int} (h : Ok L E) {x : Int} (hx : x ∈ E) (h1 : x ≠ -1) : ∃ (m : Nat) (n : QN), x = (m : Int) ∧ m ≠ 0 ∧ L[m]? = some n ∧ nmAt L x = n.nm := by
  obtain ⟨h2, h3⟩ := h x hx h1
  refine ⟨x.toNat, L[x.toNat], by omega, by omega, List.getElem?_eq_getElem h3, ?_⟩
  unfold nmAt
  rw [List.getElem?_eq_getElem h3]

theorem bb_mem {E : List Int} {p : Nat × Int} (h : p ∈ bb E.reverse) : p.2 ∈ E ∧ p.2 ≠ -1 ∧ E[p.1]? = some p.2 := by
  have h1 : p ∈ bw E.reverse := (List.takeWhile_prefix _).subset h
  have h2 := bw_at rfl h1
  refine ⟨List.mem_of_getElem? h2, ?_, h2⟩
  have h3 : ∀ {L : List (Nat × Int)}, p ∈ L.takeWhile (fun p => nm p.2) → nm p.2 = true := by
    intro L
    induction L with
    | nil => intro h; cases h
    | cons q L ih =>
      rw [List.takeWhile_cons]
      split
      · intro h
        rcases List.mem_cons.1 h with rfl | h
        · assumption
        · exact ih h
      · intro h; cases h
  have := h3 h
  intro e
  rw [e] at this
  cases this

/-- what Last answers -/
def lst (L : List QN) (E : List Int) (s : List UInt8) : Option (Nat × Int) := (bb E.reverse).find? fun p => nmAt L p.2 == s
def resL (o : Option (Nat × Int)) : Value := match o with | some p => .tuple #[.int .i64 p.2, .bool true] | none => .tuple #[.int .i64 0, .bool false]

theorem bx_more {g : Nat} {cs : Array Value} {t : TypeId} {w : World} (h : Bx g cs t w) (o : Obj) : Bx g cs t (w.alloc o) := h.below (At.below_alloc _)
theorem bx_at (w : World) (g : Nat) (cs : Array Value) (t : TypeId) (hg : g = w.heap.size) : Bx g cs t (w.alloc (.cells cs t)) := by rw [hg]; exact bx_new w cs t
theorem Kr.drew (B : Nat) (S : Nat → Prop) (W : World) : Kr B S W W.drew := ⟨Nat.le_refl _, fun _ _ _ => rfl⟩

theorem mixed : Try.prog.follows .mixedOrders = true := by kernel_rfl

set_option maxRecDepth 100000 in
set_option maxHeartbeats 4000000 in
theorem last_any {A B Ls R cp : Nat} {w : World} {L : List QN} {vn : Value} {E : List Int} {v : Value} (ha : AR A w R L cp vn) (h : LR B w Ls R E v) (hok : Ok L E) (hl : E.length ≤ 1000000) (s : List UInt8) :
    Calls Try.prog 28 #[.pointer (some ⟨Ls, 0, none⟩), .string ⟨s.toArray⟩] w fun e w' => e = .returned (resL (lst L E s)) ∧ Below w.heap.size w w' := by
  have hlt := h.lt
  have hmix := mixed
  refine (callsIn_wide (n := 0)).1 (callsIn_of_wp_marks Try.func28 rfl trivial ?_ rfl)
  simp only [Try.ntmps28, List.size_toArray, List.length_cons, List.length_nil, Nat.reduceAdd, Nat.reduceSub, Array.replicate_succ, Array.replicate_zero, List.push_toArray, List.append_toArray, List.nil_append, List.cons_append]
  have cB := fun W => behindMark_any Ls W
  gi_wp2_with (refine ⟨trivial, rfl, ?_⟩; gi_at_call 35; refine (callsIn_wide.2 (cB _)).mono ?_; rintro e w' ⟨rfl, rfl⟩)
  obtain ⟨W2, hW2⟩ : ∃ W2, ((((w.alloc (.cells #[.pointer (some ⟨Ls, 0, none⟩)] 33)).alloc (.cells #[.string ⟨s.toArray⟩] 9)).alloc (.cells #[.int .i64 0] 3)).alloc (.cells #[.bool false] 4)).alloc (.cells #[.pointer (some ⟨Ls, 0, none⟩)] 33) = W2 := ⟨_, rfl⟩
  have z2 : W2.heap.size = w.heap.size + 5 := by rw [← hW2]; simp
  have b2 : Below w.heap.size w W2 := by rw [← hW2]; exact ((((At.below_alloc _).alloc (by simp) _).alloc (by simp; omega) _).alloc (by simp; omega) _).alloc (by simp; omega) _
  have x0 : Bx w.heap.size #[.pointer (some ⟨Ls, 0, none⟩)] 33 W2 := by rw [← hW2]; exact bx_more (bx_more (bx_more (bx_more (bx_at w _ _ _ rfl) _) _) _) _
  have x1 : Bx (w.heap.size + 1) #[.string ⟨s.toArray⟩] 9 W2 := by rw [← hW2]; exact bx_more (bx_more (bx_more (bx_at _ _ _ _ (by simp)) _) _) _
  have x2 : Bx (w.heap.size + 2) #[.int .i64 0] 3 W2 := by rw [← hW2]; exact bx_more (bx_more (bx_at _ _ _ _ (by simp)) _) _
  have x3 : Bx (w.heap.size + 3) #[.bool false] 4 W2 := by rw [← hW2]; exact bx_more (bx_at _ _ _ _ (by simp)) _
  have x4 : W2.cell? ⟨w.heap.size + 4, 0, none⟩ = some (.pointer (some ⟨Ls, 0, none⟩)) := by rw [← hW2]; exact (bx_at _ _ #[.pointer (some ⟨Ls, 0, none⟩)] 33 (by simp)).cell 0
  have h2 := h.below b2
  have hown : ∀ q, some q = v.ownBlock → q < w.heap.size := fun q hq => (h.row.lt q hq.symm).2
  rw [hW2]
  clear hW2
  refine range_law (gf := 44) (lb := #[.pointer (some ⟨w.heap.size + 1 + 1 + 1 + 1, 0, none⟩)]) rfl (enters_of Try.func44 (by kernel_rfl) rfl) (mark_gives (w.heap.size + 1 + 1 + 1 + 1) Ls B R v E hl W2 x4 h2)
    (fun g hg => by have := hown g hg; omega) (Below.refl _ _) (fun _ => rfl)
    (fun pre X => (∀ p ∈ pre, (nmAt L p.2 == s) = false) ∧ Below w.heap.size w X ∧ Bx w.heap.size #[.pointer (some ⟨Ls, 0, none⟩)] 33 X ∧ Bx (w.heap.size + 1) #[.string ⟨s.toArray⟩] 9 X ∧ Bx (w.heap.size + 2) #[.int .i64 0] 3 X ∧ Bx (w.heap.size + 3) #[.bool false] 4 X)
    (fun c pre X => c = .ret ∧ Below w.heap.size w X ∧ ∃ q p, pre = q ++ [p] ∧ (∀ p ∈ q, (nmAt L p.2 == s) = false) ∧ (nmAt L p.2 == s) = true ∧ Bx (w.heap.size + 2) #[.int .i64 p.2] 3 X ∧ Bx (w.heap.size + 3) #[.bool true] 4 X)
    (fun s X Y h hb => ⟨h.1, h.2.1.trans (hb.mono (by omega)), (hb.block _ (by omega)).trans h.2.2.1, (hb.block _ (by omega)).trans h.2.2.2.1, (hb.block _ (by omega)).trans h.2.2.2.2.1, (hb.block _ (by omega)).trans h.2.2.2.2.2⟩)
    (fun c s X Y h hb => ⟨h.1, h.2.1.trans (hb.mono (by omega)), by
      obtain ⟨q, p, h1, h2, h3, h4, h5⟩ := h.2.2
      exact ⟨q, p, h1, h2, h3, (hb.block _ (by omega)).trans h4, (hb.block _ (by omega)).trans h5⟩⟩)
    ⟨fun p hp => (by cases hp), b2, x0, x1, x2, x3⟩
    (fun x => { tmps := #[.pointer (some ⟨Ls, 0, none⟩), .string ⟨s.toArray⟩, .pointer (some ⟨w.heap.size, 0, none⟩), .pointer (some ⟨w.heap.size + 1, 0, none⟩), .pointer (some ⟨w.heap.size + 1 + 1, 0, none⟩), .pointer (some ⟨w.heap.size + 1 + 1 + 1, 0, none⟩), undef, .int .i64 x.2, .pointer (some ⟨Ls, 0, none⟩), .func (.func 44) #[] #[.pointer (some ⟨w.heap.size + 1 + 1 + 1 + 1, 0, none⟩)], .int .i64 (x.1 : Int), .int .i64 x.2, undef, undef, undef, undef, undef, undef, undef, undef, undef], defers := [] })
    ?assign ?body ?done ?stop
  case assign =>
    intro l2 x X K hK
    unfold enc2
    gi_wp2
    exact hK
  case body =>
    rintro l2 pre ⟨k, j⟩ X hpre ⟨hn, hb, y0, y1, y2, y3⟩ hX
    obtain ⟨hE, hj1, -⟩ := bb_mem (hpre.subset (List.mem_append.2 (Or.inr (List.mem_singleton.2 rfl))))
    simp only at hE hj1
    obtain ⟨m, n, rfl, hm, hLm, hnm⟩ := hok.at hE hj1
    have e0 := y0.cell 0
    have e1 := y1.cell 0
    have e2 := y2.cell 0
    have e3 := y3.cell 0
    have f2 := y2.fr 0
    have f3 := y3.fr 0
    have haX := ha.below hb
    have l0 := (h.below hb).c0
    have cN := name_any (haX.below (below_drew X)) m n hLm (Or.inl hm)
    have HN := Lib.hid hn
    have HB := Lib.hid hb
    have Y0 := Lib.hid y0
    have Y1 := Lib.hid y1
    have Y2 := Lib.hid y2
    have Y3 := Lib.hid y3
    have HM := Lib.hid hnm
    clear hn hb y0 y1 y2 y3 hpre haX hE hj1 hnm
    by_cases hs : (n.nm == s) = true
    · gi_wp2
      gi_region_with_o (refine ⟨trivial, rfl, ?_⟩; gi_at_call 39; refine (CallsIn.inRound l2 ((callsIn_wide (n := 0)).2 cN)).mono ?_; rintro e w' ⟨rfl, rfl⟩)
      all_goals gi_wp2
      all_goals exact ⟨(Kr.drew _ _ X).trans ((Kr.setCell _ _ _ (by show w.heap.size + 2 < _; omega) (fun h => by have := hown _ h; simp only at this; omega)).trans (Kr.setCell _ _ _ (by show w.heap.size + 3 < _; omega) (fun h => by have := hown _ h; simp only at this; omega))), rfl,
        below_set (below_set (HB.out.trans ((below_drew X).mono HB.out.size)) (by omega) _ _) (by omega) _ _, pre, (k, (m : Int)), rfl, HN.out, by show (nmAt L (m : Int) == s) = true; rw [HM.out]; exact hs, ((Y2.out.below (below_drew X)).set 0 _).other (by omega) _ _, ((Y3.out.below (below_drew X)).other (by omega) _ _).set 0 _⟩
    · have hs' : (n.nm == s) = false := by simpa using hs
      gi_wp2
      gi_region_with_o (refine ⟨trivial, rfl, ?_⟩; gi_at_call 39; refine (CallsIn.inRound l2 ((callsIn_wide (n := 0)).2 cN)).mono ?_; rintro e w' ⟨rfl, rfl⟩)
      all_goals gi_wp2
      all_goals exact ⟨Kr.drew _ _ X, by
        intro p hp
        rcases List.mem_append.1 hp with hp | hp
        · exact HN.out p hp
        · simp only [List.mem_singleton] at hp; subst hp; show (nmAt L (m : Int) == s) = false; rw [HM.out]; exact hs', HB.out.trans ((below_drew X).mono HB.out.size), Y0.out.below (below_drew X), Y1.out.below (below_drew X), Y2.out.below (below_drew X), Y3.out.below (below_drew X)⟩
  case done =>
    rintro D X hD ⟨hn, hb, y0, y1, y2, y3⟩ hK
    have e2 := y2.cell 0
    have e3 := y3.cell 0
    have f2 := y2.fr 0
    have f3 := y3.fr 0
    gi_wp2
    have hK' : ((X.setCell ⟨w.heap.size + 1 + 1, 0, none⟩ (.int .i64 0)).setCell ⟨w.heap.size + 1 + 1 + 1, 0, none⟩ (.bool false)).heap[D]? = some (.deferred (some [])) :=
      (Below.heap_setCell _ _ _ _ (by show D ≠ w.heap.size + 1 + 1 + 1; omega)).trans ((Below.heap_setCell _ _ _ _ (by show D ≠ w.heap.size + 1 + 1; omega)).trans hK)
    refine ⟨by simp, .inl ⟨_, _, rfl, run_takeDeferred hK', ?_⟩⟩
    have c2 := (((y2.set 0 (.int .i64 0)).other (show w.heap.size + 2 ≠ w.heap.size + 1 + 1 + 1 by omega) 0 (.bool false)).put (show w.heap.size + 2 ≠ D by omega) (.deferred none)).cell 0
    have c3 := (((y3.other (show w.heap.size + 3 ≠ w.heap.size + 1 + 1 by omega) 0 (.int .i64 0)).set 0 (.bool false)).put (show w.heap.size + 3 ≠ D by omega) (.deferred none)).cell 0
    refine ⟨.tuple #[.int .i64 0, .bool false], by simp [results, Try.f28, go_sem, c2, c3], ?_, (below_set (below_set hb (by omega) _ _) (by omega) _ _).trans (below_put _ _ _ (by omega) (Array.getElem?_eq_some_iff.1 hK').1)⟩
    unfold lst
    rw [find_no hn]
    rfl
  case stop =>
    rintro D c pre X hD hpre ⟨rfl, hb, q, p, rfl, hq, hp, y2, y3⟩ hK
    gi_wp2
    refine ⟨by simp, .inl ⟨_, _, rfl, run_takeDeferred hK, ?_⟩⟩
    have c2 := (y2.put (show w.heap.size + 2 ≠ D by omega) (.deferred none)).cell 0
    have c3 := (y3.put (show w.heap.size + 3 ≠ D by omega) (.deferred none)).cell 0
    refine ⟨.tuple #[.int .i64 p.2, .bool true], by simp [results, Try.f28, go_sem, c2, c3], ?_, hb.trans (below_put _ _ _ (by omega) (Array.getElem?_eq_some_iff.1 hK).1)⟩
    unfold lst
    rw [find_front hpre hq hp]
    rfl
end Go.Proofs.Ytnnidajflnandaa
