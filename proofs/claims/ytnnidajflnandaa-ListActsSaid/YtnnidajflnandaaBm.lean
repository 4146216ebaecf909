/- The list in memory; behindMark's iterator, walked: it hands out what stands behind the last mark, from the end on. -/
import Derived.Test.YtnnidajflnandaaBk
import Derived.Test.YtnnidajflnandaaRa
namespace Go.Proofs.Ytnnidajflnandaa
open Go.RowKit Go.Lib
attribute [local go_sem] Oper.semAt_some

/-- the list in memory: its block, its entries' row -/
structure LR (B : Nat) (w : World) (Ls R : Nat) (E : List Int) (v : Value) : Prop where
  hB : B ≤ Ls
  blk : Bx Ls #[.pointer (some ⟨R, 0, none⟩), v] 68 w
  row : Rw B 3 1 v E.length (ints E) w

theorem LR.lt {B Ls R : Nat} {w : World} {E : List Int} {v : Value} (h : LR B w Ls R E v) : Ls < w.heap.size := h.blk.lt
theorem LR.c0 {B Ls R : Nat} {w : World} {E : List Int} {v : Value} (h : LR B w Ls R E v) : w.cell? ⟨Ls, 0, none⟩ = some (.pointer (some ⟨R, 0, none⟩)) := h.blk.cell 0
theorem LR.c1 {B Ls R : Nat} {w : World} {E : List Int} {v : Value} (h : LR B w Ls R E v) : w.cell? ⟨Ls, 1, none⟩ = some v := h.blk.cell 1
theorem LR.below {B Ls R : Nat} {w w' : World} {E : List Int} {v : Value} (h : LR B w Ls R E v) (hb : Below w.heap.size w w') : LR B w' Ls R E v := ⟨h.hB, h.blk.below hb, h.row.below hb⟩
theorem LR.same {B Ls R : Nat} {w w' : World} {E : List Int} {v : Value} (h : LR B w Ls R E v) (h1 : w'.heap[Ls]? = w.heap[Ls]?) (h2 : ∀ g, v.ownBlock = some g → w'.heap[g]? = w.heap[g]?) : LR B w' Ls R E v := ⟨h.hB, h1.trans h.blk, h.row.same h2⟩

theorem behindMark_any (Ls : Nat) (w : World) :
    Calls Try.prog 35 #[.pointer (some ⟨Ls, 0, none⟩)] w fun e w' => e = .returned (.func (.func 44) #[] #[.pointer (some ⟨w.heap.size, 0, none⟩)]) ∧ w' = w.alloc (.cells #[.pointer (some ⟨Ls, 0, none⟩)] 33) := by
  go_enter Try.func35, Try.ntmps35
  go_wp2
  go_ret
  exact ⟨rfl, rfl⟩

set_option maxRecDepth 100000 in
set_option maxHeartbeats 2000000 in
theorem mark_in (Bs Ls B R : Nat) (E : List Int) (v : Value) (hl : E.length ≤ 1000000) (l : Nat) (J Jx : List (Nat × Int) → World → Prop) (W : World)
    (hbox : W.cell? ⟨Bs, 0, none⟩ = some (.pointer (some ⟨Ls, 0, none⟩))) (hls : LR B W Ls R E v)
    (hJ : ∀ s X Y, J s X → Below W.heap.size X Y → J s Y) (hJx : ∀ s X Y, Jx s X → Below W.heap.size X Y → Jx s Y)
    (hY : ∀ pre x X, pre ++ [x] <+: bb E.reverse → J pre X → W.heap.size ≤ X.heap.size → YieldAt Fence.wide 0 Try.prog l (enc2 x) X fun e Y =>
      (e = .returned (.bool true) ∧ J (pre ++ [x]) Y ∧ Kr W.heap.size (fun q => some q = v.ownBlock) X Y) ∨ (e = .returned (.bool false) ∧ Jx (pre ++ [x]) Y ∧ Kr W.heap.size (fun q => some q = v.ownBlock) X Y))
    (h0 : J [] W) :
    CallsIn Fence.wide 0 Try.prog 44 #[.func (.yield l) #[] #[], .pointer (some ⟨Bs, 0, none⟩)] W fun e Y => (∃ v, e = .returned v) ∧ (J (bb E.reverse) Y ∨ ∃ pre, pre <+: bb E.reverse ∧ Jx pre Y) := by
  obtain ⟨a, c, rfl, -⟩ := hls.row.slice
  have c1 := hls.c1
  have hlt := hls.lt
  have hblt := World.block_lt_of_cell? W _ hbox
  refine callsIn_of_wp_marks Try.func44 rfl trivial ?_ rfl
  simp only [Try.ntmps44, List.size_toArray, List.length_cons, List.length_nil, Nat.reduceAdd, Nat.reduceSub, Array.replicate_succ, Array.replicate_zero, List.push_toArray, List.append_toArray, List.nil_append, List.cons_append]
  gi_wp2_with (refine ⟨trivial, rfl, ?_⟩; gi_at_call 38; refine (callsIn_wide.2 (backward_any _ _ _ _)).mono ?_; rintro e w' ⟨rfl, rfl⟩)
  -- the two boxes: yield's, and the slice's
  have bY : Bx W.heap.size #[.func (.yield l) #[] #[]] 86 (W.alloc (.cells #[.func (.yield l) #[] #[]] 86)) := bx_new W _ 86
  obtain ⟨W1, hW1⟩ : ∃ W1, W.alloc (.cells #[.func (.yield l) #[] #[]] 86) = W1 := ⟨_, rfl⟩
  obtain ⟨W2, hW2⟩ : ∃ W2, W1.alloc (.cells #[.slice a E.length c] 29) = W2 := ⟨_, rfl⟩
  have z1 : W1.heap.size = W.heap.size + 1 := by rw [← hW1]; simp
  have z2 : W2.heap.size = W.heap.size + 2 := by rw [← hW2]; simp; omega
  have b1 : Below W.heap.size W W1 := by rw [← hW1]; exact At.below_alloc _
  have b12 : Below W1.heap.size W1 W2 := by rw [← hW2]; exact At.below_alloc _
  have b2 : Below W.heap.size W W2 := below_trans b1 b12
  rw [hW1] at bY
  have bY2 := bY.below b12
  have cS : W2.cell? ⟨W1.heap.size, 0, none⟩ = some (.slice a E.length c) := by rw [← hW2]; exact (bx_new W1 #[.slice a E.length c] 29).cell 0
  simp only [hW1, hW2]
  rw [z1] at cS
  have hrow2 := hls.row.below b2
  have hown : ∀ q, some q = (Value.slice a E.length c).ownBlock → q < W.heap.size := fun q hq => (hls.row.lt q hq.symm).2
  clear hW1 hW2 b1 b12 bY c1 hbox
  refine range_law (gf := 47) (lb := #[.pointer (some ⟨W.heap.size + 1, 0, none⟩)]) rfl (enters_of Try.func47 (by kernel_rfl) rfl) (back_gives (W.heap.size + 1) B _ E hl W2 cS hrow2)
    (fun g hg => by
      rcases hg with rfl | hg
      · omega
      · have := hown g hg; omega) (Below.refl _ _) (fun _ => rfl)
    (fun pre X => J pre X ∧ (∀ p ∈ pre, nm p.2 = true) ∧ X.cell? ⟨W.heap.size, 0, none⟩ = some (.func (.yield l) #[] #[]))
    (fun c pre X => c = .ret ∧ (J (bb E.reverse) X ∨ ∃ q, q <+: bb E.reverse ∧ Jx q X))
    (fun s X Y h hb => ⟨hJ _ _ _ h.1 (hb.mono (by omega)), h.2.1, (hb.cell (p := ⟨W.heap.size, 0, none⟩) (by show W.heap.size < _; omega)).trans h.2.2⟩)
    (fun c s X Y h hb => ⟨h.1, h.2.imp (fun h => hJ _ _ _ h (hb.mono (by omega))) (fun ⟨q, h1, h2⟩ => ⟨q, h1, hJx _ _ _ h2 (hb.mono (by omega))⟩)⟩)
    ⟨hJ _ _ _ h0 b2, fun p hp => (by cases hp), bY2.cell 0⟩
    (fun x => { tmps := #[.func (.yield l) #[] #[], .pointer (some ⟨Bs, 0, none⟩), .pointer (some ⟨W.heap.size, 0, none⟩), .int .i64 (x.1 : Int), .int .i64 x.2, .pointer (some ⟨Ls, 0, none⟩), .pointer (some ⟨Ls, 0, none⟩), .pointer (some ⟨Ls, 1, none⟩), .slice a E.length c, .func (.func 47) #[] #[.pointer (some ⟨W.heap.size + 1, 0, none⟩)], .int .i64 (x.1 : Int), .int .i64 x.2, undef, undef, undef, undef, undef, undef, undef, undef, undef], defers := [] })
    ?assign ?body ?done ?stop
  case assign =>
    intro l2 x X K hK
    unfold enc2
    gi_wp2
    exact hK
  case body =>
    rintro l2 pre ⟨k, i⟩ X hpre ⟨hj, hn, hy⟩ hX
    by_cases hi : i = -1
    · subst hi
      have hbb : bb E.reverse = pre := stop_bb hpre hn rfl
      have HJ := Lib.hid (hbb ▸ hj : J (bb E.reverse) X)
      clear hbb hj hY
      gi_wp2
      all_goals (refine ⟨fun _ h => (by cases h), ?_⟩)
      all_goals gi_wp2
      all_goals exact ⟨Kr.refl _ _ _, rfl, Or.inl HJ.out⟩
    · have hni : nm i = true := by simp [nm, hi]
      have hn' : ∀ p ∈ pre ++ [(k, i)], nm p.2 = true := by
        intro p hp
        rcases List.mem_append.1 hp with hp | hp
        · exact hn p hp
        · simp only [List.mem_singleton] at hp; subst hp; exact hni
      have hpb : pre ++ [(k, i)] <+: bb E.reverse := front_bb hpre hn'
      obtain ⟨fn, tmps, assign, body, hyy, hR⟩ := hY pre (k, i) X hpb hj (by omega)
      unfold enc2 at hyy
      dsimp only at hyy
      have kr : ∀ Y, Kr W.heap.size (fun q => some q = (Value.slice a E.length c).ownBlock) X Y → Kr W2.heap.size (fun q => q = W.heap.size + 1 ∨ some q = (Value.slice a E.length c).ownBlock) X Y :=
        fun Y h => ⟨h.size, fun g hg hl => h.same g (by
          rcases hg with hg | rfl | hg
          · exact Or.inl (by omega)
          · exact Or.inl (by omega)
          · exact Or.inr hg) hl⟩
      have HK := Lib.hid kr
      have HN := Lib.hid hn'
      have HP := Lib.hid hpb
      clear hn hpre hj hY hpb hn' kr hni
      gi_wp2
      refine ⟨rfl, (show RoundIn (Fence.wide.inRound l2) 0 Try.prog l fn tmps assign body X _ from hR).mono ?_⟩
      rintro e Y (⟨rfl, hJ3, hk3⟩ | ⟨rfl, hJx3, hk3⟩)
      · gi_wp2
        exact ⟨HK.out Y hk3, hJ3, HN.out, (World.cell?_of_block (a := ⟨W.heap.size, 0, none⟩) (hk3.same _ (Or.inl (Nat.le_refl _)) (by show W.heap.size < _; omega))).trans hy⟩
      · gi_wp2
        exact ⟨HK.out Y hk3, rfl, Or.inr ⟨_, HP.out, hJx3⟩⟩
  case done =>
    rintro D X hD ⟨hj, hn, -⟩ hK
    have hbb : bb E.reverse = bw E.reverse := all_bb hn
    gi_wp2
    refine ⟨by simp, .inl ⟨_, _, rfl, run_takeDeferred hK, ?_⟩⟩
    exact ⟨_, results_none rfl _ _ _, ⟨_, rfl⟩, Or.inl (hJ _ _ _ (hbb ▸ hj) (below_put _ _ _ (by omega) (Array.getElem?_eq_some_iff.1 hK).1))⟩
  case stop =>
    rintro D c pre X hD hpre ⟨rfl, h⟩ hK
    have hb : Below W.heap.size X (X.putObj D (.deferred none)) := below_put _ _ _ (by omega) (Array.getElem?_eq_some_iff.1 hK).1
    gi_wp2
    refine ⟨by simp, .inl ⟨_, _, rfl, run_takeDeferred hK, ?_⟩⟩
    exact ⟨_, results_none rfl _ _ _, ⟨_, rfl⟩, h.imp (fun h => hJ _ _ _ h hb) (fun ⟨q, h1, h2⟩ => ⟨q, h1, hJx _ _ _ h2 hb⟩)⟩

/-- what behindMark hands back hands out what stands behind the last mark -/
theorem mark_gives (Bs Ls B R : Nat) (v : Value) (E : List Int) (hl : E.length ≤ 1000000) (w : World) (hbox : w.cell? ⟨Bs, 0, none⟩ = some (.pointer (some ⟨Ls, 0, none⟩))) (hls : LR B w Ls R E v) :
    Gives Try.prog 44 #[.pointer (some ⟨Bs, 0, none⟩)] enc2 (fun q => some q = v.ownBlock) (bb E.reverse) w := by
  intro l J Jx W hb hJ hJx hY h0
  exact mark_in Bs Ls B R E v hl l J Jx W ((hb.cell (p := ⟨Bs, 0, none⟩) (World.block_lt_of_cell? w _ hbox)).trans hbox) (hls.below hb) hJ hJx hY h0
end Go.Proofs.Ytnnidajflnandaa
