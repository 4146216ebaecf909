/- A range over a function, at the wide fence: what an iterator promises (it hands out a list, one element a round; it changes blocks of its own alone), and the statement's law over it. The blocks that an iterator reads between two rounds are told by S. -/
import Derived.Test.YtnnidajflnandaaBase
import Derived.RangeFuncNested
import Derived.RangeFuncBound
import Derived.RangeFuncCalls
import Derived.RangeFuncLeaves
import Derived.OwnWalkIn
import Derived.TacticsInMore
import Derived.LoopNIn
import Derived.LoopIn
import Derived.Shelf.Abstract
namespace Go.Proofs.Ytnnidajflnandaa
open Go.RowKit Go.Lib

/-- what a round leaves as it was: the blocks from B on that lay, and those of S -/
structure Kr (B : Nat) (S : Nat → Prop) (W W' : World) : Prop where
  size : W.heap.size ≤ W'.heap.size
  same : ∀ g, (B ≤ g ∨ S g) → g < W.heap.size → W'.heap[g]? = W.heap[g]?

theorem Kr.refl (B : Nat) (S : Nat → Prop) (W : World) : Kr B S W W := ⟨Nat.le_refl _, fun _ _ _ => rfl⟩
theorem Kr.trans {B : Nat} {S : Nat → Prop} {X Y Z : World} (h : Kr B S X Y) (k : Kr B S Y Z) : Kr B S X Z :=
  ⟨Nat.le_trans h.size k.size, fun g hg hl => (k.same g hg (Nat.lt_of_lt_of_le hl h.size)).trans (h.same g hg hl)⟩
theorem Kr.alloc (B : Nat) (S : Nat → Prop) (W : World) (o : Obj) : Kr B S W (W.alloc o) := ⟨by simp, fun g _ hl => Below.heap_alloc W o g hl⟩
theorem Kr.of_below {B : Nat} {S : Nat → Prop} {W W' : World} (h : Below W.heap.size W W') : Kr B S W W' := ⟨h.size, fun g _ hl => h.block g hl⟩
theorem Kr.setCell {B : Nat} {S : Nat → Prop} (W : World) (p : Addr) (v : Value) (hB : p.block < B) (hS : ¬ S p.block) : Kr B S W (W.setCell p v) :=
  ⟨by rw [World.size_setCell]; exact Nat.le_refl _, fun g hg _ => Below.heap_setCell W p v g (by
    rintro rfl
    rcases hg with hg | hg
    · omega
    · exact hS hg)⟩

/-- what an iterator promises -/
def Gives {α : Type} (P : Program) (gf : Nat) (lb : Array Value) (encs : α → Array Value) (S : Nat → Prop) (xs : List α) (w : World) : Prop :=
  ∀ (l : Nat) (J Jx : List α → World → Prop) (W : World), Below w.heap.size w W → (∀ s X Y, J s X → Below W.heap.size X Y → J s Y) → (∀ s X Y, Jx s X → Below W.heap.size X Y → Jx s Y) →
    (∀ pre x X, pre ++ [x] <+: xs → J pre X → W.heap.size ≤ X.heap.size → YieldAt Fence.wide 0 P l (encs x) X fun e Y =>
      (e = .returned (.bool true) ∧ J (pre ++ [x]) Y ∧ Kr W.heap.size S X Y) ∨ (e = .returned (.bool false) ∧ Jx (pre ++ [x]) Y ∧ Kr W.heap.size S X Y)) →
    J [] W →
    CallsIn Fence.wide 0 P gf (#[.func (.yield l) #[] #[]] ++ lb) W fun e Y => (∃ v, e = .returned v) ∧ (J xs Y ∨ ∃ pre, pre <+: xs ∧ Jx pre Y)

/-- how a round's body is left -/
def gpost {α : Type} (B : Nat) (S : Nat → Prop) (I : List α → World → Prop) (Ix : Code → List α → World → Prop) (xs : List α) (W : World) : Exit → Act → World → Prop
  | .normal, _, Y => Kr B S W Y ∧ I xs Y
  | .ret, _, Y => Kr B S W Y ∧ Ix .ret xs Y
  | .exit id, _, Y => Kr B S W Y ∧ Ix (.exit id) xs Y
  | .goto t, _, Y => Kr B S W Y ∧ Ix (.goto t) xs Y
  | .panic _, _, _ => False
  | .outgrown, _, _ => False

theorem below_put {n : Nat} (W : World) (l : Nat) (o' : Obj) (hn : n ≤ l) (hl : l < W.heap.size) : Below n W (W.putObj l o') :=
  (Below.refl n W).grown (grownBy_putObj' W l o') (by omega) (fun k e => by cases e; exact hn)

/-- the statement 'for .. := range f' -/
theorem range_law {α : Type} {P : Program} {g : Operand} {ps : Array Tmp} {assign body : Code} {Q : Exit → Act → World → Prop} {a : Act} {w : World}
    {gf : Nat} {lb : Array Value} (hg : a.eval g = .func (.func gf) #[] lb) (eg : ∀ args w, (callFunc gf args).run P w = .ok (.enter gf args) w)
    {encs : α → Array Value} {S : Nat → Prop} {xs : List α} {w0 : World} (hseq : Gives P gf lb encs S xs w0) (hS : ∀ g, S g → g < w.heap.size) (hb0 : Below w0.heap.size w0 w) (hps : ∀ x, (encs x).size = ps.size)
    (I : List α → World → Prop) (Ix : Code → List α → World → Prop) (hI : ∀ s X Y, I s X → Below w.heap.size X Y → I s Y) (hIx : ∀ c s X Y, Ix c s X → Below w.heap.size X Y → Ix c s Y) (h0 : I [] w) (a₁ : α → Act)
    (hassign : ∀ (l : Nat) (x : α) (W : World) (K : Act → World → Prop), K (a₁ x) W →
      assign.wpIn (Fence.wide.inRound l) 0 P (Exit.then K (fun _ _ _ => False)) { tmps := (ps.zip (encs x)).foldl (fun t (p, v) => t.setIfInBounds p v) a.tmps, defers := [] } W)
    (hbody : ∀ (l : Nat) (pre : List α) (x : α) (W : World), pre ++ [x] <+: xs → I pre W → w.heap.size ≤ W.heap.size → body.wpIn (Fence.wide.inRound l) 0 P (gpost w.heap.size S I Ix (pre ++ [x]) W) (a₁ x) W)
    (hdone : ∀ (D : Nat) (W : World), w.heap.size ≤ D → I xs W → W.heap[D]? = some (.deferred (some [])) → Q .normal { a with defers := { target := .collected D, args := #[] } :: a.defers } W)
    (hstop : ∀ (D : Nat) (c : Code) (pre : List α) (W : World), w.heap.size ≤ D → pre <+: xs → Ix c pre W → W.heap[D]? = some (.deferred (some [])) → c.wpIn Fence.wide 0 P Q { a with defers := { target := .collected D, args := #[] } :: a.defers } W) :
    (Code.rangeFunc g ps assign body).wpIn Fence.wide 0 P Q a w := by
  refine wpIn_rangeFunc fun fn hfn => ?_
  obtain ⟨rec, hrec⟩ : ∃ rec : LoopState → Option Code → Loop, rec = fun st pe => { state := st, pending := pe, fn, tmps := a.tmps, params := ps, assign, body, defers := w.heap.size } := ⟨_, rfl⟩
  obtain ⟨W1, hW1⟩ : ∃ W1, (w.alloc (.deferred (some []))).alloc (.loop (rec .ready none)) = W1 := ⟨_, rfl⟩
  have hz : W1.heap.size = w.heap.size + 2 := by rw [← hW1]; simp
  have hb1 : Below w.heap.size w W1 := by rw [← hW1]; exact ((Below.refl _ w).alloc (Nat.le_refl _) _).alloc (by simp) _
  have hL1 : W1.heap[w.heap.size + 1]? = some (.loop (rec .ready none)) := by
    have h := World.alloc_heap_new (w.alloc (.deferred (some []))) (.loop (rec .ready none))
    rwa [hW1, World.size_alloc] at h
  have hD1 : W1.heap[w.heap.size]? = some (.deferred (some [])) := by rw [← hW1]; exact (Below.heap_alloc _ _ _ (by simp)).trans (World.alloc_heap_new w _)
  refine ⟨w.heap.size + 1, [{ target := .collected w.heap.size, args := #[] }], W1, { target := .fn (.func gf) lb, args := #[.func (.yield (w.heap.size + 1)) #[] #[]] }, W1, gf, #[.func (.yield (w.heap.size + 1)) #[] #[]] ++ lb, W1, ?_, ?_, ?_, ?_, fun h => absurd h (by simp [Fence.wide]), ?_⟩
  · rw [← hW1, hrec]; exact run_enterLoop_outer _ _ _ _ _
  · simp only [resolve, hg]
    simp [go_sem]
  · intro f' _; trivial
  · simp [invoke, go_sem, eg]
  refine (hseq (w.heap.size + 1) (fun s X => I s X ∧ X.heap[w.heap.size + 1]? = some (.loop (rec .ready none)) ∧ X.heap[w.heap.size]? = some (.deferred (some [])))
    (fun s X => ∃ c, Ix c s X ∧ X.heap[w.heap.size + 1]? = some (.loop (rec .done (some c))) ∧ X.heap[w.heap.size]? = some (.deferred (some [])))
    W1 (hb0.trans (hb1.mono hb0.size))
    (fun s X Y h hb => ⟨hI s X Y h.1 (hb.mono (by omega)), (hb.block _ (by omega)).trans h.2.1, (hb.block _ (by omega)).trans h.2.2⟩)
    (fun s X Y ⟨c, h⟩ hb => ⟨c, hIx c s X Y h.1 (hb.mono (by omega)), (hb.block _ (by omega)).trans h.2.1, (hb.block _ (by omega)).trans h.2.2⟩)
    ?round ⟨hI _ _ _ h0 hb1, hL1, hD1⟩).mono ?behind
  case round =>
    rintro pre x X hpre ⟨hi, hl, hd⟩ hX
    have hlt : w.heap.size + 1 < X.heap.size := (Array.getElem?_eq_some_iff.1 hl).1
    have hy := run_yield (P := P) (args := encs x) hl (by rw [hrec]; exact hps x)
    rw [hrec] at hy
    refine ⟨fn, _, assign, body, hy, roundIn_of_wpIn hfn (hassign _ x X _ ⟨_, run_beginRound hl (by rw [hrec]), ?_⟩)⟩
    obtain ⟨X2, hX2⟩ : ∃ X2, X.putObj (w.heap.size + 1) (.loop { rec .ready none with state := .busy }) = X2 := ⟨_, rfl⟩
    have hz2 : X2.heap.size = X.heap.size := by rw [← hX2]; simp
    have hl2 : X2.heap[w.heap.size + 1]? = some (.loop { rec .ready none with state := .busy }) := by rw [← hX2]; exact World.putObj_heap_same hlt
    have hd2 : X2.heap[w.heap.size]? = some (.deferred (some [])) := by rw [← hX2]; exact (World.putObj_heap_other (by omega)).trans hd
    have hi2 : I pre X2 := by rw [← hX2]; exact hI _ _ _ hi (below_put _ _ _ (by omega) hlt)
    have h2 : ∀ q, q ≠ w.heap.size + 1 → X2.heap[q]? = X.heap[q]? := fun q hq => by rw [← hX2]; exact World.putObj_heap_other hq
    rw [hX2]
    refine wpIn_mono (hbody _ pre x X2 hpre hi2 (by omega)) ?_
    -- the round's end
    have fin : ∀ (jump : Option Code) (X3 : World), Kr w.heap.size S X2 X3 →
        (Instr.endRound (w.heap.size + 1) jump).run P X3 = .ok (.bool jump.isNone) (X3.putObj (w.heap.size + 1) (.loop (rec (if jump.isNone then .ready else .done) jump))) ∧
        w.heap.size + 1 < X3.heap.size ∧ (X3.putObj (w.heap.size + 1) (.loop (rec (if jump.isNone then .ready else .done) jump))).heap[w.heap.size + 1]? = some (.loop (rec (if jump.isNone then .ready else .done) jump)) ∧
        (X3.putObj (w.heap.size + 1) (.loop (rec (if jump.isNone then .ready else .done) jump))).heap[w.heap.size]? = some (.deferred (some [])) ∧ Kr W1.heap.size S X (X3.putObj (w.heap.size + 1) (.loop (rec (if jump.isNone then .ready else .done) jump))) := by
      intro jump X3 hk
      have hl3 : X3.heap[w.heap.size + 1]? = some (.loop { rec .ready none with state := .busy }) := (hk.same _ (Or.inl (by omega)) (by omega)).trans hl2
      have hlt3 := (Array.getElem?_eq_some_iff.1 hl3).1
      have he := run_endRound (P := P) jump hl3
      refine ⟨by rw [hrec] at he ⊢; exact he, hlt3, World.putObj_heap_same hlt3, (World.putObj_heap_other (by omega)).trans ((hk.same _ (Or.inl (Nat.le_refl _)) (by omega)).trans hd2), ⟨by have := hk.size; simp; omega, fun q hq hql => ?_⟩⟩
      have hne : q ≠ w.heap.size + 1 := by
        rcases hq with hq | hq
        · omega
        · have := hS q hq; omega
      exact (World.putObj_heap_other hne).trans ((hk.same q (hq.imp (fun h => by omega) id) (by omega)).trans (h2 q hne))
    rintro e a3 X3 hp
    cases e with
    | normal =>
      obtain ⟨hk, hi3⟩ := hp
      obtain ⟨h3, h4, h5, h6, h7⟩ := fin none X3 hk
      exact ⟨_, _, h3, .inl ⟨rfl, ⟨hI _ _ _ hi3 (below_put _ _ _ (by omega) h4), h5, h6⟩, h7⟩⟩
    | ret =>
      obtain ⟨hk, hi3⟩ := hp
      obtain ⟨h3, h4, h5, h6, h7⟩ := fin (some .ret) X3 hk
      exact ⟨_, _, h3, .inr ⟨rfl, ⟨.ret, hIx _ _ _ _ hi3 (below_put _ _ _ (by omega) h4), h5, h6⟩, h7⟩⟩
    | exit id =>
      obtain ⟨hk, hi3⟩ := hp
      obtain ⟨h3, h4, h5, h6, h7⟩ := fin (some (.exit id)) X3 hk
      exact ⟨_, _, h3, .inr ⟨rfl, ⟨.exit id, hIx _ _ _ _ hi3 (below_put _ _ _ (by omega) h4), h5, h6⟩, h7⟩⟩
    | goto t =>
      obtain ⟨hk, hi3⟩ := hp
      obtain ⟨h3, h4, h5, h6, h7⟩ := fin (some (.goto t)) X3 hk
      exact ⟨_, _, h3, .inr ⟨rfl, ⟨.goto t, hIx _ _ _ _ hi3 (below_put _ _ _ (by omega) h4), h5, h6⟩, h7⟩⟩
    | panic ch => exact hp.elim
    | outgrown => exact hp.elim
  case behind =>
    rintro e Y ⟨⟨v, rfl⟩, (⟨hi, hl, hd⟩ | ⟨pre, hpre, c, hi, hl, hd⟩)⟩
    · have hlt := (Array.getElem?_eq_some_iff.1 hl).1
      refine ⟨none, _, by have h := run_endLoop (P := P) hl (by rw [hrec]; simp); rw [hrec] at h; exact h, hdone _ _ (Nat.le_refl _) (hI _ _ _ hi (below_put _ _ _ (by omega) hlt)) ((World.putObj_heap_other (by omega)).trans hd)⟩
    · have hlt := (Array.getElem?_eq_some_iff.1 hl).1
      refine ⟨some c, _, by have h := run_endLoop (P := P) hl (by rw [hrec]; simp); rw [hrec] at h; exact h, hstop _ c pre _ (Nat.le_refl _) hpre (hIx _ _ _ _ hi (below_put _ _ _ (by omega) hlt)) ((World.putObj_heap_other (by omega)).trans hd)⟩
end Go.Proofs.Ytnnidajflnandaa
