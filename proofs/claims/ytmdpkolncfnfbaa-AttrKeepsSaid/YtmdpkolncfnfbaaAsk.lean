/- The closure that AttrKeeps hands to Keep, walked: it notes what it is asked, and answers by a slice of bools. -/
import Derived.Test.YtmdpkolncfnfbaaLSames
import Derived.Test.YtmdpkolncfnfbaaFrame
import Derived.OneCell
import Derived.Deep.DeepCutAuto
namespace Go.Proofs.Ytmdpkolncfnfbaa
open Go.RowKit Go.Lib

/-- may it be? -/
def may (B : Nat → Bool) (len : Nat) (i : Nat) : Bool := decide (i < len) && B i
theorem may_yes {B : Nat → Bool} {len i : Nat} (h : i < len) : may B len i = B i := by unfold may; rw [decide_eq_true h, Bool.true_and]
theorem may_no {B : Nat → Bool} {len i : Nat} (h : ¬ i < len) : may B len i = false := by unfold may; rw [decide_eq_false h, Bool.false_and]

/-- the captured slice of bools -/
structure May (B : Nat → Bool) (b : Option Addr) (len capB Bm : Nat) (w : World) : Prop where
  cell : w.cell? ⟨Bm, 0, none⟩ = some (.slice b len capB)
  bo : Bo B b len capB w

/-- what was asked so far -/
def Asked (L : List At) (Bp B1 : Nat) (i : Nat) (w : World) : Prop :=
  ∃ v, w.heap[Bp]? = some (.cells #[v] 22 (0, 0)) ∧ w.ownsRow B1 24 2 v i (cellsA (L.take i))

theorem Asked.but {L : List At} {Bp B1 i : Nat} {w w' : World} (h : Asked L Bp B1 i w) (hb : But34 w w') : Asked L Bp B1 i w' := by
  obtain ⟨v, h1, h2⟩ := h
  refine ⟨v, (hb.block Bp (lt_of_block h1) (fun cur f e => by rw [h1] at e; cases e)).trans h1, h2.1, ?_⟩
  rcases h2.2 with hn | ⟨g, cap, cur, rfl, hg, hh, r⟩
  · exact Or.inl hn
  · exact Or.inr ⟨g, cap, cur, rfl, hg, (hb.block g (lt_of_block hh) (fun cur f e => by rw [hh] at e; cases e)).trans hh, r⟩

theorem own_apart {w : World} {B e : Nat} {v u : Value} {n : Nat} {xs : List Value} {Bp t : Nat} (h : w.ownsRow B e 2 v n xs) (hp : w.heap[Bp]? = some (.cells #[u] t (0, 0))) (hne : e ≠ t) : v.ownBlock ≠ some Bp := by
  intro he
  rcases h.2 with ⟨rfl, _⟩ | ⟨g, cap, cur, rfl, hg, hh, r⟩
  · cases he
  · simp only [Value.ownBlock, Option.some.injEq] at he
    subst he
    rw [hh] at hp
    injection hp with hp
    injection hp with _ h2 _
    exact hne h2

theorem grown_setCell (w : World) (Bp : Nat) (u : Value) : w.grownBy (w.setCell ⟨Bp, 0, none⟩ u) (some Bp) :=
  ⟨rfl, rfl, rfl, by simp, fun k _ hne => heap_setCell_other w _ k u (fun e => hne (by rw [e]))⟩

/-- what comes of it -/
def AskedOf (L : List At) (Bp : Nat) (p : Bool) (i : Nat) (W w : World) (e : Ending) (w' : World) : Prop :=
  e = .returned (.bool p) ∧ Asked L Bp W.heap.size (i + 1) w' ∧ W.grownBy w' (some Bp) ∧ Rows34 w w'

set_option maxHeartbeats 4000000 in
set_option maxRecDepth 100000 in
theorem ask_any (L : List At) (i : Nat) (hi : i < L.length) (hl : L.length ≤ 1000) (B : Nat → Bool) (b : Option Addr) (len capB Bp Bm : Nat) (W w : World)
    (hA : Asked L Bp W.heap.size i w) (hW : W.grownBy w (some Bp)) (hM : ∀ w', W.grownBy w' (some Bp) → May B b len capB Bm w') (hmp : Bm ≠ Bp) (hbb : ∀ ad, b = some ad → 0 < len → ad.block ≠ Bp) :
    Calls Try.prog 19 #[.agg #[.string ⟨(at0 L i).1.toArray⟩, .string ⟨(at0 L i).2.toArray⟩], .pointer (some ⟨Bp, 0, none⟩), .pointer (some ⟨Bm, 0, none⟩)] w fun e w' => AskedOf L Bp (may B len i) i W w e w' := by
  obtain ⟨v, hp, hown⟩ := hA
  have HT := Lib.hid (take_snoc hi)
  obtain ⟨⟨x1, x2⟩, hx⟩ : ∃ x, at0 L i = x := ⟨_, rfl⟩
  rw [hx] at HT
  rw [hx]
  simp only
  clear hx
  have hlt := lt_of_block hp
  have c0 := cell_of_one hp
  have hBp : Bp < W.heap.size ∨ W.heap.size ≤ Bp := by omega
  have htl : (L.take i).length = i := by simp; omega
  have hown0 : (w.alloc (.cells #[.string ⟨x1.toArray⟩, .string ⟨x2.toArray⟩] 34)).ownsRow W.heap.size 24 2 v (L.take i).length (cellsA (L.take i)) := by rw [htl]; exact hown.alloc _
  obtain ⟨v3, w3, hr3, own3, gr3, -⟩ := app_one elem22 (w.alloc (.cells #[.string ⟨x1.toArray⟩, .string ⟨x2.toArray⟩] 34)) W.heap.size v (L.take i) (x1, x2) (w.heap.size + 1) (by simp) hown0 (by omega) (by have := hW.size; simp; omega)
  have gr0 := (World.grownBy_alloc w (.cells #[.string ⟨x1.toArray⟩, .string ⟨x2.toArray⟩] 34) v.ownBlock).trans gr3
  have hap := own_apart hown hp (by decide)
  have hp3 : w3.heap[Bp]? = some (.cells #[v] 22 (0, 0)) := (gr0.block Bp hlt (fun e => hap e.symm)).trans hp
  have hlen3 : (L.take i ++ [(x1, x2)]).length = i + 1 := by simp; omega
  rw [← HT.out] at own3 hlen3
  rw [hlen3] at own3
  have hap3 := own_apart own3 hp3 (by decide)
  have hW3 : W.grownBy w3 (some Bp) := grown_past hW gr0 (fun g hg => (hown.lt g hg).1)
  have hW4 : W.grownBy (w3.setCell ⟨Bp, 0, none⟩ v3) (some Bp) := hW3.trans (grown_setCell w3 Bp v3)
  have hA4 : Asked L Bp W.heap.size (i + 1) (w3.setCell ⟨Bp, 0, none⟩ v3) := ⟨v3, one_setCell hp3, ownsRow_setCell_other own3 hap3 _⟩
  have hR4 : Rows34 w (w3.setCell ⟨Bp, 0, none⟩ v3) := by
    refine ⟨by have := gr0.size; simpa using this, fun g cur f hg => ?_⟩
    have hne : g ≠ Bp := by intro e; subst e; rw [hg] at hp; cases hp
    rw [heap_setCell_other w3 _ g v3 hne, gr0.block g (lt_of_block hg) ?_]
    · exact hg
    · intro e
      rcases hown.2 with ⟨rfl, _⟩ | ⟨g', cap', cur', rfl, _, hh, _⟩
      · cases e
      · simp only [Value.ownBlock, Option.some.injEq] at e
        subst e
        rw [hg] at hh
        cases hh
  obtain ⟨mc, mb⟩ := hM w3 hW3
  have c3 := cell_of_one hp3
  have f3 := free_of_one hp3
  have HR := Lib.hid hr3
  have HE : Hid (∀ p, may B len i = p → AskedOf L Bp (may B len i) i W w (.returned (.bool p)) (w3.setCell ⟨Bp, 0, none⟩ v3)) := Lib.hid fun p hp => ⟨by rw [hp], hA4, hW4, hR4⟩
  obtain ⟨a3, cap3, hv3⟩ : ∃ a3 cap3, v3 = .slice a3 (i + 1) cap3 := by
    rcases own3.2 with ⟨_, h0⟩ | ⟨g, cap, cur, h, _⟩
    · omega
    · exact ⟨_, _, h⟩
  subst hv3
  clear hp hown hown0 gr3 gr0 hap hp3 hlen3 own3 hap3 hW3 hW4 hA4 hR4 hr3 hM hW HT htl hBp
  by_cases hlen : i < len
  · obtain ⟨h1, h2, h0 | ⟨bb, off, rfl, hc⟩⟩ := mb
    · omega
    · have hbne : bb ≠ Bp := hbb _ rfl (by omega)
      have hcb := hc i hlen
      have t1 : (i : Int) + 1 ≤ (len : Int) := by omega
      have t2 : (i : Int) < (len : Int) := by omega
      clear hc hbb
      go_enter Try.func19, Try.ntmps19
      go_wp2_with (at_builtin; refine Lib.wpList_append_run _ rfl (.tmp 5) (.tmp 7) 22 22 rfl _ _ rfl rfl _ w3 HR.out ?_)
      go_ret
      exact HE.out _ (may_yes hlen)
  · have t1 : ¬ ((i : Int) + 1 ≤ (len : Int)) := by omega
    clear hbb mb
    go_enter Try.func19, Try.ntmps19
    go_wp2_with (at_builtin; refine Lib.wpList_append_run _ rfl (.tmp 5) (.tmp 7) 22 22 rfl _ _ rfl rfl _ w3 HR.out ?_)
    go_ret
    exact HE.out _ (may_no hlen)
end Go.Proofs.Ytmdpkolncfnfbaa
