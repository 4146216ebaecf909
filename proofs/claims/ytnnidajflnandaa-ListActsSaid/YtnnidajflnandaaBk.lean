/- The library's iterator over a slice of integers from its end on, walked: it hands out the entries backward, with their places. -/
import Derived.Test.YtnnidajflnandaaRg
import Derived.Test.YtnnidajflnandaaLsMath
namespace Go.Proofs.Ytnnidajflnandaa
open Go.RowKit Go.Lib
attribute [local go_sem] Oper.semAt_some

def ints (E : List Int) : List Value := E.map fun i => .int .i64 i
theorem ints_len (E : List Int) : (ints E).length = E.length := by simp [ints]
theorem ints_at {E : List Int} {k : Nat} {x : Int} (h : E[k]? = some x) : (ints E)[k]? = some (.int .i64 x) := by simp [ints, h]

/-- what a round is handed -/
def enc2 (p : Nat × Int) : Array Value := #[.int .i64 (p.1 : Int), .int .i64 p.2]

set_option maxRecDepth 100000 in
set_option maxHeartbeats 2000000 in
theorem back_in (Bs B n : Nat) (a : Option Addr) (c : Nat) (E : List Int) (hn : n = E.length) (hl : n ≤ 1000000) (l : Nat) (J Jx : List (Nat × Int) → World → Prop) (W : World)
    (hbox : W.cell? ⟨Bs, 0, none⟩ = some (.slice a n c)) (hrow : Rw B 3 1 (.slice a n c) n (ints E) W)
    (hY : ∀ pre x X, pre ++ [x] <+: bw E.reverse → J pre X → W.heap.size ≤ X.heap.size → YieldAt Fence.wide 0 Try.prog l (enc2 x) X fun e Y =>
      (e = .returned (.bool true) ∧ J (pre ++ [x]) Y ∧ Kr W.heap.size (fun q => q = Bs ∨ some q = (Value.slice a n c).ownBlock) X Y) ∨ (e = .returned (.bool false) ∧ Jx (pre ++ [x]) Y ∧ Kr W.heap.size (fun q => q = Bs ∨ some q = (Value.slice a n c).ownBlock) X Y))
    (h0 : J [] W) :
    CallsIn Fence.wide 0 Try.prog 47 #[.func (.yield l) #[] #[], .pointer (some ⟨Bs, 0, none⟩)] W fun e Y => (∃ v, e = .returned v) ∧ (J (bw E.reverse) Y ∨ ∃ pre, pre <+: bw E.reverse ∧ Jx pre Y) := by
  have hro : Fence.wide.round = none := rfl
  refine callsIn_of_wp Try.func47 rfl trivial ?_ hro
  simp only [Try.ntmps47, List.size_toArray, List.length_cons, List.length_nil, Nat.reduceAdd, Nat.reduceSub, Array.replicate_succ, Array.replicate_zero, List.push_toArray, List.append_toArray, List.nil_append, List.cons_append]
  have hwr : IntKind.i64.wrap ((n : Int) - 1) = (n : Int) - 1 := by
    simp [IntKind.wrap, IntKind.bits, IntKind.signed]; omega
  gi_wp2
  gi_loopw [3] (fun i wr => ∃ (pre : List (Nat × Int)) (d r : List Int), E.reverse = d ++ r ∧ bw E.reverse = pre ++ bw r ∧ i = .int .i64 ((r.length : Int) - 1) ∧ J pre wr ∧ W.heap.size ≤ wr.heap.size ∧ ∀ q, (q = Bs ∨ some q = (Value.slice a n c).ownBlock) → wr.heap[q]? = W.heap[q]?)
    (fun i _ => (RowKit.intOf i + 1).toNat)
  case atStart => exact ⟨[], [], E.reverse, rfl, rfl, by simp, h0, Nat.le_refl _, fun _ _ => rfl⟩
  case round =>
    obtain ⟨pre, d, r, hd, hp, rfl, hJs, hsz, hsame⟩ := hrel
    have hbox' : wr.cell? ⟨Bs, 0, none⟩ = some (.slice a n c) := (World.cell?_of_block (a := ⟨Bs, 0, none⟩) (hsame Bs (Or.inl rfl))).trans hbox
    cases r with
    | nil =>
      simp only [bw, List.append_nil] at hp
      subst hp
      gi_wp2
      go_end0
      exact ⟨⟨_, rfl⟩, .inl hJs⟩
    | cons x r =>
      have hx := rev_at hd
      have hlt := (List.getElem?_eq_some_iff.1 hx).1
      have hrw := hrow.same (w' := wr) (fun q hq => hsame q (Or.inr hq.symm))
      obtain ⟨g, c', hv, -, -, -, -, hcell, -⟩ := hrw.blk (by omega)
      cases hv
      have hc := hcell r.length _ (ints_at hx)
      have hlt' : (r.length : Int) < (E.length : Int) := by omega
      have h00 : (0 : Int) ≤ (r.length : Int) := by omega
      obtain ⟨fn, tmps, assign, body, hy, hR⟩ := hY pre (r.length, x) wr ⟨bw r, by rw [hp]; simp [bw]⟩ hJs hsz
      unfold enc2 at hy
      dsimp only at hy
      have K1 := Lib.hid hd
      have K2 := Lib.hid hp
      have K3 := Lib.hid hsame
      clear hd hp hsame hrw hrow hJs hcell hx hY
      gi_wp2
      refine ⟨rfl, hR.mono ?_⟩
      rintro e W3 (⟨rfl, hJ3, hk3⟩ | ⟨rfl, hJx3, hk3⟩)
      · gi_wp2
        go_roundw
        case rel => exact ⟨pre ++ [(r.length, x)], d ++ [x], r, by rw [K1.out]; simp, by rw [K2.out]; simp [bw], by simp, hJ3, Nat.le_trans hsz hk3.size, fun q hq => (hk3.same q (Or.inr hq) (by
          rcases hq with rfl | hq
          · exact World.block_lt_of_cell? wr _ hbox'
          · cases hq; exact World.block_lt_of_cell? wr ⟨g, r.length, none⟩ hc)).trans (K3.out q hq)⟩
        case measure => simp [RowKit.intOf]
      · gi_wp2
        refine bodyPost_ret (results_none rfl _ _ _) rfl ?_
        exact ⟨⟨_, rfl⟩, .inr ⟨pre ++ [(r.length, x)], ⟨bw r, by rw [K2.out]; simp [bw]⟩, hJx3⟩⟩

theorem backward_any (a : Option Addr) (n c : Nat) (w : World) :
    Calls Try.prog 38 #[.slice a n c] w fun e w' => e = .returned (.func (.func 47) #[] #[.pointer (some ⟨w.heap.size, 0, none⟩)]) ∧ w' = w.alloc (.cells #[.slice a n c] 29) := by
  go_enter Try.func38, Try.ntmps38
  go_wp2
  go_ret
  exact ⟨rfl, rfl⟩

/-- what Backward hands back hands out the entries -/
theorem back_gives (Bs B : Nat) (v : Value) (E : List Int) (hl : E.length ≤ 1000000) (w : World) (hbox : w.cell? ⟨Bs, 0, none⟩ = some v) (hrow : Rw B 3 1 v E.length (ints E) w) :
    Gives Try.prog 47 #[.pointer (some ⟨Bs, 0, none⟩)] enc2 (fun q => q = Bs ∨ some q = v.ownBlock) (bw E.reverse) w := by
  intro l J Jx W hb _ _ hY h0
  obtain ⟨a, c, rfl, -⟩ := hrow.slice
  exact back_in Bs B E.length a c E rfl hl l J Jx W ((hb.cell (p := ⟨Bs, 0, none⟩) (World.block_lt_of_cell? w _ hbox)).trans hbox) (hrow.below hb) hY h0
end Go.Proofs.Ytnnidajflnandaa
