/- Small words that several texts share: appends whose runs are known, worlds one behind the other, a node as the document has it. -/
import Derived.Test.YtnnidajflnandaaAr
import Derived.Deep.RegionHeld3
import Derived.Lib.SmallJoins
import Derived.Laws.ResultCell
import Derived.Deep.RegionLaw
namespace Go.Proofs.Ytnnidajflnandaa
open Go.RowKit Go.Lib
open At (Str cellsA cellsA_len Sl)

/-- an append whose run is known, as one step of a region that draws -/
theorem step_run {ops : Array Oper} {o : Oper} {a : Act} {w : World} {K : Act → World → Prop} {Q : Exit → Act → World → Prop} {E : Prop}
    (hg : o.guard = none) (s x : Operand) (t u : TypeId) (hop : o.op = Op.call { callee := Callee.builtin Builtin.append, args := #[s, x], argTypes := #[t, u] })
    (vs vx : Value) (hs : a.eval s = vs) (hx : a.eval x = vx) (v' : Value) (w' : World) (hr : (Builtin.append_ #[t, u] o.type #[vs, vx]).run Try.prog w = .ok v' w') (hK : K (a.put o.dst v') w') :
    if Region.wanted o (yielded ops a.tmps) = true then Oper.wp Try.prog o a w K Q else E := by
  rw [if_pos (by simp [Region.wanted, hg])]
  exact Lib.wp_append_run w s x t u hop vs vx hs hx v' w' hr hK

theorem below_trans {w w1 w2 : World} (h : Below w.heap.size w w1) (h2 : Below w1.heap.size w1 w2) : Below w.heap.size w w2 := h.trans (h2.mono h.size)
theorem below_drew (w : World) : Below w.heap.size w w.drew := ⟨rfl, rfl, rfl, Nat.le_refl _, fun _ _ => rfl⟩
theorem wrap_small (n : Int) (h0 : 0 ≤ n) (h1 : n ≤ 9223372036854775807) : IntKind.i64.wrap n = n := by
  simp [IntKind.wrap, IntKind.bits, IntKind.signed]
  split <;> omega
namespace At
theorem below_drewN {B : Nat} {w w' : World} (h : Below B w w') (n : Nat) : Below B w (w'.drewN n) := ⟨h.os, h.tape, h.output, h.size, h.block⟩
end At

/-- a node, as the document has it -/
structure MN where
  nm : List UInt8
  ats : List At.At
  par : Int
  inn : List (Nat × List UInt8)

theorem Ty.chg {B : Nat} {w w' : World} {g : Nat} {e : TypeId} (h : Ty w g e) (hc : Chg B w w') (h1 : e ≠ 63) (h2 : e ≠ 113) (h3 : e ≠ 5) (h4 : e ≠ 66) : Ty w' g e := h.same (hc.ty g e h h1 h2 h3 h4)
theorem Chg.cell {B : Nat} {w w' : World} {g : Nat} {e : TypeId} (hc : Chg B w w') (h : Ty w g e) (h1 : e ≠ 63) (h2 : e ≠ 113) (h3 : e ≠ 5) (h4 : e ≠ 66) {j : Nat} {u : Value} (hj : w.cell? ⟨g, j, none⟩ = some u) : w'.cell? ⟨g, j, none⟩ = some u :=
  (World.cell?_of_block (a := ⟨g, j, none⟩) (hc.ty g e h h1 h2 h3 h4)).trans hj
end Go.Proofs.Ytnnidajflnandaa
