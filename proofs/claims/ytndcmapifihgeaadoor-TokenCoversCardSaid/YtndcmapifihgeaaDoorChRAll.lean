/- The reference's All: all characters from a byte up to another one, as a list has them. -/
import Derived.Test.YtndcmapifihgeaaDoorChAll
import Derived.Test.YtndcmapifihgeaaDoorChMath2
import Derived.Laws.OwnMore
import Derived.Laws.IdiomStrings
import Derived.Laws.BytesArg
namespace Go.Proofs.YtndcmapifihgeaaDoor.Ch
open Go.RowKit Go.Lib

/-- a new row that holds a character's bytes -/
def Enc (c : Nat) (w : World) (e : Ending) (w' : World) : Prop :=
  ∃ cap, e = .returned (.slice (some ⟨w.heap.size, 0, none⟩) (runeCells (c : Int)).length cap) ∧ (∀ j u, (runeCells (c : Int))[j]? = some u → w'.cell? ⟨w.heap.size, j, none⟩ = some u) ∧ Below w.heap.size w w'

theorem enc_mk (c : Nat) (w : World) (cs : List Value) (h : runeCells (c : Int) = cs) (n : Nat) (hn : cs.length = n) : Enc c w (.returned (.slice (some ⟨w.heap.size, 0, none⟩) n n)) (w.alloc (.cells cs.toArray 5)) := by
  subst hn
  refine ⟨_, by rw [h], fun j u hj => ?_, (Below.refl _ w).alloc (Nat.le_refl _) _⟩
  rw [h] at hj
  simp [World.cell?, World.alloc, -World.alloc_eq]
  exact hj

theorem info5 : ∃ j, Tryd.prog.info? 5 = some j ∧ (j.zero, j.size, j.bytes) = (some (.int .u8 0), 1, 1) :=
  Option.map_eq_some_iff.1 (by kernel_rfl : (Tryd.prog.info? 5).map (fun i => (i.zero, i.size, i.bytes)) = some (some (.int .u8 0), 1, 1))

theorem ownsRow_below {w w' : World} {base : Nat} {e : TypeId} {size : Nat} {v : Value} {n : Nat} {xs : List Value} (h : w.ownsRow base e size v n xs) (hb : Below w.heap.size w w') : w'.ownsRow base e size v n xs := by
  refine h.kept (grown_of_below hb) ?_
  cases v.ownBlock with
  | none => exact Or.inl rfl
  | some g => exact Or.inr (by simp)

def RAllRel (l : List UInt8) (x0 to : Int) (w : World) (v7 v8 : Value) (wr : World) : Prop :=
  ∃ (i : Nat) (acc : List UInt8), v8 = .int .i64 i ∧ wr.ownsRow w.heap.size 5 1 v7 acc.length (Lib.byteCells acc) ∧ Below w.heap.size w wr ∧ acc ++ allFrom l i to = allFrom l x0 to

theorem addr_add0 (g j : Nat) : (⟨g, 0, none⟩ : Addr).add j = ⟨g, j, none⟩ := by unfold Addr.add; split <;> simp_all

/-- 'string(b)' of a row of one's own -/
theorem string_own {w : World} {B : Nat} {v : Value} {acc : List UInt8} (h : w.ownsRow B 5 1 v acc.length (Lib.byteCells acc)) :
    (convert 22 9 v).run Tryd.prog w = .ok (.string ⟨acc.toArray⟩) w := by
  rcases h.2 with ⟨hv, h0⟩ | ⟨g, cap, cur, hv, hg, hh, r⟩
  · subst hv
    obtain rfl : acc = [] := List.eq_nil_of_length_eq_zero h0
    exact run_convert_bytes_nil w 22 5 Tryd.underlying22 Tryd.underlying5 0 0 9 Tryd.underlying9
  · subst hv
    refine run_convert_bytes_back w 22 9 5 ⟨g, 0, none⟩ cap acc Tryd.underlying22 Tryd.underlying5 Tryd.underlying9 fun j hj => ?_
    refine h.cells rfl j _ ?_
    simp [Lib.byteCells, List.getElem?_eq_getElem hj]

end Go.Proofs.YtndcmapifihgeaaDoor.Ch
