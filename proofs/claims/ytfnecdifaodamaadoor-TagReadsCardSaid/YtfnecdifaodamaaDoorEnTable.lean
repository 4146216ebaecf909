/- The document's table, as the reference lays it: what lies in memory behind the call. -/
import Derived.Test.YtfnecdifaodamaaDoorEnMath
import Derived.Test.YtfnecdifaodamaaDoorProg
import Derived.WalkKit
import Derived.LoopTactic
import Derived.Below
import Derived.Lib.Hide
namespace Go.Proofs.YtfnecdifaodamaaDoor.En
open Go.RowKit Go.Lib

def allocs (w : World) (os : List Obj) : World := os.foldl World.alloc w

/-- the numbers of one entry -/
def numRow (cs : List Nat) : List Value := cs.map fun (c : Nat) => Value.int .i64 (c : Int)

/-- the entries, their numbers' rows lying from such a block on -/
def tabRow : Nat → List (List UInt8 × Bool × List Nat) → List Value
  | _, [] => []
  | B, e :: r => .string ⟨e.1.toArray⟩ :: .bool e.2.1 :: .slice (some ⟨B, 0, none⟩) e.2.2.length e.2.2.length :: tabRow (B + 1) r

def tabObjs (B : Nat) : List Obj := tabL.map (fun e => .cells (numRow e.2.2).toArray 3) ++ [.cells (tabRow B tabL).toArray 114]

set_option maxHeartbeats 8000000 in
set_option maxRecDepth 100000 in
theorem table_laid (w : World) :
    Calls Tryd.prog 81 #[] w fun e w' => e = .returned (.slice (some ⟨w.heap.size + 43, 0, none⟩) 43 43) ∧ w' = allocs w (tabObjs w.heap.size) := by
  go_enter Tryd.func81, Tryd.ntmps81
  go_wp2
  go_ret
  refine ⟨?_, ?_⟩
  · kernel_rfl
  · kernel_rfl
end Go.Proofs.YtfnecdifaodamaaDoor.En
