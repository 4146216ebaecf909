/-
  No cell of these rows narrows 'for every input' (looked for: loops, veiled, ifaces, maps, wideKeys, modest, calm, conditions, laid).
  DERIVED. THE GIVEN ROWS OF THIS SEAT. 4 by the template 'for every input the law returns true; each argument reads behind the call as it read before'; 0 by the template 'total and deterministic' (their statements: YtnnidajflnandaaTotals.lean).
  GIVEN WITH THE SEED: the statements are not yours to turn. If you find one false, say at which input.
  Laid BY PROGRAM, IN A SANDBOX (cutbox-rows.mjs): the forced cells as the released guide's own fill.sh prints them over the translation 7963fb4a702a50df… (all of the seat's roots in one cut). By AI agents, Wed Nov 11 2026. No macro, syntax, notation, axiom, sorry.
-/
import Derived.Test.YtnnidajflnandaaChecked
import GoSem.Claim
import GoSem.ClaimJoined
import GoSem.ClaimMapViews
import Derived.JoinedTies
import Derived.KernelRfl
namespace Go.Proofs.Ytnnidajflnandaa
/- THE CELL 'sum', in the pinned program and in every row, IS THE sha256 OF THE DUMP (.gsa) THAT YtnnidajflnandaaProg.lean LOADS. Nothing in Lean hashes anything: it is a label: what it is worth is what the hold of that sum in a sandbox is worth. -/
noncomputable def Try.pinned : Pinned := { name := "ytnnidajflnandaa", sum := "7963fb4a702a50df4151ce0284e6509889304614d83c9f00b7a63e7c21a6e2c0", checked := Try.checked }
namespace Rows
def none {H : Type} : Left H := { results := [], args := [] }

/-- 'decanterlaw14.ListActs': WHATEVER THE INPUT: true; the input reads as it did. -/
def listActsSpec : ChangeSpec := { name := "listActs", fn := fun _ => fun
  | [d] => { results := [.lit (.bool true)], args := [d] }
  | _ => none }
def listActsRow : OpenClaim := { program := "ytnnidajflnandaa", sum := "7963fb4a702a50df4151ce0284e6509889304614d83c9f00b7a63e7c21a6e2c0", func := "decanter/decanterlaw14.ListActs", spec := "listActs", inPlace := ["slices.overlaps[int]"], unfollowed := true, recurses := true, apart := false }
def ListActsSaid : Prop := listActsRow.holds Try.pinned (OpenSpec.ofChange listActsSpec)

/-- ITS FALSE NEIGHBOUR: 'it returns false'. Refute it at one input. -/
def listActsWrong : ChangeSpec := { name := "listActs", fn := fun _ => fun
  | [d] => { results := [.lit (.bool false)], args := [d] }
  | _ => none }
def ListActsWrongFalsely : Prop := listActsRow.holds Try.pinned (OpenSpec.ofChange listActsWrong)

/-- 'decanterlaw14.ListAlike': WHATEVER THE INPUT: true; the input reads as it did. -/
def listAlikeSpec : ChangeSpec := { name := "listAlike", fn := fun _ => fun
  | [d1, d2] => { results := [.lit (.bool true)], args := [d1, d2] }
  | _ => none }
def listAlikeRow : OpenClaim := { program := "ytnnidajflnandaa", sum := "7963fb4a702a50df4151ce0284e6509889304614d83c9f00b7a63e7c21a6e2c0", func := "decanter/decanterlaw14.ListAlike", spec := "listAlike", unfollowed := true, recurses := true, apart := false }
def ListAlikeSaid : Prop := listAlikeRow.holds Try.pinned (OpenSpec.ofChange listAlikeSpec)

/-- ITS FALSE NEIGHBOUR: 'it returns false'. Refute it at one input. -/
def listAlikeWrong : ChangeSpec := { name := "listAlike", fn := fun _ => fun
  | [d1, d2] => { results := [.lit (.bool false)], args := [d1, d2] }
  | _ => none }
def ListAlikeWrongFalsely : Prop := listAlikeRow.holds Try.pinned (OpenSpec.ofChange listAlikeWrong)

/-- 'decanterlaw14.ListMarks': WHATEVER THE INPUT: true; the input reads as it did. -/
def listMarksSpec : ChangeSpec := { name := "listMarks", fn := fun _ => fun
  | [d1, d2] => { results := [.lit (.bool true)], args := [d1, d2] }
  | _ => none }
def listMarksRow : OpenClaim := { program := "ytnnidajflnandaa", sum := "7963fb4a702a50df4151ce0284e6509889304614d83c9f00b7a63e7c21a6e2c0", func := "decanter/decanterlaw14.ListMarks", spec := "listMarks", unfollowed := true, recurses := true, apart := false }
def ListMarksSaid : Prop := listMarksRow.holds Try.pinned (OpenSpec.ofChange listMarksSpec)

/-- ITS FALSE NEIGHBOUR: 'it returns false'. Refute it at one input. -/
def listMarksWrong : ChangeSpec := { name := "listMarks", fn := fun _ => fun
  | [d1, d2] => { results := [.lit (.bool false)], args := [d1, d2] }
  | _ => none }
def ListMarksWrongFalsely : Prop := listMarksRow.holds Try.pinned (OpenSpec.ofChange listMarksWrong)

/-- 'decanterlaw14.ListPlaces': WHATEVER THE INPUT: true; the input reads as it did. -/
def listPlacesSpec : ChangeSpec := { name := "listPlaces", fn := fun _ => fun
  | [d1, d2] => { results := [.lit (.bool true)], args := [d1, d2] }
  | _ => none }
def listPlacesRow : OpenClaim := { program := "ytnnidajflnandaa", sum := "7963fb4a702a50df4151ce0284e6509889304614d83c9f00b7a63e7c21a6e2c0", func := "decanter/decanterlaw14.ListPlaces", spec := "listPlaces", inPlace := ["slices.overlaps[int]"], unfollowed := true, recurses := true, apart := false }
def ListPlacesSaid : Prop := listPlacesRow.holds Try.pinned (OpenSpec.ofChange listPlacesSpec)

/-- ITS FALSE NEIGHBOUR: 'it returns false'. Refute it at one input. -/
def listPlacesWrong : ChangeSpec := { name := "listPlaces", fn := fun _ => fun
  | [d1, d2] => { results := [.lit (.bool false)], args := [d1, d2] }
  | _ => none }
def ListPlacesWrongFalsely : Prop := listPlacesRow.holds Try.pinned (OpenSpec.ofChange listPlacesWrong)

/- THE SECOND FORM. 'bulk': how many values and letters a reading holds, each counted each time it is reached (what is shared counts as often as it is met; a slice's spare places count too). A statement '..UptoSaid' is the law's where the arguments, and the package variables that the reading takes, are together of bulk at most 1048576: NARROWER than '..Said'. Prove '..Said' where nothing that the law and all that it calls make is longer than what came in: it says more and counts as full. Else prove '..UptoSaid'. A law counts once. -/
mutual
def uptoBulk {H : Type} : DataW H → Nat
  | .lit (.string bytes) => bytes.length + 1
  | .lit _ => 1
  | .nil => 1
  | .ptr d => uptoBulk d + 1
  | .slice elems spare => uptoBulkAll elems + uptoBulkAll spare + 1
  | .agg parts => uptoBulkAll parts + 1
  | .iface _ d => uptoBulk d + 1
  | .map entries => uptoBulkEntries entries + 1
  | .held _ => 1
def uptoBulkAll {H : Type} : List (DataW H) → Nat
  | [] => 0
  | d :: r => uptoBulk d + uptoBulkAll r
def uptoBulkEntries {H : Type} : List (Lit × DataW H) → Nat
  | [] => 0
  | x :: r => uptoBulkEntry x + uptoBulkEntries r
def uptoBulkEntry {H : Type} : Lit × DataW H → Nat
  | (.string bytes, d) => bytes.length + uptoBulk d + 1
  | (_, d) => uptoBulk d + 1
 end
def uptoSmall : (H : Type) → List (DataW H) → Bool := fun _ ds => decide (uptoBulkAll ds ≤ 1048576)
def OpenSpec.upto (s : _root_.Go.ChangeSpec) : _root_.Go.OpenSpec := { _root_.Go.OpenSpec.ofChange s with cond := some uptoSmall }

/-- 'decanterlaw14.ListActs', WHERE WHAT IT READS IS OF BULK AT MOST 1048576: true; the input reads as it did. -/
def listActsUptoRow : OpenClaim := { program := "ytnnidajflnandaa", sum := "7963fb4a702a50df4151ce0284e6509889304614d83c9f00b7a63e7c21a6e2c0", func := "decanter/decanterlaw14.ListActs", spec := "listActs", inPlace := ["slices.overlaps[int]"], unfollowed := true, recurses := true, apart := false, narrowed := true }
def ListActsUptoSaid : Prop := listActsUptoRow.holds Try.pinned (OpenSpec.upto listActsSpec)

/-- 'decanterlaw14.ListAlike', WHERE WHAT IT READS IS OF BULK AT MOST 1048576: true; the input reads as it did. -/
def listAlikeUptoRow : OpenClaim := { program := "ytnnidajflnandaa", sum := "7963fb4a702a50df4151ce0284e6509889304614d83c9f00b7a63e7c21a6e2c0", func := "decanter/decanterlaw14.ListAlike", spec := "listAlike", unfollowed := true, recurses := true, apart := false, narrowed := true }
def ListAlikeUptoSaid : Prop := listAlikeUptoRow.holds Try.pinned (OpenSpec.upto listAlikeSpec)

/-- 'decanterlaw14.ListMarks', WHERE WHAT IT READS IS OF BULK AT MOST 1048576: true; the input reads as it did. -/
def listMarksUptoRow : OpenClaim := { program := "ytnnidajflnandaa", sum := "7963fb4a702a50df4151ce0284e6509889304614d83c9f00b7a63e7c21a6e2c0", func := "decanter/decanterlaw14.ListMarks", spec := "listMarks", unfollowed := true, recurses := true, apart := false, narrowed := true }
def ListMarksUptoSaid : Prop := listMarksUptoRow.holds Try.pinned (OpenSpec.upto listMarksSpec)

/-- 'decanterlaw14.ListPlaces', WHERE WHAT IT READS IS OF BULK AT MOST 1048576: true; the input reads as it did. -/
def listPlacesUptoRow : OpenClaim := { program := "ytnnidajflnandaa", sum := "7963fb4a702a50df4151ce0284e6509889304614d83c9f00b7a63e7c21a6e2c0", func := "decanter/decanterlaw14.ListPlaces", spec := "listPlaces", inPlace := ["slices.overlaps[int]"], unfollowed := true, recurses := true, apart := false, narrowed := true }
def ListPlacesUptoSaid : Prop := listPlacesUptoRow.holds Try.pinned (OpenSpec.upto listPlacesSpec)

end Rows
end Go.Proofs.Ytnnidajflnandaa
