/-
  No cell of these rows narrows 'for every input' (looked for: loops, veiled, ifaces, maps, wideKeys, modest, calm, conditions, laid).
  DERIVED. THE GIVEN ROWS OF THIS SEAT. 3 by the template 'for every input the law returns true; each argument reads behind the call as it read before'; 0 by the template 'total and deterministic' (their statements: YtplngoikjfimaaaTotals.lean).
  GIVEN WITH THE SEED: the statements are not yours to turn. If you find one false, say at which input.
  Laid BY PROGRAM, IN A SANDBOX (cutbox-rows.mjs): the forced cells as the released guide's own fill.sh prints them over the translation 263fdbf0a28de498… (all of the seat's roots in one cut). By AI agents, Wed Nov 11 2026. No macro, syntax, notation, axiom, sorry.
-/
import Derived.Test.YtplngoikjfimaaaChecked
import GoSem.Claim
import GoSem.ClaimJoined
import GoSem.ClaimMapViews
import Derived.JoinedTies
import Derived.KernelRfl
namespace Go.Proofs.Ytplngoikjfimaaa
/- THE CELL 'sum', in the pinned program and in every row, IS THE sha256 OF THE DUMP (.gsa) THAT YtplngoikjfimaaaProg.lean LOADS. Nothing in Lean hashes anything: it is a label: what it is worth is what the hold of that sum in a sandbox is worth. -/
noncomputable def Try.pinned : Pinned := { name := "ytplngoikjfimaaa", sum := "263fdbf0a28de498723255122367464a2d5a11c8008f0bb20fa40cc414eb24e9", checked := Try.checked }
namespace Rows
def none {H : Type} : Left H := { results := [], args := [] }

/-- 'decanterlaw08.MarkTags': WHATEVER THE INPUT: true; the input reads as it did. -/
def markTagsSpec : ChangeSpec := { name := "markTags", fn := fun _ => fun
  | [d] => { results := [.lit (.bool true)], args := [d] }
  | _ => none }
def markTagsRow : OpenClaim := { program := "ytplngoikjfimaaa", sum := "263fdbf0a28de498723255122367464a2d5a11c8008f0bb20fa40cc414eb24e9", func := "decanter/decanterlaw08.MarkTags", spec := "markTags", apart := false }
def MarkTagsSaid : Prop := markTagsRow.holds Try.pinned (OpenSpec.ofChange markTagsSpec)

/-- ITS FALSE NEIGHBOUR: 'it returns false'. Refute it at one input. -/
def markTagsWrong : ChangeSpec := { name := "markTags", fn := fun _ => fun
  | [d] => { results := [.lit (.bool false)], args := [d] }
  | _ => none }
def MarkTagsWrongFalsely : Prop := markTagsRow.holds Try.pinned (OpenSpec.ofChange markTagsWrong)

/-- 'decanterlaw08.MarkComments': WHATEVER THE INPUT: true; the input reads as it did. -/
def markCommentsSpec : ChangeSpec := { name := "markComments", fn := fun _ => fun
  | [d1, d2] => { results := [.lit (.bool true)], args := [d1, d2] }
  | _ => none }
def markCommentsRow : OpenClaim := { program := "ytplngoikjfimaaa", sum := "263fdbf0a28de498723255122367464a2d5a11c8008f0bb20fa40cc414eb24e9", func := "decanter/decanterlaw08.MarkComments", spec := "markComments", apart := false }
def MarkCommentsSaid : Prop := markCommentsRow.holds Try.pinned (OpenSpec.ofChange markCommentsSpec)

/-- ITS FALSE NEIGHBOUR: 'it returns false'. Refute it at one input. -/
def markCommentsWrong : ChangeSpec := { name := "markComments", fn := fun _ => fun
  | [d1, d2] => { results := [.lit (.bool false)], args := [d1, d2] }
  | _ => none }
def MarkCommentsWrongFalsely : Prop := markCommentsRow.holds Try.pinned (OpenSpec.ofChange markCommentsWrong)

/-- 'decanterlaw08.MarkBogus': WHATEVER THE INPUT: true; the input reads as it did. -/
def markBogusSpec : ChangeSpec := { name := "markBogus", fn := fun _ => fun
  | [d1, d2] => { results := [.lit (.bool true)], args := [d1, d2] }
  | _ => none }
def markBogusRow : OpenClaim := { program := "ytplngoikjfimaaa", sum := "263fdbf0a28de498723255122367464a2d5a11c8008f0bb20fa40cc414eb24e9", func := "decanter/decanterlaw08.MarkBogus", spec := "markBogus", apart := false }
def MarkBogusSaid : Prop := markBogusRow.holds Try.pinned (OpenSpec.ofChange markBogusSpec)

/-- ITS FALSE NEIGHBOUR: 'it returns false'. Refute it at one input. -/
def markBogusWrong : ChangeSpec := { name := "markBogus", fn := fun _ => fun
  | [d1, d2] => { results := [.lit (.bool false)], args := [d1, d2] }
  | _ => none }
def MarkBogusWrongFalsely : Prop := markBogusRow.holds Try.pinned (OpenSpec.ofChange markBogusWrong)

/- THE SECOND FORM. 'bulk': how many values and letters a reading holds, each counted each time it is reached (what is shared counts as often as it is met; a slice's spare places count too). A statement '..UptoSaid' is the law's where the arguments, and the package variables that the reading takes, are together of bulk at most 1048576: NARROWER than '..Said'. Prove '..Said' where nothing that the law and all that it calls make is longer than what came in: it says more and counts as full. Else prove '..UptoSaid'. A law counts once. -/
mutual
def uptoBulk {H : Type} : DataW H → Nat
  | .lit (.string bytes) => bytes.length + 1
  | .lit _ => 1
  | .nil => 1
  | .ptr d => uptoBulk d + 1
  | .slice elems spare => uptoBulkAll elems + uptoBulkAll spare + 1
  | .agg parts => uptoBulkAll parts + 1
  | .iface _ d => uptoBulk d + 1
  | .map entries => uptoBulkEntries entries + 1
  | .held _ => 1
def uptoBulkAll {H : Type} : List (DataW H) → Nat
  | [] => 0
  | d :: r => uptoBulk d + uptoBulkAll r
def uptoBulkEntries {H : Type} : List (Lit × DataW H) → Nat
  | [] => 0
  | x :: r => uptoBulkEntry x + uptoBulkEntries r
def uptoBulkEntry {H : Type} : Lit × DataW H → Nat
  | (.string bytes, d) => bytes.length + uptoBulk d + 1
  | (_, d) => uptoBulk d + 1
 end
def uptoSmall : (H : Type) → List (DataW H) → Bool := fun _ ds => decide (uptoBulkAll ds ≤ 1048576)
def OpenSpec.upto (s : _root_.Go.ChangeSpec) : _root_.Go.OpenSpec := { _root_.Go.OpenSpec.ofChange s with cond := some uptoSmall }

/-- 'decanterlaw08.MarkTags', WHERE WHAT IT READS IS OF BULK AT MOST 1048576: true; the input reads as it did. -/
def markTagsUptoRow : OpenClaim := { program := "ytplngoikjfimaaa", sum := "263fdbf0a28de498723255122367464a2d5a11c8008f0bb20fa40cc414eb24e9", func := "decanter/decanterlaw08.MarkTags", spec := "markTags", apart := false, narrowed := true }
def MarkTagsUptoSaid : Prop := markTagsUptoRow.holds Try.pinned (OpenSpec.upto markTagsSpec)

/-- 'decanterlaw08.MarkComments', WHERE WHAT IT READS IS OF BULK AT MOST 1048576: true; the input reads as it did. -/
def markCommentsUptoRow : OpenClaim := { program := "ytplngoikjfimaaa", sum := "263fdbf0a28de498723255122367464a2d5a11c8008f0bb20fa40cc414eb24e9", func := "decanter/decanterlaw08.MarkComments", spec := "markComments", apart := false, narrowed := true }
def MarkCommentsUptoSaid : Prop := markCommentsUptoRow.holds Try.pinned (OpenSpec.upto markCommentsSpec)

/-- 'decanterlaw08.MarkBogus', WHERE WHAT IT READS IS OF BULK AT MOST 1048576: true; the input reads as it did. -/
def markBogusUptoRow : OpenClaim := { program := "ytplngoikjfimaaa", sum := "263fdbf0a28de498723255122367464a2d5a11c8008f0bb20fa40cc414eb24e9", func := "decanter/decanterlaw08.MarkBogus", spec := "markBogus", apart := false, narrowed := true }
def MarkBogusUptoSaid : Prop := markBogusUptoRow.holds Try.pinned (OpenSpec.upto markBogusSpec)

end Rows
end Go.Proofs.Ytplngoikjfimaaa
