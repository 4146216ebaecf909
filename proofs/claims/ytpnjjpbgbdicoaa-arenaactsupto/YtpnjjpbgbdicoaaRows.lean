/-
  NARROWER THAN 'FOR EVERY INPUT', by the rows' own cells (each row's printed sentence says how): ArenaSames: loops · ArenaBuilds: loops · ArenaMoves: loops · ArenaCounts: loops.
  DERIVED. THE GIVEN ROWS OF THIS SEAT. 5 by the template 'for every input the law returns true; each argument reads behind the call as it read before'; 0 by the template 'total and deterministic' (their statements: YtpnjjpbgbdicoaaTotals.lean).
  GIVEN WITH THE SEED: the statements are not yours to turn. If you find one false, say at which input.
  Laid BY PROGRAM, IN A SANDBOX (cutbox-rows.mjs): the forced cells as the released guide's own fill.sh prints them over the translation f03eee0d99979472… (all of the seat's roots in one cut). By AI agents, Wed Nov 11 2026. No macro, syntax, notation, axiom, sorry.
-/
import Derived.Test.YtpnjjpbgbdicoaaChecked
import GoSem.Claim
import GoSem.ClaimJoined
import GoSem.ClaimMapViews
import Derived.JoinedTies
import Derived.KernelRfl
namespace Go.Proofs.Ytpnjjpbgbdicoaa
/- THE CELL 'sum', in the pinned program and in every row, IS THE sha256 OF THE DUMP (.gsa) THAT YtpnjjpbgbdicoaaProg.lean LOADS. Nothing in Lean hashes anything: it is a label: what it is worth is what the hold of that sum in a sandbox is worth. -/
noncomputable def Try.pinned : Pinned := { name := "ytpnjjpbgbdicoaa", sum := "f03eee0d999794727942f3d6f46d4a54074ab78cea6c6d9896a12c37eaf115a2", checked := Try.checked }
namespace Rows
def none {H : Type} : Left H := { results := [], args := [] }

/-- 'decanterlaw12.ArenaActs': WHATEVER THE INPUT: true; the input reads as it did. -/
def arenaActsSpec : ChangeSpec := { name := "arenaActs", fn := fun _ => fun
  | [d] => { results := [.lit (.bool true)], args := [d] }
  | _ => none }
def arenaActsRow : OpenClaim := { program := "ytpnjjpbgbdicoaa", sum := "f03eee0d999794727942f3d6f46d4a54074ab78cea6c6d9896a12c37eaf115a2", func := "decanter/decanterlaw12.ArenaActs", spec := "arenaActs", recurses := true, apart := false }
def ArenaActsSaid : Prop := arenaActsRow.holds Try.pinned (OpenSpec.ofChange arenaActsSpec)

/-- ITS FALSE NEIGHBOUR: 'it returns false'. Refute it at one input. -/
def arenaActsWrong : ChangeSpec := { name := "arenaActs", fn := fun _ => fun
  | [d] => { results := [.lit (.bool false)], args := [d] }
  | _ => none }
def ArenaActsWrongFalsely : Prop := arenaActsRow.holds Try.pinned (OpenSpec.ofChange arenaActsWrong)

/-- 'decanterlaw12.ArenaSames': WHATEVER THE INPUT: true; the input reads as it did. -/
def arenaSamesSpec : ChangeSpec := { name := "arenaSames", fn := fun _ => fun
  | [d1, d2] => { results := [.lit (.bool true)], args := [d1, d2] }
  | _ => none }
def arenaSamesRow : OpenClaim := { program := "ytpnjjpbgbdicoaa", sum := "f03eee0d999794727942f3d6f46d4a54074ab78cea6c6d9896a12c37eaf115a2", func := "decanter/decanterlaw12.ArenaSames", spec := "arenaSames", unfollowed := true, recurses := true, loops := true, apart := false }
def ArenaSamesSaid : Prop := arenaSamesRow.holds Try.pinned (OpenSpec.ofChange arenaSamesSpec)

/-- ITS FALSE NEIGHBOUR: 'it returns false'. Refute it at one input. -/
def arenaSamesWrong : ChangeSpec := { name := "arenaSames", fn := fun _ => fun
  | [d1, d2] => { results := [.lit (.bool false)], args := [d1, d2] }
  | _ => none }
def ArenaSamesWrongFalsely : Prop := arenaSamesRow.holds Try.pinned (OpenSpec.ofChange arenaSamesWrong)

/-- 'decanterlaw12.ArenaBuilds': WHATEVER THE INPUT: true; the input reads as it did. -/
def arenaBuildsSpec : ChangeSpec := { name := "arenaBuilds", fn := fun _ => fun
  | [d] => { results := [.lit (.bool true)], args := [d] }
  | _ => none }
def arenaBuildsRow : OpenClaim := { program := "ytpnjjpbgbdicoaa", sum := "f03eee0d999794727942f3d6f46d4a54074ab78cea6c6d9896a12c37eaf115a2", func := "decanter/decanterlaw12.ArenaBuilds", spec := "arenaBuilds", unfollowed := true, recurses := true, loops := true, apart := false }
def ArenaBuildsSaid : Prop := arenaBuildsRow.holds Try.pinned (OpenSpec.ofChange arenaBuildsSpec)

/-- ITS FALSE NEIGHBOUR: 'it returns false'. Refute it at one input. -/
def arenaBuildsWrong : ChangeSpec := { name := "arenaBuilds", fn := fun _ => fun
  | [d] => { results := [.lit (.bool false)], args := [d] }
  | _ => none }
def ArenaBuildsWrongFalsely : Prop := arenaBuildsRow.holds Try.pinned (OpenSpec.ofChange arenaBuildsWrong)

/-- 'decanterlaw12.ArenaMoves': WHATEVER THE INPUT: true; the input reads as it did. -/
def arenaMovesSpec : ChangeSpec := { name := "arenaMoves", fn := fun _ => fun
  | [d1, d2] => { results := [.lit (.bool true)], args := [d1, d2] }
  | _ => none }
def arenaMovesRow : OpenClaim := { program := "ytpnjjpbgbdicoaa", sum := "f03eee0d999794727942f3d6f46d4a54074ab78cea6c6d9896a12c37eaf115a2", func := "decanter/decanterlaw12.ArenaMoves", spec := "arenaMoves", unfollowed := true, recurses := true, loops := true, apart := false }
def ArenaMovesSaid : Prop := arenaMovesRow.holds Try.pinned (OpenSpec.ofChange arenaMovesSpec)

/-- ITS FALSE NEIGHBOUR: 'it returns false'. Refute it at one input. -/
def arenaMovesWrong : ChangeSpec := { name := "arenaMoves", fn := fun _ => fun
  | [d1, d2] => { results := [.lit (.bool false)], args := [d1, d2] }
  | _ => none }
def ArenaMovesWrongFalsely : Prop := arenaMovesRow.holds Try.pinned (OpenSpec.ofChange arenaMovesWrong)

/-- 'decanterlaw12.ArenaCounts': WHATEVER THE INPUT: true; the input reads as it did. -/
def arenaCountsSpec : ChangeSpec := { name := "arenaCounts", fn := fun _ => fun
  | [d1, d2] => { results := [.lit (.bool true)], args := [d1, d2] }
  | _ => none }
def arenaCountsRow : OpenClaim := { program := "ytpnjjpbgbdicoaa", sum := "f03eee0d999794727942f3d6f46d4a54074ab78cea6c6d9896a12c37eaf115a2", func := "decanter/decanterlaw12.ArenaCounts", spec := "arenaCounts", recurses := true, loops := true, apart := false }
def ArenaCountsSaid : Prop := arenaCountsRow.holds Try.pinned (OpenSpec.ofChange arenaCountsSpec)

/-- ITS FALSE NEIGHBOUR: 'it returns false'. Refute it at one input. -/
def arenaCountsWrong : ChangeSpec := { name := "arenaCounts", fn := fun _ => fun
  | [d1, d2] => { results := [.lit (.bool false)], args := [d1, d2] }
  | _ => none }
def ArenaCountsWrongFalsely : Prop := arenaCountsRow.holds Try.pinned (OpenSpec.ofChange arenaCountsWrong)

/- THE SECOND FORM. 'bulk': how many values and letters a reading holds, each counted each time it is reached (what is shared counts as often as it is met; a slice's spare places count too). A statement '..UptoSaid' is the law's where the arguments, and the package variables that the reading takes, are together of bulk at most 1048576: NARROWER than '..Said'. Prove '..Said' where nothing that the law and all that it calls make is longer than what came in: it says more and counts as full. Else prove '..UptoSaid'. A law counts once. -/
mutual
def uptoBulk {H : Type} : DataW H → Nat
  | .lit (.string bytes) => bytes.length + 1
  | .lit _ => 1
  | .nil => 1
  | .ptr d => uptoBulk d + 1
  | .slice elems spare => uptoBulkAll elems + uptoBulkAll spare + 1
  | .agg parts => uptoBulkAll parts + 1
  | .iface _ d => uptoBulk d + 1
  | .map entries => uptoBulkEntries entries + 1
  | .held _ => 1
def uptoBulkAll {H : Type} : List (DataW H) → Nat
  | [] => 0
  | d :: r => uptoBulk d + uptoBulkAll r
def uptoBulkEntries {H : Type} : List (Lit × DataW H) → Nat
  | [] => 0
  | x :: r => uptoBulkEntry x + uptoBulkEntries r
def uptoBulkEntry {H : Type} : Lit × DataW H → Nat
  | (.string bytes, d) => bytes.length + uptoBulk d + 1
  | (_, d) => uptoBulk d + 1
 end
def uptoSmall : (H : Type) → List (DataW H) → Bool := fun _ ds => decide (uptoBulkAll ds ≤ 1048576)
def OpenSpec.upto (s : _root_.Go.ChangeSpec) : _root_.Go.OpenSpec := { _root_.Go.OpenSpec.ofChange s with cond := some uptoSmall }

/-- 'decanterlaw12.ArenaActs', WHERE WHAT IT READS IS OF BULK AT MOST 1048576: true; the input reads as it did. -/
def arenaActsUptoRow : OpenClaim := { program := "ytpnjjpbgbdicoaa", sum := "f03eee0d999794727942f3d6f46d4a54074ab78cea6c6d9896a12c37eaf115a2", func := "decanter/decanterlaw12.ArenaActs", spec := "arenaActs", recurses := true, apart := false, narrowed := true }
def ArenaActsUptoSaid : Prop := arenaActsUptoRow.holds Try.pinned (OpenSpec.upto arenaActsSpec)

/-- 'decanterlaw12.ArenaSames', WHERE WHAT IT READS IS OF BULK AT MOST 1048576: true; the input reads as it did. -/
def arenaSamesUptoRow : OpenClaim := { program := "ytpnjjpbgbdicoaa", sum := "f03eee0d999794727942f3d6f46d4a54074ab78cea6c6d9896a12c37eaf115a2", func := "decanter/decanterlaw12.ArenaSames", spec := "arenaSames", unfollowed := true, recurses := true, loops := true, apart := false, narrowed := true }
def ArenaSamesUptoSaid : Prop := arenaSamesUptoRow.holds Try.pinned (OpenSpec.upto arenaSamesSpec)

/-- 'decanterlaw12.ArenaBuilds', WHERE WHAT IT READS IS OF BULK AT MOST 1048576: true; the input reads as it did. -/
def arenaBuildsUptoRow : OpenClaim := { program := "ytpnjjpbgbdicoaa", sum := "f03eee0d999794727942f3d6f46d4a54074ab78cea6c6d9896a12c37eaf115a2", func := "decanter/decanterlaw12.ArenaBuilds", spec := "arenaBuilds", unfollowed := true, recurses := true, loops := true, apart := false, narrowed := true }
def ArenaBuildsUptoSaid : Prop := arenaBuildsUptoRow.holds Try.pinned (OpenSpec.upto arenaBuildsSpec)

/-- 'decanterlaw12.ArenaMoves', WHERE WHAT IT READS IS OF BULK AT MOST 1048576: true; the input reads as it did. -/
def arenaMovesUptoRow : OpenClaim := { program := "ytpnjjpbgbdicoaa", sum := "f03eee0d999794727942f3d6f46d4a54074ab78cea6c6d9896a12c37eaf115a2", func := "decanter/decanterlaw12.ArenaMoves", spec := "arenaMoves", unfollowed := true, recurses := true, loops := true, apart := false, narrowed := true }
def ArenaMovesUptoSaid : Prop := arenaMovesUptoRow.holds Try.pinned (OpenSpec.upto arenaMovesSpec)

/-- 'decanterlaw12.ArenaCounts', WHERE WHAT IT READS IS OF BULK AT MOST 1048576: true; the input reads as it did. -/
def arenaCountsUptoRow : OpenClaim := { program := "ytpnjjpbgbdicoaa", sum := "f03eee0d999794727942f3d6f46d4a54074ab78cea6c6d9896a12c37eaf115a2", func := "decanter/decanterlaw12.ArenaCounts", spec := "arenaCounts", recurses := true, loops := true, apart := false, narrowed := true }
def ArenaCountsUptoSaid : Prop := arenaCountsUptoRow.holds Try.pinned (OpenSpec.upto arenaCountsSpec)

end Rows
end Go.Proofs.Ytpnjjpbgbdicoaa
