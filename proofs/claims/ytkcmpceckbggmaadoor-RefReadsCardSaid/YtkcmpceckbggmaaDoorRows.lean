/-
  NARROWER THAN 'FOR EVERY INPUT', by the rows' own cells (each row's printed sentence says how): RefReads: laid · RefTexts: laid · RefPoints: laid · RefPlain: laid · RefNumbers: laid · RefBehind: laid.
  DERIVED. THE GIVEN ROWS OF THIS SEAT. 6 by the template 'for every input the law returns true; each argument reads behind the call as it read before'; 0 by the template 'total and deterministic' (their statements: YtkcmpceckbggmaaDoorTotals.lean).
  GIVEN WITH THE SEED: the statements are not yours to turn. If you find one false, say at which input.
  Laid BY PROGRAM, IN A SANDBOX (cutbox-rows.mjs): the forced cells as the released guide's own fill.sh prints them over the translation b07d09d35441c58b… (all of the seat's roots in one cut). By AI agents, Wed Nov 11 2026. No macro, syntax, notation, axiom, sorry.
-/
import Derived.Test.YtkcmpceckbggmaaDoorChecked
import GoSem.PinnedTables
import GoSem.Claim
import GoSem.ClaimJoined
import GoSem.ClaimMapViews
import Derived.JoinedTies
import Derived.KernelRfl
namespace Go.Proofs.YtkcmpceckbggmaaDoor
/- THE CELL 'sum', in the pinned program and in every row, IS THE sha256 OF THE DUMP (.gsa) THAT YtkcmpceckbggmaaDoorProg.lean LOADS. Nothing in Lean hashes anything: it is a label: what it is worth is what the hold of that sum in a sandbox is worth. -/
noncomputable def Tryd.pinned : Pinned := { name := "ytkcmpceckbggmaadoor", sum := "b07d09d35441c58bf8c2ba680618204c2d27bf4a4bd8b96a5be615fdd997a31e", checked := Tryd.checked }
namespace Rows
def none {H : Type} : Left H := { results := [], args := [] }

/- WHAT THE LISTED PACKAGE-LEVEL VARIABLES READ AS WHEN THE CALL BEGINS. Each datum BY PROGRAM (the guide's laid-datum.mjs) off the statement by which the dump's own 'gosem.cut.vars' lays the variable. In a bare row this is a premise. The card (YtkcmpceckbggmaaDoorCards.lean) ties it to the program's text. -/
def laid_unicode_utf8_acceptRanges {H : Type} : DataW H := .agg [.agg [.lit (.int .u8 128), .lit (.int .u8 191)], .agg [.lit (.int .u8 160), .lit (.int .u8 191)], .agg [.lit (.int .u8 128), .lit (.int .u8 159)], .agg [.lit (.int .u8 144), .lit (.int .u8 191)], .agg [.lit (.int .u8 128), .lit (.int .u8 143)], .agg [.lit (.int .u8 0), .lit (.int .u8 0)], .agg [.lit (.int .u8 0), .lit (.int .u8 0)], .agg [.lit (.int .u8 0), .lit (.int .u8 0)], .agg [.lit (.int .u8 0), .lit (.int .u8 0)], .agg [.lit (.int .u8 0), .lit (.int .u8 0)], .agg [.lit (.int .u8 0), .lit (.int .u8 0)], .agg [.lit (.int .u8 0), .lit (.int .u8 0)], .agg [.lit (.int .u8 0), .lit (.int .u8 0)], .agg [.lit (.int .u8 0), .lit (.int .u8 0)], .agg [.lit (.int .u8 0), .lit (.int .u8 0)], .agg [.lit (.int .u8 0), .lit (.int .u8 0)]]
def laid_decanter_ref_moved {H : Type} : DataW H := .agg [.lit (.int .i32 8364), .lit (.int .i32 129), .lit (.int .i32 8218), .lit (.int .i32 402), .lit (.int .i32 8222), .lit (.int .i32 8230), .lit (.int .i32 8224), .lit (.int .i32 8225), .lit (.int .i32 710), .lit (.int .i32 8240), .lit (.int .i32 352), .lit (.int .i32 8249), .lit (.int .i32 338), .lit (.int .i32 141), .lit (.int .i32 381), .lit (.int .i32 143), .lit (.int .i32 144), .lit (.int .i32 8216), .lit (.int .i32 8217), .lit (.int .i32 8220), .lit (.int .i32 8221), .lit (.int .i32 8226), .lit (.int .i32 8211), .lit (.int .i32 8212), .lit (.int .i32 732), .lit (.int .i32 8482), .lit (.int .i32 353), .lit (.int .i32 8250), .lit (.int .i32 339), .lit (.int .i32 157), .lit (.int .i32 382), .lit (.int .i32 376)]
/-- One of Go's own tables, pinned by name: the form's constant. -/
def laid_unicode_utf8_first : DataW Unit := Go.Pinned.utf8First

/-- 'decanterlaw05.RefReads': WHATEVER THE INPUT: true; the input reads as it did. -/
def refReadsSpec : ChangeSpec := { name := "refReads", fn := fun _ => fun
  | [d1, d2] => { results := [.lit (.bool true)], args := [d1, d2] }
  | _ => none }
def refReadsRow : OpenClaim := { program := "ytkcmpceckbggmaadoor", sum := "b07d09d35441c58bf8c2ba680618204c2d27bf4a4bd8b96a5be615fdd997a31e", func := "decanter/decanterlaw05.RefReads", spec := "refReads", inPlace := ["internal/abi.NoEscape"], named := ["decanter/ref.moved", "unicode/utf8.first", "unicode/utf8.acceptRanges"], apart := false, laid := [("unicode/utf8.acceptRanges", laid_unicode_utf8_acceptRanges), ("decanter/ref.moved", laid_decanter_ref_moved), ("unicode/utf8.first", laid_unicode_utf8_first)] }
def RefReadsSaid : Prop := refReadsRow.holds Tryd.pinned (OpenSpec.ofChange refReadsSpec)

/-- ITS FALSE NEIGHBOUR: 'it returns false'. Refute it at one input. -/
def refReadsWrong : ChangeSpec := { name := "refReads", fn := fun _ => fun
  | [d1, d2] => { results := [.lit (.bool false)], args := [d1, d2] }
  | _ => none }
def RefReadsWrongFalsely : Prop := refReadsRow.holds Tryd.pinned (OpenSpec.ofChange refReadsWrong)

/-- 'decanterlaw05.RefTexts': WHATEVER THE INPUT: true; the input reads as it did. -/
def refTextsSpec : ChangeSpec := { name := "refTexts", fn := fun _ => fun
  | [d1, d2, d3, d4] => { results := [.lit (.bool true)], args := [d1, d2, d3, d4] }
  | _ => none }
def refTextsRow : OpenClaim := { program := "ytkcmpceckbggmaadoor", sum := "b07d09d35441c58bf8c2ba680618204c2d27bf4a4bd8b96a5be615fdd997a31e", func := "decanter/decanterlaw05.RefTexts", spec := "refTexts", inPlace := ["internal/abi.NoEscape"], named := ["decanter/ref.moved", "unicode/utf8.first", "unicode/utf8.acceptRanges"], apart := false, laid := [("unicode/utf8.acceptRanges", laid_unicode_utf8_acceptRanges), ("decanter/ref.moved", laid_decanter_ref_moved), ("unicode/utf8.first", laid_unicode_utf8_first)] }
def RefTextsSaid : Prop := refTextsRow.holds Tryd.pinned (OpenSpec.ofChange refTextsSpec)

/-- ITS FALSE NEIGHBOUR: 'it returns false'. Refute it at one input. -/
def refTextsWrong : ChangeSpec := { name := "refTexts", fn := fun _ => fun
  | [d1, d2, d3, d4] => { results := [.lit (.bool false)], args := [d1, d2, d3, d4] }
  | _ => none }
def RefTextsWrongFalsely : Prop := refTextsRow.holds Tryd.pinned (OpenSpec.ofChange refTextsWrong)

/-- 'decanterlaw05.RefPoints': WHATEVER THE INPUT: true; the input reads as it did. -/
def refPointsSpec : ChangeSpec := { name := "refPoints", fn := fun _ => fun
  | [d] => { results := [.lit (.bool true)], args := [d] }
  | _ => none }
def refPointsRow : OpenClaim := { program := "ytkcmpceckbggmaadoor", sum := "b07d09d35441c58bf8c2ba680618204c2d27bf4a4bd8b96a5be615fdd997a31e", func := "decanter/decanterlaw05.RefPoints", spec := "refPoints", inPlace := ["internal/abi.NoEscape"], named := ["decanter/ref.moved", "unicode/utf8.first", "unicode/utf8.acceptRanges"], apart := false, laid := [("unicode/utf8.acceptRanges", laid_unicode_utf8_acceptRanges), ("decanter/ref.moved", laid_decanter_ref_moved), ("unicode/utf8.first", laid_unicode_utf8_first)] }
def RefPointsSaid : Prop := refPointsRow.holds Tryd.pinned (OpenSpec.ofChange refPointsSpec)

/-- ITS FALSE NEIGHBOUR: 'it returns false'. Refute it at one input. -/
def refPointsWrong : ChangeSpec := { name := "refPoints", fn := fun _ => fun
  | [d] => { results := [.lit (.bool false)], args := [d] }
  | _ => none }
def RefPointsWrongFalsely : Prop := refPointsRow.holds Tryd.pinned (OpenSpec.ofChange refPointsWrong)

/-- 'decanterlaw05.RefPlain': WHATEVER THE INPUT: true; the input reads as it did. -/
def refPlainSpec : ChangeSpec := { name := "refPlain", fn := fun _ => fun
  | [d1, d2] => { results := [.lit (.bool true)], args := [d1, d2] }
  | _ => none }
def refPlainRow : OpenClaim := { program := "ytkcmpceckbggmaadoor", sum := "b07d09d35441c58bf8c2ba680618204c2d27bf4a4bd8b96a5be615fdd997a31e", func := "decanter/decanterlaw05.RefPlain", spec := "refPlain", inPlace := ["internal/abi.NoEscape"], named := ["decanter/ref.moved", "unicode/utf8.first", "unicode/utf8.acceptRanges"], apart := false, laid := [("unicode/utf8.acceptRanges", laid_unicode_utf8_acceptRanges), ("decanter/ref.moved", laid_decanter_ref_moved), ("unicode/utf8.first", laid_unicode_utf8_first)] }
def RefPlainSaid : Prop := refPlainRow.holds Tryd.pinned (OpenSpec.ofChange refPlainSpec)

/-- ITS FALSE NEIGHBOUR: 'it returns false'. Refute it at one input. -/
def refPlainWrong : ChangeSpec := { name := "refPlain", fn := fun _ => fun
  | [d1, d2] => { results := [.lit (.bool false)], args := [d1, d2] }
  | _ => none }
def RefPlainWrongFalsely : Prop := refPlainRow.holds Tryd.pinned (OpenSpec.ofChange refPlainWrong)

/-- 'decanterlaw05.RefNumbers': WHATEVER THE INPUT: true; the input reads as it did. -/
def refNumbersSpec : ChangeSpec := { name := "refNumbers", fn := fun _ => fun
  | [d1, d2, d3] => { results := [.lit (.bool true)], args := [d1, d2, d3] }
  | _ => none }
def refNumbersRow : OpenClaim := { program := "ytkcmpceckbggmaadoor", sum := "b07d09d35441c58bf8c2ba680618204c2d27bf4a4bd8b96a5be615fdd997a31e", func := "decanter/decanterlaw05.RefNumbers", spec := "refNumbers", inPlace := ["internal/abi.NoEscape"], named := ["decanter/ref.moved", "unicode/utf8.first", "unicode/utf8.acceptRanges"], apart := false, laid := [("unicode/utf8.acceptRanges", laid_unicode_utf8_acceptRanges), ("decanter/ref.moved", laid_decanter_ref_moved), ("unicode/utf8.first", laid_unicode_utf8_first)] }
def RefNumbersSaid : Prop := refNumbersRow.holds Tryd.pinned (OpenSpec.ofChange refNumbersSpec)

/-- ITS FALSE NEIGHBOUR: 'it returns false'. Refute it at one input. -/
def refNumbersWrong : ChangeSpec := { name := "refNumbers", fn := fun _ => fun
  | [d1, d2, d3] => { results := [.lit (.bool false)], args := [d1, d2, d3] }
  | _ => none }
def RefNumbersWrongFalsely : Prop := refNumbersRow.holds Tryd.pinned (OpenSpec.ofChange refNumbersWrong)

/-- 'decanterlaw05.RefBehind': WHATEVER THE INPUT: true; the input reads as it did. -/
def refBehindSpec : ChangeSpec := { name := "refBehind", fn := fun _ => fun
  | [d1, d2, d3, d4] => { results := [.lit (.bool true)], args := [d1, d2, d3, d4] }
  | _ => none }
def refBehindRow : OpenClaim := { program := "ytkcmpceckbggmaadoor", sum := "b07d09d35441c58bf8c2ba680618204c2d27bf4a4bd8b96a5be615fdd997a31e", func := "decanter/decanterlaw05.RefBehind", spec := "refBehind", inPlace := ["internal/abi.NoEscape"], named := ["decanter/ref.moved", "unicode/utf8.first", "unicode/utf8.acceptRanges"], apart := false, laid := [("unicode/utf8.acceptRanges", laid_unicode_utf8_acceptRanges), ("decanter/ref.moved", laid_decanter_ref_moved), ("unicode/utf8.first", laid_unicode_utf8_first)] }
def RefBehindSaid : Prop := refBehindRow.holds Tryd.pinned (OpenSpec.ofChange refBehindSpec)

/-- ITS FALSE NEIGHBOUR: 'it returns false'. Refute it at one input. -/
def refBehindWrong : ChangeSpec := { name := "refBehind", fn := fun _ => fun
  | [d1, d2, d3, d4] => { results := [.lit (.bool false)], args := [d1, d2, d3, d4] }
  | _ => none }
def RefBehindWrongFalsely : Prop := refBehindRow.holds Tryd.pinned (OpenSpec.ofChange refBehindWrong)

/- THE SECOND FORM. 'bulk': how many values and letters a reading holds, each counted each time it is reached (what is shared counts as often as it is met; a slice's spare places count too). A statement '..UptoSaid' is the law's where the arguments, and the package variables that the reading takes, are together of bulk at most 1048576: NARROWER than '..Said'. Prove '..Said' where nothing that the law and all that it calls make is longer than what came in: it says more and counts as full. Else prove '..UptoSaid'. A law counts once. -/
mutual
def uptoBulk {H : Type} : DataW H → Nat
  | .lit (.string bytes) => bytes.length + 1
  | .lit _ => 1
  | .nil => 1
  | .ptr d => uptoBulk d + 1
  | .slice elems spare => uptoBulkAll elems + uptoBulkAll spare + 1
  | .agg parts => uptoBulkAll parts + 1
  | .iface _ d => uptoBulk d + 1
  | .map entries => uptoBulkEntries entries + 1
  | .held _ => 1
def uptoBulkAll {H : Type} : List (DataW H) → Nat
  | [] => 0
  | d :: r => uptoBulk d + uptoBulkAll r
def uptoBulkEntries {H : Type} : List (Lit × DataW H) → Nat
  | [] => 0
  | x :: r => uptoBulkEntry x + uptoBulkEntries r
def uptoBulkEntry {H : Type} : Lit × DataW H → Nat
  | (.string bytes, d) => bytes.length + uptoBulk d + 1
  | (_, d) => uptoBulk d + 1
 end
def uptoSmall : (H : Type) → List (DataW H) → Bool := fun _ ds => decide (uptoBulkAll ds ≤ 1048576)
def OpenSpec.upto (s : _root_.Go.ChangeSpec) : _root_.Go.OpenSpec := { _root_.Go.OpenSpec.ofChange s with cond := some uptoSmall }

/-- 'decanterlaw05.RefReads', WHERE WHAT IT READS IS OF BULK AT MOST 1048576: true; the input reads as it did. -/
def refReadsUptoRow : OpenClaim := { program := "ytkcmpceckbggmaadoor", sum := "b07d09d35441c58bf8c2ba680618204c2d27bf4a4bd8b96a5be615fdd997a31e", func := "decanter/decanterlaw05.RefReads", spec := "refReads", inPlace := ["internal/abi.NoEscape"], named := ["decanter/ref.moved", "unicode/utf8.first", "unicode/utf8.acceptRanges"], apart := false, laid := [("unicode/utf8.acceptRanges", laid_unicode_utf8_acceptRanges), ("decanter/ref.moved", laid_decanter_ref_moved), ("unicode/utf8.first", laid_unicode_utf8_first)], narrowed := true }
def RefReadsUptoSaid : Prop := refReadsUptoRow.holds Tryd.pinned (OpenSpec.upto refReadsSpec)

/-- 'decanterlaw05.RefTexts', WHERE WHAT IT READS IS OF BULK AT MOST 1048576: true; the input reads as it did. -/
def refTextsUptoRow : OpenClaim := { program := "ytkcmpceckbggmaadoor", sum := "b07d09d35441c58bf8c2ba680618204c2d27bf4a4bd8b96a5be615fdd997a31e", func := "decanter/decanterlaw05.RefTexts", spec := "refTexts", inPlace := ["internal/abi.NoEscape"], named := ["decanter/ref.moved", "unicode/utf8.first", "unicode/utf8.acceptRanges"], apart := false, laid := [("unicode/utf8.acceptRanges", laid_unicode_utf8_acceptRanges), ("decanter/ref.moved", laid_decanter_ref_moved), ("unicode/utf8.first", laid_unicode_utf8_first)], narrowed := true }
def RefTextsUptoSaid : Prop := refTextsUptoRow.holds Tryd.pinned (OpenSpec.upto refTextsSpec)

/-- 'decanterlaw05.RefPoints', WHERE WHAT IT READS IS OF BULK AT MOST 1048576: true; the input reads as it did. -/
def refPointsUptoRow : OpenClaim := { program := "ytkcmpceckbggmaadoor", sum := "b07d09d35441c58bf8c2ba680618204c2d27bf4a4bd8b96a5be615fdd997a31e", func := "decanter/decanterlaw05.RefPoints", spec := "refPoints", inPlace := ["internal/abi.NoEscape"], named := ["decanter/ref.moved", "unicode/utf8.first", "unicode/utf8.acceptRanges"], apart := false, laid := [("unicode/utf8.acceptRanges", laid_unicode_utf8_acceptRanges), ("decanter/ref.moved", laid_decanter_ref_moved), ("unicode/utf8.first", laid_unicode_utf8_first)], narrowed := true }
def RefPointsUptoSaid : Prop := refPointsUptoRow.holds Tryd.pinned (OpenSpec.upto refPointsSpec)

/-- 'decanterlaw05.RefPlain', WHERE WHAT IT READS IS OF BULK AT MOST 1048576: true; the input reads as it did. -/
def refPlainUptoRow : OpenClaim := { program := "ytkcmpceckbggmaadoor", sum := "b07d09d35441c58bf8c2ba680618204c2d27bf4a4bd8b96a5be615fdd997a31e", func := "decanter/decanterlaw05.RefPlain", spec := "refPlain", inPlace := ["internal/abi.NoEscape"], named := ["decanter/ref.moved", "unicode/utf8.first", "unicode/utf8.acceptRanges"], apart := false, laid := [("unicode/utf8.acceptRanges", laid_unicode_utf8_acceptRanges), ("decanter/ref.moved", laid_decanter_ref_moved), ("unicode/utf8.first", laid_unicode_utf8_first)], narrowed := true }
def RefPlainUptoSaid : Prop := refPlainUptoRow.holds Tryd.pinned (OpenSpec.upto refPlainSpec)

/-- 'decanterlaw05.RefNumbers', WHERE WHAT IT READS IS OF BULK AT MOST 1048576: true; the input reads as it did. -/
def refNumbersUptoRow : OpenClaim := { program := "ytkcmpceckbggmaadoor", sum := "b07d09d35441c58bf8c2ba680618204c2d27bf4a4bd8b96a5be615fdd997a31e", func := "decanter/decanterlaw05.RefNumbers", spec := "refNumbers", inPlace := ["internal/abi.NoEscape"], named := ["decanter/ref.moved", "unicode/utf8.first", "unicode/utf8.acceptRanges"], apart := false, laid := [("unicode/utf8.acceptRanges", laid_unicode_utf8_acceptRanges), ("decanter/ref.moved", laid_decanter_ref_moved), ("unicode/utf8.first", laid_unicode_utf8_first)], narrowed := true }
def RefNumbersUptoSaid : Prop := refNumbersUptoRow.holds Tryd.pinned (OpenSpec.upto refNumbersSpec)

/-- 'decanterlaw05.RefBehind', WHERE WHAT IT READS IS OF BULK AT MOST 1048576: true; the input reads as it did. -/
def refBehindUptoRow : OpenClaim := { program := "ytkcmpceckbggmaadoor", sum := "b07d09d35441c58bf8c2ba680618204c2d27bf4a4bd8b96a5be615fdd997a31e", func := "decanter/decanterlaw05.RefBehind", spec := "refBehind", inPlace := ["internal/abi.NoEscape"], named := ["decanter/ref.moved", "unicode/utf8.first", "unicode/utf8.acceptRanges"], apart := false, laid := [("unicode/utf8.acceptRanges", laid_unicode_utf8_acceptRanges), ("decanter/ref.moved", laid_decanter_ref_moved), ("unicode/utf8.first", laid_unicode_utf8_first)], narrowed := true }
def RefBehindUptoSaid : Prop := refBehindUptoRow.holds Tryd.pinned (OpenSpec.upto refBehindSpec)

end Rows
end Go.Proofs.YtkcmpceckbggmaaDoor
