/-
  DERIVED. GIVEN WITH THE SEED: THE CARDS: each row of YtkcmpceckbggmaaDoorRows.lean that lists a variable, with what it lists TIED to the program's text (the seventh form; the later family's looks); each row that meets fmt, with fmt's text TOLD by the authors' own Lean function (tested against real Go, not proved from fmt's source: count such statements apart). THE CARD IS WHAT COUNTS. Prove the row's statement (the work); the ties are given (YtkcmpceckbggmaaDoorTie.lean); close each card by the builder's one call (the guide's Derived/Test/ToyasCard.lean, 'card_holds'). Laid BY PROGRAM, IN A SANDBOX (cutbox-door.mjs). By AI agents, Wed Nov 11 2026. No macro, syntax, notation, axiom, sorry.
-/
import Derived.Test.YtkcmpceckbggmaaDoorRows
import GoSem.ClaimSeven
namespace Go.Proofs.YtkcmpceckbggmaaDoor
namespace Rows

/-- THE TIED CARD OF 'decanterlaw05.RefReads'. -/
def refReadsCard : Claim7 := { stood := { row := refReadsRow, standIns := [], harness := (true, "50604e32a65f0d04f392bd6100a5b80b192376bdb92ed366a21b3eaf3f3515d8"), looks := false }, kinds := [], alts := [], laidByText := true, laidKinds := [.data, .data, .pinned], laidTests := true, laidLooks := .later }
def RefReadsCardSaid : Prop := Claim7.holds Tryd.pinned (.plain (OpenSpec.ofChange refReadsSpec)) refReadsCard

/-- THE TIED CARD OF 'decanterlaw05.RefTexts'. -/
def refTextsCard : Claim7 := { stood := { row := refTextsRow, standIns := [], harness := (true, "50604e32a65f0d04f392bd6100a5b80b192376bdb92ed366a21b3eaf3f3515d8"), looks := false }, kinds := [], alts := [], laidByText := true, laidKinds := [.data, .data, .pinned], laidTests := true, laidLooks := .later }
def RefTextsCardSaid : Prop := Claim7.holds Tryd.pinned (.plain (OpenSpec.ofChange refTextsSpec)) refTextsCard

/-- THE TIED CARD OF 'decanterlaw05.RefPoints'. -/
def refPointsCard : Claim7 := { stood := { row := refPointsRow, standIns := [], harness := (true, "50604e32a65f0d04f392bd6100a5b80b192376bdb92ed366a21b3eaf3f3515d8"), looks := false }, kinds := [], alts := [], laidByText := true, laidKinds := [.data, .data, .pinned], laidTests := true, laidLooks := .later }
def RefPointsCardSaid : Prop := Claim7.holds Tryd.pinned (.plain (OpenSpec.ofChange refPointsSpec)) refPointsCard

/-- THE TIED CARD OF 'decanterlaw05.RefPlain'. -/
def refPlainCard : Claim7 := { stood := { row := refPlainRow, standIns := [], harness := (true, "50604e32a65f0d04f392bd6100a5b80b192376bdb92ed366a21b3eaf3f3515d8"), looks := false }, kinds := [], alts := [], laidByText := true, laidKinds := [.data, .data, .pinned], laidTests := true, laidLooks := .later }
def RefPlainCardSaid : Prop := Claim7.holds Tryd.pinned (.plain (OpenSpec.ofChange refPlainSpec)) refPlainCard

/-- THE TIED CARD OF 'decanterlaw05.RefNumbers'. -/
def refNumbersCard : Claim7 := { stood := { row := refNumbersRow, standIns := [], harness := (true, "50604e32a65f0d04f392bd6100a5b80b192376bdb92ed366a21b3eaf3f3515d8"), looks := false }, kinds := [], alts := [], laidByText := true, laidKinds := [.data, .data, .pinned], laidTests := true, laidLooks := .later }
def RefNumbersCardSaid : Prop := Claim7.holds Tryd.pinned (.plain (OpenSpec.ofChange refNumbersSpec)) refNumbersCard

/-- THE TIED CARD OF 'decanterlaw05.RefBehind'. -/
def refBehindCard : Claim7 := { stood := { row := refBehindRow, standIns := [], harness := (true, "50604e32a65f0d04f392bd6100a5b80b192376bdb92ed366a21b3eaf3f3515d8"), looks := false }, kinds := [], alts := [], laidByText := true, laidKinds := [.data, .data, .pinned], laidTests := true, laidLooks := .later }
def RefBehindCardSaid : Prop := Claim7.holds Tryd.pinned (.plain (OpenSpec.ofChange refBehindSpec)) refBehindCard

/-- THE SECOND FORM's CARD OF 'decanterlaw05.RefReads'. -/
def refReadsUptoCard : Claim7 := { stood := { row := refReadsUptoRow, standIns := [], harness := (true, "50604e32a65f0d04f392bd6100a5b80b192376bdb92ed366a21b3eaf3f3515d8"), looks := false }, kinds := [], alts := [], laidByText := true, laidKinds := [.data, .data, .pinned], laidTests := true, laidLooks := .later }
def RefReadsUptoCardSaid : Prop := Claim7.holds Tryd.pinned (.plain (OpenSpec.upto refReadsSpec)) refReadsUptoCard

/-- THE SECOND FORM's CARD OF 'decanterlaw05.RefTexts'. -/
def refTextsUptoCard : Claim7 := { stood := { row := refTextsUptoRow, standIns := [], harness := (true, "50604e32a65f0d04f392bd6100a5b80b192376bdb92ed366a21b3eaf3f3515d8"), looks := false }, kinds := [], alts := [], laidByText := true, laidKinds := [.data, .data, .pinned], laidTests := true, laidLooks := .later }
def RefTextsUptoCardSaid : Prop := Claim7.holds Tryd.pinned (.plain (OpenSpec.upto refTextsSpec)) refTextsUptoCard

/-- THE SECOND FORM's CARD OF 'decanterlaw05.RefPoints'. -/
def refPointsUptoCard : Claim7 := { stood := { row := refPointsUptoRow, standIns := [], harness := (true, "50604e32a65f0d04f392bd6100a5b80b192376bdb92ed366a21b3eaf3f3515d8"), looks := false }, kinds := [], alts := [], laidByText := true, laidKinds := [.data, .data, .pinned], laidTests := true, laidLooks := .later }
def RefPointsUptoCardSaid : Prop := Claim7.holds Tryd.pinned (.plain (OpenSpec.upto refPointsSpec)) refPointsUptoCard

/-- THE SECOND FORM's CARD OF 'decanterlaw05.RefPlain'. -/
def refPlainUptoCard : Claim7 := { stood := { row := refPlainUptoRow, standIns := [], harness := (true, "50604e32a65f0d04f392bd6100a5b80b192376bdb92ed366a21b3eaf3f3515d8"), looks := false }, kinds := [], alts := [], laidByText := true, laidKinds := [.data, .data, .pinned], laidTests := true, laidLooks := .later }
def RefPlainUptoCardSaid : Prop := Claim7.holds Tryd.pinned (.plain (OpenSpec.upto refPlainSpec)) refPlainUptoCard

/-- THE SECOND FORM's CARD OF 'decanterlaw05.RefNumbers'. -/
def refNumbersUptoCard : Claim7 := { stood := { row := refNumbersUptoRow, standIns := [], harness := (true, "50604e32a65f0d04f392bd6100a5b80b192376bdb92ed366a21b3eaf3f3515d8"), looks := false }, kinds := [], alts := [], laidByText := true, laidKinds := [.data, .data, .pinned], laidTests := true, laidLooks := .later }
def RefNumbersUptoCardSaid : Prop := Claim7.holds Tryd.pinned (.plain (OpenSpec.upto refNumbersSpec)) refNumbersUptoCard

/-- THE SECOND FORM's CARD OF 'decanterlaw05.RefBehind'. -/
def refBehindUptoCard : Claim7 := { stood := { row := refBehindUptoRow, standIns := [], harness := (true, "50604e32a65f0d04f392bd6100a5b80b192376bdb92ed366a21b3eaf3f3515d8"), looks := false }, kinds := [], alts := [], laidByText := true, laidKinds := [.data, .data, .pinned], laidTests := true, laidLooks := .later }
def RefBehindUptoCardSaid : Prop := Claim7.holds Tryd.pinned (.plain (OpenSpec.upto refBehindSpec)) refBehindUptoCard
end Rows
end Go.Proofs.YtkcmpceckbggmaaDoor
