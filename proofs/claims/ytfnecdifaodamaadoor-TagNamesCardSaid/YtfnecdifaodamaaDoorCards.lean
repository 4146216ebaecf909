/-
  DERIVED. GIVEN WITH THE SEED: THE CARDS: each row of YtfnecdifaodamaaDoorRows.lean that lists a variable, with what it lists TIED to the program's text (the seventh form; the later family's looks); each row that meets fmt, with fmt's text TOLD by the authors' own Lean function (tested against real Go, not proved from fmt's source: count such statements apart). THE CARD IS WHAT COUNTS. Prove the row's statement (the work); the ties are given (YtfnecdifaodamaaDoorTie.lean); close each card by the builder's one call (the guide's Derived/Test/ToyasCard.lean, 'card_holds'). Laid BY PROGRAM, IN A SANDBOX (cutbox-door.mjs). By AI agents, Wed Nov 11 2026. No macro, syntax, notation, axiom, sorry.
-/
import Derived.Test.YtfnecdifaodamaaDoorRows
import GoSem.ClaimSeven
namespace Go.Proofs.YtfnecdifaodamaaDoor
namespace Rows

/-- THE TIED CARD OF 'decanterlaw07.TagReads'. -/
def tagReadsCard : Claim7 := { stood := { row := tagReadsRow, standIns := [], harness := (true, "e7288bd0d06e4d3bc48a78bf04d8fc3a2f28921ebb159effb96a6ca73f4cba3d"), looks := false }, kinds := [], alts := [], laidByText := true, laidKinds := [.data, .data, .pinned], laidTests := true, laidLooks := .later }
def TagReadsCardSaid : Prop := Claim7.holds Tryd.pinned (.plain (OpenSpec.ofChange tagReadsSpec)) tagReadsCard

/-- THE TIED CARD OF 'decanterlaw07.TagNames'. -/
def tagNamesCard : Claim7 := { stood := { row := tagNamesRow, standIns := [], harness := (true, "e7288bd0d06e4d3bc48a78bf04d8fc3a2f28921ebb159effb96a6ca73f4cba3d"), looks := false }, kinds := [], alts := [], laidByText := true, laidKinds := [.data, .data, .pinned], laidTests := true, laidLooks := .later }
def TagNamesCardSaid : Prop := Claim7.holds Tryd.pinned (.plain (OpenSpec.ofChange tagNamesSpec)) tagNamesCard

/-- THE TIED CARD OF 'decanterlaw07.TagWrites'. -/
def tagWritesCard : Claim7 := { stood := { row := tagWritesRow, standIns := [], harness := (true, "e7288bd0d06e4d3bc48a78bf04d8fc3a2f28921ebb159effb96a6ca73f4cba3d"), looks := false }, kinds := [], alts := [], laidByText := true, laidKinds := [.data, .data, .pinned], laidTests := true, laidLooks := .later }
def TagWritesCardSaid : Prop := Claim7.holds Tryd.pinned (.plain (OpenSpec.ofChange tagWritesSpec)) tagWritesCard

/-- THE TIED CARD OF 'decanterlaw07.TagFronts'. -/
def tagFrontsCard : Claim7 := { stood := { row := tagFrontsRow, standIns := [], harness := (true, "e7288bd0d06e4d3bc48a78bf04d8fc3a2f28921ebb159effb96a6ca73f4cba3d"), looks := false }, kinds := [], alts := [], laidByText := true, laidKinds := [.data, .data, .pinned], laidTests := true, laidLooks := .later }
def TagFrontsCardSaid : Prop := Claim7.holds Tryd.pinned (.plain (OpenSpec.ofChange tagFrontsSpec)) tagFrontsCard

/-- THE SECOND FORM's CARD OF 'decanterlaw07.TagReads'. -/
def tagReadsUptoCard : Claim7 := { stood := { row := tagReadsUptoRow, standIns := [], harness := (true, "e7288bd0d06e4d3bc48a78bf04d8fc3a2f28921ebb159effb96a6ca73f4cba3d"), looks := false }, kinds := [], alts := [], laidByText := true, laidKinds := [.data, .data, .pinned], laidTests := true, laidLooks := .later }
def TagReadsUptoCardSaid : Prop := Claim7.holds Tryd.pinned (.plain (OpenSpec.upto tagReadsSpec)) tagReadsUptoCard

/-- THE SECOND FORM's CARD OF 'decanterlaw07.TagNames'. -/
def tagNamesUptoCard : Claim7 := { stood := { row := tagNamesUptoRow, standIns := [], harness := (true, "e7288bd0d06e4d3bc48a78bf04d8fc3a2f28921ebb159effb96a6ca73f4cba3d"), looks := false }, kinds := [], alts := [], laidByText := true, laidKinds := [.data, .data, .pinned], laidTests := true, laidLooks := .later }
def TagNamesUptoCardSaid : Prop := Claim7.holds Tryd.pinned (.plain (OpenSpec.upto tagNamesSpec)) tagNamesUptoCard

/-- THE SECOND FORM's CARD OF 'decanterlaw07.TagWrites'. -/
def tagWritesUptoCard : Claim7 := { stood := { row := tagWritesUptoRow, standIns := [], harness := (true, "e7288bd0d06e4d3bc48a78bf04d8fc3a2f28921ebb159effb96a6ca73f4cba3d"), looks := false }, kinds := [], alts := [], laidByText := true, laidKinds := [.data, .data, .pinned], laidTests := true, laidLooks := .later }
def TagWritesUptoCardSaid : Prop := Claim7.holds Tryd.pinned (.plain (OpenSpec.upto tagWritesSpec)) tagWritesUptoCard

/-- THE SECOND FORM's CARD OF 'decanterlaw07.TagFronts'. -/
def tagFrontsUptoCard : Claim7 := { stood := { row := tagFrontsUptoRow, standIns := [], harness := (true, "e7288bd0d06e4d3bc48a78bf04d8fc3a2f28921ebb159effb96a6ca73f4cba3d"), looks := false }, kinds := [], alts := [], laidByText := true, laidKinds := [.data, .data, .pinned], laidTests := true, laidLooks := .later }
def TagFrontsUptoCardSaid : Prop := Claim7.holds Tryd.pinned (.plain (OpenSpec.upto tagFrontsSpec)) tagFrontsUptoCard
end Rows
end Go.Proofs.YtfnecdifaodamaaDoor
