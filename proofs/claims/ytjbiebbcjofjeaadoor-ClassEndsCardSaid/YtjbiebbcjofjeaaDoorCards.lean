/-
  DERIVED. GIVEN WITH THE SEED: THE CARDS: each row of YtjbiebbcjofjeaaDoorRows.lean that lists a variable, with what it lists TIED to the program's text (the seventh form; the later family's looks); each row that meets fmt, with fmt's text TOLD by the authors' own Lean function (tested against real Go, not proved from fmt's source: count such statements apart). THE CARD IS WHAT COUNTS. Prove the row's statement (the work); the ties are given (YtjbiebbcjofjeaaDoorTie.lean); close each card by the builder's one call (the guide's Derived/Test/ToyasCard.lean, 'card_holds'). Laid BY PROGRAM, IN A SANDBOX (cutbox-door.mjs). By AI agents, Wed Nov 11 2026. No macro, syntax, notation, axiom, sorry.
-/
import Derived.Test.YtjbiebbcjofjeaaDoorRows
import GoSem.ClaimSeven
namespace Go.Proofs.YtjbiebbcjofjeaaDoor
namespace Rows

/-- THE TIED CARD OF 'decanterlaw03.ClassTexts'. -/
def classTextsCard : Claim7 := { stood := { row := classTextsRow, standIns := [], harness := (true, "4211aa55a3cc9ad691df6e105f1bd1fde2d1f06891d70d32d50ae32e1084b275"), looks := false }, kinds := [], alts := [], laidByText := true, laidKinds := [.data, .pinned], laidTests := true, laidLooks := .later }
def ClassTextsCardSaid : Prop := Claim7.holds Tryd.pinned (.plain (OpenSpec.ofChange classTextsSpec)) classTextsCard

/-- THE TIED CARD OF 'decanterlaw03.ClassLaws'. -/
def classLawsCard : Claim7 := { stood := { row := classLawsRow, standIns := [], harness := (true, "4211aa55a3cc9ad691df6e105f1bd1fde2d1f06891d70d32d50ae32e1084b275"), looks := false }, kinds := [], alts := [], laidByText := true, laidKinds := [.data, .pinned], laidTests := true, laidLooks := .later }
def ClassLawsCardSaid : Prop := Claim7.holds Tryd.pinned (.plain (OpenSpec.ofChange classLawsSpec)) classLawsCard

/-- THE TIED CARD OF 'decanterlaw03.ClassEnds'. -/
def classEndsCard : Claim7 := { stood := { row := classEndsRow, standIns := [], harness := (true, "4211aa55a3cc9ad691df6e105f1bd1fde2d1f06891d70d32d50ae32e1084b275"), looks := false }, kinds := [], alts := [], laidByText := true, laidKinds := [.data, .pinned], laidTests := true, laidLooks := .later }
def ClassEndsCardSaid : Prop := Claim7.holds Tryd.pinned (.plain (OpenSpec.ofChange classEndsSpec)) classEndsCard

/-- THE SECOND FORM's CARD OF 'decanterlaw03.ClassTexts'. -/
def classTextsUptoCard : Claim7 := { stood := { row := classTextsUptoRow, standIns := [], harness := (true, "4211aa55a3cc9ad691df6e105f1bd1fde2d1f06891d70d32d50ae32e1084b275"), looks := false }, kinds := [], alts := [], laidByText := true, laidKinds := [.data, .pinned], laidTests := true, laidLooks := .later }
def ClassTextsUptoCardSaid : Prop := Claim7.holds Tryd.pinned (.plain (OpenSpec.upto classTextsSpec)) classTextsUptoCard

/-- THE SECOND FORM's CARD OF 'decanterlaw03.ClassLaws'. -/
def classLawsUptoCard : Claim7 := { stood := { row := classLawsUptoRow, standIns := [], harness := (true, "4211aa55a3cc9ad691df6e105f1bd1fde2d1f06891d70d32d50ae32e1084b275"), looks := false }, kinds := [], alts := [], laidByText := true, laidKinds := [.data, .pinned], laidTests := true, laidLooks := .later }
def ClassLawsUptoCardSaid : Prop := Claim7.holds Tryd.pinned (.plain (OpenSpec.upto classLawsSpec)) classLawsUptoCard

/-- THE SECOND FORM's CARD OF 'decanterlaw03.ClassEnds'. -/
def classEndsUptoCard : Claim7 := { stood := { row := classEndsUptoRow, standIns := [], harness := (true, "4211aa55a3cc9ad691df6e105f1bd1fde2d1f06891d70d32d50ae32e1084b275"), looks := false }, kinds := [], alts := [], laidByText := true, laidKinds := [.data, .pinned], laidTests := true, laidLooks := .later }
def ClassEndsUptoCardSaid : Prop := Claim7.holds Tryd.pinned (.plain (OpenSpec.upto classEndsSpec)) classEndsUptoCard
end Rows
end Go.Proofs.YtjbiebbcjofjeaaDoor
