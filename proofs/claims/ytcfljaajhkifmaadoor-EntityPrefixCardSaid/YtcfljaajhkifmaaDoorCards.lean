/-
  DERIVED. GIVEN WITH THE SEED: THE CARDS: each row of YtcfljaajhkifmaaDoorRows.lean that lists a variable, with what it lists TIED to the program's text (the seventh form; the later family's looks); each row that meets fmt, with fmt's text TOLD by the authors' own Lean function (tested against real Go, not proved from fmt's source: count such statements apart). THE CARD IS WHAT COUNTS. Prove the row's statement (the work); the ties are given (YtcfljaajhkifmaaDoorTie.lean); close each card by the builder's one call (the guide's Derived/Test/ToyasCard.lean, 'card_holds'). Laid BY PROGRAM, IN A SANDBOX (cutbox-door.mjs). By AI agents, Wed Nov 11 2026. No macro, syntax, notation, axiom, sorry.
-/
import Derived.Test.YtcfljaajhkifmaaDoorRows
import GoSem.ClaimSeven
namespace Go.Proofs.YtcfljaajhkifmaaDoor
namespace Rows

/-- THE TIED CARD OF 'decanterlaw04.EntityNames'. -/
def entityNamesCard : Claim7 := { stood := { row := entityNamesRow, standIns := [], harness := (true, "78ad47502f81a0e20e08c8426dcf1a2c921a77c5c32cc3bdbf8aa11f7f5152e0"), looks := false }, kinds := [], alts := [], laidByText := true, laidKinds := [.listed, .data], laidTests := true, laidLooks := .later }
def EntityNamesCardSaid : Prop := Claim7.holds Tryd.pinned (.plain (OpenSpec.ofChange entityNamesSpec)) entityNamesCard

/-- THE TIED CARD OF 'decanterlaw04.EntityPrefix'. -/
def entityPrefixCard : Claim7 := { stood := { row := entityPrefixRow, standIns := [], harness := (true, "78ad47502f81a0e20e08c8426dcf1a2c921a77c5c32cc3bdbf8aa11f7f5152e0"), looks := false }, kinds := [], alts := [], laidByText := true, laidKinds := [.listed, .data], laidTests := true, laidLooks := .later }
def EntityPrefixCardSaid : Prop := Claim7.holds Tryd.pinned (.plain (OpenSpec.ofChange entityPrefixSpec)) entityPrefixCard

/-- THE TIED CARD OF 'decanterlaw04.EntityTexts'. -/
def entityTextsCard : Claim7 := { stood := { row := entityTextsRow, standIns := [], harness := (true, "78ad47502f81a0e20e08c8426dcf1a2c921a77c5c32cc3bdbf8aa11f7f5152e0"), looks := false }, kinds := [], alts := [], laidByText := true, laidKinds := [.listed, .data], laidTests := true, laidLooks := .later }
def EntityTextsCardSaid : Prop := Claim7.holds Tryd.pinned (.plain (OpenSpec.ofChange entityTextsSpec)) entityTextsCard

/-- THE SECOND FORM's CARD OF 'decanterlaw04.EntityNames'. -/
def entityNamesUptoCard : Claim7 := { stood := { row := entityNamesUptoRow, standIns := [], harness := (true, "78ad47502f81a0e20e08c8426dcf1a2c921a77c5c32cc3bdbf8aa11f7f5152e0"), looks := false }, kinds := [], alts := [], laidByText := true, laidKinds := [.listed, .data], laidTests := true, laidLooks := .later }
def EntityNamesUptoCardSaid : Prop := Claim7.holds Tryd.pinned (.plain (OpenSpec.upto entityNamesSpec)) entityNamesUptoCard

/-- THE SECOND FORM's CARD OF 'decanterlaw04.EntityPrefix'. -/
def entityPrefixUptoCard : Claim7 := { stood := { row := entityPrefixUptoRow, standIns := [], harness := (true, "78ad47502f81a0e20e08c8426dcf1a2c921a77c5c32cc3bdbf8aa11f7f5152e0"), looks := false }, kinds := [], alts := [], laidByText := true, laidKinds := [.listed, .data], laidTests := true, laidLooks := .later }
def EntityPrefixUptoCardSaid : Prop := Claim7.holds Tryd.pinned (.plain (OpenSpec.upto entityPrefixSpec)) entityPrefixUptoCard

/-- THE SECOND FORM's CARD OF 'decanterlaw04.EntityTexts'. -/
def entityTextsUptoCard : Claim7 := { stood := { row := entityTextsUptoRow, standIns := [], harness := (true, "78ad47502f81a0e20e08c8426dcf1a2c921a77c5c32cc3bdbf8aa11f7f5152e0"), looks := false }, kinds := [], alts := [], laidByText := true, laidKinds := [.listed, .data], laidTests := true, laidLooks := .later }
def EntityTextsUptoCardSaid : Prop := Claim7.holds Tryd.pinned (.plain (OpenSpec.upto entityTextsSpec)) entityTextsUptoCard
end Rows
end Go.Proofs.YtcfljaajhkifmaaDoor
