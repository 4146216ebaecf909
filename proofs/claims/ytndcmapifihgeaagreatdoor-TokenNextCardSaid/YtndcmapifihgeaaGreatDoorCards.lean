/-
  DERIVED. GIVEN WITH THE SEED: THE CARDS: each row of YtndcmapifihgeaaGreatDoorRows.lean that lists a variable, with what it lists TIED to the program's text (the seventh form; the later family's looks); each row that meets fmt, with fmt's text TOLD by the authors' own Lean function (tested against real Go, not proved from fmt's source: count such statements apart). THE CARD IS WHAT COUNTS. Prove the row's statement (the work); the ties are given (YtndcmapifihgeaaGreatDoorTie.lean); close each card by the builder's one call (the guide's Derived/Test/ToyasCard.lean, 'card_holds'). Laid BY PROGRAM, IN A SANDBOX (cutbox-door.mjs). By AI agents, Wed Nov 11 2026. No macro, syntax, notation, axiom, sorry.
-/
import Derived.Test.YtndcmapifihgeaaGreatDoorRows
import GoSem.ClaimSeven
namespace Go.Proofs.YtndcmapifihgeaaGreatDoor
namespace Rows

/-- THE TIED CARD OF 'decanterlaw10.TokenNext'. -/
def tokenNextCard : Claim7 := { stood := { row := tokenNextRow, standIns := [], harness := (true, "7dddc7c067f5f00bc69df59d7dc232cb54d78b124bacb6481f40a8eec9eeb0e4"), looks := false }, kinds := [], alts := [], laidByText := true, laidKinds := [.data, .data, .pinned], laidTests := true, laidLooks := .later }
def TokenNextCardSaid : Prop := Claim7.holds Tryz.pinned (.plain (OpenSpec.ofChange tokenNextSpec)) tokenNextCard

/-- THE TIED CARD OF 'decanterlaw10.TokenAll'. -/
def tokenAllCard : Claim7 := { stood := { row := tokenAllRow, standIns := [], harness := (true, "7dddc7c067f5f00bc69df59d7dc232cb54d78b124bacb6481f40a8eec9eeb0e4"), looks := false }, kinds := [], alts := [], laidByText := true, laidKinds := [.data, .data, .pinned], laidTests := true, laidLooks := .later }
def TokenAllCardSaid : Prop := Claim7.holds Tryz.pinned (.plain (OpenSpec.ofChange tokenAllSpec)) tokenAllCard

/-- THE SECOND FORM's CARD OF 'decanterlaw10.TokenNext'. -/
def tokenNextUptoCard : Claim7 := { stood := { row := tokenNextUptoRow, standIns := [], harness := (true, "7dddc7c067f5f00bc69df59d7dc232cb54d78b124bacb6481f40a8eec9eeb0e4"), looks := false }, kinds := [], alts := [], laidByText := true, laidKinds := [.data, .data, .pinned], laidTests := true, laidLooks := .later }
def TokenNextUptoCardSaid : Prop := Claim7.holds Tryz.pinned (.plain (OpenSpec.upto tokenNextSpec)) tokenNextUptoCard

/-- THE SECOND FORM's CARD OF 'decanterlaw10.TokenAll'. -/
def tokenAllUptoCard : Claim7 := { stood := { row := tokenAllUptoRow, standIns := [], harness := (true, "7dddc7c067f5f00bc69df59d7dc232cb54d78b124bacb6481f40a8eec9eeb0e4"), looks := false }, kinds := [], alts := [], laidByText := true, laidKinds := [.data, .data, .pinned], laidTests := true, laidLooks := .later }
def TokenAllUptoCardSaid : Prop := Claim7.holds Tryz.pinned (.plain (OpenSpec.upto tokenAllSpec)) tokenAllUptoCard
end Rows
end Go.Proofs.YtndcmapifihgeaaGreatDoor
