/-
  DERIVED. GIVEN WITH THE SEED: THE CARDS: each row of YtndcmapifihgeaaDoorRows.lean that lists a variable, with what it lists TIED to the program's text (the seventh form; the later family's looks); each row that meets fmt, with fmt's text TOLD by the authors' own Lean function (tested against real Go, not proved from fmt's source: count such statements apart). THE CARD IS WHAT COUNTS. Prove the row's statement (the work); the ties are given (YtndcmapifihgeaaDoorTie.lean); close each card by the builder's one call (the guide's Derived/Test/ToyasCard.lean, 'card_holds'). Laid BY PROGRAM, IN A SANDBOX (cutbox-door.mjs). By AI agents, Wed Nov 11 2026. No macro, syntax, notation, axiom, sorry.
-/
import Derived.Test.YtndcmapifihgeaaDoorRows
import GoSem.ClaimSeven
namespace Go.Proofs.YtndcmapifihgeaaDoor
namespace Rows

/-- THE TIED CARD OF 'decanterlaw10.TokenCovers'. -/
def tokenCoversCard : Claim7 := { stood := { row := tokenCoversRow, standIns := [], harness := (true, "454e1571794e665070d2fcd90e87fe9a8511faf578d2f55a85215a2cecdcb53a"), looks := false }, kinds := [], alts := [], laidByText := true, laidKinds := [.data, .data, .pinned], laidTests := true, laidLooks := .later }
def TokenCoversCardSaid : Prop := Claim7.holds Tryd.pinned (.plain (OpenSpec.ofChange tokenCoversSpec)) tokenCoversCard

/-- THE TIED CARD OF 'decanterlaw10.TokenFronts'. -/
def tokenFrontsCard : Claim7 := { stood := { row := tokenFrontsRow, standIns := [], harness := (true, "454e1571794e665070d2fcd90e87fe9a8511faf578d2f55a85215a2cecdcb53a"), looks := false }, kinds := [], alts := [], laidByText := true, laidKinds := [.data, .data, .pinned], laidTests := true, laidLooks := .later }
def TokenFrontsCardSaid : Prop := Claim7.holds Tryd.pinned (.plain (OpenSpec.ofChange tokenFrontsSpec)) tokenFrontsCard

/-- THE TIED CARD OF 'decanterlaw10.TokenPlain'. -/
def tokenPlainCard : Claim7 := { stood := { row := tokenPlainRow, standIns := [], harness := (true, "454e1571794e665070d2fcd90e87fe9a8511faf578d2f55a85215a2cecdcb53a"), looks := false }, kinds := [], alts := [], laidByText := true, laidKinds := [.data, .data, .pinned], laidTests := true, laidLooks := .later }
def TokenPlainCardSaid : Prop := Claim7.holds Tryd.pinned (.plain (OpenSpec.ofChange tokenPlainSpec)) tokenPlainCard

/-- THE SECOND FORM's CARD OF 'decanterlaw10.TokenCovers'. -/
def tokenCoversUptoCard : Claim7 := { stood := { row := tokenCoversUptoRow, standIns := [], harness := (true, "454e1571794e665070d2fcd90e87fe9a8511faf578d2f55a85215a2cecdcb53a"), looks := false }, kinds := [], alts := [], laidByText := true, laidKinds := [.data, .data, .pinned], laidTests := true, laidLooks := .later }
def TokenCoversUptoCardSaid : Prop := Claim7.holds Tryd.pinned (.plain (OpenSpec.upto tokenCoversSpec)) tokenCoversUptoCard

/-- THE SECOND FORM's CARD OF 'decanterlaw10.TokenFronts'. -/
def tokenFrontsUptoCard : Claim7 := { stood := { row := tokenFrontsUptoRow, standIns := [], harness := (true, "454e1571794e665070d2fcd90e87fe9a8511faf578d2f55a85215a2cecdcb53a"), looks := false }, kinds := [], alts := [], laidByText := true, laidKinds := [.data, .data, .pinned], laidTests := true, laidLooks := .later }
def TokenFrontsUptoCardSaid : Prop := Claim7.holds Tryd.pinned (.plain (OpenSpec.upto tokenFrontsSpec)) tokenFrontsUptoCard

/-- THE SECOND FORM's CARD OF 'decanterlaw10.TokenPlain'. -/
def tokenPlainUptoCard : Claim7 := { stood := { row := tokenPlainUptoRow, standIns := [], harness := (true, "454e1571794e665070d2fcd90e87fe9a8511faf578d2f55a85215a2cecdcb53a"), looks := false }, kinds := [], alts := [], laidByText := true, laidKinds := [.data, .data, .pinned], laidTests := true, laidLooks := .later }
def TokenPlainUptoCardSaid : Prop := Claim7.holds Tryd.pinned (.plain (OpenSpec.upto tokenPlainSpec)) tokenPlainUptoCard
end Rows
end Go.Proofs.YtndcmapifihgeaaDoor
