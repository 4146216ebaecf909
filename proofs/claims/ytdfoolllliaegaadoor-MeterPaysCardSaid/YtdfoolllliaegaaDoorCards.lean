/-
  DERIVED. GIVEN WITH THE SEED: THE CARDS: each row of YtdfoolllliaegaaDoorRows.lean that lists a variable, with what it lists TIED to the program's text (the seventh form; the later family's looks); each row that meets fmt, with fmt's text TOLD by the authors' own Lean function (tested against real Go, not proved from fmt's source: count such statements apart). THE CARD IS WHAT COUNTS. Prove the row's statement (the work); the ties are given (YtdfoolllliaegaaDoorTie.lean); close each card by the builder's one call (the guide's Derived/Test/ToyasCard.lean, 'card_holds'). Laid BY PROGRAM, IN A SANDBOX (cutbox-door.mjs). By AI agents, Wed Nov 11 2026. No macro, syntax, notation, axiom, sorry.
-/
import Derived.Test.YtdfoolllliaegaaDoorRows
import GoSem.ClaimSeven
namespace Go.Proofs.YtdfoolllliaegaaDoor
namespace Rows

/-- THE TIED CARD OF 'decanterlaw01.MeterPays'. -/
def meterPaysCard : Claim7 := { stood := { row := meterPaysRow, standIns := [], harness := (true, "901be9ad78c13a400d1a18c886c575907eccad8600afec5a221751137e130800"), looks := true }, kinds := [], alts := [], laidByText := true, laidKinds := [.data, .data, .data, .handle, .sentinel], laidTests := true, laidLooks := .later }
def MeterPaysCardSaid : Prop := Claim7.holds Tryd.pinned (.plain (OpenSpec.ofChange meterPaysSpec)) meterPaysCard

/-- THE TIED CARD OF 'decanterlaw01.MeterShorts'. -/
def meterShortsCard : Claim7 := { stood := { row := meterShortsRow, standIns := [], harness := (true, "901be9ad78c13a400d1a18c886c575907eccad8600afec5a221751137e130800"), looks := true }, kinds := [], alts := [], laidByText := true, laidKinds := [.data, .data, .data], laidTests := true, laidLooks := .later }
def MeterShortsCardSaid : Prop := Claim7.holds Tryd.pinned (.plain (OpenSpec.ofChange meterShortsSpec)) meterShortsCard

/-- THE SECOND FORM's CARD OF 'decanterlaw01.MeterPays'. -/
def meterPaysUptoCard : Claim7 := { stood := { row := meterPaysUptoRow, standIns := [], harness := (true, "901be9ad78c13a400d1a18c886c575907eccad8600afec5a221751137e130800"), looks := true }, kinds := [], alts := [], laidByText := true, laidKinds := [.data, .data, .data, .handle, .sentinel], laidTests := true, laidLooks := .later }
def MeterPaysUptoCardSaid : Prop := Claim7.holds Tryd.pinned (.plain (OpenSpec.upto meterPaysSpec)) meterPaysUptoCard

/-- THE SECOND FORM's CARD OF 'decanterlaw01.MeterShorts'. -/
def meterShortsUptoCard : Claim7 := { stood := { row := meterShortsUptoRow, standIns := [], harness := (true, "901be9ad78c13a400d1a18c886c575907eccad8600afec5a221751137e130800"), looks := true }, kinds := [], alts := [], laidByText := true, laidKinds := [.data, .data, .data], laidTests := true, laidLooks := .later }
def MeterShortsUptoCardSaid : Prop := Claim7.holds Tryd.pinned (.plain (OpenSpec.upto meterShortsSpec)) meterShortsUptoCard
end Rows
end Go.Proofs.YtdfoolllliaegaaDoor
