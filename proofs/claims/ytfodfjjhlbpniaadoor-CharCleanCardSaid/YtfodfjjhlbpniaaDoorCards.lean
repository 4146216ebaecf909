/-
  DERIVED. GIVEN WITH THE SEED: THE CARDS: each row of YtfodfjjhlbpniaaDoorRows.lean that lists a variable, with what it lists TIED to the program's text (the seventh form; the later family's looks); each row that meets fmt, with fmt's text TOLD by the authors' own Lean function (tested against real Go, not proved from fmt's source: count such statements apart). THE CARD IS WHAT COUNTS. Prove the row's statement (the work); the ties are given (YtfodfjjhlbpniaaDoorTie.lean); close each card by the builder's one call (the guide's Derived/Test/ToyasCard.lean, 'card_holds'). Laid BY PROGRAM, IN A SANDBOX (cutbox-door.mjs). By AI agents, Wed Nov 11 2026. No macro, syntax, notation, axiom, sorry.
-/
import Derived.Test.YtfodfjjhlbpniaaDoorRows
import GoSem.ClaimSeven
namespace Go.Proofs.YtfodfjjhlbpniaaDoor
namespace Rows

/-- THE TIED CARD OF 'decanterlaw02.CharNext'. -/
def charNextCard : Claim7 := { stood := { row := charNextRow, standIns := [], harness := (true, "026a82b95fde0d1fafe6c58f9003ca73cb37d607f31e66fd80aef71df480c267"), looks := false }, kinds := [], alts := [], laidByText := true, laidKinds := [.data, .pinned], laidTests := true, laidLooks := .later }
def CharNextCardSaid : Prop := Claim7.holds Tryd.pinned (.plain (OpenSpec.ofChange charNextSpec)) charNextCard

/-- THE TIED CARD OF 'decanterlaw02.CharAll'. -/
def charAllCard : Claim7 := { stood := { row := charAllRow, standIns := [], harness := (true, "026a82b95fde0d1fafe6c58f9003ca73cb37d607f31e66fd80aef71df480c267"), looks := false }, kinds := [], alts := [], laidByText := true, laidKinds := [.data, .pinned], laidTests := true, laidLooks := .later }
def CharAllCardSaid : Prop := Claim7.holds Tryd.pinned (.plain (OpenSpec.ofChange charAllSpec)) charAllCard

/-- THE TIED CARD OF 'decanterlaw02.CharClean'. -/
def charCleanCard : Claim7 := { stood := { row := charCleanRow, standIns := [], harness := (true, "026a82b95fde0d1fafe6c58f9003ca73cb37d607f31e66fd80aef71df480c267"), looks := false }, kinds := [], alts := [], laidByText := true, laidKinds := [.data, .pinned], laidTests := true, laidLooks := .later }
def CharCleanCardSaid : Prop := Claim7.holds Tryd.pinned (.plain (OpenSpec.ofChange charCleanSpec)) charCleanCard

/-- THE TIED CARD OF 'decanterlaw02.CharSteps'. -/
def charStepsCard : Claim7 := { stood := { row := charStepsRow, standIns := [], harness := (true, "026a82b95fde0d1fafe6c58f9003ca73cb37d607f31e66fd80aef71df480c267"), looks := false }, kinds := [], alts := [], laidByText := true, laidKinds := [.data, .pinned], laidTests := true, laidLooks := .later }
def CharStepsCardSaid : Prop := Claim7.holds Tryd.pinned (.plain (OpenSpec.ofChange charStepsSpec)) charStepsCard

/-- THE TIED CARD OF 'decanterlaw02.CharCuts'. -/
def charCutsCard : Claim7 := { stood := { row := charCutsRow, standIns := [], harness := (true, "026a82b95fde0d1fafe6c58f9003ca73cb37d607f31e66fd80aef71df480c267"), looks := false }, kinds := [], alts := [], laidByText := true, laidKinds := [.data, .pinned], laidTests := true, laidLooks := .later }
def CharCutsCardSaid : Prop := Claim7.holds Tryd.pinned (.plain (OpenSpec.ofChange charCutsSpec)) charCutsCard

/-- THE TIED CARD OF 'decanterlaw02.CharPlain'. -/
def charPlainCard : Claim7 := { stood := { row := charPlainRow, standIns := [], harness := (true, "026a82b95fde0d1fafe6c58f9003ca73cb37d607f31e66fd80aef71df480c267"), looks := false }, kinds := [], alts := [], laidByText := true, laidKinds := [.data, .pinned], laidTests := true, laidLooks := .later }
def CharPlainCardSaid : Prop := Claim7.holds Tryd.pinned (.plain (OpenSpec.ofChange charPlainSpec)) charPlainCard

/-- THE SECOND FORM's CARD OF 'decanterlaw02.CharNext'. -/
def charNextUptoCard : Claim7 := { stood := { row := charNextUptoRow, standIns := [], harness := (true, "026a82b95fde0d1fafe6c58f9003ca73cb37d607f31e66fd80aef71df480c267"), looks := false }, kinds := [], alts := [], laidByText := true, laidKinds := [.data, .pinned], laidTests := true, laidLooks := .later }
def CharNextUptoCardSaid : Prop := Claim7.holds Tryd.pinned (.plain (OpenSpec.upto charNextSpec)) charNextUptoCard

/-- THE SECOND FORM's CARD OF 'decanterlaw02.CharAll'. -/
def charAllUptoCard : Claim7 := { stood := { row := charAllUptoRow, standIns := [], harness := (true, "026a82b95fde0d1fafe6c58f9003ca73cb37d607f31e66fd80aef71df480c267"), looks := false }, kinds := [], alts := [], laidByText := true, laidKinds := [.data, .pinned], laidTests := true, laidLooks := .later }
def CharAllUptoCardSaid : Prop := Claim7.holds Tryd.pinned (.plain (OpenSpec.upto charAllSpec)) charAllUptoCard

/-- THE SECOND FORM's CARD OF 'decanterlaw02.CharClean'. -/
def charCleanUptoCard : Claim7 := { stood := { row := charCleanUptoRow, standIns := [], harness := (true, "026a82b95fde0d1fafe6c58f9003ca73cb37d607f31e66fd80aef71df480c267"), looks := false }, kinds := [], alts := [], laidByText := true, laidKinds := [.data, .pinned], laidTests := true, laidLooks := .later }
def CharCleanUptoCardSaid : Prop := Claim7.holds Tryd.pinned (.plain (OpenSpec.upto charCleanSpec)) charCleanUptoCard

/-- THE SECOND FORM's CARD OF 'decanterlaw02.CharSteps'. -/
def charStepsUptoCard : Claim7 := { stood := { row := charStepsUptoRow, standIns := [], harness := (true, "026a82b95fde0d1fafe6c58f9003ca73cb37d607f31e66fd80aef71df480c267"), looks := false }, kinds := [], alts := [], laidByText := true, laidKinds := [.data, .pinned], laidTests := true, laidLooks := .later }
def CharStepsUptoCardSaid : Prop := Claim7.holds Tryd.pinned (.plain (OpenSpec.upto charStepsSpec)) charStepsUptoCard

/-- THE SECOND FORM's CARD OF 'decanterlaw02.CharCuts'. -/
def charCutsUptoCard : Claim7 := { stood := { row := charCutsUptoRow, standIns := [], harness := (true, "026a82b95fde0d1fafe6c58f9003ca73cb37d607f31e66fd80aef71df480c267"), looks := false }, kinds := [], alts := [], laidByText := true, laidKinds := [.data, .pinned], laidTests := true, laidLooks := .later }
def CharCutsUptoCardSaid : Prop := Claim7.holds Tryd.pinned (.plain (OpenSpec.upto charCutsSpec)) charCutsUptoCard

/-- THE SECOND FORM's CARD OF 'decanterlaw02.CharPlain'. -/
def charPlainUptoCard : Claim7 := { stood := { row := charPlainUptoRow, standIns := [], harness := (true, "026a82b95fde0d1fafe6c58f9003ca73cb37d607f31e66fd80aef71df480c267"), looks := false }, kinds := [], alts := [], laidByText := true, laidKinds := [.data, .pinned], laidTests := true, laidLooks := .later }
def CharPlainUptoCardSaid : Prop := Claim7.holds Tryd.pinned (.plain (OpenSpec.upto charPlainSpec)) charPlainUptoCard
end Rows
end Go.Proofs.YtfodfjjhlbpniaaDoor
