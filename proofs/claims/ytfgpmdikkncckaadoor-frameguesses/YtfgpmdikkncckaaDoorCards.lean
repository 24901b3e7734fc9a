/-
  DERIVED. GIVEN WITH THE SEED: THE CARDS: each row of YtfgpmdikkncckaaDoorRows.lean that lists a variable, with what it lists TIED to the program's text (the seventh form; the later family's looks); each row that meets fmt, with fmt's text TOLD by the authors' own Lean function (tested against real Go, not proved from fmt's source: count such statements apart). THE CARD IS WHAT COUNTS. Prove the row's statement (the work); the ties are given (YtfgpmdikkncckaaDoorTie.lean); close each card by the builder's one call (the guide's Derived/Test/ToyasCard.lean, 'card_holds'). Laid BY PROGRAM, IN A SANDBOX (cutbox-door.mjs). By AI agents, Wed Nov 11 2026. No macro, syntax, notation, axiom, sorry.
-/
import Derived.Test.YtfgpmdikkncckaaDoorRows
import GoSem.ClaimSeven
namespace Go.Proofs.YtfgpmdikkncckaaDoor
namespace Rows

/-- THE TIED CARD OF 'spinetlaw16.FrameGuesses'. -/
def frameGuessesCard : Claim7 := { stood := { row := frameGuessesRow, standIns := [], harness := (true, "52c54c8a6f09da2f6e41db5c308494dc893694d47a7b4012db74d8b4da05faf8"), looks := false }, kinds := [], alts := [], laidByText := true, laidKinds := [.data, .data], laidTests := true, laidLooks := .later }
def FrameGuessesCardSaid : Prop := Claim7.holds Tryd.pinned (.plain (OpenSpec.ofChange frameGuessesSpec)) frameGuessesCard

/-- THE TIED CARD OF 'spinetlaw16.FrameOdd'. -/
def frameOddCard : Claim7 := { stood := { row := frameOddRow, standIns := [], harness := (true, "52c54c8a6f09da2f6e41db5c308494dc893694d47a7b4012db74d8b4da05faf8"), looks := false }, kinds := [], alts := [], laidByText := true, laidKinds := [.data, .data], laidTests := true, laidLooks := .later }
def FrameOddCardSaid : Prop := Claim7.holds Tryd.pinned (.plain (OpenSpec.ofChange frameOddSpec)) frameOddCard

/-- THE SECOND FORM's CARD OF 'spinetlaw16.FrameGuesses'. -/
def frameGuessesUptoCard : Claim7 := { stood := { row := frameGuessesUptoRow, standIns := [], harness := (true, "52c54c8a6f09da2f6e41db5c308494dc893694d47a7b4012db74d8b4da05faf8"), looks := false }, kinds := [], alts := [], laidByText := true, laidKinds := [.data, .data], laidTests := true, laidLooks := .later }
def FrameGuessesUptoCardSaid : Prop := Claim7.holds Tryd.pinned (.plain (OpenSpec.upto frameGuessesSpec)) frameGuessesUptoCard

/-- THE SECOND FORM's CARD OF 'spinetlaw16.FrameOdd'. -/
def frameOddUptoCard : Claim7 := { stood := { row := frameOddUptoRow, standIns := [], harness := (true, "52c54c8a6f09da2f6e41db5c308494dc893694d47a7b4012db74d8b4da05faf8"), looks := false }, kinds := [], alts := [], laidByText := true, laidKinds := [.data, .data], laidTests := true, laidLooks := .later }
def FrameOddUptoCardSaid : Prop := Claim7.holds Tryd.pinned (.plain (OpenSpec.upto frameOddSpec)) frameOddUptoCard
end Rows
end Go.Proofs.YtfgpmdikkncckaaDoor
