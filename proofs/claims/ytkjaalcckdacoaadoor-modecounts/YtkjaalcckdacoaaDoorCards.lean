/-
  DERIVED. GIVEN WITH THE SEED: THE CARDS: each row of YtkjaalcckdacoaaDoorRows.lean that lists a variable, with what it lists TIED to the program's text (the seventh form; the later family's looks); each row that meets fmt, with fmt's text TOLD by the authors' own Lean function (tested against real Go, not proved from fmt's source: count such statements apart). THE CARD IS WHAT COUNTS. Prove the row's statement (the work); the ties are given (YtkjaalcckdacoaaDoorTie.lean); close each card by the builder's one call (the guide's Derived/Test/ToyasCard.lean, 'card_holds'). Laid BY PROGRAM, IN A SANDBOX (cutbox-door.mjs). By AI agents, Wed Nov 11 2026. No macro, syntax, notation, axiom, sorry.
-/
import Derived.Test.YtkjaalcckdacoaaDoorRows
import GoSem.ClaimSeven
namespace Go.Proofs.YtkjaalcckdacoaaDoor
namespace Rows

/-- THE TIED CARD OF 'spinetlaw05.ModeTells'. -/
def modeTellsCard : Claim7 := { stood := { row := modeTellsRow, standIns := [], harness := (true, "e67bdb7568f039d93294f6b671baf0405cbb656c52eb669bc732a3db19fcf146"), looks := false }, kinds := [], alts := [], laidByText := true, laidKinds := [.data, .data], laidTests := true, laidLooks := .later }
def ModeTellsCardSaid : Prop := Claim7.holds Tryd.pinned (.plain (OpenSpec.ofChange modeTellsSpec)) modeTellsCard

/-- THE TIED CARD OF 'spinetlaw05.ModeOf'. -/
def modeOfCard : Claim7 := { stood := { row := modeOfRow, standIns := [], harness := (true, "e67bdb7568f039d93294f6b671baf0405cbb656c52eb669bc732a3db19fcf146"), looks := false }, kinds := [], alts := [], laidByText := true, laidKinds := [.data, .data], laidTests := true, laidLooks := .later }
def ModeOfCardSaid : Prop := Claim7.holds Tryd.pinned (.plain (OpenSpec.ofChange modeOfSpec)) modeOfCard

/-- THE TIED CARD OF 'spinetlaw05.ModeBands'. -/
def modeBandsCard : Claim7 := { stood := { row := modeBandsRow, standIns := [], harness := (true, "e67bdb7568f039d93294f6b671baf0405cbb656c52eb669bc732a3db19fcf146"), looks := false }, kinds := [], alts := [], laidByText := true, laidKinds := [.data, .data], laidTests := true, laidLooks := .later }
def ModeBandsCardSaid : Prop := Claim7.holds Tryd.pinned (.plain (OpenSpec.ofChange modeBandsSpec)) modeBandsCard

/-- THE TIED CARD OF 'spinetlaw05.ModeCounts'. -/
def modeCountsCard : Claim7 := { stood := { row := modeCountsRow, standIns := [], harness := (true, "e67bdb7568f039d93294f6b671baf0405cbb656c52eb669bc732a3db19fcf146"), looks := false }, kinds := [], alts := [], laidByText := true, laidKinds := [.data, .data], laidTests := true, laidLooks := .later }
def ModeCountsCardSaid : Prop := Claim7.holds Tryd.pinned (.plain (OpenSpec.ofChange modeCountsSpec)) modeCountsCard

/-- THE TIED CARD OF 'spinetlaw05.ModeAll'. -/
def modeAllCard : Claim7 := { stood := { row := modeAllRow, standIns := [], harness := (true, "e67bdb7568f039d93294f6b671baf0405cbb656c52eb669bc732a3db19fcf146"), looks := false }, kinds := [], alts := [], laidByText := true, laidKinds := [.data, .data], laidTests := true, laidLooks := .later }
def ModeAllCardSaid : Prop := Claim7.holds Tryd.pinned (.plain (OpenSpec.ofChange modeAllSpec)) modeAllCard

/-- THE SECOND FORM's CARD OF 'spinetlaw05.ModeTells'. -/
def modeTellsUptoCard : Claim7 := { stood := { row := modeTellsUptoRow, standIns := [], harness := (true, "e67bdb7568f039d93294f6b671baf0405cbb656c52eb669bc732a3db19fcf146"), looks := false }, kinds := [], alts := [], laidByText := true, laidKinds := [.data, .data], laidTests := true, laidLooks := .later }
def ModeTellsUptoCardSaid : Prop := Claim7.holds Tryd.pinned (.plain (OpenSpec.upto modeTellsSpec)) modeTellsUptoCard

/-- THE SECOND FORM's CARD OF 'spinetlaw05.ModeOf'. -/
def modeOfUptoCard : Claim7 := { stood := { row := modeOfUptoRow, standIns := [], harness := (true, "e67bdb7568f039d93294f6b671baf0405cbb656c52eb669bc732a3db19fcf146"), looks := false }, kinds := [], alts := [], laidByText := true, laidKinds := [.data, .data], laidTests := true, laidLooks := .later }
def ModeOfUptoCardSaid : Prop := Claim7.holds Tryd.pinned (.plain (OpenSpec.upto modeOfSpec)) modeOfUptoCard

/-- THE SECOND FORM's CARD OF 'spinetlaw05.ModeBands'. -/
def modeBandsUptoCard : Claim7 := { stood := { row := modeBandsUptoRow, standIns := [], harness := (true, "e67bdb7568f039d93294f6b671baf0405cbb656c52eb669bc732a3db19fcf146"), looks := false }, kinds := [], alts := [], laidByText := true, laidKinds := [.data, .data], laidTests := true, laidLooks := .later }
def ModeBandsUptoCardSaid : Prop := Claim7.holds Tryd.pinned (.plain (OpenSpec.upto modeBandsSpec)) modeBandsUptoCard

/-- THE SECOND FORM's CARD OF 'spinetlaw05.ModeCounts'. -/
def modeCountsUptoCard : Claim7 := { stood := { row := modeCountsUptoRow, standIns := [], harness := (true, "e67bdb7568f039d93294f6b671baf0405cbb656c52eb669bc732a3db19fcf146"), looks := false }, kinds := [], alts := [], laidByText := true, laidKinds := [.data, .data], laidTests := true, laidLooks := .later }
def ModeCountsUptoCardSaid : Prop := Claim7.holds Tryd.pinned (.plain (OpenSpec.upto modeCountsSpec)) modeCountsUptoCard

/-- THE SECOND FORM's CARD OF 'spinetlaw05.ModeAll'. -/
def modeAllUptoCard : Claim7 := { stood := { row := modeAllUptoRow, standIns := [], harness := (true, "e67bdb7568f039d93294f6b671baf0405cbb656c52eb669bc732a3db19fcf146"), looks := false }, kinds := [], alts := [], laidByText := true, laidKinds := [.data, .data], laidTests := true, laidLooks := .later }
def ModeAllUptoCardSaid : Prop := Claim7.holds Tryd.pinned (.plain (OpenSpec.upto modeAllSpec)) modeAllUptoCard
end Rows
end Go.Proofs.YtkjaalcckdacoaaDoor
