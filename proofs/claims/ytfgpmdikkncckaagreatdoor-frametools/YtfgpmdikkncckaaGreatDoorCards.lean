/-
  DERIVED. GIVEN WITH THE SEED: THE CARDS: each row of YtfgpmdikkncckaaGreatDoorRows.lean that lists a variable, with what it lists TIED to the program's text (the seventh form; the later family's looks); each row that meets fmt, with fmt's text TOLD by the authors' own Lean function (tested against real Go, not proved from fmt's source: count such statements apart). THE CARD IS WHAT COUNTS. Prove the row's statement (the work); the ties are given (YtfgpmdikkncckaaGreatDoorTie.lean); close each card by the builder's one call (the guide's Derived/Test/ToyasCard.lean, 'card_holds'). Laid BY PROGRAM, IN A SANDBOX (cutbox-door.mjs). By AI agents, Wed Nov 11 2026. No macro, syntax, notation, axiom, sorry.
-/
import Derived.Test.YtfgpmdikkncckaaGreatDoorRows
import GoSem.ClaimSeven
namespace Go.Proofs.YtfgpmdikkncckaaGreatDoor
namespace Rows

/-- THE TIED CARD OF 'spinetlaw16.FrameReads'. -/
def frameReadsCard : Claim7 := { stood := { row := frameReadsRow, standIns := [], harness := (true, "849df8e6c4a99470760a08f40bdf3333a0863d42382ea0c42d53f6fd98e7932b"), looks := false }, kinds := [], alts := [], laidByText := true, laidKinds := [.data, .data], laidTests := true, laidLooks := .later }
def FrameReadsCardSaid : Prop := Claim7.holds Tryz.pinned (.plain (OpenSpec.ofChange frameReadsSpec)) frameReadsCard

/-- THE TIED CARD OF 'spinetlaw16.FrameLeaves'. -/
def frameLeavesCard : Claim7 := { stood := { row := frameLeavesRow, standIns := [], harness := (true, "849df8e6c4a99470760a08f40bdf3333a0863d42382ea0c42d53f6fd98e7932b"), looks := false }, kinds := [], alts := [], laidByText := true, laidKinds := [.data, .data], laidTests := true, laidLooks := .later }
def FrameLeavesCardSaid : Prop := Claim7.holds Tryz.pinned (.plain (OpenSpec.ofChange frameLeavesSpec)) frameLeavesCard

/-- THE TIED CARD OF 'spinetlaw16.FrameRight'. -/
def frameRightCard : Claim7 := { stood := { row := frameRightRow, standIns := [], harness := (true, "849df8e6c4a99470760a08f40bdf3333a0863d42382ea0c42d53f6fd98e7932b"), looks := false }, kinds := [], alts := [], laidByText := true, laidKinds := [.data, .data], laidTests := true, laidLooks := .later }
def FrameRightCardSaid : Prop := Claim7.holds Tryz.pinned (.plain (OpenSpec.ofChange frameRightSpec)) frameRightCard

/-- THE TIED CARD OF 'spinetlaw16.FrameTools'. -/
def frameToolsCard : Claim7 := { stood := { row := frameToolsRow, standIns := [], harness := (true, "849df8e6c4a99470760a08f40bdf3333a0863d42382ea0c42d53f6fd98e7932b"), looks := false }, kinds := [], alts := [], laidByText := true, laidKinds := [.data, .data], laidTests := true, laidLooks := .later }
def FrameToolsCardSaid : Prop := Claim7.holds Tryz.pinned (.plain (OpenSpec.ofChange frameToolsSpec)) frameToolsCard

/-- THE SECOND FORM's CARD OF 'spinetlaw16.FrameReads'. -/
def frameReadsUptoCard : Claim7 := { stood := { row := frameReadsUptoRow, standIns := [], harness := (true, "849df8e6c4a99470760a08f40bdf3333a0863d42382ea0c42d53f6fd98e7932b"), looks := false }, kinds := [], alts := [], laidByText := true, laidKinds := [.data, .data], laidTests := true, laidLooks := .later }
def FrameReadsUptoCardSaid : Prop := Claim7.holds Tryz.pinned (.plain (OpenSpec.upto frameReadsSpec)) frameReadsUptoCard

/-- THE SECOND FORM's CARD OF 'spinetlaw16.FrameLeaves'. -/
def frameLeavesUptoCard : Claim7 := { stood := { row := frameLeavesUptoRow, standIns := [], harness := (true, "849df8e6c4a99470760a08f40bdf3333a0863d42382ea0c42d53f6fd98e7932b"), looks := false }, kinds := [], alts := [], laidByText := true, laidKinds := [.data, .data], laidTests := true, laidLooks := .later }
def FrameLeavesUptoCardSaid : Prop := Claim7.holds Tryz.pinned (.plain (OpenSpec.upto frameLeavesSpec)) frameLeavesUptoCard

/-- THE SECOND FORM's CARD OF 'spinetlaw16.FrameRight'. -/
def frameRightUptoCard : Claim7 := { stood := { row := frameRightUptoRow, standIns := [], harness := (true, "849df8e6c4a99470760a08f40bdf3333a0863d42382ea0c42d53f6fd98e7932b"), looks := false }, kinds := [], alts := [], laidByText := true, laidKinds := [.data, .data], laidTests := true, laidLooks := .later }
def FrameRightUptoCardSaid : Prop := Claim7.holds Tryz.pinned (.plain (OpenSpec.upto frameRightSpec)) frameRightUptoCard

/-- THE SECOND FORM's CARD OF 'spinetlaw16.FrameTools'. -/
def frameToolsUptoCard : Claim7 := { stood := { row := frameToolsUptoRow, standIns := [], harness := (true, "849df8e6c4a99470760a08f40bdf3333a0863d42382ea0c42d53f6fd98e7932b"), looks := false }, kinds := [], alts := [], laidByText := true, laidKinds := [.data, .data], laidTests := true, laidLooks := .later }
def FrameToolsUptoCardSaid : Prop := Claim7.holds Tryz.pinned (.plain (OpenSpec.upto frameToolsSpec)) frameToolsUptoCard
end Rows
end Go.Proofs.YtfgpmdikkncckaaGreatDoor
