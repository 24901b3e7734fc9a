/-
  DERIVED. GIVEN WITH THE SEED: THE CARDS: each row of YthlbilfdeneajaaDoorRows.lean that lists a variable, with what it lists TIED to the program's text (the seventh form; the later family's looks); each row that meets fmt, with fmt's text TOLD by the authors' own Lean function (tested against real Go, not proved from fmt's source: count such statements apart). THE CARD IS WHAT COUNTS. Prove the row's statement (the work); the ties are given (YthlbilfdeneajaaDoorTie.lean); close each card by the builder's one call (the guide's Derived/Test/ToyasCard.lean, 'card_holds'). Laid BY PROGRAM, IN A SANDBOX (cutbox-door.mjs). By AI agents, Wed Nov 11 2026. No macro, syntax, notation, axiom, sorry.
-/
import Derived.Test.YthlbilfdeneajaaDoorRows
import GoSem.ClaimSeven
namespace Go.Proofs.YthlbilfdeneajaaDoor
namespace Rows

/-- THE TIED CARD OF 'spinetlaw14.AllocTells'. -/
def allocTellsCard : Claim7 := { stood := { row := allocTellsRow, standIns := [], harness := (true, "8c81d4e72967b68f48c7f4b2d560325378d217afacae35fddd7d544b91bee2f7"), looks := false }, kinds := [], alts := [], laidByText := true, laidKinds := [.data], laidTests := true, laidLooks := .later }
def AllocTellsCardSaid : Prop := Claim7.holds Tryd.pinned (.plain (OpenSpec.ofChange allocTellsSpec)) allocTellsCard

/-- THE TIED CARD OF 'spinetlaw14.AllocTotals'. -/
def allocTotalsCard : Claim7 := { stood := { row := allocTotalsRow, standIns := [], harness := (true, "8c81d4e72967b68f48c7f4b2d560325378d217afacae35fddd7d544b91bee2f7"), looks := false }, kinds := [], alts := [], laidByText := true, laidKinds := [.data], laidTests := true, laidLooks := .later }
def AllocTotalsCardSaid : Prop := Claim7.holds Tryd.pinned (.plain (OpenSpec.ofChange allocTotalsSpec)) allocTotalsCard

/-- THE TIED CARD OF 'spinetlaw14.AllocFits'. -/
def allocFitsCard : Claim7 := { stood := { row := allocFitsRow, standIns := [], harness := (true, "8c81d4e72967b68f48c7f4b2d560325378d217afacae35fddd7d544b91bee2f7"), looks := false }, kinds := [], alts := [], laidByText := true, laidKinds := [.data], laidTests := true, laidLooks := .later }
def AllocFitsCardSaid : Prop := Claim7.holds Tryd.pinned (.plain (OpenSpec.ofChange allocFitsSpec)) allocFitsCard

/-- THE TIED CARD OF 'spinetlaw14.AllocMore'. -/
def allocMoreCard : Claim7 := { stood := { row := allocMoreRow, standIns := [], harness := (true, "8c81d4e72967b68f48c7f4b2d560325378d217afacae35fddd7d544b91bee2f7"), looks := false }, kinds := [], alts := [], laidByText := true, laidKinds := [.data], laidTests := true, laidLooks := .later }
def AllocMoreCardSaid : Prop := Claim7.holds Tryd.pinned (.plain (OpenSpec.ofChange allocMoreSpec)) allocMoreCard

/-- THE TIED CARD OF 'spinetlaw14.AllocChans'. -/
def allocChansCard : Claim7 := { stood := { row := allocChansRow, standIns := [], harness := (true, "8c81d4e72967b68f48c7f4b2d560325378d217afacae35fddd7d544b91bee2f7"), looks := false }, kinds := [], alts := [], laidByText := true, laidKinds := [.data], laidTests := true, laidLooks := .later }
def AllocChansCardSaid : Prop := Claim7.holds Tryd.pinned (.plain (OpenSpec.ofChange allocChansSpec)) allocChansCard

/-- THE SECOND FORM's CARD OF 'spinetlaw14.AllocTells'. -/
def allocTellsUptoCard : Claim7 := { stood := { row := allocTellsUptoRow, standIns := [], harness := (true, "8c81d4e72967b68f48c7f4b2d560325378d217afacae35fddd7d544b91bee2f7"), looks := false }, kinds := [], alts := [], laidByText := true, laidKinds := [.data], laidTests := true, laidLooks := .later }
def AllocTellsUptoCardSaid : Prop := Claim7.holds Tryd.pinned (.plain (OpenSpec.upto allocTellsSpec)) allocTellsUptoCard

/-- THE SECOND FORM's CARD OF 'spinetlaw14.AllocTotals'. -/
def allocTotalsUptoCard : Claim7 := { stood := { row := allocTotalsUptoRow, standIns := [], harness := (true, "8c81d4e72967b68f48c7f4b2d560325378d217afacae35fddd7d544b91bee2f7"), looks := false }, kinds := [], alts := [], laidByText := true, laidKinds := [.data], laidTests := true, laidLooks := .later }
def AllocTotalsUptoCardSaid : Prop := Claim7.holds Tryd.pinned (.plain (OpenSpec.upto allocTotalsSpec)) allocTotalsUptoCard

/-- THE SECOND FORM's CARD OF 'spinetlaw14.AllocFits'. -/
def allocFitsUptoCard : Claim7 := { stood := { row := allocFitsUptoRow, standIns := [], harness := (true, "8c81d4e72967b68f48c7f4b2d560325378d217afacae35fddd7d544b91bee2f7"), looks := false }, kinds := [], alts := [], laidByText := true, laidKinds := [.data], laidTests := true, laidLooks := .later }
def AllocFitsUptoCardSaid : Prop := Claim7.holds Tryd.pinned (.plain (OpenSpec.upto allocFitsSpec)) allocFitsUptoCard

/-- THE SECOND FORM's CARD OF 'spinetlaw14.AllocMore'. -/
def allocMoreUptoCard : Claim7 := { stood := { row := allocMoreUptoRow, standIns := [], harness := (true, "8c81d4e72967b68f48c7f4b2d560325378d217afacae35fddd7d544b91bee2f7"), looks := false }, kinds := [], alts := [], laidByText := true, laidKinds := [.data], laidTests := true, laidLooks := .later }
def AllocMoreUptoCardSaid : Prop := Claim7.holds Tryd.pinned (.plain (OpenSpec.upto allocMoreSpec)) allocMoreUptoCard

/-- THE SECOND FORM's CARD OF 'spinetlaw14.AllocChans'. -/
def allocChansUptoCard : Claim7 := { stood := { row := allocChansUptoRow, standIns := [], harness := (true, "8c81d4e72967b68f48c7f4b2d560325378d217afacae35fddd7d544b91bee2f7"), looks := false }, kinds := [], alts := [], laidByText := true, laidKinds := [.data], laidTests := true, laidLooks := .later }
def AllocChansUptoCardSaid : Prop := Claim7.holds Tryd.pinned (.plain (OpenSpec.upto allocChansSpec)) allocChansUptoCard
end Rows
end Go.Proofs.YthlbilfdeneajaaDoor
