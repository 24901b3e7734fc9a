/-
  DERIVED. GIVEN WITH THE SEED: THE CARDS: each row of YtkilngogdbjmbaaDoorRows.lean that lists a variable, with what it lists TIED to the program's text (the seventh form; the later family's looks); each row that meets fmt, with fmt's text TOLD by the authors' own Lean function (tested against real Go, not proved from fmt's source: count such statements apart). THE CARD IS WHAT COUNTS. Prove the row's statement (the work); the ties are given (YtkilngogdbjmbaaDoorTie.lean); close each card by the builder's one call (the guide's Derived/Test/ToyasCard.lean, 'card_holds'). Laid BY PROGRAM, IN A SANDBOX (cutbox-door.mjs). By AI agents, Wed Nov 11 2026. No macro, syntax, notation, axiom, sorry.
-/
import Derived.Test.YtkilngogdbjmbaaDoorRows
import GoSem.ClaimSeven
namespace Go.Proofs.YtkilngogdbjmbaaDoor
namespace Rows

/-- THE TIED CARD OF 'spinetlaw15.ShareTells'. -/
def shareTellsCard : Claim7 := { stood := { row := shareTellsRow, standIns := [], harness := (true, "f7e8f5de23df3b19fe4cfd4c9c2d6f4811957b12d44925085728e5599561797e"), looks := false }, kinds := [], alts := [], laidByText := true, laidKinds := [.data], laidTests := true, laidLooks := .later }
def ShareTellsCardSaid : Prop := Claim7.holds Tryd.pinned (.plain (OpenSpec.ofChange shareTellsSpec)) shareTellsCard

/-- THE TIED CARD OF 'spinetlaw15.ShareAlike'. -/
def shareAlikeCard : Claim7 := { stood := { row := shareAlikeRow, standIns := [], harness := (true, "f7e8f5de23df3b19fe4cfd4c9c2d6f4811957b12d44925085728e5599561797e"), looks := false }, kinds := [], alts := [], laidByText := true, laidKinds := [.data], laidTests := true, laidLooks := .later }
def ShareAlikeCardSaid : Prop := Claim7.holds Tryd.pinned (.plain (OpenSpec.ofChange shareAlikeSpec)) shareAlikeCard

/-- THE TIED CARD OF 'spinetlaw15.ShareLogs'. -/
def shareLogsCard : Claim7 := { stood := { row := shareLogsRow, standIns := [], harness := (true, "f7e8f5de23df3b19fe4cfd4c9c2d6f4811957b12d44925085728e5599561797e"), looks := false }, kinds := [], alts := [], laidByText := true, laidKinds := [.data], laidTests := true, laidLooks := .later }
def ShareLogsCardSaid : Prop := Claim7.holds Tryd.pinned (.plain (OpenSpec.ofChange shareLogsSpec)) shareLogsCard

/-- THE TIED CARD OF 'spinetlaw15.ShareSheet'. -/
def shareSheetCard : Claim7 := { stood := { row := shareSheetRow, standIns := [], harness := (true, "f7e8f5de23df3b19fe4cfd4c9c2d6f4811957b12d44925085728e5599561797e"), looks := false }, kinds := [], alts := [], laidByText := true, laidKinds := [.data], laidTests := true, laidLooks := .later }
def ShareSheetCardSaid : Prop := Claim7.holds Tryd.pinned (.plain (OpenSpec.ofChange shareSheetSpec)) shareSheetCard

/-- THE SECOND FORM's CARD OF 'spinetlaw15.ShareTells'. -/
def shareTellsUptoCard : Claim7 := { stood := { row := shareTellsUptoRow, standIns := [], harness := (true, "f7e8f5de23df3b19fe4cfd4c9c2d6f4811957b12d44925085728e5599561797e"), looks := false }, kinds := [], alts := [], laidByText := true, laidKinds := [.data], laidTests := true, laidLooks := .later }
def ShareTellsUptoCardSaid : Prop := Claim7.holds Tryd.pinned (.plain (OpenSpec.upto shareTellsSpec)) shareTellsUptoCard

/-- THE SECOND FORM's CARD OF 'spinetlaw15.ShareAlike'. -/
def shareAlikeUptoCard : Claim7 := { stood := { row := shareAlikeUptoRow, standIns := [], harness := (true, "f7e8f5de23df3b19fe4cfd4c9c2d6f4811957b12d44925085728e5599561797e"), looks := false }, kinds := [], alts := [], laidByText := true, laidKinds := [.data], laidTests := true, laidLooks := .later }
def ShareAlikeUptoCardSaid : Prop := Claim7.holds Tryd.pinned (.plain (OpenSpec.upto shareAlikeSpec)) shareAlikeUptoCard

/-- THE SECOND FORM's CARD OF 'spinetlaw15.ShareLogs'. -/
def shareLogsUptoCard : Claim7 := { stood := { row := shareLogsUptoRow, standIns := [], harness := (true, "f7e8f5de23df3b19fe4cfd4c9c2d6f4811957b12d44925085728e5599561797e"), looks := false }, kinds := [], alts := [], laidByText := true, laidKinds := [.data], laidTests := true, laidLooks := .later }
def ShareLogsUptoCardSaid : Prop := Claim7.holds Tryd.pinned (.plain (OpenSpec.upto shareLogsSpec)) shareLogsUptoCard

/-- THE SECOND FORM's CARD OF 'spinetlaw15.ShareSheet'. -/
def shareSheetUptoCard : Claim7 := { stood := { row := shareSheetUptoRow, standIns := [], harness := (true, "f7e8f5de23df3b19fe4cfd4c9c2d6f4811957b12d44925085728e5599561797e"), looks := false }, kinds := [], alts := [], laidByText := true, laidKinds := [.data], laidTests := true, laidLooks := .later }
def ShareSheetUptoCardSaid : Prop := Claim7.holds Tryd.pinned (.plain (OpenSpec.upto shareSheetSpec)) shareSheetUptoCard
end Rows
end Go.Proofs.YtkilngogdbjmbaaDoor
