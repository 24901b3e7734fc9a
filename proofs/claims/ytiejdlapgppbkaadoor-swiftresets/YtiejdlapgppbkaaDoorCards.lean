/-
  DERIVED. GIVEN WITH THE SEED: THE CARDS: each row of YtiejdlapgppbkaaDoorRows.lean that lists a variable, with what it lists TIED to the program's text (the seventh form; the later family's looks); each row that meets fmt, with fmt's text TOLD by the authors' own Lean function (tested against real Go, not proved from fmt's source: count such statements apart). THE CARD IS WHAT COUNTS. Prove the row's statement (the work); the ties are given (YtiejdlapgppbkaaDoorTie.lean); close each card by the builder's one call (the guide's Derived/Test/ToyasCard.lean, 'card_holds'). Laid BY PROGRAM, IN A SANDBOX (cutbox-door.mjs). By AI agents, Wed Nov 11 2026. No macro, syntax, notation, axiom, sorry.
-/
import Derived.Test.YtiejdlapgppbkaaDoorRows
import GoSem.ClaimSeven
namespace Go.Proofs.YtiejdlapgppbkaaDoor
namespace Rows

/-- THE TIED CARD OF 'spinetlaw08.SwiftPlays'. -/
def swiftPlaysCard : Claim7 := { stood := { row := swiftPlaysRow, standIns := [], harness := (true, "7f3de94e7bdabb54124a24294580b3d3b908da584a646d62af2812b64501ace2"), looks := false }, kinds := [], alts := [], laidByText := true, laidKinds := [.data], laidTests := true, laidLooks := .later }
def SwiftPlaysCardSaid : Prop := Claim7.holds Tryd.pinned (.plain (OpenSpec.ofChange swiftPlaysSpec)) swiftPlaysCard

/-- THE TIED CARD OF 'spinetlaw08.SwiftAlike'. -/
def swiftAlikeCard : Claim7 := { stood := { row := swiftAlikeRow, standIns := [], harness := (true, "7f3de94e7bdabb54124a24294580b3d3b908da584a646d62af2812b64501ace2"), looks := false }, kinds := [], alts := [], laidByText := true, laidKinds := [.data], laidTests := true, laidLooks := .later }
def SwiftAlikeCardSaid : Prop := Claim7.holds Tryd.pinned (.plain (OpenSpec.ofChange swiftAlikeSpec)) swiftAlikeCard

/-- THE TIED CARD OF 'spinetlaw08.SwiftResets'. -/
def swiftResetsCard : Claim7 := { stood := { row := swiftResetsRow, standIns := [], harness := (true, "7f3de94e7bdabb54124a24294580b3d3b908da584a646d62af2812b64501ace2"), looks := false }, kinds := [], alts := [], laidByText := true, laidKinds := [.data], laidTests := true, laidLooks := .later }
def SwiftResetsCardSaid : Prop := Claim7.holds Tryd.pinned (.plain (OpenSpec.ofChange swiftResetsSpec)) swiftResetsCard

/-- THE TIED CARD OF 'spinetlaw08.SwiftBack'. -/
def swiftBackCard : Claim7 := { stood := { row := swiftBackRow, standIns := [], harness := (true, "7f3de94e7bdabb54124a24294580b3d3b908da584a646d62af2812b64501ace2"), looks := false }, kinds := [], alts := [], laidByText := true, laidKinds := [.data], laidTests := true, laidLooks := .later }
def SwiftBackCardSaid : Prop := Claim7.holds Tryd.pinned (.plain (OpenSpec.ofChange swiftBackSpec)) swiftBackCard

/-- THE TIED CARD OF 'spinetlaw08.SwiftOwn'. -/
def swiftOwnCard : Claim7 := { stood := { row := swiftOwnRow, standIns := [], harness := (true, "7f3de94e7bdabb54124a24294580b3d3b908da584a646d62af2812b64501ace2"), looks := false }, kinds := [], alts := [], laidByText := true, laidKinds := [.data], laidTests := true, laidLooks := .later }
def SwiftOwnCardSaid : Prop := Claim7.holds Tryd.pinned (.plain (OpenSpec.ofChange swiftOwnSpec)) swiftOwnCard

/-- THE SECOND FORM's CARD OF 'spinetlaw08.SwiftPlays'. -/
def swiftPlaysUptoCard : Claim7 := { stood := { row := swiftPlaysUptoRow, standIns := [], harness := (true, "7f3de94e7bdabb54124a24294580b3d3b908da584a646d62af2812b64501ace2"), looks := false }, kinds := [], alts := [], laidByText := true, laidKinds := [.data], laidTests := true, laidLooks := .later }
def SwiftPlaysUptoCardSaid : Prop := Claim7.holds Tryd.pinned (.plain (OpenSpec.upto swiftPlaysSpec)) swiftPlaysUptoCard

/-- THE SECOND FORM's CARD OF 'spinetlaw08.SwiftAlike'. -/
def swiftAlikeUptoCard : Claim7 := { stood := { row := swiftAlikeUptoRow, standIns := [], harness := (true, "7f3de94e7bdabb54124a24294580b3d3b908da584a646d62af2812b64501ace2"), looks := false }, kinds := [], alts := [], laidByText := true, laidKinds := [.data], laidTests := true, laidLooks := .later }
def SwiftAlikeUptoCardSaid : Prop := Claim7.holds Tryd.pinned (.plain (OpenSpec.upto swiftAlikeSpec)) swiftAlikeUptoCard

/-- THE SECOND FORM's CARD OF 'spinetlaw08.SwiftResets'. -/
def swiftResetsUptoCard : Claim7 := { stood := { row := swiftResetsUptoRow, standIns := [], harness := (true, "7f3de94e7bdabb54124a24294580b3d3b908da584a646d62af2812b64501ace2"), looks := false }, kinds := [], alts := [], laidByText := true, laidKinds := [.data], laidTests := true, laidLooks := .later }
def SwiftResetsUptoCardSaid : Prop := Claim7.holds Tryd.pinned (.plain (OpenSpec.upto swiftResetsSpec)) swiftResetsUptoCard

/-- THE SECOND FORM's CARD OF 'spinetlaw08.SwiftBack'. -/
def swiftBackUptoCard : Claim7 := { stood := { row := swiftBackUptoRow, standIns := [], harness := (true, "7f3de94e7bdabb54124a24294580b3d3b908da584a646d62af2812b64501ace2"), looks := false }, kinds := [], alts := [], laidByText := true, laidKinds := [.data], laidTests := true, laidLooks := .later }
def SwiftBackUptoCardSaid : Prop := Claim7.holds Tryd.pinned (.plain (OpenSpec.upto swiftBackSpec)) swiftBackUptoCard

/-- THE SECOND FORM's CARD OF 'spinetlaw08.SwiftOwn'. -/
def swiftOwnUptoCard : Claim7 := { stood := { row := swiftOwnUptoRow, standIns := [], harness := (true, "7f3de94e7bdabb54124a24294580b3d3b908da584a646d62af2812b64501ace2"), looks := false }, kinds := [], alts := [], laidByText := true, laidKinds := [.data], laidTests := true, laidLooks := .later }
def SwiftOwnUptoCardSaid : Prop := Claim7.holds Tryd.pinned (.plain (OpenSpec.upto swiftOwnSpec)) swiftOwnUptoCard
end Rows
end Go.Proofs.YtiejdlapgppbkaaDoor
