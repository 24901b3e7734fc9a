/-
  NARROWER THAN 'FOR EVERY INPUT', by the rows' own cells (each row's printed sentence says how): ShareTells: laid · ShareAlike: laid · ShareLogs: laid · ShareSheet: laid.
  DERIVED. THE GIVEN ROWS OF THIS SEAT. 4 by the template 'for every input the law returns true; each argument reads behind the call as it read before'; 0 by the template 'total and deterministic' (their statements: YtkilngogdbjmbaaDoorTotals.lean).
  GIVEN WITH THE SEED: the statements are not yours to turn. If you find one false, say at which input.
  Laid BY PROGRAM, IN A SANDBOX (cutbox-rows.mjs): the forced cells as the released guide's own fill.sh prints them over the translation 8ef0b9240fba9bb9… (all of the seat's roots in one cut). By AI agents, Wed Nov 11 2026. No macro, syntax, notation, axiom, sorry.
-/
import Derived.Test.YtkilngogdbjmbaaDoorChecked
import GoSem.Claim
import GoSem.ClaimJoined
import GoSem.ClaimMapViews
import Derived.JoinedTies
import Derived.KernelRfl
namespace Go.Proofs.YtkilngogdbjmbaaDoor
/- THE CELL 'sum', in the pinned program and in every row, IS THE sha256 OF THE DUMP (.gsa) THAT YtkilngogdbjmbaaDoorProg.lean LOADS. Nothing in Lean hashes anything: it is a label: what it is worth is what the hold of that sum in a sandbox is worth. -/
noncomputable def Tryd.pinned : Pinned := { name := "ytkilngogdbjmbaadoor", sum := "8ef0b9240fba9bb939671df764a5768bd411bc301dd9c74dd07b59763c98eebe", checked := Tryd.checked }
namespace Rows
def none {H : Type} : Left H := { results := [], args := [] }

/- WHAT THE LISTED PACKAGE-LEVEL VARIABLES READ AS WHEN THE CALL BEGINS. Each datum BY PROGRAM (the guide's laid-datum.mjs) off the statement by which the dump's own 'gosem.cut.vars' lays the variable. In a bare row this is a premise. The card (YtkilngogdbjmbaaDoorCards.lean) ties it to the program's text. -/
def laid_spinet_mode_widths {H : Type} : DataW H := .agg [.lit (.int .i64 2), .lit (.int .i64 2), .lit (.int .i64 4), .lit (.int .i64 8), .lit (.int .i64 16)]

/-- 'spinetlaw15.ShareTells': WHATEVER THE INPUT: true; the input reads as it did. -/
def shareTellsSpec : ChangeSpec := { name := "shareTells", fn := fun _ => fun
  | [d] => { results := [.lit (.bool true)], args := [d] }
  | _ => none }
def shareTellsRow : OpenClaim := { program := "ytkilngogdbjmbaadoor", sum := "8ef0b9240fba9bb939671df764a5768bd411bc301dd9c74dd07b59763c98eebe", func := "spinet/spinetlaw15.ShareTells", spec := "shareTells", unfollowed := true, recurses := true, named := ["spinet/mode.widths"], plainKeys := false, apart := false, laid := [("spinet/mode.widths", laid_spinet_mode_widths)] }
def ShareTellsSaid : Prop := shareTellsRow.holds Tryd.pinned (OpenSpec.ofChange shareTellsSpec)

/-- ITS FALSE NEIGHBOUR: 'it returns false'. Refute it at one input. -/
def shareTellsWrong : ChangeSpec := { name := "shareTells", fn := fun _ => fun
  | [d] => { results := [.lit (.bool false)], args := [d] }
  | _ => none }
def ShareTellsWrongFalsely : Prop := shareTellsRow.holds Tryd.pinned (OpenSpec.ofChange shareTellsWrong)

/-- 'spinetlaw15.ShareAlike': WHATEVER THE INPUT: true; the input reads as it did. -/
def shareAlikeSpec : ChangeSpec := { name := "shareAlike", fn := fun _ => fun
  | [d] => { results := [.lit (.bool true)], args := [d] }
  | _ => none }
def shareAlikeRow : OpenClaim := { program := "ytkilngogdbjmbaadoor", sum := "8ef0b9240fba9bb939671df764a5768bd411bc301dd9c74dd07b59763c98eebe", func := "spinet/spinetlaw15.ShareAlike", spec := "shareAlike", unfollowed := true, recurses := true, named := ["spinet/mode.widths"], plainKeys := false, apart := false, laid := [("spinet/mode.widths", laid_spinet_mode_widths)] }
def ShareAlikeSaid : Prop := shareAlikeRow.holds Tryd.pinned (OpenSpec.ofChange shareAlikeSpec)

/-- ITS FALSE NEIGHBOUR: 'it returns false'. Refute it at one input. -/
def shareAlikeWrong : ChangeSpec := { name := "shareAlike", fn := fun _ => fun
  | [d] => { results := [.lit (.bool false)], args := [d] }
  | _ => none }
def ShareAlikeWrongFalsely : Prop := shareAlikeRow.holds Tryd.pinned (OpenSpec.ofChange shareAlikeWrong)

/-- 'spinetlaw15.ShareLogs': WHATEVER THE INPUT: true; the input reads as it did. -/
def shareLogsSpec : ChangeSpec := { name := "shareLogs", fn := fun _ => fun
  | [d1, d2] => { results := [.lit (.bool true)], args := [d1, d2] }
  | _ => none }
def shareLogsRow : OpenClaim := { program := "ytkilngogdbjmbaadoor", sum := "8ef0b9240fba9bb939671df764a5768bd411bc301dd9c74dd07b59763c98eebe", func := "spinet/spinetlaw15.ShareLogs", spec := "shareLogs", unfollowed := true, recurses := true, named := ["spinet/mode.widths"], plainKeys := false, apart := false, laid := [("spinet/mode.widths", laid_spinet_mode_widths)] }
def ShareLogsSaid : Prop := shareLogsRow.holds Tryd.pinned (OpenSpec.ofChange shareLogsSpec)

/-- ITS FALSE NEIGHBOUR: 'it returns false'. Refute it at one input. -/
def shareLogsWrong : ChangeSpec := { name := "shareLogs", fn := fun _ => fun
  | [d1, d2] => { results := [.lit (.bool false)], args := [d1, d2] }
  | _ => none }
def ShareLogsWrongFalsely : Prop := shareLogsRow.holds Tryd.pinned (OpenSpec.ofChange shareLogsWrong)

/-- 'spinetlaw15.ShareSheet': WHATEVER THE INPUT: true; the input reads as it did. -/
def shareSheetSpec : ChangeSpec := { name := "shareSheet", fn := fun _ => fun
  | [d1, d2] => { results := [.lit (.bool true)], args := [d1, d2] }
  | _ => none }
def shareSheetRow : OpenClaim := { program := "ytkilngogdbjmbaadoor", sum := "8ef0b9240fba9bb939671df764a5768bd411bc301dd9c74dd07b59763c98eebe", func := "spinet/spinetlaw15.ShareSheet", spec := "shareSheet", unfollowed := true, recurses := true, named := ["spinet/mode.widths"], plainKeys := false, apart := false, laid := [("spinet/mode.widths", laid_spinet_mode_widths)] }
def ShareSheetSaid : Prop := shareSheetRow.holds Tryd.pinned (OpenSpec.ofChange shareSheetSpec)

/-- ITS FALSE NEIGHBOUR: 'it returns false'. Refute it at one input. -/
def shareSheetWrong : ChangeSpec := { name := "shareSheet", fn := fun _ => fun
  | [d1, d2] => { results := [.lit (.bool false)], args := [d1, d2] }
  | _ => none }
def ShareSheetWrongFalsely : Prop := shareSheetRow.holds Tryd.pinned (OpenSpec.ofChange shareSheetWrong)

/- THE SECOND FORM. 'bulk': how many values and letters a reading holds, each counted each time it is reached (what is shared counts as often as it is met; a slice's spare places count too). A statement '..UptoSaid' is the law's where the arguments, and the package variables that the reading takes, are together of bulk at most 1048576: NARROWER than '..Said'. Prove '..Said' where nothing that the law and all that it calls make is longer than what came in: it says more and counts as full. Else prove '..UptoSaid'. A law counts once. -/
mutual
def uptoBulk {H : Type} : DataW H → Nat
  | .lit (.string bytes) => bytes.length + 1
  | .lit _ => 1
  | .nil => 1
  | .ptr d => uptoBulk d + 1
  | .slice elems spare => uptoBulkAll elems + uptoBulkAll spare + 1
  | .agg parts => uptoBulkAll parts + 1
  | .iface _ d => uptoBulk d + 1
  | .map entries => uptoBulkEntries entries + 1
  | .held _ => 1
def uptoBulkAll {H : Type} : List (DataW H) → Nat
  | [] => 0
  | d :: r => uptoBulk d + uptoBulkAll r
def uptoBulkEntries {H : Type} : List (Lit × DataW H) → Nat
  | [] => 0
  | x :: r => uptoBulkEntry x + uptoBulkEntries r
def uptoBulkEntry {H : Type} : Lit × DataW H → Nat
  | (.string bytes, d) => bytes.length + uptoBulk d + 1
  | (_, d) => uptoBulk d + 1
 end
def uptoSmall : (H : Type) → List (DataW H) → Bool := fun _ ds => decide (uptoBulkAll ds ≤ 1048576)
def OpenSpec.upto (s : _root_.Go.ChangeSpec) : _root_.Go.OpenSpec := { _root_.Go.OpenSpec.ofChange s with cond := some uptoSmall }

/-- 'spinetlaw15.ShareTells', WHERE WHAT IT READS IS OF BULK AT MOST 1048576: true; the input reads as it did. -/
def shareTellsUptoRow : OpenClaim := { program := "ytkilngogdbjmbaadoor", sum := "8ef0b9240fba9bb939671df764a5768bd411bc301dd9c74dd07b59763c98eebe", func := "spinet/spinetlaw15.ShareTells", spec := "shareTells", unfollowed := true, recurses := true, named := ["spinet/mode.widths"], plainKeys := false, apart := false, laid := [("spinet/mode.widths", laid_spinet_mode_widths)], narrowed := true }
def ShareTellsUptoSaid : Prop := shareTellsUptoRow.holds Tryd.pinned (OpenSpec.upto shareTellsSpec)

/-- 'spinetlaw15.ShareAlike', WHERE WHAT IT READS IS OF BULK AT MOST 1048576: true; the input reads as it did. -/
def shareAlikeUptoRow : OpenClaim := { program := "ytkilngogdbjmbaadoor", sum := "8ef0b9240fba9bb939671df764a5768bd411bc301dd9c74dd07b59763c98eebe", func := "spinet/spinetlaw15.ShareAlike", spec := "shareAlike", unfollowed := true, recurses := true, named := ["spinet/mode.widths"], plainKeys := false, apart := false, laid := [("spinet/mode.widths", laid_spinet_mode_widths)], narrowed := true }
def ShareAlikeUptoSaid : Prop := shareAlikeUptoRow.holds Tryd.pinned (OpenSpec.upto shareAlikeSpec)

/-- 'spinetlaw15.ShareLogs', WHERE WHAT IT READS IS OF BULK AT MOST 1048576: true; the input reads as it did. -/
def shareLogsUptoRow : OpenClaim := { program := "ytkilngogdbjmbaadoor", sum := "8ef0b9240fba9bb939671df764a5768bd411bc301dd9c74dd07b59763c98eebe", func := "spinet/spinetlaw15.ShareLogs", spec := "shareLogs", unfollowed := true, recurses := true, named := ["spinet/mode.widths"], plainKeys := false, apart := false, laid := [("spinet/mode.widths", laid_spinet_mode_widths)], narrowed := true }
def ShareLogsUptoSaid : Prop := shareLogsUptoRow.holds Tryd.pinned (OpenSpec.upto shareLogsSpec)

/-- 'spinetlaw15.ShareSheet', WHERE WHAT IT READS IS OF BULK AT MOST 1048576: true; the input reads as it did. -/
def shareSheetUptoRow : OpenClaim := { program := "ytkilngogdbjmbaadoor", sum := "8ef0b9240fba9bb939671df764a5768bd411bc301dd9c74dd07b59763c98eebe", func := "spinet/spinetlaw15.ShareSheet", spec := "shareSheet", unfollowed := true, recurses := true, named := ["spinet/mode.widths"], plainKeys := false, apart := false, laid := [("spinet/mode.widths", laid_spinet_mode_widths)], narrowed := true }
def ShareSheetUptoSaid : Prop := shareSheetUptoRow.holds Tryd.pinned (OpenSpec.upto shareSheetSpec)

end Rows
end Go.Proofs.YtkilngogdbjmbaaDoor
