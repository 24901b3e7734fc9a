/-
  NARROWER THAN 'FOR EVERY INPUT', by the rows' own cells (each row's printed sentence says how): FrameReads: laid · FrameLeaves: laid · FrameRight: laid · FrameTools: laid.
  DERIVED. THE GIVEN ROWS OF THIS SEAT. 4 by the template 'for every input the law returns true; each argument reads behind the call as it read before'; 0 by the template 'total and deterministic' (their statements: YtfgpmdikkncckaaGreatDoorTotals.lean).
  GIVEN WITH THE SEED: the statements are not yours to turn. If you find one false, say at which input.
  Laid BY PROGRAM, IN A SANDBOX (cutbox-rows.mjs): the forced cells as the released guide's own fill.sh prints them over the translation a2b16908a8cb7898… (all of the seat's roots in one cut). By AI agents, Wed Nov 11 2026. No macro, syntax, notation, axiom, sorry.
-/
import Derived.Test.YtfgpmdikkncckaaGreatDoorChecked
import GoSem.Claim
import GoSem.ClaimJoined
import GoSem.ClaimMapViews
import Derived.JoinedTies
import Derived.KernelRfl
namespace Go.Proofs.YtfgpmdikkncckaaGreatDoor
/- THE CELL 'sum', in the pinned program and in every row, IS THE sha256 OF THE DUMP (.gsa) THAT YtfgpmdikkncckaaGreatDoorProg.lean LOADS. Nothing in Lean hashes anything: it is a label: what it is worth is what the hold of that sum in a sandbox is worth. -/
noncomputable def Tryz.pinned : Pinned := { name := "ytfgpmdikkncckaagreatdoor", sum := "a2b16908a8cb7898ea3b2f59c6e83aad99a8059cf69d6a4cd1f8918c0cfc12d8", checked := Tryz.checked }
namespace Rows
def none {H : Type} : Left H := { results := [], args := [] }

/- WHAT THE LISTED PACKAGE-LEVEL VARIABLES READ AS WHEN THE CALL BEGINS. Each datum BY PROGRAM (the guide's laid-datum.mjs) off the statement by which the dump's own 'gosem.cut.vars' lays the variable. In a bare row this is a premise. The card (YtfgpmdikkncckaaGreatDoorCards.lean) ties it to the program's text. -/
def laid_spinet_mode_widths {H : Type} : DataW H := .agg [.lit (.int .i64 2), .lit (.int .i64 2), .lit (.int .i64 4), .lit (.int .i64 8), .lit (.int .i64 16)]
def laid_spinet_sym_widths {H : Type} : DataW H := .agg [.lit (.int .i64 20), .lit (.int .i64 9), .lit (.int .i64 9), .lit (.int .i64 5), .lit (.int .i64 5), .lit (.int .i64 3), .lit (.int .i64 3), .lit (.int .i64 2), .lit (.int .i64 2), .lit (.int .i64 1), .lit (.int .i64 1), .lit (.int .i64 1), .lit (.int .i64 1), .lit (.int .i64 1), .lit (.int .i64 1)]

/-- 'spinetlaw16.FrameReads': WHATEVER THE INPUT: true; the input reads as it did. -/
def frameReadsSpec : ChangeSpec := { name := "frameReads", fn := fun _ => fun
  | [d] => { results := [.lit (.bool true)], args := [d] }
  | _ => none }
def frameReadsRow : OpenClaim := { program := "ytfgpmdikkncckaagreatdoor", sum := "a2b16908a8cb7898ea3b2f59c6e83aad99a8059cf69d6a4cd1f8918c0cfc12d8", func := "spinet/spinetlaw16.FrameReads", spec := "frameReads", unfollowed := true, recurses := true, named := ["spinet/sym.widths", "spinet/mode.widths"], plainKeys := false, apart := false, laid := [("spinet/mode.widths", laid_spinet_mode_widths), ("spinet/sym.widths", laid_spinet_sym_widths)] }
def FrameReadsSaid : Prop := frameReadsRow.holds Tryz.pinned (OpenSpec.ofChange frameReadsSpec)

/-- ITS FALSE NEIGHBOUR: 'it returns false'. Refute it at one input. -/
def frameReadsWrong : ChangeSpec := { name := "frameReads", fn := fun _ => fun
  | [d] => { results := [.lit (.bool false)], args := [d] }
  | _ => none }
def FrameReadsWrongFalsely : Prop := frameReadsRow.holds Tryz.pinned (OpenSpec.ofChange frameReadsWrong)

/-- 'spinetlaw16.FrameLeaves': WHATEVER THE INPUT: true; the input reads as it did. -/
def frameLeavesSpec : ChangeSpec := { name := "frameLeaves", fn := fun _ => fun
  | [d] => { results := [.lit (.bool true)], args := [d] }
  | _ => none }
def frameLeavesRow : OpenClaim := { program := "ytfgpmdikkncckaagreatdoor", sum := "a2b16908a8cb7898ea3b2f59c6e83aad99a8059cf69d6a4cd1f8918c0cfc12d8", func := "spinet/spinetlaw16.FrameLeaves", spec := "frameLeaves", unfollowed := true, recurses := true, named := ["spinet/sym.widths", "spinet/mode.widths"], plainKeys := false, apart := false, laid := [("spinet/mode.widths", laid_spinet_mode_widths), ("spinet/sym.widths", laid_spinet_sym_widths)] }
def FrameLeavesSaid : Prop := frameLeavesRow.holds Tryz.pinned (OpenSpec.ofChange frameLeavesSpec)

/-- ITS FALSE NEIGHBOUR: 'it returns false'. Refute it at one input. -/
def frameLeavesWrong : ChangeSpec := { name := "frameLeaves", fn := fun _ => fun
  | [d] => { results := [.lit (.bool false)], args := [d] }
  | _ => none }
def FrameLeavesWrongFalsely : Prop := frameLeavesRow.holds Tryz.pinned (OpenSpec.ofChange frameLeavesWrong)

/-- 'spinetlaw16.FrameRight': WHATEVER THE INPUT: true; the input reads as it did. -/
def frameRightSpec : ChangeSpec := { name := "frameRight", fn := fun _ => fun
  | [d] => { results := [.lit (.bool true)], args := [d] }
  | _ => none }
def frameRightRow : OpenClaim := { program := "ytfgpmdikkncckaagreatdoor", sum := "a2b16908a8cb7898ea3b2f59c6e83aad99a8059cf69d6a4cd1f8918c0cfc12d8", func := "spinet/spinetlaw16.FrameRight", spec := "frameRight", unfollowed := true, recurses := true, named := ["spinet/sym.widths", "spinet/mode.widths"], plainKeys := false, apart := false, laid := [("spinet/mode.widths", laid_spinet_mode_widths), ("spinet/sym.widths", laid_spinet_sym_widths)] }
def FrameRightSaid : Prop := frameRightRow.holds Tryz.pinned (OpenSpec.ofChange frameRightSpec)

/-- ITS FALSE NEIGHBOUR: 'it returns false'. Refute it at one input. -/
def frameRightWrong : ChangeSpec := { name := "frameRight", fn := fun _ => fun
  | [d] => { results := [.lit (.bool false)], args := [d] }
  | _ => none }
def FrameRightWrongFalsely : Prop := frameRightRow.holds Tryz.pinned (OpenSpec.ofChange frameRightWrong)

/-- 'spinetlaw16.FrameTools': WHATEVER THE INPUT: true; the input reads as it did. -/
def frameToolsSpec : ChangeSpec := { name := "frameTools", fn := fun _ => fun
  | [d1, d2, d3] => { results := [.lit (.bool true)], args := [d1, d2, d3] }
  | _ => none }
def frameToolsRow : OpenClaim := { program := "ytfgpmdikkncckaagreatdoor", sum := "a2b16908a8cb7898ea3b2f59c6e83aad99a8059cf69d6a4cd1f8918c0cfc12d8", func := "spinet/spinetlaw16.FrameTools", spec := "frameTools", unfollowed := true, recurses := true, named := ["spinet/sym.widths", "spinet/mode.widths"], plainKeys := false, apart := false, laid := [("spinet/mode.widths", laid_spinet_mode_widths), ("spinet/sym.widths", laid_spinet_sym_widths)] }
def FrameToolsSaid : Prop := frameToolsRow.holds Tryz.pinned (OpenSpec.ofChange frameToolsSpec)

/-- ITS FALSE NEIGHBOUR: 'it returns false'. Refute it at one input. -/
def frameToolsWrong : ChangeSpec := { name := "frameTools", fn := fun _ => fun
  | [d1, d2, d3] => { results := [.lit (.bool false)], args := [d1, d2, d3] }
  | _ => none }
def FrameToolsWrongFalsely : Prop := frameToolsRow.holds Tryz.pinned (OpenSpec.ofChange frameToolsWrong)

/- THE SECOND FORM. 'bulk': how many values and letters a reading holds, each counted each time it is reached (what is shared counts as often as it is met; a slice's spare places count too). A statement '..UptoSaid' is the law's where the arguments, and the package variables that the reading takes, are together of bulk at most 1048576: NARROWER than '..Said'. Prove '..Said' where nothing that the law and all that it calls make is longer than what came in: it says more and counts as full. Else prove '..UptoSaid'. A law counts once. -/
mutual
def uptoBulk {H : Type} : DataW H → Nat
  | .lit (.string bytes) => bytes.length + 1
  | .lit _ => 1
  | .nil => 1
  | .ptr d => uptoBulk d + 1
  | .slice elems spare => uptoBulkAll elems + uptoBulkAll spare + 1
  | .agg parts => uptoBulkAll parts + 1
  | .iface _ d => uptoBulk d + 1
  | .map entries => uptoBulkEntries entries + 1
  | .held _ => 1
def uptoBulkAll {H : Type} : List (DataW H) → Nat
  | [] => 0
  | d :: r => uptoBulk d + uptoBulkAll r
def uptoBulkEntries {H : Type} : List (Lit × DataW H) → Nat
  | [] => 0
  | x :: r => uptoBulkEntry x + uptoBulkEntries r
def uptoBulkEntry {H : Type} : Lit × DataW H → Nat
  | (.string bytes, d) => bytes.length + uptoBulk d + 1
  | (_, d) => uptoBulk d + 1
 end
def uptoSmall : (H : Type) → List (DataW H) → Bool := fun _ ds => decide (uptoBulkAll ds ≤ 1048576)
def OpenSpec.upto (s : _root_.Go.ChangeSpec) : _root_.Go.OpenSpec := { _root_.Go.OpenSpec.ofChange s with cond := some uptoSmall }

/-- 'spinetlaw16.FrameReads', WHERE WHAT IT READS IS OF BULK AT MOST 1048576: true; the input reads as it did. -/
def frameReadsUptoRow : OpenClaim := { program := "ytfgpmdikkncckaagreatdoor", sum := "a2b16908a8cb7898ea3b2f59c6e83aad99a8059cf69d6a4cd1f8918c0cfc12d8", func := "spinet/spinetlaw16.FrameReads", spec := "frameReads", unfollowed := true, recurses := true, named := ["spinet/sym.widths", "spinet/mode.widths"], plainKeys := false, apart := false, laid := [("spinet/mode.widths", laid_spinet_mode_widths), ("spinet/sym.widths", laid_spinet_sym_widths)], narrowed := true }
def FrameReadsUptoSaid : Prop := frameReadsUptoRow.holds Tryz.pinned (OpenSpec.upto frameReadsSpec)

/-- 'spinetlaw16.FrameLeaves', WHERE WHAT IT READS IS OF BULK AT MOST 1048576: true; the input reads as it did. -/
def frameLeavesUptoRow : OpenClaim := { program := "ytfgpmdikkncckaagreatdoor", sum := "a2b16908a8cb7898ea3b2f59c6e83aad99a8059cf69d6a4cd1f8918c0cfc12d8", func := "spinet/spinetlaw16.FrameLeaves", spec := "frameLeaves", unfollowed := true, recurses := true, named := ["spinet/sym.widths", "spinet/mode.widths"], plainKeys := false, apart := false, laid := [("spinet/mode.widths", laid_spinet_mode_widths), ("spinet/sym.widths", laid_spinet_sym_widths)], narrowed := true }
def FrameLeavesUptoSaid : Prop := frameLeavesUptoRow.holds Tryz.pinned (OpenSpec.upto frameLeavesSpec)

/-- 'spinetlaw16.FrameRight', WHERE WHAT IT READS IS OF BULK AT MOST 1048576: true; the input reads as it did. -/
def frameRightUptoRow : OpenClaim := { program := "ytfgpmdikkncckaagreatdoor", sum := "a2b16908a8cb7898ea3b2f59c6e83aad99a8059cf69d6a4cd1f8918c0cfc12d8", func := "spinet/spinetlaw16.FrameRight", spec := "frameRight", unfollowed := true, recurses := true, named := ["spinet/sym.widths", "spinet/mode.widths"], plainKeys := false, apart := false, laid := [("spinet/mode.widths", laid_spinet_mode_widths), ("spinet/sym.widths", laid_spinet_sym_widths)], narrowed := true }
def FrameRightUptoSaid : Prop := frameRightUptoRow.holds Tryz.pinned (OpenSpec.upto frameRightSpec)

/-- 'spinetlaw16.FrameTools', WHERE WHAT IT READS IS OF BULK AT MOST 1048576: true; the input reads as it did. -/
def frameToolsUptoRow : OpenClaim := { program := "ytfgpmdikkncckaagreatdoor", sum := "a2b16908a8cb7898ea3b2f59c6e83aad99a8059cf69d6a4cd1f8918c0cfc12d8", func := "spinet/spinetlaw16.FrameTools", spec := "frameTools", unfollowed := true, recurses := true, named := ["spinet/sym.widths", "spinet/mode.widths"], plainKeys := false, apart := false, laid := [("spinet/mode.widths", laid_spinet_mode_widths), ("spinet/sym.widths", laid_spinet_sym_widths)], narrowed := true }
def FrameToolsUptoSaid : Prop := frameToolsUptoRow.holds Tryz.pinned (OpenSpec.upto frameToolsSpec)

end Rows
end Go.Proofs.YtfgpmdikkncckaaGreatDoor
