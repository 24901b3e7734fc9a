/-
  NARROWER THAN 'FOR EVERY INPUT', by the rows' own cells (each row's printed sentence says how): AllocTells: laid · AllocTotals: laid · AllocFits: laid · AllocMore: laid · AllocChans: laid.
  DERIVED. THE GIVEN ROWS OF THIS SEAT. 5 by the template 'for every input the law returns true; each argument reads behind the call as it read before'; 0 by the template 'total and deterministic' (their statements: YthlbilfdeneajaaDoorTotals.lean).
  GIVEN WITH THE SEED: the statements are not yours to turn. If you find one false, say at which input.
  Laid BY PROGRAM, IN A SANDBOX (cutbox-rows.mjs): the forced cells as the released guide's own fill.sh prints them over the translation 9133fee0be698cc8… (all of the seat's roots in one cut). By AI agents, Wed Nov 11 2026. No macro, syntax, notation, axiom, sorry.
-/
import Derived.Test.YthlbilfdeneajaaDoorChecked
import GoSem.Claim
import GoSem.ClaimJoined
import GoSem.ClaimMapViews
import Derived.JoinedTies
import Derived.KernelRfl
namespace Go.Proofs.YthlbilfdeneajaaDoor
/- THE CELL 'sum', in the pinned program and in every row, IS THE sha256 OF THE DUMP (.gsa) THAT YthlbilfdeneajaaDoorProg.lean LOADS. Nothing in Lean hashes anything: it is a label: what it is worth is what the hold of that sum in a sandbox is worth. -/
noncomputable def Tryd.pinned : Pinned := { name := "ythlbilfdeneajaadoor", sum := "9133fee0be698cc881c531e497305af4a94617f7ffdfc6dd1e16508dada5be4a", checked := Tryd.checked }
namespace Rows
def none {H : Type} : Left H := { results := [], args := [] }

/- WHAT THE LISTED PACKAGE-LEVEL VARIABLES READ AS WHEN THE CALL BEGINS. Each datum BY PROGRAM (the guide's laid-datum.mjs) off the statement by which the dump's own 'gosem.cut.vars' lays the variable. In a bare row this is a premise. The card (YthlbilfdeneajaaDoorCards.lean) ties it to the program's text. -/
def laid_spinet_mode_widths {H : Type} : DataW H := .agg [.lit (.int .i64 2), .lit (.int .i64 2), .lit (.int .i64 4), .lit (.int .i64 8), .lit (.int .i64 16)]

/-- 'spinetlaw14.AllocTells': WHATEVER THE INPUT: true; the input reads as it did. -/
def allocTellsSpec : ChangeSpec := { name := "allocTells", fn := fun _ => fun
  | [d] => { results := [.lit (.bool true)], args := [d] }
  | _ => none }
def allocTellsRow : OpenClaim := { program := "ythlbilfdeneajaadoor", sum := "9133fee0be698cc881c531e497305af4a94617f7ffdfc6dd1e16508dada5be4a", func := "spinet/spinetlaw14.AllocTells", spec := "allocTells", unfollowed := true, recurses := true, named := ["spinet/mode.widths"], plainKeys := false, apart := false, laid := [("spinet/mode.widths", laid_spinet_mode_widths)] }
def AllocTellsSaid : Prop := allocTellsRow.holds Tryd.pinned (OpenSpec.ofChange allocTellsSpec)

/-- ITS FALSE NEIGHBOUR: 'it returns false'. Refute it at one input. -/
def allocTellsWrong : ChangeSpec := { name := "allocTells", fn := fun _ => fun
  | [d] => { results := [.lit (.bool false)], args := [d] }
  | _ => none }
def AllocTellsWrongFalsely : Prop := allocTellsRow.holds Tryd.pinned (OpenSpec.ofChange allocTellsWrong)

/-- 'spinetlaw14.AllocTotals': WHATEVER THE INPUT: true; the input reads as it did. -/
def allocTotalsSpec : ChangeSpec := { name := "allocTotals", fn := fun _ => fun
  | [d1, d2, d3] => { results := [.lit (.bool true)], args := [d1, d2, d3] }
  | _ => none }
def allocTotalsRow : OpenClaim := { program := "ythlbilfdeneajaadoor", sum := "9133fee0be698cc881c531e497305af4a94617f7ffdfc6dd1e16508dada5be4a", func := "spinet/spinetlaw14.AllocTotals", spec := "allocTotals", unfollowed := true, recurses := true, named := ["spinet/mode.widths"], plainKeys := false, apart := false, laid := [("spinet/mode.widths", laid_spinet_mode_widths)] }
def AllocTotalsSaid : Prop := allocTotalsRow.holds Tryd.pinned (OpenSpec.ofChange allocTotalsSpec)

/-- ITS FALSE NEIGHBOUR: 'it returns false'. Refute it at one input. -/
def allocTotalsWrong : ChangeSpec := { name := "allocTotals", fn := fun _ => fun
  | [d1, d2, d3] => { results := [.lit (.bool false)], args := [d1, d2, d3] }
  | _ => none }
def AllocTotalsWrongFalsely : Prop := allocTotalsRow.holds Tryd.pinned (OpenSpec.ofChange allocTotalsWrong)

/-- 'spinetlaw14.AllocFits': WHATEVER THE INPUT: true; the input reads as it did. -/
def allocFitsSpec : ChangeSpec := { name := "allocFits", fn := fun _ => fun
  | [d] => { results := [.lit (.bool true)], args := [d] }
  | _ => none }
def allocFitsRow : OpenClaim := { program := "ythlbilfdeneajaadoor", sum := "9133fee0be698cc881c531e497305af4a94617f7ffdfc6dd1e16508dada5be4a", func := "spinet/spinetlaw14.AllocFits", spec := "allocFits", unfollowed := true, recurses := true, named := ["spinet/mode.widths"], plainKeys := false, apart := false, laid := [("spinet/mode.widths", laid_spinet_mode_widths)] }
def AllocFitsSaid : Prop := allocFitsRow.holds Tryd.pinned (OpenSpec.ofChange allocFitsSpec)

/-- ITS FALSE NEIGHBOUR: 'it returns false'. Refute it at one input. -/
def allocFitsWrong : ChangeSpec := { name := "allocFits", fn := fun _ => fun
  | [d] => { results := [.lit (.bool false)], args := [d] }
  | _ => none }
def AllocFitsWrongFalsely : Prop := allocFitsRow.holds Tryd.pinned (OpenSpec.ofChange allocFitsWrong)

/-- 'spinetlaw14.AllocMore': WHATEVER THE INPUT: true; the input reads as it did. -/
def allocMoreSpec : ChangeSpec := { name := "allocMore", fn := fun _ => fun
  | [d1, d2] => { results := [.lit (.bool true)], args := [d1, d2] }
  | _ => none }
def allocMoreRow : OpenClaim := { program := "ythlbilfdeneajaadoor", sum := "9133fee0be698cc881c531e497305af4a94617f7ffdfc6dd1e16508dada5be4a", func := "spinet/spinetlaw14.AllocMore", spec := "allocMore", unfollowed := true, recurses := true, named := ["spinet/mode.widths"], plainKeys := false, apart := false, laid := [("spinet/mode.widths", laid_spinet_mode_widths)] }
def AllocMoreSaid : Prop := allocMoreRow.holds Tryd.pinned (OpenSpec.ofChange allocMoreSpec)

/-- ITS FALSE NEIGHBOUR: 'it returns false'. Refute it at one input. -/
def allocMoreWrong : ChangeSpec := { name := "allocMore", fn := fun _ => fun
  | [d1, d2] => { results := [.lit (.bool false)], args := [d1, d2] }
  | _ => none }
def AllocMoreWrongFalsely : Prop := allocMoreRow.holds Tryd.pinned (OpenSpec.ofChange allocMoreWrong)

/-- 'spinetlaw14.AllocChans': WHATEVER THE INPUT: true; the input reads as it did. -/
def allocChansSpec : ChangeSpec := { name := "allocChans", fn := fun _ => fun
  | [d1, d2, d3] => { results := [.lit (.bool true)], args := [d1, d2, d3] }
  | _ => none }
def allocChansRow : OpenClaim := { program := "ythlbilfdeneajaadoor", sum := "9133fee0be698cc881c531e497305af4a94617f7ffdfc6dd1e16508dada5be4a", func := "spinet/spinetlaw14.AllocChans", spec := "allocChans", unfollowed := true, recurses := true, named := ["spinet/mode.widths"], plainKeys := false, apart := false, laid := [("spinet/mode.widths", laid_spinet_mode_widths)] }
def AllocChansSaid : Prop := allocChansRow.holds Tryd.pinned (OpenSpec.ofChange allocChansSpec)

/-- ITS FALSE NEIGHBOUR: 'it returns false'. Refute it at one input. -/
def allocChansWrong : ChangeSpec := { name := "allocChans", fn := fun _ => fun
  | [d1, d2, d3] => { results := [.lit (.bool false)], args := [d1, d2, d3] }
  | _ => none }
def AllocChansWrongFalsely : Prop := allocChansRow.holds Tryd.pinned (OpenSpec.ofChange allocChansWrong)

/- THE SECOND FORM. 'bulk': how many values and letters a reading holds, each counted each time it is reached (what is shared counts as often as it is met; a slice's spare places count too). A statement '..UptoSaid' is the law's where the arguments, and the package variables that the reading takes, are together of bulk at most 1048576: NARROWER than '..Said'. Prove '..Said' where nothing that the law and all that it calls make is longer than what came in: it says more and counts as full. Else prove '..UptoSaid'. A law counts once. -/
mutual
def uptoBulk {H : Type} : DataW H → Nat
  | .lit (.string bytes) => bytes.length + 1
  | .lit _ => 1
  | .nil => 1
  | .ptr d => uptoBulk d + 1
  | .slice elems spare => uptoBulkAll elems + uptoBulkAll spare + 1
  | .agg parts => uptoBulkAll parts + 1
  | .iface _ d => uptoBulk d + 1
  | .map entries => uptoBulkEntries entries + 1
  | .held _ => 1
def uptoBulkAll {H : Type} : List (DataW H) → Nat
  | [] => 0
  | d :: r => uptoBulk d + uptoBulkAll r
def uptoBulkEntries {H : Type} : List (Lit × DataW H) → Nat
  | [] => 0
  | x :: r => uptoBulkEntry x + uptoBulkEntries r
def uptoBulkEntry {H : Type} : Lit × DataW H → Nat
  | (.string bytes, d) => bytes.length + uptoBulk d + 1
  | (_, d) => uptoBulk d + 1
 end
def uptoSmall : (H : Type) → List (DataW H) → Bool := fun _ ds => decide (uptoBulkAll ds ≤ 1048576)
def OpenSpec.upto (s : _root_.Go.ChangeSpec) : _root_.Go.OpenSpec := { _root_.Go.OpenSpec.ofChange s with cond := some uptoSmall }

/-- 'spinetlaw14.AllocTells', WHERE WHAT IT READS IS OF BULK AT MOST 1048576: true; the input reads as it did. -/
def allocTellsUptoRow : OpenClaim := { program := "ythlbilfdeneajaadoor", sum := "9133fee0be698cc881c531e497305af4a94617f7ffdfc6dd1e16508dada5be4a", func := "spinet/spinetlaw14.AllocTells", spec := "allocTells", unfollowed := true, recurses := true, named := ["spinet/mode.widths"], plainKeys := false, apart := false, laid := [("spinet/mode.widths", laid_spinet_mode_widths)], narrowed := true }
def AllocTellsUptoSaid : Prop := allocTellsUptoRow.holds Tryd.pinned (OpenSpec.upto allocTellsSpec)

/-- 'spinetlaw14.AllocTotals', WHERE WHAT IT READS IS OF BULK AT MOST 1048576: true; the input reads as it did. -/
def allocTotalsUptoRow : OpenClaim := { program := "ythlbilfdeneajaadoor", sum := "9133fee0be698cc881c531e497305af4a94617f7ffdfc6dd1e16508dada5be4a", func := "spinet/spinetlaw14.AllocTotals", spec := "allocTotals", unfollowed := true, recurses := true, named := ["spinet/mode.widths"], plainKeys := false, apart := false, laid := [("spinet/mode.widths", laid_spinet_mode_widths)], narrowed := true }
def AllocTotalsUptoSaid : Prop := allocTotalsUptoRow.holds Tryd.pinned (OpenSpec.upto allocTotalsSpec)

/-- 'spinetlaw14.AllocFits', WHERE WHAT IT READS IS OF BULK AT MOST 1048576: true; the input reads as it did. -/
def allocFitsUptoRow : OpenClaim := { program := "ythlbilfdeneajaadoor", sum := "9133fee0be698cc881c531e497305af4a94617f7ffdfc6dd1e16508dada5be4a", func := "spinet/spinetlaw14.AllocFits", spec := "allocFits", unfollowed := true, recurses := true, named := ["spinet/mode.widths"], plainKeys := false, apart := false, laid := [("spinet/mode.widths", laid_spinet_mode_widths)], narrowed := true }
def AllocFitsUptoSaid : Prop := allocFitsUptoRow.holds Tryd.pinned (OpenSpec.upto allocFitsSpec)

/-- 'spinetlaw14.AllocMore', WHERE WHAT IT READS IS OF BULK AT MOST 1048576: true; the input reads as it did. -/
def allocMoreUptoRow : OpenClaim := { program := "ythlbilfdeneajaadoor", sum := "9133fee0be698cc881c531e497305af4a94617f7ffdfc6dd1e16508dada5be4a", func := "spinet/spinetlaw14.AllocMore", spec := "allocMore", unfollowed := true, recurses := true, named := ["spinet/mode.widths"], plainKeys := false, apart := false, laid := [("spinet/mode.widths", laid_spinet_mode_widths)], narrowed := true }
def AllocMoreUptoSaid : Prop := allocMoreUptoRow.holds Tryd.pinned (OpenSpec.upto allocMoreSpec)

/-- 'spinetlaw14.AllocChans', WHERE WHAT IT READS IS OF BULK AT MOST 1048576: true; the input reads as it did. -/
def allocChansUptoRow : OpenClaim := { program := "ythlbilfdeneajaadoor", sum := "9133fee0be698cc881c531e497305af4a94617f7ffdfc6dd1e16508dada5be4a", func := "spinet/spinetlaw14.AllocChans", spec := "allocChans", unfollowed := true, recurses := true, named := ["spinet/mode.widths"], plainKeys := false, apart := false, laid := [("spinet/mode.widths", laid_spinet_mode_widths)], narrowed := true }
def AllocChansUptoSaid : Prop := allocChansUptoRow.holds Tryd.pinned (OpenSpec.upto allocChansSpec)

end Rows
end Go.Proofs.YthlbilfdeneajaaDoor
