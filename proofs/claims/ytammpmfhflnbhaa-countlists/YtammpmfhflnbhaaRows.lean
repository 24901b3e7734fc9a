/-
  No cell of these rows narrows 'for every input' (looked for: loops, veiled, ifaces, maps, wideKeys, modest, calm, conditions, laid).
  DERIVED. THE GIVEN ROWS OF THIS SEAT. 5 by the template 'for every input the law returns true; each argument reads behind the call as it read before'; 0 by the template 'total and deterministic' (their statements: YtammpmfhflnbhaaTotals.lean).
  GIVEN WITH THE SEED: the statements are not yours to turn. If you find one false, say at which input.
  Laid BY PROGRAM, IN A SANDBOX (cutbox-rows.mjs): the forced cells as the released guide's own fill.sh prints them over the translation 3e9b6e1c8a5c843b… (all of the seat's roots in one cut). By AI agents, Wed Nov 11 2026. No macro, syntax, notation, axiom, sorry.
-/
import Derived.Test.YtammpmfhflnbhaaChecked
import GoSem.Claim
import GoSem.ClaimJoined
import GoSem.ClaimMapViews
import Derived.JoinedTies
import Derived.KernelRfl
namespace Go.Proofs.Ytammpmfhflnbhaa
/- THE CELL 'sum', in the pinned program and in every row, IS THE sha256 OF THE DUMP (.gsa) THAT YtammpmfhflnbhaaProg.lean LOADS. Nothing in Lean hashes anything: it is a label: what it is worth is what the hold of that sum in a sandbox is worth. -/
noncomputable def Try.pinned : Pinned := { name := "ytammpmfhflnbhaa", sum := "3e9b6e1c8a5c843b8fb616d4ef30ab1c9ac15df512b5401716f9f6648466f18d", checked := Try.checked }
namespace Rows
def none {H : Type} : Left H := { results := [], args := [] }

/-- 'spinetlaw10.CountTells': WHATEVER THE INPUT: true; the input reads as it did. -/
def countTellsSpec : ChangeSpec := { name := "countTells", fn := fun _ => fun
  | [d1, d2] => { results := [.lit (.bool true)], args := [d1, d2] }
  | _ => none }
def countTellsRow : OpenClaim := { program := "ytammpmfhflnbhaa", sum := "3e9b6e1c8a5c843b8fb616d4ef30ab1c9ac15df512b5401716f9f6648466f18d", func := "spinet/spinetlaw10.CountTells", spec := "countTells", recurses := true, plainKeys := false, apart := false }
def CountTellsSaid : Prop := countTellsRow.holds Try.pinned (OpenSpec.ofChange countTellsSpec)

/-- ITS FALSE NEIGHBOUR: 'it returns false'. Refute it at one input. -/
def countTellsWrong : ChangeSpec := { name := "countTells", fn := fun _ => fun
  | [d1, d2] => { results := [.lit (.bool false)], args := [d1, d2] }
  | _ => none }
def CountTellsWrongFalsely : Prop := countTellsRow.holds Try.pinned (OpenSpec.ofChange countTellsWrong)

/-- 'spinetlaw10.CountLists': WHATEVER THE INPUT: true; the input reads as it did. -/
def countListsSpec : ChangeSpec := { name := "countLists", fn := fun _ => fun
  | [d1, d2] => { results := [.lit (.bool true)], args := [d1, d2] }
  | _ => none }
def countListsRow : OpenClaim := { program := "ytammpmfhflnbhaa", sum := "3e9b6e1c8a5c843b8fb616d4ef30ab1c9ac15df512b5401716f9f6648466f18d", func := "spinet/spinetlaw10.CountLists", spec := "countLists", recurses := true, plainKeys := false, apart := false }
def CountListsSaid : Prop := countListsRow.holds Try.pinned (OpenSpec.ofChange countListsSpec)

/-- ITS FALSE NEIGHBOUR: 'it returns false'. Refute it at one input. -/
def countListsWrong : ChangeSpec := { name := "countLists", fn := fun _ => fun
  | [d1, d2] => { results := [.lit (.bool false)], args := [d1, d2] }
  | _ => none }
def CountListsWrongFalsely : Prop := countListsRow.holds Try.pinned (OpenSpec.ofChange countListsWrong)

/-- 'spinetlaw10.CountBooks': WHATEVER THE INPUT: true; the input reads as it did. -/
def countBooksSpec : ChangeSpec := { name := "countBooks", fn := fun _ => fun
  | [d1, d2] => { results := [.lit (.bool true)], args := [d1, d2] }
  | _ => none }
def countBooksRow : OpenClaim := { program := "ytammpmfhflnbhaa", sum := "3e9b6e1c8a5c843b8fb616d4ef30ab1c9ac15df512b5401716f9f6648466f18d", func := "spinet/spinetlaw10.CountBooks", spec := "countBooks", recurses := true, plainKeys := false, apart := false }
def CountBooksSaid : Prop := countBooksRow.holds Try.pinned (OpenSpec.ofChange countBooksSpec)

/-- ITS FALSE NEIGHBOUR: 'it returns false'. Refute it at one input. -/
def countBooksWrong : ChangeSpec := { name := "countBooks", fn := fun _ => fun
  | [d1, d2] => { results := [.lit (.bool false)], args := [d1, d2] }
  | _ => none }
def CountBooksWrongFalsely : Prop := countBooksRow.holds Try.pinned (OpenSpec.ofChange countBooksWrong)

/-- 'spinetlaw10.CountGrows': WHATEVER THE INPUT: true; the input reads as it did. -/
def countGrowsSpec : ChangeSpec := { name := "countGrows", fn := fun _ => fun
  | [d1, d2] => { results := [.lit (.bool true)], args := [d1, d2] }
  | _ => none }
def countGrowsRow : OpenClaim := { program := "ytammpmfhflnbhaa", sum := "3e9b6e1c8a5c843b8fb616d4ef30ab1c9ac15df512b5401716f9f6648466f18d", func := "spinet/spinetlaw10.CountGrows", spec := "countGrows", recurses := true, plainKeys := false, apart := false }
def CountGrowsSaid : Prop := countGrowsRow.holds Try.pinned (OpenSpec.ofChange countGrowsSpec)

/-- ITS FALSE NEIGHBOUR: 'it returns false'. Refute it at one input. -/
def countGrowsWrong : ChangeSpec := { name := "countGrows", fn := fun _ => fun
  | [d1, d2] => { results := [.lit (.bool false)], args := [d1, d2] }
  | _ => none }
def CountGrowsWrongFalsely : Prop := countGrowsRow.holds Try.pinned (OpenSpec.ofChange countGrowsWrong)

/-- 'spinetlaw10.CountNotes': WHATEVER THE INPUT: true; the input reads as it did. -/
def countNotesSpec : ChangeSpec := { name := "countNotes", fn := fun _ => fun
  | [d1, d2, d3] => { results := [.lit (.bool true)], args := [d1, d2, d3] }
  | _ => none }
def countNotesRow : OpenClaim := { program := "ytammpmfhflnbhaa", sum := "3e9b6e1c8a5c843b8fb616d4ef30ab1c9ac15df512b5401716f9f6648466f18d", func := "spinet/spinetlaw10.CountNotes", spec := "countNotes", recurses := true, plainKeys := false, apart := false }
def CountNotesSaid : Prop := countNotesRow.holds Try.pinned (OpenSpec.ofChange countNotesSpec)

/-- ITS FALSE NEIGHBOUR: 'it returns false'. Refute it at one input. -/
def countNotesWrong : ChangeSpec := { name := "countNotes", fn := fun _ => fun
  | [d1, d2, d3] => { results := [.lit (.bool false)], args := [d1, d2, d3] }
  | _ => none }
def CountNotesWrongFalsely : Prop := countNotesRow.holds Try.pinned (OpenSpec.ofChange countNotesWrong)

/- THE SECOND FORM. 'bulk': how many values and letters a reading holds, each counted each time it is reached (what is shared counts as often as it is met; a slice's spare places count too). A statement '..UptoSaid' is the law's where the arguments, and the package variables that the reading takes, are together of bulk at most 1048576: NARROWER than '..Said'. Prove '..Said' where nothing that the law and all that it calls make is longer than what came in: it says more and counts as full. Else prove '..UptoSaid'. A law counts once. -/
mutual
def uptoBulk {H : Type} : DataW H → Nat
  | .lit (.string bytes) => bytes.length + 1
  | .lit _ => 1
  | .nil => 1
  | .ptr d => uptoBulk d + 1
  | .slice elems spare => uptoBulkAll elems + uptoBulkAll spare + 1
  | .agg parts => uptoBulkAll parts + 1
  | .iface _ d => uptoBulk d + 1
  | .map entries => uptoBulkEntries entries + 1
  | .held _ => 1
def uptoBulkAll {H : Type} : List (DataW H) → Nat
  | [] => 0
  | d :: r => uptoBulk d + uptoBulkAll r
def uptoBulkEntries {H : Type} : List (Lit × DataW H) → Nat
  | [] => 0
  | x :: r => uptoBulkEntry x + uptoBulkEntries r
def uptoBulkEntry {H : Type} : Lit × DataW H → Nat
  | (.string bytes, d) => bytes.length + uptoBulk d + 1
  | (_, d) => uptoBulk d + 1
 end
def uptoSmall : (H : Type) → List (DataW H) → Bool := fun _ ds => decide (uptoBulkAll ds ≤ 1048576)
def OpenSpec.upto (s : _root_.Go.ChangeSpec) : _root_.Go.OpenSpec := { _root_.Go.OpenSpec.ofChange s with cond := some uptoSmall }

/-- 'spinetlaw10.CountTells', WHERE WHAT IT READS IS OF BULK AT MOST 1048576: true; the input reads as it did. -/
def countTellsUptoRow : OpenClaim := { program := "ytammpmfhflnbhaa", sum := "3e9b6e1c8a5c843b8fb616d4ef30ab1c9ac15df512b5401716f9f6648466f18d", func := "spinet/spinetlaw10.CountTells", spec := "countTells", recurses := true, plainKeys := false, apart := false, narrowed := true }
def CountTellsUptoSaid : Prop := countTellsUptoRow.holds Try.pinned (OpenSpec.upto countTellsSpec)

/-- 'spinetlaw10.CountLists', WHERE WHAT IT READS IS OF BULK AT MOST 1048576: true; the input reads as it did. -/
def countListsUptoRow : OpenClaim := { program := "ytammpmfhflnbhaa", sum := "3e9b6e1c8a5c843b8fb616d4ef30ab1c9ac15df512b5401716f9f6648466f18d", func := "spinet/spinetlaw10.CountLists", spec := "countLists", recurses := true, plainKeys := false, apart := false, narrowed := true }
def CountListsUptoSaid : Prop := countListsUptoRow.holds Try.pinned (OpenSpec.upto countListsSpec)

/-- 'spinetlaw10.CountBooks', WHERE WHAT IT READS IS OF BULK AT MOST 1048576: true; the input reads as it did. -/
def countBooksUptoRow : OpenClaim := { program := "ytammpmfhflnbhaa", sum := "3e9b6e1c8a5c843b8fb616d4ef30ab1c9ac15df512b5401716f9f6648466f18d", func := "spinet/spinetlaw10.CountBooks", spec := "countBooks", recurses := true, plainKeys := false, apart := false, narrowed := true }
def CountBooksUptoSaid : Prop := countBooksUptoRow.holds Try.pinned (OpenSpec.upto countBooksSpec)

/-- 'spinetlaw10.CountGrows', WHERE WHAT IT READS IS OF BULK AT MOST 1048576: true; the input reads as it did. -/
def countGrowsUptoRow : OpenClaim := { program := "ytammpmfhflnbhaa", sum := "3e9b6e1c8a5c843b8fb616d4ef30ab1c9ac15df512b5401716f9f6648466f18d", func := "spinet/spinetlaw10.CountGrows", spec := "countGrows", recurses := true, plainKeys := false, apart := false, narrowed := true }
def CountGrowsUptoSaid : Prop := countGrowsUptoRow.holds Try.pinned (OpenSpec.upto countGrowsSpec)

/-- 'spinetlaw10.CountNotes', WHERE WHAT IT READS IS OF BULK AT MOST 1048576: true; the input reads as it did. -/
def countNotesUptoRow : OpenClaim := { program := "ytammpmfhflnbhaa", sum := "3e9b6e1c8a5c843b8fb616d4ef30ab1c9ac15df512b5401716f9f6648466f18d", func := "spinet/spinetlaw10.CountNotes", spec := "countNotes", recurses := true, plainKeys := false, apart := false, narrowed := true }
def CountNotesUptoSaid : Prop := countNotesUptoRow.holds Try.pinned (OpenSpec.upto countNotesSpec)

end Rows
end Go.Proofs.Ytammpmfhflnbhaa
