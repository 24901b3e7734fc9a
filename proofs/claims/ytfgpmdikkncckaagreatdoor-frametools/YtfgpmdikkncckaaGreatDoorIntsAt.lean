/-
  Lists of integers in memory: where they lie, and how one that is handed in is opened. No condition; no program.
-/
import Derived.WalkKit
import Derived.ProofKit
import Derived.OpenShut
import Derived.Below
namespace Go.Proofs.YtfgpmdikkncckaaGreatDoor
set_option linter.unusedVariables false
open Go.ChangeShapes Go.WideShapes Go.ChangeAt Go.RowKit

/-- A list of n integers lies at this address (where there is one of them at all). -/
def IntsAt (w : World) (ao : Option Addr) (n : Nat) (k : IntKind) (f : Nat → Int) : Prop :=
  ∀ i, i < n → ∃ b off, ao = some ⟨b, off, none⟩ ∧ w.cell? ⟨b, off + i, none⟩ = some (.int k (f i))

theorem IntsAt.below {w w' : World} {ao : Option Addr} {n : Nat} {k : IntKind} {f : Nat → Int} (h : IntsAt w ao n k f) (hb : Below w.heap.size w w') : IntsAt w' ao n k f := by
  intro i hi
  obtain ⟨b, off, h1, h2⟩ := h i hi
  exact ⟨b, off, h1, by rw [hb.cell (block_lt_of_cell h2)]; exact h2⟩
theorem IntsAt.less {w : World} {ao : Option Addr} {n m : Nat} {k : IntKind} {f : Nat → Int} (h : IntsAt w ao n k f) (hm : m ≤ n) : IntsAt w ao m k f :=
  fun i hi => h i (by omega)

section
variable {H : Type} {enc : TypeId × Value → H} {P : Program} {w : World} {base : Nat} {held : Bool}

theorem open_ints_at {r : Reach} {b0 : Nat} {t e : TypeId} {k : IntKind} {v : Value} {d : DataW H} {ps : List MemPlace} (ht : P.underlying t = some (.slice e)) (he : P.underlying e = some (.int k)) (hc : P.cellsOf e = 1)
    (hval : Value.okWide P w r b0 t v) (hd : DataW.Trod enc P w base (fun _ => true) held t v d ps) :
    ∃ (ao : Option Addr) (n cap : Nat) (f : Nat → Int), v = .slice ao n cap ∧ n ≤ cap ∧ cap ≤ 9223372036854775807 ∧ IntsAt w ao n k f ∧ ∀ i, i < n → (Lit.int k (f i)).wf = true := by
  obtain ⟨a0, len, cap, rfl⟩ := okWide_slice ht hval
  obtain ⟨fuel, hf⟩ := hd
  rcases open_ints ht he hc hf with ⟨hcs, hx⟩ | ⟨a, len', cap', zs, hcs, _, hl, hm, hz, hx, hcell, hwz⟩
  · simp [Value.cells] at hcs
    obtain ⟨rfl, rfl, rfl⟩ := hcs
    exact ⟨none, 0, 0, fun _ => 0, rfl, by omega, by omega, fun i hi => by omega, fun i hi => by omega⟩
  · simp [Value.cells] at hcs
    obtain ⟨rfl, rfl, rfl⟩ := hcs
    simp only [if_true] at hz
    refine ⟨some a, len, cap, fun i => zs.getD i 0, rfl, hl, hm, fun i hi => ?_, fun i hi => ?_⟩
    · obtain ⟨b, off, rfl, h⟩ := ints_at hcell (by omega)
      exact ⟨b, off, rfl, h i (by omega)⟩
    · refine hwz _ ?_
      show zs.getD i 0 ∈ zs
      rw [List.getD_eq_getElem?_getD, List.getElem?_eq_getElem (by omega)]
      exact List.getElem_mem _
end
end Go.Proofs.YtfgpmdikkncckaaGreatDoor
