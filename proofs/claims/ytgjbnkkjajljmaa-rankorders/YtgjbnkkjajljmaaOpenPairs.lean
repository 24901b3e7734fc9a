/-
  How a list of arrays of two numbers of any kind that is handed in is opened. No condition; no program.
-/
import Derived.WalkKit
import Derived.ProofKit
import Derived.OpenShut
import Derived.Below
import Derived.Test.YtgjbnkkjajljmaaOpen
import Derived.Deep.Slices
import Derived.Deep.SlicePairs
namespace Go.Proofs.Ytgjbnkkjajljmaa
set_option linter.unusedVariables false
open Go.ChangeShapes Go.WideShapes Go.ChangeAt Go.RowKit Go.Deep

/-- A list of n pairs of numbers of a kind lies at this address (where there is one of them at all). -/
def PrsAt (w : World) (k : IntKind) (ao : Option Addr) (n : Nat) (f g : Nat → Int) : Prop :=
  ∀ i, i < n → ∃ b off, ao = some ⟨b, off, none⟩ ∧ w.cell? ⟨b, off + i * 2, none⟩ = some (.int k (f i)) ∧ w.cell? ⟨b, off + i * 2 + 1, none⟩ = some (.int k (g i))
theorem PrsAt.keep {w w' : World} {k : IntKind} {ao : Option Addr} {n : Nat} {f g : Nat → Int} (h : PrsAt w k ao n f g) (hb : Below w.heap.size w w') : PrsAt w' k ao n f g := by
  intro i hi
  obtain ⟨b, off, e, c0, c1⟩ := h i hi
  exact ⟨b, off, e, by rw [hb.cell (block_lt_of_cell c0)]; exact c0, by rw [hb.cell (block_lt_of_cell c1)]; exact c1⟩

theorem open_prs {H : Type} {enc : TypeId × Value → H} {P : Program} {W : World} {base : Nat} {held : Bool} {r : Reach} {b0 : Nat} {t e i : TypeId} {k : IntKind} {v : Value} {d : DataW H} {ps : List MemPlace} (ht : P.underlying t = some (.slice e)) (he : P.underlying e = some (.array 2 i)) (hi : P.underlying i = some (.int k)) (ce : P.cellsOf e = 2) (ci : P.cellsOf i = 1)
    (hval : Value.okWide P W r b0 t v) (hd : DataW.Trod enc P W base (fun _ => true) held t v d ps) :
    ∃ (ao : Option Addr) (n cap : Nat) (f g : Nat → Int), v = .slice ao n cap ∧ n ≤ cap ∧ cap ≤ maxLen ∧ PrsAt W k ao n f g ∧ ∀ j, j < n → (Lit.int k (f j)).wf = true ∧ (Lit.int k (g j)).wf = true := by
  obtain ⟨a0, len, cap, rfl⟩ := okWide_slice ht hval
  obtain ⟨fuel, hf⟩ := hd
  rcases open_slice ht hf with ⟨hcs, _⟩ | ⟨a, len', cap', m, n, D, Pl, hcs, _, hl, hm, hmm, _, hx⟩
  · simp [Value.cells] at hcs
    obtain ⟨rfl, rfl, rfl⟩ := hcs
    exact ⟨none, 0, 0, fun _ => 0, fun _ => 0, rfl, Nat.le_refl _, Nat.zero_le _, fun j hj => by omega, fun j hj => by omega⟩
  · simp [Value.cells] at hcs
    obtain ⟨rfl, rfl, rfl⟩ := hcs
    simp only [if_true] at hmm
    subst hmm
    have each : ∀ j, j < m → ∃ q : Int × Int, W.cell? (a.add (j * 2)) = some ((.int k q.1)) ∧ W.cell? (a.add (j * 2 + 1)) = some ((.int k q.2)) ∧ (Lit.int k q.1).wf = true ∧ (Lit.int k q.2).wf = true := by
      intro j hj
      obtain ⟨cs', h1, h2⟩ := hx j hj
      rw [ce] at h1
      obtain ⟨_, hlen, hcell⟩ := World.cells?_some h1
      obtain ⟨xs, m', _, _, _, hxl, hel⟩ := DataW.trod_array he h2
      obtain ⟨zs, hz, hc, hw⟩ := ints_of_cells (enc := enc) (w := W) (base := base) (spare := fun _ => true) (held := held) hi m' 2 cs' hlen (fun i0 hi0 => by
        have h := hel i0 hi0
        rw [ci, Nat.mul_one] at h
        refine ⟨xs[i0]'(by omega), ?_⟩
        rw [List.getElem?_eq_getElem (by omega)] at h
        simpa using h)
      match zs, hz with
      | [z0, z1], _ =>
        subst hc
        have e0 := hcell 0 (by simp)
        have e1 := hcell 1 (by simp)
        rw [add_add] at e0 e1
        exact ⟨(z0, z1), by simpa using e0, by simpa using e1, hw _ (by simp), hw _ (by simp)⟩
    obtain ⟨q, hq⟩ := choose_lt each
    by_cases h0 : m = 0
    · subst h0
      have : len = 0 := by omega
      subst this
      exact ⟨some a, 0, 0, fun _ => 0, fun _ => 0, rfl, Nat.le_refl _, Nat.zero_le _, fun j hj => by omega, fun j hj => by omega⟩
    · obtain ⟨b, off, spot⟩ := a
      have h1 := (hq 0 (by omega)).1
      have hspot : spot = none := by simpa [Addr.add] using World.cell?_spot h1
      subst hspot
      refine ⟨_, len, m, fun j => (q j).1, fun j => (q j).2, rfl, hl, hm, fun j hj => ⟨b, off, rfl, ?_, ?_⟩, fun j hj => (hq j (by omega)).2.2⟩
      · rw [← add_plain]; exact (hq j (by omega)).1
      · rw [Nat.add_assoc, ← add_plain]; exact (hq j (by omega)).2.1
end Go.Proofs.Ytgjbnkkjajljmaa
