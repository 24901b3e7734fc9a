/-
  How a list of arrays of five numbers that is handed in is opened. No condition; no program.
-/
import Derived.WalkKit
import Derived.ProofKit
import Derived.OpenShut
import Derived.Below
import Derived.Test.YtkilngogdbjmbaaDoorOpen
import Derived.Deep.Slices
import Derived.Deep.SlicePairs
namespace Go.Proofs.YtkilngogdbjmbaaDoor
set_option linter.unusedVariables false
open Go.ChangeShapes Go.WideShapes Go.ChangeAt Go.RowKit Go.Deep

theorem open_fives {H : Type} {enc : TypeId × Value → H} {P : Program} {W : World} {base : Nat} {held : Bool} {r : Reach} {b0 : Nat} {t e i : TypeId} {k : IntKind} {v : Value} {d : DataW H} {ps : List MemPlace} (ht : P.underlying t = some (.slice e)) (he : P.underlying e = some (.array 5 i)) (hi : P.underlying i = some (.int k)) (ce : P.cellsOf e = 5) (ci : P.cellsOf i = 1)
    (hval : Value.okWide P W r b0 t v) (hd : DataW.Trod enc P W base (fun _ => true) held t v d ps) :
    ∃ (ao : Option Addr) (n cap : Nat) (F : Nat → Nat → Int), v = .slice ao n cap ∧ n ≤ cap ∧ cap ≤ maxLen ∧ (ao = none → cap = 0) ∧ (∀ i, i < n → ∃ b off, ao = some ⟨b, off, none⟩ ∧ ∀ j, j < 5 → W.cell? ⟨b, off + i * 5 + j, none⟩ = some (.int k (F i j))) ∧ ∀ i, i < n → ∀ j, j < 5 → (Lit.int k (F i j)).wf = true := by
  obtain ⟨a0, len, cap, rfl⟩ := okWide_slice ht hval
  obtain ⟨fuel, hf⟩ := hd
  rcases open_slice ht hf with ⟨hcs, _⟩ | ⟨a, len', cap', m, n, D, Pl, hcs, _, hl, hm, hmm, _, hx⟩
  · simp [Value.cells] at hcs
    obtain ⟨rfl, rfl, rfl⟩ := hcs
    exact ⟨none, 0, 0, fun _ _ => 0, rfl, Nat.le_refl _, Nat.zero_le _, fun _ => rfl, fun j hj => by omega, fun j hj => by omega⟩
  · simp [Value.cells] at hcs
    obtain ⟨rfl, rfl, rfl⟩ := hcs
    simp only [if_true] at hmm
    subst hmm
    have each : ∀ j, j < m → ∃ q : Nat → Int, ∀ l, l < 5 → W.cell? (a.add (j * 5 + l)) = some (.int k (q l)) ∧ (Lit.int k (q l)).wf = true := by
      intro j hj
      obtain ⟨cs', h1, h2⟩ := hx j hj
      rw [ce] at h1
      obtain ⟨_, hlen, hcell⟩ := World.cells?_some h1
      obtain ⟨xs, m', _, _, _, hxl, hel⟩ := DataW.trod_array he h2
      obtain ⟨zs, hz, hc, hw⟩ := ints_of_cells (enc := enc) (w := W) (base := base) (spare := fun _ => true) (held := held) hi m' 5 cs' hlen (fun i0 hi0 => by
        have h := hel i0 hi0
        rw [ci, Nat.mul_one] at h
        refine ⟨xs[i0]'(by omega), ?_⟩
        rw [List.getElem?_eq_getElem (by omega)] at h
        simpa using h)
      refine ⟨fun l => zs.getD l 0, fun l hl => ?_⟩
      have e0 := hcell l (by omega)
      rw [add_add] at e0
      have hzl : l < zs.length := by omega
      have hg : zs.getD l 0 = zs[l] := by simp [List.getD, List.getElem?_eq_getElem hzl]
      show _ = some (Value.int k (zs.getD l 0)) ∧ (Lit.int k (zs.getD l 0)).wf = true
      rw [hg]
      refine ⟨?_, hw _ (List.getElem_mem hzl)⟩
      rw [e0, hc]
      simp [List.getElem?_eq_getElem hzl]
    obtain ⟨q, hq⟩ := choose_lt each
    by_cases h0 : m = 0
    · subst h0
      have : len = 0 := by omega
      subst this
      exact ⟨some a, 0, 0, fun _ _ => 0, rfl, Nat.le_refl _, Nat.zero_le _, fun h => (by cases h), fun j hj => by omega, fun j hj => by omega⟩
    · obtain ⟨b, off, spot⟩ := a
      have h1 := (hq 0 (by omega) 0 (by omega)).1
      have hspot : spot = none := by simpa [Addr.add] using World.cell?_spot h1
      subst hspot
      refine ⟨_, len, m, q, rfl, hl, hm, fun h => (by cases h), fun j hj => ⟨b, off, rfl, fun l hl5 => ?_⟩, fun j hj l hl5 => (hq j (by omega) l hl5).2⟩
      rw [Nat.add_assoc, ← add_plain]; exact (hq j (by omega) l hl5).1
end Go.Proofs.YtkilngogdbjmbaaDoor
