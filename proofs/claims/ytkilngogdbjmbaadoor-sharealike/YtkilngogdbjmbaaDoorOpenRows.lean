/-
  How a list of structs of integers that is handed in is opened: each one's cells, one behind the other, are numbers of the fields' kinds. No condition; no program.
-/
import Derived.WalkKit
import Derived.ProofKit
import Derived.OpenShut
import Derived.Below
import Derived.Deep.Slices
import Derived.Deep.SlicePairs
namespace Go.Proofs.YtkilngogdbjmbaaDoor
set_option linter.unusedVariables false
open Go.ChangeShapes Go.WideShapes Go.ChangeAt Go.RowKit Go.Deep

section
variable {H : Type} {enc : TypeId × Value → H} {P : Program} {w : World} {base : Nat} {spare : Nat → Bool} {held : Bool}

/-- Fields that are integers of these kinds, one cell each. -/
def IntFields (P : Program) (fs : Array Field) (ks : List IntKind) : Prop := fs.size = ks.length ∧ ∀ (j : Nat) (k : IntKind), ks[j]? = some k → ∃ f, fs[j]? = some f ∧ f.offset = j ∧ P.underlying f.type = some (.int k) ∧ P.cellsOf f.type = 1

theorem struct_ints {e : TypeId} {fs : Array Field} {ks : List IntKind} (he : P.underlying e = some (.struct fs)) (hf : IntFields P fs ks) {n : Nat} {cs : List Value} {x : DataW H × List MemPlace} (h : DataW.trod enc P w base spare held n e cs = some x) :
    ∃ zs : Nat → Int, ∀ (j : Nat) (k : IntKind), ks[j]? = some k → cs[j]? = some (.int k (zs j)) ∧ (Lit.int k (zs j)).wf = true := by
  obtain ⟨xs, m, _, _, hl, hlen, hx⟩ := DataW.trod_struct he h
  have each : ∀ j, j < ks.length → ∃ z : Int, ∀ k, ks[j]? = some k → cs[j]? = some (.int k z) ∧ (Lit.int k z).wf = true := by
    intro j hj
    obtain ⟨k, hk⟩ : ∃ k, ks[j]? = some k := ⟨ks[j], List.getElem?_eq_getElem hj⟩
    obtain ⟨f, h1, h2, h3, h4⟩ := hf.2 j k hk
    have h5 := hx j f h1
    have hj' : j < xs.length := by rw [hlen, hf.1]; exact hj
    rw [List.getElem?_eq_getElem hj'] at h5
    obtain ⟨a, ha, _, wa⟩ := DataW.trod_int h3 h5
    refine ⟨a, fun k' hk' => ?_⟩
    obtain rfl : k = k' := Option.some.inj (hk.symm.trans hk')
    refine ⟨?_, wa⟩
    rw [h2, h4] at ha
    have h6 : ((cs.drop j).take 1)[0]? = some (.int k a) := by rw [ha]; rfl
    rw [List.getElem?_take, if_pos (by decide), List.getElem?_drop, Nat.add_zero] at h6
    exact h6
  obtain ⟨zs, hz⟩ := choose_lt each
  refine ⟨zs, fun j k hk => hz j ?_ k hk⟩
  exact (List.getElem?_eq_some_iff.1 hk).1

/-- n structs of these kinds of integers lie at this address (where there is one of them at all). -/
def RowsAt (w : World) (ao : Option Addr) (n : Nat) (ks : List IntKind) (f : Nat → Nat → Int) : Prop :=
  ∀ i, i < n → ∃ b off, ao = some ⟨b, off, none⟩ ∧ ∀ (j : Nat) (k : IntKind), ks[j]? = some k → w.cell? ⟨b, off + (i * ks.length + j), none⟩ = some (.int k (f i j)) ∧ (Lit.int k (f i j)).wf = true
theorem RowsAt.below {w w' : World} {ao : Option Addr} {n : Nat} {ks : List IntKind} {f : Nat → Nat → Int} (h : RowsAt w ao n ks f) (hb : Below w.heap.size w w') : RowsAt w' ao n ks f := by
  intro i hi
  obtain ⟨b, off, h1, h2⟩ := h i hi
  refine ⟨b, off, h1, fun j k hk => ?_⟩
  obtain ⟨h3, h4⟩ := h2 j k hk
  exact ⟨by rw [hb.cell (block_lt_of_cell h3)]; exact h3, h4⟩

theorem open_rows {r : Reach} {b0 : Nat} {t e : TypeId} {fs : Array Field} {ks : List IntKind} {v : Value} {d : DataW H} {ps : List MemPlace} (ht : P.underlying t = some (.slice e)) (he : P.underlying e = some (.struct fs)) (hf : IntFields P fs ks) (h0 : 0 < ks.length) (ce : P.cellsOf e = ks.length)
    (hval : Value.okWide P w r b0 t v) (hd : DataW.Trod enc P w base (fun _ => true) held t v d ps) :
    ∃ (ao : Option Addr) (n cap : Nat) (f : Nat → Nat → Int), v = .slice ao n cap ∧ n ≤ cap ∧ cap ≤ maxLen ∧ RowsAt w ao n ks f := by
  obtain ⟨a0, len, cap, rfl⟩ := okWide_slice ht hval
  obtain ⟨fuel, hfu⟩ := hd
  rcases open_slice ht hfu with ⟨hcs, _⟩ | ⟨a, len', cap', m, n, D, Pl, hcs, _, hl, hm, hmm, _, hx⟩
  · simp [Value.cells] at hcs
    obtain ⟨rfl, rfl, rfl⟩ := hcs
    exact ⟨none, 0, 0, fun _ _ => 0, rfl, Nat.le_refl _, Nat.zero_le _, fun j hj => by omega⟩
  · simp [Value.cells] at hcs
    obtain ⟨rfl, rfl, rfl⟩ := hcs
    simp only [if_true] at hmm
    subst hmm
    have each : ∀ i, i < m → ∃ q : Nat → Int, ∀ (j : Nat) (k : IntKind), ks[j]? = some k → w.cell? (a.add (i * ks.length + j)) = some (.int k (q j)) ∧ (Lit.int k (q j)).wf = true := by
      intro i hi
      obtain ⟨cs', h1, h2⟩ := hx i hi
      rw [ce] at h1
      obtain ⟨_, hlen, hcell⟩ := World.cells?_some h1
      obtain ⟨zs, hz⟩ := struct_ints he hf h2
      refine ⟨zs, fun j k hk => ⟨?_, (hz j k hk).2⟩⟩
      have hj : j < cs'.length := by rw [hlen]; exact (List.getElem?_eq_some_iff.1 hk).1
      have e0 := hcell j (by rw [← hlen]; exact hj)
      rw [add_add] at e0
      rw [e0]
      exact (hz j k hk).1
    obtain ⟨q, hq⟩ := choose_lt each
    by_cases hm0 : m = 0
    · subst hm0
      have : len = 0 := by omega
      subst this
      exact ⟨some a, 0, 0, fun _ _ => 0, rfl, Nat.le_refl _, Nat.zero_le _, fun j hj => by omega⟩
    · obtain ⟨b, off, spot⟩ := a
      obtain ⟨k0, hk0⟩ : ∃ k, ks[0]? = some k := ⟨ks[0], List.getElem?_eq_getElem h0⟩
      have h1 := (hq 0 (by omega) 0 k0 hk0).1
      have hspot : spot = none := by simpa [Addr.add] using World.cell?_spot h1
      subst hspot
      refine ⟨_, len, m, q, rfl, hl, hm, fun i hi => ⟨b, off, rfl, fun j k hk => ?_⟩⟩
      rw [← add_plain]
      exact hq i (by omega) j k hk
end
end Go.Proofs.YtkilngogdbjmbaaDoor
