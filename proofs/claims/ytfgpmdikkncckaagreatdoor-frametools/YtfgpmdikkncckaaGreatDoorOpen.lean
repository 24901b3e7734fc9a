/-
  How arguments by value are opened: an array of integers is a list of numbers, each fitting its kind. No condition; no program.
-/
import Derived.WalkKit
import Derived.ProofKit
import Derived.OpenShut
import Derived.Below
namespace Go.Proofs.YtfgpmdikkncckaaGreatDoor
set_option linter.unusedVariables false
open Go.ChangeShapes Go.WideShapes Go.ChangeAt Go.RowKit

section
variable {H : Type} {enc : TypeId × Value → H} {P : Program} {w : World} {base : Nat} {spare : Nat → Bool} {held : Bool}

theorem okWide_arr {r : Reach} {b0 : Nat} {t e : TypeId} {n : Nat} {v : Value} (ht : P.underlying t = some (.array n e)) (h : Value.okWide P w r b0 t v) : ∃ cs, v = .agg cs ∧ cs.size = P.cellsOf t := by
  simp only [Value.okWide, ht] at h
  obtain ⟨cs, h1, h2, _⟩ := h
  exact ⟨cs, h1, h2⟩

theorem ints_of_cells {e : TypeId} {k : IntKind} (he : P.underlying e = some (.int k)) (m : Nat) :
    ∀ (n : Nat) (cs : List Value), cs.length = n → (∀ i, i < n → ∃ x, DataW.trod enc P w base spare held m e ((cs.drop i).take 1) = some x) →
      ∃ zs : List Int, zs.length = n ∧ cs = zs.map (Value.int k) ∧ ∀ z ∈ zs, (Lit.int k z).wf = true
  | 0, cs, hl, _ => ⟨[], rfl, by simpa using hl, by simp⟩
  | n + 1, cs, hl, h => by
    cases cs with
    | nil => simp at hl
    | cons c cs =>
      obtain ⟨x, hx⟩ := h 0 (by omega)
      obtain ⟨a, ha, _, wa⟩ := DataW.trod_int he hx
      simp at ha
      obtain ⟨zs, hz, hc, hw⟩ := ints_of_cells he m n cs (by simpa using hl) (fun i hi => by
        obtain ⟨y, hy⟩ := h (i + 1) (by omega)
        exact ⟨y, by simpa using hy⟩)
      refine ⟨a :: zs, by simp [hz], by rw [ha, hc]; rfl, ?_⟩
      intro z hz'
      rcases List.mem_cons.1 hz' with rfl | h'
      · exact wa
      · exact hw z h'

theorem open_arr {r : Reach} {b0 : Nat} {t e : TypeId} {n : Nat} {k : IntKind} {v : Value} {d : DataW H} {ps : List MemPlace} (ht : P.underlying t = some (.array n e)) (he : P.underlying e = some (.int k)) (hce : P.cellsOf e = 1) (hct : P.cellsOf t = n)
    (hval : Value.okWide P w r b0 t v) (hd : DataW.Trod enc P w base spare held t v d ps) :
    ∃ zs : List Int, zs.length = n ∧ v = .agg (zs.map (Value.int k)).toArray ∧ ∀ z ∈ zs, (Lit.int k z).wf = true := by
  obtain ⟨cs, rfl, hsz⟩ := okWide_arr ht hval
  obtain ⟨fuel, hf⟩ := hd
  obtain ⟨xs, m, _, _, _, hl, hel⟩ := DataW.trod_array ht hf
  obtain ⟨zs, hz, hc, hw⟩ := ints_of_cells (enc := enc) (w := w) (base := base) (spare := spare) (held := held) he m n cs.toList (by simp [hsz, hct]) (fun i hi => by
    have h := hel i hi
    rw [hce, Nat.mul_one] at h
    refine ⟨xs[i]'(by omega), ?_⟩
    rw [List.getElem?_eq_getElem (by omega)] at h
    simpa [Value.cells] using h)
  exact ⟨zs, hz, by rw [← hc], hw⟩
end
end Go.Proofs.YtfgpmdikkncckaaGreatDoor
