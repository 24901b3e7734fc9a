/-
  Lists of asks of layer 14 in memory, and how one that is handed in is opened. No condition.
-/
import Derived.Test.YtkilngogdbjmbaaDoorOpenRows
import Derived.Test.YtkilngogdbjmbaaDoorRows
namespace Go.Proofs.YtkilngogdbjmbaaDoor
set_option linter.unusedVariables false
set_option maxRecDepth 100000
open Go.ChangeShapes Go.WideShapes Go.ChangeAt Go.RowKit Go.Deep

/-- A list of n asks lies at this address (where there is one of them at all). -/
def AksAt (w : World) (ao : Option Addr) (n : Nat) (G : Nat → Nat → Int) : Prop :=
  ∀ i, i < n → ∃ b off, ao = some ⟨b, off, none⟩ ∧ ∀ j, j < 4 → w.cell? ⟨b, off + i * 4 + j, none⟩ = some (.int .i64 (G i j))
theorem AksAt.below {w w' : World} {ao : Option Addr} {n : Nat} {G : Nat → Nat → Int} (h : AksAt w ao n G) (hb : Below w.heap.size w w') : AksAt w' ao n G := by
  intro i hi
  obtain ⟨b, off, e, c⟩ := h i hi
  exact ⟨b, off, e, fun j hj => by rw [hb.cell (block_lt_of_cell (c j hj))]; exact c j hj⟩
theorem open_aks {H : Type} {enc : TypeId × Value → H} {W : World} {r : Reach} {base b0 : Nat} {held : Bool} {v : Value} {d : DataW H} {ps : List MemPlace} (hval : Value.okWide Tryd.prog W r b0 34 v)
    (hd : DataW.Trod enc Tryd.prog W base (fun _ => true) held 34 v d ps) :
    ∃ (ao : Option Addr) (n cap : Nat) (G : Nat → Nat → Int), v = .slice ao n cap ∧ n ≤ cap ∧ cap ≤ maxLen ∧ AksAt W ao n G ∧ ∀ i, i < n → ∀ j, j < 4 → (Lit.int .i64 (G i j)).wf = true := by
  obtain ⟨ao, n, cap, f, h1, h2, h3, h4⟩ := open_rows (ks := [.i64, .i64, .i64, .i64]) Tryd.underlying34 Tryd.underlying23 ⟨rfl, fun j k hk => by
    match j, hk with
    | 0, hk => cases hk; exact ⟨_, rfl, rfl, Tryd.underlying3, by kernel_rfl⟩
    | 1, hk => cases hk; exact ⟨_, rfl, rfl, Tryd.underlying3, by kernel_rfl⟩
    | 2, hk => cases hk; exact ⟨_, rfl, rfl, Tryd.underlying3, by kernel_rfl⟩
    | 3, hk => cases hk; exact ⟨_, rfl, rfl, Tryd.underlying3, by kernel_rfl⟩
    | j + 4, hk => simp at hk⟩ (by decide) (by kernel_rfl) hval hd
  have hk : ∀ j, j < 4 → [IntKind.i64, .i64, .i64, .i64][j]? = some .i64 := fun j hj => by
    match j, hj with
    | 0, _ | 1, _ | 2, _ | 3, _ => rfl
  refine ⟨ao, n, cap, f, h1, h2, h3, fun i hi => ?_, fun i hi j hj => ?_⟩
  · obtain ⟨b, off, e, hc⟩ := h4 i hi
    refine ⟨b, off, e, fun j hj => ?_⟩
    have := (hc j .i64 (hk j hj)).1
    rwa [← Nat.add_assoc] at this
  · obtain ⟨b, off, e, hc⟩ := h4 i hi
    exact (hc j .i64 (hk j hj)).2
end Go.Proofs.YtkilngogdbjmbaaDoor
