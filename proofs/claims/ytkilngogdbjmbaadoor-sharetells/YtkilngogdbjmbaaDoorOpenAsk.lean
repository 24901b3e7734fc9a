/-
  How an ask of layer 14 (a mode, a trim and a budget) that is handed in is opened: four numbers. No condition.
-/
import Derived.Test.YtkilngogdbjmbaaDoorRows
import Derived.WalkKit
import Derived.ProofKit
import Derived.OpenShut
import Derived.Lib.SmallJoins
namespace Go.Proofs.YtkilngogdbjmbaaDoor
set_option linter.unusedVariables false
set_option maxRecDepth 100000
open Go.ChangeShapes Go.WideShapes Go.ChangeAt Go.RowKit Go.Joins

theorem open_ask {H : Type} {enc : TypeId × Value → H} {W : World} {r : Reach} {base b0 : Nat} {spare : Nat → Bool} {held : Bool} {v : Value} {d : DataW H} {ps : List MemPlace} (hval : Value.okWide Tryd.prog W r base 23 v)
    (hd : DataW.Trod enc Tryd.prog W b0 spare held 23 v d ps) : ∃ s c t n : Int, (Lit.int .i64 s).wf = true ∧ (Lit.int .i64 c).wf = true ∧ (Lit.int .i64 t).wf = true ∧ (Lit.int .i64 n).wf = true ∧ v = .agg #[.int .i64 s, .int .i64 c, .int .i64 t, .int .i64 n] := by
  obtain ⟨c0, c1, c2, c3, y0, y1, y2, y3, m, rfl, rfl, rfl, hy0, hy1, hy2, hy3⟩ := open_agg4 Tryd.underlying23 (by kernel_rfl) (by kernel_rfl) hval hd
  obtain ⟨h0, e0, _, w0⟩ := DataW.trod_int Tryd.underlying3 hy0
  obtain ⟨h1, e1, _, w1⟩ := DataW.trod_int Tryd.underlying3 hy1
  obtain ⟨h2, e2, _, w2⟩ := DataW.trod_int Tryd.underlying3 hy2
  obtain ⟨h3, e3, _, w3⟩ := DataW.trod_int Tryd.underlying3 hy3
  simp at e0 e1 e2 e3
  subst e0 e1 e2 e3
  exact ⟨h0, h1, h2, h3, w0, w1, w2, w3, rfl⟩
end Go.Proofs.YtkilngogdbjmbaaDoor
