/-
  How a pair that is handed in is opened: two numbers. No condition.
-/
import Derived.Test.YtammpmfhflnbhaaRows
import Derived.WalkKit
import Derived.ProofKit
import Derived.OpenShut
import Derived.Lib.SmallJoins
namespace Go.Proofs.Ytammpmfhflnbhaa
set_option linter.unusedVariables false
open Go.ChangeShapes Go.WideShapes Go.ChangeAt Go.RowKit Go.Joins

theorem open_pair {H : Type} {enc : TypeId × Value → H} {W : World} {r : Reach} {base b0 : Nat} {spare : Nat → Bool} {held : Bool} {v : Value} {d : DataW H} {ps : List MemPlace} (hval : Value.okWide Try.prog W r base 35 v)
    (hd : DataW.Trod enc Try.prog W b0 spare held 35 v d ps) : ∃ n k : Int, (Lit.int .i64 n).wf = true ∧ (Lit.int .i64 k).wf = true ∧ v = (.agg #[.int .i64 (n), .int .i64 (k)]) := by
  obtain ⟨c0, c1, y0, y1, m, rfl, rfl, rfl, hy0, hy1⟩ := open_agg2 Try.underlying35 (by kernel_rfl) (by kernel_rfl) hval hd
  obtain ⟨h, e0, _, wh⟩ := DataW.trod_int Try.underlying3 hy0
  obtain ⟨l, e1, _, wl⟩ := DataW.trod_int Try.underlying3 hy1
  simp at e0 e1
  subst e0 e1
  exact ⟨h, l, wh, wl, rfl⟩
end Go.Proofs.Ytammpmfhflnbhaa
