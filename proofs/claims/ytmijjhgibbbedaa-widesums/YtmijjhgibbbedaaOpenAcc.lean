/-
  How a wide number that is handed in is opened: two words, so a whole number of 128 bits with a sign. No condition.
-/
import Derived.Test.YtmijjhgibbbedaaWideMath
import Derived.Test.YtmijjhgibbbedaaRows
import Derived.WalkKit
import Derived.ProofKit
import Derived.OpenShut
import Derived.Lib.SmallJoins
namespace Go.Proofs.Ytmijjhgibbbedaa
set_option linter.unusedVariables false
open Go.ChangeShapes Go.WideShapes Go.ChangeAt Go.RowKit Go.Joins

theorem acc_cells : Try.prog.cellsOf 24 = 2 := by kernel_rfl

theorem open_acc {H : Type} {enc : TypeId × Value → H} {W : World} {r : Reach} {base b0 : Nat} {spare : Nat → Bool} {held : Bool} {v : Value} {d : DataW H} {ps : List MemPlace} (hval : Value.okWide Try.prog W r base 24 v)
    (hd : DataW.Trod enc Try.prog W b0 spare held 24 v d ps) : ∃ a : Int, -170141183460469231731687303715884105728 ≤ a ∧ a < 170141183460469231731687303715884105728 ∧ v = (.agg #[.int .i64 (hiW a), .int .u64 (loW a)]) := by
  obtain ⟨c0, c1, y0, y1, m, rfl, rfl, rfl, hy0, hy1⟩ := open_agg2 Try.underlying24 (by kernel_rfl) acc_cells hval hd
  obtain ⟨h, e0, _, wh⟩ := DataW.trod_int Try.underlying2 hy0
  obtain ⟨l, e1, _, wl⟩ := DataW.trod_int Try.underlying22 hy1
  simp at e0 e1
  subst e0 e1
  have b0 := bounds_i64 wh
  have b1 := bounds_u64 wl
  refine ⟨h * 18446744073709551616 + l, by omega, by omega, ?_⟩
  rw [hiW_of b0.1 b0.2 b1.1 b1.2, loW_of b1.1 b1.2]
end Go.Proofs.Ytmijjhgibbbedaa
