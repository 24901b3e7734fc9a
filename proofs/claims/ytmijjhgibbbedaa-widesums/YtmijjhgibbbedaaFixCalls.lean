/-
  What each function of package fix answers, as a function on whole numbers: contracts for every input of its types (integer arguments within their kinds).
-/
import Derived.Test.YtmijjhgibbbedaaFixMath
import Derived.Test.YtmijjhgibbbedaaRows
import Derived.ProofKit
import Derived.OpenShut
import Derived.WalkSpells
import Derived.Handy
import Derived.WalkLawsBesides
namespace Go.Proofs.Ytmijjhgibbbedaa
set_option linter.unusedVariables false
open Go.ChangeShapes Go.WideShapes Go.ChangeAt Go.RowKit

theorem ret_int {k : IntKind} {a b : Int} (h : a = b) : Ending.returned (.int k a) = .returned (.int k b) := by rw [h]

set_option maxHeartbeats 400000 in
theorem within_any (a b c : Int) (w : World) (h1 : 0 ≤ b) (h2 : b ≤ c) (h3 : c ≤ 64) :
    Calls Try.prog 40 #[.int .i64 a, .int .i64 b, .int .i64 c] w fun e w' => e = .returned (.int .u64 (clamp a b c)) ∧ w' = w := by
  by_cases ha : a < b
  · go_enter Try.func40, Try.ntmps40
    go_wp2
    go_ret
    exact ⟨ret_int (by unfold clamp; rw [if_pos ha]), rfl⟩
  · by_cases hc : c < a
    · go_enter Try.func40, Try.ntmps40
      go_wp2
      go_ret
      exact ⟨ret_int (by unfold clamp; rw [if_neg (by omega), if_pos hc]), rfl⟩
    · go_enter Try.func40, Try.ntmps40
      go_wp2
      go_ret
      exact ⟨ret_int (by unfold clamp; rw [if_neg (by omega), if_neg (by omega)]), rfl⟩

set_option maxHeartbeats 400000 in
theorem sat_any (a b : Int) (w : World) :
    Calls Try.prog 39 #[.int .i64 a, .int .i64 b] w fun e w' => e = .returned (.int .i64 (satF a b)) ∧ w' = w := by
  have hb := clamp_bd b 1 63 (by omega)
  have hp1 := p2_pos ((clamp b 1 63).toNat - 1)
  have hp2 := p2_62 (n := (clamp b 1 63).toNat - 1) (by omega)
  have E1 : Hid (wrap64 (p2 ((clamp b 1 63).toNat - 1)) = p2 ((clamp b 1 63).toNat - 1)) := IntWalk.wrap64_in _ (by omega)
  have E2 : Hid (wrap64 (-p2 ((clamp b 1 63).toNat - 1)) = -p2 ((clamp b 1 63).toNat - 1)) := IntWalk.wrap64_in _ (by omega)
  have E3 : Hid (wrap64 (p2 ((clamp b 1 63).toNat - 1) - 1) = p2 ((clamp b 1 63).toNat - 1) - 1) := IntWalk.wrap64_in _ (by omega)
  clear hp1 hp2
  go_enter Try.func39, Try.ntmps39
  go_wp2_with (go_at_call 40; refine (within_any _ _ _ _ (by omega) (by omega) (by omega)).mono ?_; rintro e w' ⟨rfl, rfl⟩)
  all_goals go_ret
  all_goals simp only [pow_is, E1.out, E2.out, E3.out] at *
  · exact ⟨ret_int (sat_lo ‹_›).symm, trivial⟩
  · exact ⟨ret_int (sat_hi ‹_› ‹_›).symm, trivial⟩
  · exact ⟨ret_int (sat_in ‹_› ‹_›).symm, trivial⟩
end Go.Proofs.Ytmijjhgibbbedaa
