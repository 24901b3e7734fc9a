/-
  What the document's own answer for layer 2 (spinetref02) gives for products, over eight digits; and that the document's example holds. Contracts for every input; nothing that was there is turned.
-/
import Derived.Test.YtmijjhgibbbedaaBigCalls3
import Derived.Test.YtmijjhgibbbedaaDigMath2
import Derived.Test.YtmijjhgibbbedaaRows
import Derived.ProofKit
import Derived.OpenShut
import Derived.WalkSpells
import Derived.Handy
import Derived.WalkLawsBesides
import Derived.Below
import Derived.Deep.QuietTactic
import Derived.BigQuiet
import Derived.WalkSmall
import Derived.Deep.RegionHeld3
import Derived.Lib.QuietBelow
namespace Go.Proofs.Ytmijjhgibbbedaa
set_option linter.unusedVariables false
open Go.ChangeShapes Go.WideShapes Go.ChangeAt Go.RowKit
open Go.Sort (grow)
attribute [local go_sem] cell?_gr frozen?_gr setCell_gr size_gr drew_gr drewN_gr redrawn_drew redrawn_drewN redrawn_redrawn gr_gr eql_acc neq_acc eql_big neq_big setCell_drewN alloc_drewN World.drewN_drewN


theorem row8_put (O : Nat → Int) {k : Nat} (h : k < 8) (v : Int) : (row8 O).setIfInBounds k (.int .i64 v) = row8 (putF O k v) := row8_set O h v
theorem row8_mul {a b : Int} {O : Nat → Int} (h : MulOut a b 8 O) : row8 O = #[.int .i64 (dg (a * b) 0), .int .i64 (dg (a * b) 1), .int .i64 (dg (a * b) 2), .int .i64 (dg (a * b) 3), .int .i64 (dg (a * b) 4), .int .i64 (dg (a * b) 5), .int .i64 (dg (a * b) 6), .int .i64 (dg (a * b) 7)] := by
  rw [row8_same (O' := dg (a * b)) (fun j hj => mul_done h hj)]; rfl

set_option maxHeartbeats 1000000 in
theorem rmul_row (a b : Int) (w : World) :
    Calls Try.prog 19 #[.agg (row8 (dg a)), .agg (row8 (dg b))] w fun e w' => e = .returned (.agg #[.int .i64 (dg (a * b) 0), .int .i64 (dg (a * b) 1), .int .i64 (dg (a * b) 2), .int .i64 (dg (a * b) 3), .int .i64 (dg (a * b) 4), .int .i64 (dg (a * b) 5), .int .i64 (dg (a * b) 6), .int .i64 (dg (a * b) 7)]) ∧ Below w.heap.size w w' := by
  go_enter Try.func19, Try.ntmps19
  go_wp2
  go_loopw [6] (fun i wr => ∃ (i' d : Nat) (os : Array Obj) (O : Nat → Int), i' ≤ 8 ∧ i = .int .i64 i' ∧ MulOut a b i' O ∧ wr = grow (redrawn ((((w.alloc (.cells (row8 (dg a)) 27)).alloc (.cells (row8 (dg b)) 27)).alloc (.cells #[.int .i64 0, .int .i64 0, .int .i64 0, .int .i64 0, .int .i64 0, .int .i64 0, .int .i64 0, .int .i64 0] 27)).alloc (.cells (row8 O) 27)) d) os)
    (fun i _ => 8 - (intOf i).toNat)
  case atStart => exact ⟨0, w.drawn, #[], fun _ => 0, by omega, rfl, mul_start a b, (Sort.grow_empty _).symm⟩
  case round =>
    obtain ⟨i, d, os, O, hi, rfl, hO, rfl⟩ := hrel
    by_cases hi8 : i < 8
    · have hca : (row8 (dg a))[i]? = some (.int .i64 (dg a i)) := row8_at _ hi8
      have hda := dg_bd a i
      go_wp2
      go_loopw [7, 8] (fun c k wr => ∃ (k' d : Nat) (os : Array Obj) (O : Nat → Int) (c' : Int), i + k' ≤ 8 ∧ k = .int .i64 k' ∧ c = .int .i64 c' ∧ MulIn a b i k' O c' ∧ wr = grow (redrawn ((((w.alloc (.cells (row8 (dg a)) 27)).alloc (.cells (row8 (dg b)) 27)).alloc (.cells #[.int .i64 0, .int .i64 0, .int .i64 0, .int .i64 0, .int .i64 0, .int .i64 0, .int .i64 0, .int .i64 0] 27)).alloc (.cells (row8 O) 27)) d) os)
        (fun _ k _ => 8 - (intOf k).toNat)
      case atStart => exact ⟨0, d, os, O, 0, by omega, rfl, rfl, mul_enter hO, rfl⟩
      case round =>
        obtain ⟨k, d, os, O, c, hk, rfl, rfl, hI, rfl⟩ := hrel
        clear hO
        have hb := mulIn_bd hI
        have hp := dgs_bd a b i k
        by_cases hk8 : i + k < 8
        · have hcb : (row8 (dg b))[k]? = some (.int .i64 (dg b k)) := row8_at _ (by omega)
          have hco : (row8 O)[i + k]? = some (.int .i64 (O (i + k))) := row8_at _ hk8
          have hS := mul_step hI hk8
          have F : Hid _ := row8_put O hk8 ((O (i + k) + dg a i * dg b k + c) % 65536)
          clear hI
          go_wp2
          go_quiet (fail)
          go_wp2
          go_roundw
          case rel => exact ⟨k + 1, _, _, _, _, by omega, by go_num, rfl, hS, by rw [← F.out]⟩
          case measure => simp [intOf]; omega
        · have hL := mul_leave hI (by omega)
          clear hI
          go_wp2
          go_roundw
          case rel => exact ⟨i + 1, _, _, _, by omega, by go_num, hL, rfl⟩
          case measure => simp [intOf]; omega
    · have e : i = 8 := by omega
      subst e
      rw [row8_mul hO]
      go_wp2
      go_returns
      refine ⟨rfl, below_gr (by go_grown) (by go_size) _ _⟩

theorem rmul_any (a b : Int) (w : World) :
    Calls Try.prog 19 #[(.agg #[.int .i64 (dg a 0), .int .i64 (dg a 1), .int .i64 (dg a 2), .int .i64 (dg a 3), .int .i64 (dg a 4), .int .i64 (dg a 5), .int .i64 (dg a 6), .int .i64 (dg a 7)]), (.agg #[.int .i64 (dg b 0), .int .i64 (dg b 1), .int .i64 (dg b 2), .int .i64 (dg b 3), .int .i64 (dg b 4), .int .i64 (dg b 5), .int .i64 (dg b 6), .int .i64 (dg b 7)])] w fun e w' => e = .returned (.agg #[.int .i64 (dg (a * b) 0), .int .i64 (dg (a * b) 1), .int .i64 (dg (a * b) 2), .int .i64 (dg (a * b) 3), .int .i64 (dg (a * b) 4), .int .i64 (dg (a * b) 5), .int .i64 (dg (a * b) 6), .int .i64 (dg (a * b) 7)]) ∧ Below w.heap.size w w' := rmul_row a b w

set_option maxHeartbeats 400000 in
theorem awake_w (w : World) : Calls Try.prog 9 #[] w fun e w' => e = .returned (.bool true) ∧ Below w.heap.size w w' := by
  have E1 : Hid (hiW (-1 * 1) = -1) := by show _ = _; unfold hiW; omega
  have E2 : Hid (loW (-1 * 1) = 18446744073709551615) := by show _ = _; unfold loW; omega
  go_enter Try.func9, Try.ntmps9
  go_wp2_with fail
  refine (mul_any _ _ _ (by omega) (by omega) (by omega) (by omega)).mono ?_
  rintro e w1 ⟨rfl, hb⟩; obtain ⟨d1, os1, rfl⟩ := more_of hb
  rw [E1.out, E2.out]
  go_wp2
  go_ret
  exact ⟨rfl, below_gr (by go_grown) (by go_size) _ _⟩
end Go.Proofs.Ytmijjhgibbbedaa
