/-
  What the document's own answer for layer 2 (spinetref02) gives for two words, sums, opposites and signs, over eight digits; and what the laws' own helpers give. Contracts for every input; nothing that was there is turned.
-/
import Derived.Test.YtmijjhgibbbedaaWideCalls2
import Derived.Test.YtmijjhgibbbedaaDigMath
import Derived.Test.YtmijjhgibbbedaaRows
import Derived.ProofKit
import Derived.OpenShut
import Derived.WalkSpells
import Derived.Handy
import Derived.WalkLawsBesides
import Derived.Below
import Derived.Deep.QuietTactic
import Derived.BigQuiet
import Derived.WalkSmall
import Derived.Deep.RegionHeld3
import Derived.Lib.QuietBelow
namespace Go.Proofs.Ytmijjhgibbbedaa
set_option linter.unusedVariables false
open Go.ChangeShapes Go.WideShapes Go.ChangeAt Go.RowKit
open Go.Sort (grow)
attribute [local go_sem] cell?_gr frozen?_gr setCell_gr size_gr drew_gr drewN_gr redrawn_drew redrawn_drewN redrawn_redrawn gr_gr eql_acc neq_acc eql_big neq_big

theorem setCell_drewN (W : World) (n : Nat) (a : Addr) (v : Value) : (W.drewN n).setCell a v = (W.setCell a v).drewN n := rfl
theorem alloc_drewN (W : World) (n : Nat) (o : Obj) : (W.drewN n).alloc o = (W.alloc o).drewN n := rfl
attribute [local go_sem] setCell_drewN alloc_drewN World.drewN_drewN

theorem ret_digs {n a0 a1 a2 a3 a4 a5 a6 a7 : Int} (h : Digs n a0 a1 a2 a3 a4 a5 a6 a7) : Ending.returned (.agg #[.int .i64 a0, .int .i64 a1, .int .i64 a2, .int .i64 a3, .int .i64 a4, .int .i64 a5, .int .i64 a6, .int .i64 a7]) = .returned (.agg #[.int .i64 (dg n 0), .int .i64 (dg n 1), .int .i64 (dg n 2), .int .i64 (dg n 3), .int .i64 (dg n 4), .int .i64 (dg n 5), .int .i64 (dg n 6), .int .i64 (dg n 7)]) := by
  obtain ⟨rfl, rfl, rfl, rfl, rfl, rfl, rfl, rfl⟩ := h
  rfl
theorem digs_bd {n a0 a1 a2 a3 a4 a5 a6 a7 : Int} (h : Digs n a0 a1 a2 a3 a4 a5 a6 a7) : (0 ≤ a0 ∧ a0 ≤ 65535) ∧ (0 ≤ a1 ∧ a1 ≤ 65535) ∧ (0 ≤ a2 ∧ a2 ≤ 65535) ∧ (0 ≤ a3 ∧ a3 ≤ 65535) ∧ (0 ≤ a4 ∧ a4 ≤ 65535) ∧ (0 ≤ a5 ∧ a5 ≤ 65535) ∧ (0 ≤ a6 ∧ a6 ≤ 65535) ∧ (0 ≤ a7 ∧ a7 ≤ 65535) := by
  obtain ⟨rfl, rfl, rfl, rfl, rfl, rfl, rfl, rfl⟩ := h
  exact ⟨dg_bd _ _, dg_bd _ _, dg_bd _ _, dg_bd _ _, dg_bd _ _, dg_bd _ _, dg_bd _ _, dg_bd _ _⟩

set_option maxHeartbeats 800000 in
theorem put_any (h l : Int) (w : World) (h1 : -9223372036854775808 ≤ h) (h2 : h ≤ 9223372036854775807) (h3 : 0 ≤ l) (h4 : l ≤ 18446744073709551615) :
    Calls Try.prog 33 #[.int .i64 h, .int .u64 l] w fun e w' => e = .returned (.agg #[.int .i64 (dg (h * 18446744073709551616 + l) 0), .int .i64 (dg (h * 18446744073709551616 + l) 1), .int .i64 (dg (h * 18446744073709551616 + l) 2), .int .i64 (dg (h * 18446744073709551616 + l) 3), .int .i64 (dg (h * 18446744073709551616 + l) 4), .int .i64 (dg (h * 18446744073709551616 + l) 5), .int .i64 (dg (h * 18446744073709551616 + l) 6), .int .i64 (dg (h * 18446744073709551616 + l) 7)]) ∧ Below w.heap.size w w' := by
  have hu : 0 ≤ IntKind.u64.wrap h ∧ IntKind.u64.wrap h ≤ 18446744073709551615 := by rw [IntKind.wrap_u64]; omega
  have F : Hid _ := put_digs (h := h) h3 h4 (IntKind.wrap_u64 h)
  go_enter Try.func33, Try.ntmps33
  go_wp2
  go_rounds 5
  go_returns
  exact ⟨ret_digs F.out, by go_grown⟩

set_option maxHeartbeats 1000000 in
theorem add_gen (a b a0 a1 a2 a3 a4 a5 a6 a7 b0 b1 b2 b3 b4 b5 b6 b7 : Int) (w : World) (ha : Hid (Digs a a0 a1 a2 a3 a4 a5 a6 a7)) (hb : Hid (Digs b b0 b1 b2 b3 b4 b5 b6 b7)) :
    Calls Try.prog 12 #[.agg #[.int .i64 a0, .int .i64 a1, .int .i64 a2, .int .i64 a3, .int .i64 a4, .int .i64 a5, .int .i64 a6, .int .i64 a7], .agg #[.int .i64 b0, .int .i64 b1, .int .i64 b2, .int .i64 b3, .int .i64 b4, .int .i64 b5, .int .i64 b6, .int .i64 b7]] w fun e w' => e = .returned (.agg #[.int .i64 (dg (a + b) 0), .int .i64 (dg (a + b) 1), .int .i64 (dg (a + b) 2), .int .i64 (dg (a + b) 3), .int .i64 (dg (a + b) 4), .int .i64 (dg (a + b) 5), .int .i64 (dg (a + b) 6), .int .i64 (dg (a + b) 7)]) ∧ Below w.heap.size w w' := by
  obtain ⟨ha0, ha1, ha2, ha3, ha4, ha5, ha6, ha7⟩ := digs_bd ha.out
  obtain ⟨hb0, hb1, hb2, hb3, hb4, hb5, hb6, hb7⟩ := digs_bd hb.out
  have F : Hid _ := add_digs ha.out hb.out
  clear ha hb
  go_enter Try.func12, Try.ntmps12
  go_wp2
  refine wp_loop_rounds 9 ?_
  iterate 8 (rw [rounds_succ]; go_wp2; go_quiet (fail); go_wp2)
  rw [rounds_succ]; go_wp2
  go_returns
  refine ⟨ret_digs F.out, ?_⟩
  exact below_drewN (by go_grown) _

theorem add_any (a b : Int) (w : World) : Calls Try.prog 12 #[(.agg #[.int .i64 (dg a 0), .int .i64 (dg a 1), .int .i64 (dg a 2), .int .i64 (dg a 3), .int .i64 (dg a 4), .int .i64 (dg a 5), .int .i64 (dg a 6), .int .i64 (dg a 7)]), (.agg #[.int .i64 (dg b 0), .int .i64 (dg b 1), .int .i64 (dg b 2), .int .i64 (dg b 3), .int .i64 (dg b 4), .int .i64 (dg b 5), .int .i64 (dg b 6), .int .i64 (dg b 7)])] w fun e w' => e = .returned (.agg #[.int .i64 (dg (a + b) 0), .int .i64 (dg (a + b) 1), .int .i64 (dg (a + b) 2), .int .i64 (dg (a + b) 3), .int .i64 (dg (a + b) 4), .int .i64 (dg (a + b) 5), .int .i64 (dg (a + b) 6), .int .i64 (dg (a + b) 7)]) ∧ Below w.heap.size w w' :=
  add_gen a b _ _ _ _ _ _ _ _ _ _ _ _ _ _ _ _ w (own_digs a) (own_digs b)

set_option maxHeartbeats 800000 in
theorem rneg_any (a : Int) (w : World) : Calls Try.prog 14 #[(.agg #[.int .i64 (dg a 0), .int .i64 (dg a 1), .int .i64 (dg a 2), .int .i64 (dg a 3), .int .i64 (dg a 4), .int .i64 (dg a 5), .int .i64 (dg a 6), .int .i64 (dg a 7)])] w fun e w' => e = .returned (.agg #[.int .i64 (dg (-a) 0), .int .i64 (dg (-a) 1), .int .i64 (dg (-a) 2), .int .i64 (dg (-a) 3), .int .i64 (dg (-a) 4), .int .i64 (dg (-a) 5), .int .i64 (dg (-a) 6), .int .i64 (dg (-a) 7)]) ∧ Below w.heap.size w w' := by
  have h0 := dg_bd a 0
  have h1 := dg_bd a 1
  have h2 := dg_bd a 2
  have h3 := dg_bd a 3
  have h4 := dg_bd a 4
  have h5 := dg_bd a 5
  have h6 := dg_bd a 6
  have h7 := dg_bd a 7
  have E : Hid (-1 - a + 1 = -a) := by show _ = _; omega
  go_enter Try.func14, Try.ntmps14
  go_wp2
  refine wp_loop_rounds 9 ?_
  iterate 9 (rw [rounds_succ]; go_wp2_with fail)
  refine (add_gen (-1 - a) 1 _ _ _ _ _ _ _ _ _ _ _ _ _ _ _ _ _ (not_digs a) (small_digs (by omega) (by omega))).mono ?_
  rintro e w1 ⟨rfl, hb⟩; obtain ⟨d1, os1, rfl⟩ := more_of hb
  rw [E.out]
  go_wp2
  go_returns
  exact ⟨rfl, below_gr (by go_grown) (by go_size) _ _⟩

set_option maxHeartbeats 800000 in
theorem big_any (a : Int) (w : World) : Calls Try.prog 10 #[(.agg #[.int .i64 (hiW a), .int .u64 (loW a)])] w fun e w' => e = .returned (.agg #[.int .i64 (dg a 0), .int .i64 (dg a 1), .int .i64 (dg a 2), .int .i64 (dg a 3), .int .i64 (dg a 4), .int .i64 (dg a 5), .int .i64 (dg a 6), .int .i64 (dg a 7)]) ∧ Below w.heap.size w w' := by
  have ha := hiW_bd a
  have la := loW_bd a
  have D0 : Hid _ := dg_words a (j := 0) (by omega)
  have D1 : Hid _ := dg_words a (j := 1) (by omega)
  have D2 : Hid _ := dg_words a (j := 2) (by omega)
  have D3 : Hid _ := dg_words a (j := 3) (by omega)
  have D4 : Hid _ := dg_words a (j := 4) (by omega)
  have D5 : Hid _ := dg_words a (j := 5) (by omega)
  have D6 : Hid _ := dg_words a (j := 6) (by omega)
  have D7 : Hid _ := dg_words a (j := 7) (by omega)
  go_enter Try.func10, Try.ntmps10
  go_wp2_with fail
  refine (put_any _ _ _ ha.1 ha.2 la.1 la.2).mono ?_
  rintro e w1 ⟨rfl, hb⟩; obtain ⟨d1, os1, rfl⟩ := more_of hb
  rw [D0.out, D1.out, D2.out, D3.out, D4.out, D5.out, D6.out, D7.out]
  go_wp2
  go_returns
  exact ⟨rfl, below_gr (by go_grown) (by go_size) _ _⟩

set_option maxHeartbeats 800000 in
theorem number_any (x : Int) (w : World) (h1 : -9223372036854775808 ≤ x) (h2 : x ≤ 9223372036854775807) : Calls Try.prog 17 #[.int .i64 x] w fun e w' => e = .returned (.agg #[.int .i64 (dg x 0), .int .i64 (dg x 1), .int .i64 (dg x 2), .int .i64 (dg x 3), .int .i64 (dg x 4), .int .i64 (dg x 5), .int .i64 (dg x 6), .int .i64 (dg x 7)]) ∧ Below w.heap.size w w' := by
  by_cases hx : 0 ≤ x
  · have E : Hid (0 * 18446744073709551616 + x = x) := by show _ = _; omega
    go_enter Try.func17, Try.ntmps17
    go_wp2_with fail
    refine (put_any _ _ _ (by omega) (by omega) (by omega) (by omega)).mono ?_
    rintro e w1 ⟨rfl, hb⟩; obtain ⟨d1, os1, rfl⟩ := more_of hb
    rw [E.out]
    go_wp2
    go_returns
    exact ⟨rfl, below_gr (by go_grown) (by go_size) _ _⟩
  · have E : Hid (0 * 18446744073709551616 + (-(x + 1) + 1) = -x) := by show _ = _; omega
    have E2 : Hid (- -x = x) := by show _ = _; omega
    go_enter Try.func17, Try.ntmps17
    go_wp2_with fail
    refine (put_any _ _ _ (by omega) (by omega) (by omega) (by omega)).mono ?_
    rintro e w1 ⟨rfl, hb⟩; obtain ⟨d1, os1, rfl⟩ := more_of hb
    rw [E.out]
    go_wp2_with fail
    refine (rneg_any _ _).mono ?_
    rintro e w1 ⟨rfl, hb⟩; obtain ⟨d2, os2, rfl⟩ := more_of hb
    rw [E2.out]
    go_wp2
    go_returns
    exact ⟨rfl, below_gr (by go_grown) (by go_size) _ _⟩

set_option maxHeartbeats 800000 in
theorem rminus_any (a : Int) (w : World) : Calls Try.prog 38 #[(.agg #[.int .i64 (dg a 0), .int .i64 (dg a 1), .int .i64 (dg a 2), .int .i64 (dg a 3), .int .i64 (dg a 4), .int .i64 (dg a 5), .int .i64 (dg a 6), .int .i64 (dg a 7)])] w fun e w' => e = .returned (.bool (decide (32768 ≤ dg a 7))) ∧ Below w.heap.size w w' := by
  go_enter Try.func38, Try.ntmps38
  go_wp2
  go_ret
  exact ⟨rfl, by go_grown⟩
end Go.Proofs.Ytmijjhgibbbedaa
