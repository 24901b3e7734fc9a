/-
  What each function of package wide answers (the first half), as a function on whole numbers: contracts over two words; nothing that was there is turned.
-/
import Derived.Test.YtmijjhgibbbedaaWideMath
import Derived.Test.YtmijjhgibbbedaaFixCalls
import Derived.Test.YtmijjhgibbbedaaEqArr
import Derived.Test.YtmijjhgibbbedaaRows
import Derived.ProofKit
import Derived.OpenShut
import Derived.WalkSpells
import Derived.Handy
import Derived.WalkLawsBesides
import Derived.Below
import Derived.Deep.QuietTactic
import Derived.BigQuiet
import Derived.WalkSmall
import Derived.Deep.RegionHeld3
import Derived.Lib.QuietBelow
import Derived.Test.YtmijjhgibbbedaaMore
namespace Go.Proofs.Ytmijjhgibbbedaa
set_option linter.unusedVariables false
open Go.ChangeShapes Go.WideShapes Go.ChangeAt Go.RowKit
open Go.Sort (grow)
attribute [local go_sem] cell?_gr frozen?_gr setCell_gr size_gr drew_gr drewN_gr redrawn_drew redrawn_drewN redrawn_redrawn gr_gr

theorem ret_acc {a b c d : Int} (h : a = c) (h' : b = d) : Ending.returned (.agg #[.int .i64 a, .int .u64 b]) = .returned (.agg #[.int .i64 c, .int .u64 d]) := by rw [h, h']
theorem ret_two {a b c d : Int} {k k' : IntKind} (h : a = c) (h' : b = d) : Ending.returned (.tuple #[.int k a, .int k' b]) = .returned (.tuple #[.int k c, .int k' d]) := by rw [h, h']
theorem bcell {W w1 : World} (hb : Below W.heap.size W w1) : (∀ b o, b < W.heap.size → w1.cell? ⟨b, o, none⟩ = W.cell? ⟨b, o, none⟩) ∧ (∀ b o, b < W.heap.size → w1.frozen? ⟨b, o, none⟩ = W.frozen? ⟨b, o, none⟩) :=
  ⟨fun b o h => hb.cell (p := ⟨b, o, none⟩) h, fun b o h => hb.frozen (p := ⟨b, o, none⟩) h⟩

set_option maxHeartbeats 400000 in
theorem of_any (x : Int) (w : World) (h1 : -9223372036854775808 ≤ x) (h2 : x ≤ 9223372036854775807) :
    Calls Try.prog 16 #[.int .i64 x] w fun e w' => e = .returned (.agg #[.int .i64 (hiW x), .int .u64 (loW x)]) ∧ Below w.heap.size w w' := by
  have E1 : Hid (x / 9223372036854775808 = hiW x) := of_hi h1 h2
  have E2 : Hid (IntKind.u64.wrap x = loW x) := of_lo x
  go_enter Try.func16, Try.ntmps16
  go_wp2
  go_returns
  exact ⟨ret_acc E1.out E2.out, by go_grown⟩

set_option maxHeartbeats 400000 in
theorem plus_hl (h l h' l' : Int) (w : World) (h1 : -9223372036854775808 ≤ h) (h2 : h ≤ 9223372036854775807) (h3 : 0 ≤ l) (h4 : l ≤ 18446744073709551615) (h5 : -9223372036854775808 ≤ h') (h6 : h' ≤ 9223372036854775807) (h7 : 0 ≤ l') (h8 : l' ≤ 18446744073709551615) :
    Calls Try.prog 11 #[.agg #[.int .i64 h, .int .u64 l], .agg #[.int .i64 h', .int .u64 l']] w fun e w' => e = .returned (.agg #[.int .i64 (hiW (h * 18446744073709551616 + l + (h' * 18446744073709551616 + l'))), .int .u64 (loW (h * 18446744073709551616 + l + (h' * 18446744073709551616 + l')))]) ∧ Below w.heap.size w w' := by
  have E1 := plus_hi h1 h2 h3 h4 h5 h6 h7 h8
  have E2 := plus_lo (h := h) (l := l) (h' := h') (l' := l')
  have H1 : Hid _ := E1
  have H2 : Hid _ := E2
  clear E1 E2
  go_enter Try.func11, Try.ntmps11
  go_wp2
  go_returns
  exact ⟨ret_acc H1.out H2.out, by go_grown⟩

theorem plus_any (a b : Int) (w : World) :
    Calls Try.prog 11 #[(.agg #[.int .i64 (hiW a), .int .u64 (loW a)]), (.agg #[.int .i64 (hiW b), .int .u64 (loW b)])] w fun e w' => e = .returned (.agg #[.int .i64 (hiW (a + b)), .int .u64 (loW (a + b))]) ∧ Below w.heap.size w w' := by
  have ha := hiW_bd a
  have hb := hiW_bd b
  have la := loW_bd a
  have lb := loW_bd b
  have := plus_hl (hiW a) (loW a) (hiW b) (loW b) w ha.1 ha.2 la.1 la.2 hb.1 hb.2 lb.1 lb.2
  rw [hiW_sum, loW_sum] at this
  exact this

set_option maxHeartbeats 400000 in
theorem neg_any (a : Int) (w : World) :
    Calls Try.prog 15 #[(.agg #[.int .i64 (hiW a), .int .u64 (loW a)])] w fun e w' => e = .returned (.agg #[.int .i64 (hiW (-a)), .int .u64 (loW (-a))]) ∧ Below w.heap.size w w' := by
  have ha := hiW_bd a
  have la := loW_bd a
  have hb1 := hiW_bd 1
  have lb1 := loW_bd 1
  have X1 : Hid _ := xorL_i64 ha.1 ha.2
  have X2 : Hid _ := xorL_u64 la.1 la.2
  have H1 : Hid _ := (neg_words (a := a)).1
  have H2 : Hid _ := (neg_words (a := a)).2
  go_enter Try.func15, Try.ntmps15
  go_wp2
  go_region_held3 (fun w' => w'.cell? ⟨w.heap.size, 0, none⟩ = some (.int .i64 (hiW a)) ∧ w'.cell? ⟨w.heap.size, 1, none⟩ = some (.int .u64 (loW a))) (first | go_keep | (simp [go_sem]; done))
   ((first | (go_at_call 16; refine (of_any _ _ (by omega) (by omega)).mono ?_; rintro e w1 ⟨rfl, hb⟩; obtain ⟨d1, os1, rfl⟩ := more_of hb) | (go_at_call 11; rw [X1.out, X2.out]; refine (plus_hl _ _ _ _ _ (by omega) (by omega) (by omega) (by omega) (by omega) (by omega) (by omega) (by omega)).mono ?_; rintro e w2 ⟨rfl, hb2⟩; obtain ⟨d2, os2, rfl⟩ := more_of hb2; rw [H1.out, H2.out])))
  all_goals go_wp2
  all_goals go_returns
  all_goals exact ⟨rfl, below_gr (by go_grown) (by go_size) _ _⟩

set_option maxHeartbeats 400000 in
theorem prod_any (x y : Int) (w : World) (h1 : 0 ≤ x) (h2 : x ≤ 18446744073709551615) (h3 : 0 ≤ y) (h4 : y ≤ 18446744073709551615) :
    Calls Try.prog 34 #[.int .u64 x, .int .u64 y] w fun e w' => e = .returned (.tuple #[.int .u64 (x * y / 18446744073709551616), .int .u64 (loW (x * y))]) ∧ w' = w := by
  have E1 := prod_hi h1 h2 h3 h4
  have E2 := of_lo (x * y)
  have H1 : Hid _ := E1
  have H2 : Hid _ := E2
  clear E1 E2
  go_enter Try.func34, Try.ntmps34
  go_wp2
  go_ret2
  exact ⟨ret_two H1.out H2.out, rfl⟩

set_option maxHeartbeats 400000 in
theorem times_hl (h l n : Int) (w : World) (h1 : -9223372036854775808 ≤ h) (h2 : h ≤ 9223372036854775807) (h3 : 0 ≤ l) (h4 : l ≤ 18446744073709551615) (h5 : -9223372036854775808 ≤ n) (h6 : n ≤ 9223372036854775807) :
    Calls Try.prog 18 #[.agg #[.int .i64 h, .int .u64 l], .int .i64 n] w fun e w' => e = .returned (.agg #[.int .i64 (hiW ((h * 18446744073709551616 + l) * n)), .int .u64 (loW ((h * 18446744073709551616 + l) * n))]) ∧ Below w.heap.size w w' := by
  have hn : 0 ≤ IntKind.u64.wrap n ∧ IntKind.u64.wrap n ≤ 18446744073709551615 := by rw [IntKind.wrap_u64]; omega
  have E1 := times_hi (h := h) h3 h4 h5 h6
  have E2 := times_lo (h := h) (l := l) h5 h6
  have H1 : Hid _ := E1
  have H2 : Hid _ := E2
  clear E1 E2
  go_enter Try.func18, Try.ntmps18
  go_wp2_with (go_at_call 34; refine (prod_any _ _ _ (by omega) (by omega) (by omega) (by omega)).mono ?_; rintro e w' ⟨rfl, rfl⟩)
  go_returns
  exact ⟨ret_acc H1.out H2.out, by go_grown⟩

theorem times_any (a n : Int) (w : World) (h5 : -9223372036854775808 ≤ n) (h6 : n ≤ 9223372036854775807) :
    Calls Try.prog 18 #[(.agg #[.int .i64 (hiW a), .int .u64 (loW a)]), .int .i64 n] w fun e w' => e = .returned (.agg #[.int .i64 (hiW (a * n)), .int .u64 (loW (a * n))]) ∧ Below w.heap.size w w' := by
  have ha := hiW_bd a
  have la := loW_bd a
  have := times_hl (hiW a) (loW a) n w ha.1 ha.2 la.1 la.2 h5 h6
  rw [hiW_mul, loW_mul] at this
  exact this

set_option maxHeartbeats 400000 in
theorem mul_any (n m : Int) (w : World) (h1 : -9223372036854775808 ≤ n) (h2 : n ≤ 9223372036854775807) (h3 : -9223372036854775808 ≤ m) (h4 : m ≤ 9223372036854775807) :
    Calls Try.prog 20 #[.int .i64 n, .int .i64 m] w fun e w' => e = .returned (.agg #[.int .i64 (hiW (n * m)), .int .u64 (loW (n * m))]) ∧ Below w.heap.size w w' := by
  go_enter Try.func20, Try.ntmps20
  go_wp2_with (first | (go_at_call 16; refine (of_any _ _ h1 h2).mono ?_; rintro e w1 ⟨rfl, hb⟩; obtain ⟨d1, os1, rfl⟩ := more_of hb) | (go_at_call 18; refine (times_any _ _ _ h3 h4).mono ?_; rintro e w2 ⟨rfl, hb2⟩; obtain ⟨d2, os2, rfl⟩ := more_of hb2))
  go_returns
  exact ⟨rfl, below_gr (by go_grown) (by go_size) _ _⟩

set_option maxHeartbeats 400000 in
theorem within_w (s : Int) (w : World) :
    Calls Try.prog 36 #[.int .i64 s] w fun e w' => e = .returned (.int .u64 (clamp s 0 127)) ∧ w' = w := by
  by_cases ha : s < 0
  · go_enter Try.func36, Try.ntmps36
    go_wp2
    go_ret
    exact ⟨ret_int (by unfold clamp; rw [if_pos ha]), rfl⟩
  · by_cases hc : 127 < s
    · go_enter Try.func36, Try.ntmps36
      go_wp2
      go_ret
      exact ⟨ret_int (by unfold clamp; rw [if_neg (by omega), if_pos hc]), rfl⟩
    · go_enter Try.func36, Try.ntmps36
      go_wp2
      go_ret
      exact ⟨ret_int (by unfold clamp; rw [if_neg (by omega), if_neg (by omega)]), rfl⟩
set_option maxHeartbeats 400000 in
theorem shr_hl (h l s : Int) (w : World) (h1 : -9223372036854775808 ≤ h) (h2 : h ≤ 9223372036854775807) (h3 : 0 ≤ l) (h4 : l ≤ 18446744073709551615) :
    Calls Try.prog 22 #[.agg #[.int .i64 h, .int .u64 l], .int .i64 s] w fun e w' => e = .returned (.agg #[.int .i64 (hiW ((h * 18446744073709551616 + l) / p2 (clamp s 0 127).toNat)), .int .u64 (loW ((h * 18446744073709551616 + l) / p2 (clamp s 0 127).toNat))]) ∧ Below w.heap.size w w' := by
  have hb := clamp_bd s 0 127 (by omega)
  by_cases hs : 64 ≤ clamp s 0 127
  · have e : (clamp s 0 127 - 64).toNat = (clamp s 0 127).toNat - 64 := by omega
    have E : Hid _ := e
    have H : Hid _ := shr_big (h := h) (l := l) (k := (clamp s 0 127).toNat) h3 h4 (by omega)
    have hd := div_bd h (p2 ((clamp s 0 127).toNat - 64)) (p2_pos _) h1 h2
    clear e
    go_enter Try.func22, Try.ntmps22
    go_wp2_with (first | (go_at_call 36; refine (within_w _ _).mono ?_; rintro e w' ⟨rfl, rfl⟩) | (go_at_call 16; rw [E.out, pow_is]; refine (of_any _ _ hd.1 hd.2).mono ?_; rintro e w1 ⟨rfl, hb⟩; obtain ⟨d1, os1, rfl⟩ := more_of hb))
    go_returns
    exact ⟨ret_acc (by rw [H.out]) (by rw [H.out]), below_gr (by go_grown) (by go_size) _ _⟩
  · have e : (64 - clamp s 0 127).toNat = 64 - (clamp s 0 127).toNat := by omega
    have E : Hid _ := e
    have H1 : Hid _ := shr_hi (k := (clamp s 0 127).toNat) h1 h2 h3 h4
    have H2 : Hid _ := shr_lo (k := (clamp s 0 127).toNat) h1 h2 h3 h4 (by omega)
    clear e
    go_enter Try.func22, Try.ntmps22
    go_wp2_with (first | (go_at_call 36; refine (within_w _ _).mono ?_; rintro e w' ⟨rfl, rfl⟩))
    go_returns
    rw [E.out, pow_is, pow_is]
    exact ⟨ret_acc H1.out H2.out, by go_grown⟩

theorem shr_any (a s : Int) (w : World) (h1 : -170141183460469231731687303715884105728 ≤ a) (h2 : a < 170141183460469231731687303715884105728) :
    Calls Try.prog 22 #[(.agg #[.int .i64 (hiW a), .int .u64 (loW a)]), .int .i64 s] w fun e w' => e = .returned (.agg #[.int .i64 (hiW (a / p2 (clamp s 0 127).toNat)), .int .u64 (loW (a / p2 (clamp s 0 127).toNat))]) ∧ Below w.heap.size w w' := by
  have ha := hiW_bd a
  have la := loW_bd a
  have := shr_hl (hiW a) (loW a) s w ha.1 ha.2 la.1 la.2
  rw [words_in h1 h2] at this
  exact this

set_option maxHeartbeats 400000 in
theorem minus_any (a b : Int) (w : World) :
    Calls Try.prog 13 #[(.agg #[.int .i64 (hiW a), .int .u64 (loW a)]), (.agg #[.int .i64 (hiW b), .int .u64 (loW b)])] w fun e w' => e = .returned (.agg #[.int .i64 (hiW (a + -b)), .int .u64 (loW (a + -b))]) ∧ Below w.heap.size w w' := by
  go_enter Try.func13, Try.ntmps13
  go_wp2
  go_region_held3 (fun w' => w'.cell? ⟨w.heap.size, 0, none⟩ = some (.int .i64 (hiW a)) ∧ w'.cell? ⟨w.heap.size, 1, none⟩ = some (.int .u64 (loW a)) ∧ w'.cell? ⟨w.heap.size + 1, 0, none⟩ = some (.int .i64 (hiW b)) ∧ w'.cell? ⟨w.heap.size + 1, 1, none⟩ = some (.int .u64 (loW b))) (first | go_keep | (simp [go_sem]; done))
   ((first | (go_at_call 15; refine (neg_any _ _).mono ?_; rintro e w1 ⟨rfl, hb⟩; obtain ⟨d1, os1, rfl⟩ := more_of hb) | (go_at_call 11; refine (plus_any _ _ _).mono ?_; rintro e w2 ⟨rfl, hb2⟩; obtain ⟨d2, os2, rfl⟩ := more_of hb2)))
  all_goals go_wp2
  all_goals go_returns
  all_goals exact ⟨rfl, below_gr (by go_grown) (by go_size) _ _⟩

set_option maxHeartbeats 400000 in
theorem cmp_hl (h l h' l' : Int) (w : World) (h1 : -9223372036854775808 ≤ h) (h2 : h ≤ 9223372036854775807) (h3 : 0 ≤ l) (h4 : l ≤ 18446744073709551615) (h5 : -9223372036854775808 ≤ h') (h6 : h' ≤ 9223372036854775807) (h7 : 0 ≤ l') (h8 : l' ≤ 18446744073709551615) :
    Calls Try.prog 29 #[.agg #[.int .i64 h, .int .u64 l], .agg #[.int .i64 h', .int .u64 l']] w fun e w' => e = .returned (.int .i64 (cmpF (h * 18446744073709551616 + l) (h' * 18446744073709551616 + l'))) ∧ Below w.heap.size w w' := by
  go_enter Try.func29, Try.ntmps29
  go_wp2
  all_goals go_ret
  all_goals exact ⟨ret_int (by unfold cmpF; split <;> (try split) <;> omega), by go_grown⟩

theorem cmp_any (a b : Int) (w : World) (h1 : -170141183460469231731687303715884105728 ≤ a) (h2 : a < 170141183460469231731687303715884105728) (h3 : -170141183460469231731687303715884105728 ≤ b) (h4 : b < 170141183460469231731687303715884105728) :
    Calls Try.prog 29 #[(.agg #[.int .i64 (hiW a), .int .u64 (loW a)]), (.agg #[.int .i64 (hiW b), .int .u64 (loW b)])] w fun e w' => e = .returned (.int .i64 (cmpF a b)) ∧ Below w.heap.size w w' := by
  have ha := hiW_bd a
  have hb := hiW_bd b
  have la := loW_bd a
  have lb := loW_bd b
  have := cmp_hl (hiW a) (loW a) (hiW b) (loW b) w ha.1 ha.2 la.1 la.2 hb.1 hb.2 lb.1 lb.2
  rw [words_in h1 h2, words_in h3 h4] at this
  exact this

end Go.Proofs.Ytmijjhgibbbedaa
