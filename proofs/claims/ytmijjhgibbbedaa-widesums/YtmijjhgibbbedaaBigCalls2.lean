/-
  What the document's own answer for layer 2 (spinetref02) gives for bits, quotients by powers of two and rounding, over eight digits. Contracts for every number of 128 bits with a sign; nothing that was there is turned.
-/
import Derived.Test.YtmijjhgibbbedaaBigCalls
import Derived.Test.YtmijjhgibbbedaaRows
import Derived.ProofKit
import Derived.OpenShut
import Derived.WalkSpells
import Derived.Handy
import Derived.WalkLawsBesides
import Derived.Below
import Derived.Deep.QuietTactic
import Derived.BigQuiet
import Derived.WalkSmall
import Derived.Deep.RegionHeld3
import Derived.Lib.QuietBelow
namespace Go.Proofs.Ytmijjhgibbbedaa
set_option linter.unusedVariables false
open Go.ChangeShapes Go.WideShapes Go.ChangeAt Go.RowKit
open Go.Sort (grow)
attribute [local go_sem] cell?_gr frozen?_gr setCell_gr size_gr drew_gr drewN_gr redrawn_drew redrawn_drewN redrawn_redrawn gr_gr eql_acc neq_acc eql_big neq_big setCell_drewN alloc_drewN World.drewN_drewN

/-- Eight numbers as an array's cells. -/
def row8 (O : Nat → Int) : Array Value := #[.int .i64 (O 0), .int .i64 (O 1), .int .i64 (O 2), .int .i64 (O 3), .int .i64 (O 4), .int .i64 (O 5), .int .i64 (O 6), .int .i64 (O 7)]
theorem row8_at (O : Nat → Int) {k : Nat} (h : k < 8) : (row8 O)[k]? = some (.int .i64 (O k)) := by
  match k, h with
  | 0, _ | 1, _ | 2, _ | 3, _ | 4, _ | 5, _ | 6, _ | 7, _ => rfl
theorem row8_set (O : Nat → Int) {k : Nat} (h : k < 8) (v : Int) : (row8 O).setIfInBounds k (.int .i64 v) = row8 (fun j => if j = k then v else O j) := by
  match k, h with
  | 0, _ | 1, _ | 2, _ | 3, _ | 4, _ | 5, _ | 6, _ | 7, _ => rfl
theorem row8_same {O O' : Nat → Int} (h : ∀ j, j < 8 → O j = O' j) : row8 O = row8 O' := by
  unfold row8
  rw [h 0 (by omega), h 1 (by omega), h 2 (by omega), h 3 (by omega), h 4 (by omega), h 5 (by omega), h 6 (by omega), h 7 (by omega)]

set_option maxHeartbeats 800000 in
theorem bit_low (a : Int) (n : Nat) (w : World) (hn : n ≤ 127) :
    Calls Try.prog 37 #[.agg (row8 (dg a)), .int .i64 n] w fun e w' => e = .returned (.int .i64 (a / p2 n % 2)) ∧ Below w.heap.size w w' := by
  have hc : (row8 (dg a))[n / 16]? = some (.int .i64 (dg a (n / 16))) := row8_at _ (by omega)
  have hd := dg_bd a (n / 16)
  have F : Hid (dg a (n / 16) / p2 (n % 16) % 2 = a / p2 n % 2) := by
    show _ = _
    rw [bit_dg a (n / 16) (n % 16) (by omega), show 16 * (n / 16) + n % 16 = n by omega]
  go_enter Try.func37, Try.ntmps37
  go_wp2
  go_loop [5, 6] (fun x i => ∃ k : Nat, k ≤ n % 16 ∧ i = .int .i64 k ∧ x = .int .i64 (dg a (n / 16) / p2 k)) (fun _ i => n % 16 - (intOf i).toNat)
  case atStart => exact ⟨0, by omega, rfl, by rw [p2_0]; go_num⟩
  case round =>
    obtain ⟨k, hk, rfl, rfl⟩ := hrel
    have hp := p2_pos k
    have hx0 : 0 ≤ dg a (n / 16) / p2 k := Int.ediv_nonneg hd.1 (by omega)
    have hx1 : dg a (n / 16) / p2 k ≤ dg a (n / 16) := Int.ediv_le_self _ hd.1
    have hs : dg a (n / 16) / p2 (k + 1) = dg a (n / 16) / p2 k / 2 := by rw [p2_succ, Int.mul_comm, div_div _ (by omega)]
    have HS : Hid _ := hs
    clear hs
    by_cases hlt : k < n % 16
    · go_wp2
      go_round
      case rel => exact ⟨k + 1, by omega, by go_num, by rw [HS.out]⟩
      case measure => simp [intOf]; omega
    · have e : k = n % 16 := by omega
      subst e
      go_wp2
      go_ret
      exact ⟨ret_int F.out, by go_grown⟩

set_option maxHeartbeats 800000 in
theorem bit_high (a m : Int) (w : World) (hm : 127 < m) (h1 : -170141183460469231731687303715884105728 ≤ a) (h2 : a < 170141183460469231731687303715884105728) :
    Calls Try.prog 37 #[.agg (row8 (dg a)), .int .i64 m] w fun e w' => e = .returned (.int .i64 (a / p2 m.toNat % 2)) ∧ Below w.heap.size w w' := by
  have hc : (row8 (dg a))[7]? = some (.int .i64 (dg a 7)) := row8_at _ (by omega)
  have hd := dg_bd a 7
  have F : Hid (dg a 7 / p2 15 % 2 = a / p2 m.toNat % 2) := by
    show _ = _
    rw [bit_dg a 7 15 (by omega), bit_far h1 h2 (n := m.toNat) (by omega)]
  go_enter Try.func37, Try.ntmps37
  go_wp2
  obtain ⟨n, hn⟩ : ∃ n : Nat, n = 127 := ⟨127, rfl⟩
  have N : Hid _ := hn
  clear hn
  go_loop [5, 6] (fun x i => ∃ k : Nat, k ≤ 15 ∧ i = .int .i64 k ∧ x = .int .i64 (dg a (7) / p2 k)) (fun _ i => 15 - (intOf i).toNat)
  case atStart => exact ⟨0, by omega, rfl, by rw [p2_0]; go_num⟩
  case round =>
    obtain ⟨k, hk, rfl, rfl⟩ := hrel
    have hp := p2_pos k
    have hx0 : 0 ≤ dg a (7) / p2 k := Int.ediv_nonneg hd.1 (by omega)
    have hx1 : dg a (7) / p2 k ≤ dg a (7) := Int.ediv_le_self _ hd.1
    have hs : dg a (7) / p2 (k + 1) = dg a (7) / p2 k / 2 := by rw [p2_succ, Int.mul_comm, div_div _ (by omega)]
    have HS : Hid _ := hs
    clear hs
    by_cases hlt : k < 15
    · go_wp2
      go_round
      case rel => exact ⟨k + 1, by omega, by go_num, by rw [HS.out]⟩
      case measure => simp [intOf]; omega
    · have e : k = 15 := by omega
      subst e
      go_wp2
      go_ret
      exact ⟨ret_int F.out, by go_grown⟩

theorem bit_any (a m : Int) (w : World) (hm : 0 ≤ m) (h1 : -170141183460469231731687303715884105728 ≤ a) (h2 : a < 170141183460469231731687303715884105728) :
    Calls Try.prog 37 #[.agg (row8 (dg a)), .int .i64 m] w fun e w' => e = .returned (.int .i64 (a / p2 m.toNat % 2)) ∧ Below w.heap.size w w' := by
  by_cases h : 127 < m
  · exact bit_high a m w h h1 h2
  · obtain ⟨n, rfl⟩ := Int.eq_ofNat_of_zero_le hm
    exact bit_low a n w (by omega)

theorem bit_big (a m : Int) (w : World) (hm : 0 ≤ m) (h1 : -170141183460469231731687303715884105728 ≤ a) (h2 : a < 170141183460469231731687303715884105728) :
    Calls Try.prog 37 #[(.agg #[.int .i64 (dg a 0), .int .i64 (dg a 1), .int .i64 (dg a 2), .int .i64 (dg a 3), .int .i64 (dg a 4), .int .i64 (dg a 5), .int .i64 (dg a 6), .int .i64 (dg a 7)]), .int .i64 m] w fun e w' => e = .returned (.int .i64 (a / p2 m.toNat % 2)) ∧ Below w.heap.size w w' := bit_any a m w hm h1 h2
theorem row8_end (q : Int) : row8 (outF q 0) = #[.int .i64 (dg q 0), .int .i64 (dg q 1), .int .i64 (dg q 2), .int .i64 (dg q 3), .int .i64 (dg q 4), .int .i64 (dg q 5), .int .i64 (dg q 6), .int .i64 (dg q 7)] := by
  unfold row8; simp only [out_end]
theorem row8_start (q : Int) : row8 (outF q 128) = #[.int .i64 0, .int .i64 0, .int .i64 0, .int .i64 0, .int .i64 0, .int .i64 0, .int .i64 0, .int .i64 0] := by
  unfold row8; rw [out_start q (by omega), out_start q (by omega), out_start q (by omega), out_start q (by omega), out_start q (by omega), out_start q (by omega), out_start q (by omega), out_start q (by omega)]
theorem row8_step (q : Int) {m : Nat} (hm : m < 128) : (row8 (outF q (m + 1))).setIfInBounds (m / 16) (.int .i64 (outF q (m + 1) (m / 16) * 2 + q / p2 m % 2)) = row8 (outF q m) := by
  rw [row8_set _ (by omega)]
  apply row8_same
  intro j hj
  by_cases h : j = m / 16
  · subst h; simp only [if_true]; exact out_step q m
  · rw [if_neg h]; exact out_else q h

set_option maxHeartbeats 1000000 in
theorem rshr_any (a : Int) (s : Nat) (w : World) (hs : s ≤ 127) (h1 : -170141183460469231731687303715884105728 ≤ a) (h2 : a < 170141183460469231731687303715884105728) :
    Calls Try.prog 23 #[(.agg #[.int .i64 (dg a 0), .int .i64 (dg a 1), .int .i64 (dg a 2), .int .i64 (dg a 3), .int .i64 (dg a 4), .int .i64 (dg a 5), .int .i64 (dg a 6), .int .i64 (dg a 7)]), .int .i64 s] w fun e w' => e = .returned (.agg #[.int .i64 (dg (a / p2 s) 0), .int .i64 (dg (a / p2 s) 1), .int .i64 (dg (a / p2 s) 2), .int .i64 (dg (a / p2 s) 3), .int .i64 (dg (a / p2 s) 4), .int .i64 (dg (a / p2 s) 5), .int .i64 (dg (a / p2 s) 6), .int .i64 (dg (a / p2 s) 7)]) ∧ Below w.heap.size w w' := by
  go_enter Try.func23, Try.ntmps23
  go_wp2
  go_loopw [6] (fun i wr => ∃ (m d : Nat) (os : Array Obj), m ≤ 128 ∧ i = .int .i64 ((m : Int) - 1) ∧ wr = grow (redrawn (((w.alloc (.cells #[.int .i64 (dg a 0), .int .i64 (dg a 1), .int .i64 (dg a 2), .int .i64 (dg a 3), .int .i64 (dg a 4), .int .i64 (dg a 5), .int .i64 (dg a 6), .int .i64 (dg a 7)] 27)).alloc (.cells #[.int .i64 0, .int .i64 0, .int .i64 0, .int .i64 0, .int .i64 0, .int .i64 0, .int .i64 0, .int .i64 0] 27)).alloc (.cells (row8 (outF (a / p2 s) m)) 27)) d) os)
    (fun i _ => (intOf i + 1).toNat)
  case atStart => exact ⟨128, w.drawn, #[], by omega, rfl, by rw [row8_start]; exact (Sort.grow_empty _).symm⟩
  case round =>
    obtain ⟨m, d, os, hm, rfl, rfl⟩ := hrel
    cases m with
    | zero =>
      rw [row8_end]
      go_wp2
      go_returns
      exact ⟨rfl, below_gr (by go_grown) (by go_size) _ _⟩
    | succ m =>
      obtain ⟨k, hk⟩ : ∃ k : Nat, k = m / 16 := ⟨_, rfl⟩
      have hc : (row8 (outF (a / p2 s) (m + 1)))[k]? = some (.int .i64 (outF (a / p2 s) (m + 1) k)) := row8_at _ (by omega)
      have e : ((m + 1 : Nat) : Int) - 1 = (m : Int) := by omega
      have ho := out_bd (a / p2 s) (m + 1) k
      have hk8 : (k : Int) < 8 := by omega
      have q1 : (m : Int).tdiv 16 = (k : Int) := by rw [Int.tdiv_eq_ediv_of_nonneg (by omega)]; omega
      have q2 : (m : Int) / 16 = (k : Int) := by omega
      have q3 : IntKind.i64.wrap (k : Int) = (k : Int) := IntWalk.i64_in _ (by omega)
      have q4 : IntKind.i64.wrap ((m : Int) + (s : Int)) = (m : Int) + (s : Int) := IntWalk.i64_in _ (by omega)
      have q5 : IntKind.i64.wrap (outF (a / p2 s) (m + 1) k * 2) = outF (a / p2 s) (m + 1) k * 2 := IntWalk.i64_in _ (by omega)
      have hb0 : 0 ≤ a / p2 ((m : Int) + (s : Int)).toNat % 2 ∧ a / p2 ((m : Int) + (s : Int)).toNat % 2 ≤ 1 := by omega
      have E : Hid (a / p2 (m + s) % 2 = a / p2 s / p2 m % 2) := by
        show _ = _
        rw [show m + s = s + m by omega, p2_add, div_div _ (by have := p2_pos s; omega)]
      have F : Hid _ := row8_step (a / p2 s) (m := m) (by omega)
      rw [← hk] at F
      rw [e]
      clear e hk
      go_wp2
      go_region_with
        ((go_at_call 37; refine (bit_big _ _ _ (by omega) h1 h2).mono ?_; rintro e w1 ⟨rfl, hb⟩; obtain ⟨d1, os1, rfl⟩ := more_of hb))
      all_goals go_wp2
      all_goals
        go_roundw
        case rel => exact ⟨m, _, _, by omega, rfl, by rw [E.out, F.out]⟩
        case measure => simp [intOf]

set_option maxHeartbeats 800000 in
theorem rround_w (a s : Int) (w : World) (h1 : -170141183460469231731687303715884105728 ≤ a) (h2 : a < 170141183460469231731687303715884105728) :
    Calls Try.prog 25 #[(.agg #[.int .i64 (dg a 0), .int .i64 (dg a 1), .int .i64 (dg a 2), .int .i64 (dg a 3), .int .i64 (dg a 4), .int .i64 (dg a 5), .int .i64 (dg a 6), .int .i64 (dg a 7)]), .int .i64 (clamp s 0 127)] w fun e w' => e = .returned (.agg #[.int .i64 (dg (rndW a s) 0), .int .i64 (dg (rndW a s) 1), .int .i64 (dg (rndW a s) 2), .int .i64 (dg (rndW a s) 3), .int .i64 (dg (rndW a s) 4), .int .i64 (dg (rndW a s) 5), .int .i64 (dg (rndW a s) 6), .int .i64 (dg (rndW a s) 7)]) ∧ Below w.heap.size w w' := by
  have hb := clamp_bd s 0 127 (by omega)
  obtain ⟨k, hk⟩ : ∃ k : Nat, (k : Int) = clamp s 0 127 := ⟨(clamp s 0 127).toNat, by omega⟩
  have F : Hid (rndW a s = if (k : Int) = 0 then a else a / p2 k + a / p2 (k - 1) % 2) := by
    show _ = _
    unfold rndW; rw [← hk]; simp only [Int.toNat_natCast]
  rw [← hk] at hb ⊢
  clear hk
  cases hz : ((k : Int) == 0)
  · have hz' : (k : Int) ≠ 0 := by simpa using hz
    have hx : 0 ≤ a / p2 (k - 1) % 2 ∧ a / p2 (k - 1) % 2 ≤ 1 := by omega
    have E : Hid (((k : Int) - 1).toNat = k - 1) := by show _ = _; omega
    go_enter Try.func25, Try.ntmps25
    go_wp2_with fail
    refine (bit_big _ _ _ (by omega) h1 h2).mono ?_
    rintro e w1 ⟨rfl, hb⟩; obtain ⟨d1, os1, rfl⟩ := more_of hb
    rw [E.out]
    go_wp2
    go_region_with (first | (go_at_call 23; refine (rshr_any _ _ _ (by omega) h1 h2).mono ?_; rintro e w2 ⟨rfl, hb2⟩; obtain ⟨d2, os2, rfl⟩ := more_of hb2) | (go_at_call 12; refine (add_gen (a / p2 k) (a / p2 (k - 1) % 2) _ _ _ _ _ _ _ _ _ _ _ _ _ _ _ _ _ (own_digs _) (small_digs (by omega) (by omega))).mono ?_; rintro e w3 ⟨rfl, hb3⟩; obtain ⟨d3, os3, rfl⟩ := more_of hb3))
    all_goals go_wp2
    all_goals go_returns
    all_goals exact ⟨by rw [F.out, if_neg hz'], below_gr (by go_grown) (by go_size) _ _⟩
  · go_enter Try.func25, Try.ntmps25
    go_wp2
    go_returns
    exact ⟨by rw [F.out, if_pos (by simpa using hz)], by go_grown⟩

end Go.Proofs.Ytmijjhgibbbedaa
