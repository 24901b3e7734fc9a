/-
  The six laws of layer 3 (root), each as a walk: called at any arguments of its types, it returns true, and nothing that was there has turned. No condition beside the arguments' kinds.
-/
import Derived.Test.YtlddkbimkbdfpaaRootNorm
namespace Go.Proofs.Ytlddkbimkbdfpaa
set_option linter.unusedVariables false
open Go.ChangeShapes Go.WideShapes Go.ChangeAt Go.RowKit

set_option maxHeartbeats 400000 in
theorem tells_law (x : Int) (w : World) (h1 : 0 ≤ x) (h2 : x ≤ 18446744073709551615) :
    Calls Try.prog 3 #[.int .u64 x] w fun e w' => e = .returned (.bool true) ∧ Below w.heap.size w w' := by
  go_enter Try.func3, Try.ntmps3
  go_wp2_with (first | (go_at_call 9; refine (awake_r _).mono ?_; rintro e w0 ⟨rfl, hB⟩) | (go_at_call 10; refine (sqrt_any _ _ h1 h2).mono ?_; rintro e w' ⟨rfl, rfl⟩) | (go_at_call 11; refine (rsqrt_any _ _ h1 h2).mono ?_; rintro e w' ⟨rfl, rfl⟩))
  go_ret
  exact ⟨rfl, by assumption⟩

set_option maxHeartbeats 400000 in
theorem parts_law (x g n : Int) (w : World) (h1 : -2147483648 ≤ x) (h2 : x ≤ 2147483647) (h3 : 0 ≤ n) (h4 : n ≤ 18446744073709551615) :
    Calls Try.prog 7 #[.int .i32 x, .int .i64 g, .int .u64 n] w fun e w' => e = .returned (.bool true) ∧ Below w.heap.size w w' := by
  go_enter Try.func7, Try.ntmps7
  go_wp2_with (first | (go_at_call 9; refine (awake_r _).mono ?_; rintro e w0 ⟨rfl, hB⟩) | (go_at_call 15; refine (part_any _ _ _ _ h1 h2 h3 h4).mono ?_; rintro e w' ⟨rfl, rfl⟩) | (go_at_call 16; refine (rpart_any _ _ _ _ h1 h2 h3 h4).mono ?_; rintro e w' ⟨rfl, rfl⟩))
  go_ret
  exact ⟨rfl, by assumption⟩

theorem root_next {x r : Int} (h1 : 0 ≤ x) (h2 : x < 18446744073709551615) (hr : 0 ≤ r) (h3 : r * r ≤ x) (h4 : x < (r + 1) * (r + 1)) :
    (rootF (x + 1) = r) ∨ (rootF (x + 1) = r + 1 ∧ (r + 1) * (r + 1) = x + 1) := by
  rcases Int.lt_or_le (x + 1) ((r + 1) * (r + 1)) with h | h
  · exact .inl (root_is (by omega) (by omega) hr (by omega) h)
  · have e : (r + 1) * (r + 1) = x + 1 := by omega
    have hs := sq_lt (a := r + 1) (b := r + 1 + 1) (by omega) (by omega)
    exact .inr ⟨root_is (by omega) (by omega) (by omega) (by omega) (by omega), e⟩

set_option maxHeartbeats 400000 in
theorem is_law (x : Int) (w : World) (h1 : 0 ≤ x) (h2 : x ≤ 18446744073709551615) :
    Calls Try.prog 4 #[.int .u64 x] w fun e w' => e = .returned (.bool true) ∧ Below w.heap.size w w' := by
  obtain ⟨s1, s2, s3⟩ := rootF_spec h1 h2
  have s4 := (rootF_bd h1 h2).2
  obtain ⟨r, hr⟩ : ∃ r, rootF x = r := ⟨_, rfl⟩
  rw [hr] at s1 s2 s3 s4
  have HR : Hid _ := hr
  clear hr
  have hq := sq_le (a := r) (b := 4294967295) (by omega) (by omega)
  have hq0 := sq_nn r
  by_cases hm : x = 18446744073709551615
  · have hr : r = 4294967295 := by
      have : 4294967295 < r + 1 := lt_of_sq (by omega) (by omega)
      omega
    subst hm
    subst hr
    go_enter Try.func4, Try.ntmps4
    go_wp2_with (first | (go_at_call 9; refine (awake_r _).mono ?_; rintro e w0 ⟨rfl, hB⟩) | (go_at_call 10; refine (sqrt_any _ _ h1 h2).mono ?_; rintro e w' ⟨rfl, rfl⟩; rw [HR.out]))
    go_ret
    exact ⟨rfl, by assumption⟩
  · by_cases hl : r = 4294967295
    · subst hl
      have hn : Hid (rootF (x + 1) = 4294967295) := by
        rcases root_next h1 (by omega) s1 s2 s3 with h | ⟨h, h'⟩
        · exact h
        · omega
      go_enter Try.func4, Try.ntmps4
      go_wp2_with (first | (go_at_call 9; refine (awake_r _).mono ?_; rintro e w0 ⟨rfl, hB⟩))
      refine (sqrt_any _ _ h1 h2).mono ?_; rintro e w' ⟨rfl, rfl⟩; rw [HR.out]
      go_wp2_with fail
      refine (sqrt_any _ _ (by omega) (by omega)).mono ?_; rintro e w' ⟨rfl, rfl⟩; rw [hn.out]
      go_wp2
      go_ret
      exact ⟨rfl, by assumption⟩
    · have hq1 := sq_le (a := r + 1) (b := 4294967295) (by omega) (by omega)
      have hq2 := sq_nn (r + 1)
      rcases root_next h1 (by omega) s1 s2 s3 with h | ⟨h, h'⟩
      · have hn : Hid _ := h
        clear h
        go_enter Try.func4, Try.ntmps4
        go_wp2_with (first | (go_at_call 9; refine (awake_r _).mono ?_; rintro e w0 ⟨rfl, hB⟩))
        refine (sqrt_any _ _ h1 h2).mono ?_; rintro e w' ⟨rfl, rfl⟩; rw [HR.out]
        go_wp2_with fail
        refine (sqrt_any _ _ (by omega) (by omega)).mono ?_; rintro e w' ⟨rfl, rfl⟩; rw [hn.out]
        go_wp2
        all_goals go_ret
        all_goals exact ⟨rfl, by assumption⟩
      · have hn : Hid _ := h
        have he : Hid _ := h'
        clear h
        go_enter Try.func4, Try.ntmps4
        go_wp2_with (first | (go_at_call 9; refine (awake_r _).mono ?_; rintro e w0 ⟨rfl, hB⟩))
        refine (sqrt_any _ _ h1 h2).mono ?_; rintro e w' ⟨rfl, rfl⟩; rw [HR.out]
        go_wp2_with fail
        refine (sqrt_any _ _ (by omega) (by omega)).mono ?_; rintro e w' ⟨rfl, rfl⟩; rw [hn.out]
        go_wp2
        all_goals go_ret
        all_goals first | exact ⟨rfl, by assumption⟩ | exact ⟨ret_true (by simp [he.out]), by assumption⟩

set_option maxHeartbeats 400000 in
theorem squares_law (n : Int) (w : World) (h1 : 0 ≤ n) (h2 : n ≤ 4294967295) :
    Calls Try.prog 5 #[.int .u32 n] w fun e w' => e = .returned (.bool true) ∧ Below w.heap.size w w' := by
  by_cases h0 : n = 0
  · subst h0
    go_enter Try.func5, Try.ntmps5
    go_wp2_with (first | (go_at_call 9; refine (awake_r _).mono ?_; rintro e w0 ⟨rfl, hB⟩))
    go_ret
    exact ⟨rfl, by assumption⟩
  · have hq := sq_le (a := n) (b := 4294967295) (by omega) (by omega)
    have hq0 := sq_le (a := 1) (b := n) (by omega) (by omega)
    have E1 : Hid (rootF (n * n) = n) := root_is (by omega) (by omega) h1 (by omega) (sq_lt h1 (by omega))
    have E2 : Hid (rootF (n * n - 1) = n - 1) := by
      refine root_is (by omega) (by omega) (by omega) ?_ ?_
      · have := sq_lt (a := n - 1) (b := n) (by omega) (by omega); omega
      · rw [show n - 1 + 1 = n by omega]; omega
    go_enter Try.func5, Try.ntmps5
    go_wp2_with (first | (go_at_call 9; refine (awake_r _).mono ?_; rintro e w0 ⟨rfl, hB⟩))
    refine (sqrt_any _ _ (by omega) (by omega)).mono ?_; rintro e w' ⟨rfl, rfl⟩; rw [E1.out]
    go_wp2_with fail
    refine (sqrt_any _ _ (by omega) (by omega)).mono ?_; rintro e w' ⟨rfl, rfl⟩; rw [E2.out]
    go_wp2
    all_goals go_ret
    all_goals first | exact ⟨rfl, by assumption⟩ | exact ⟨ret_true (by simp), by assumption⟩

set_option maxHeartbeats 400000 in
theorem norms_law (ao : Option Addr) (n cap : Nat) (f : Nat → Int) (w : World) (hc : n ≤ cap) (hn : cap ≤ 9223372036854775807) (hf : ∀ i, i < n → -2147483648 ≤ f i ∧ f i ≤ 2147483647) (h : Hid (IntsAt w ao n .i32 f)) :
    Calls Try.prog 6 #[.slice ao n cap] w fun e w' => e = .returned (.bool true) ∧ Below w.heap.size w w' := by
  have hb := normF_bd f n
  go_enter Try.func6, Try.ntmps6
  go_wp2_with (first | (go_at_call 9; refine (awake_r _).mono ?_; rintro e w0 ⟨rfl, hB⟩; have hI : Hid (IntsAt w0 ao n .i32 f) := h.out.below hB) | (go_at_call 12; refine (rnorm_any _ _ _ f _ hc hn hf (by assumption)).mono ?_; rintro e w' ⟨rfl, rfl⟩) | (go_at_call 13; refine (norm_any _ _ _ f _ hc hn hf (by assumption)).mono ?_; rintro e w' ⟨rfl, rfl⟩) | (go_at_call 14; refine (length_any _ _ _ f _ hc hn hf (by assumption)).mono ?_; rintro e w' ⟨rfl, rfl⟩) | (go_at_call 11; refine (rsqrt_any _ _ (by omega) (by omega)).mono ?_; rintro e w' ⟨rfl, rfl⟩))
  all_goals go_ret
  all_goals exact ⟨rfl, by assumption⟩
end Go.Proofs.Ytlddkbimkbdfpaa
