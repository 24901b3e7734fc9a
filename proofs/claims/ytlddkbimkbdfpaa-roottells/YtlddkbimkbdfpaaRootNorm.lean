/-
  What Norm and Length of package root, and Norm of the document's own answer, answer for a list of int32 wherever it lies; the document's examples. Nothing that was there is turned.
-/
import Derived.Test.YtlddkbimkbdfpaaRootCalls
import Derived.Test.YtlddkbimkbdfpaaIntsAt
namespace Go.Proofs.Ytlddkbimkbdfpaa
set_option linter.unusedVariables false
open Go.ChangeShapes Go.WideShapes Go.ChangeAt Go.RowKit

set_option maxHeartbeats 400000 in
theorem norm_any (ao : Option Addr) (n cap : Nat) (f : Nat → Int) (w : World) (hc : n ≤ cap) (hn : cap ≤ 9223372036854775807) (hf : ∀ i, i < n → -2147483648 ≤ f i ∧ f i ≤ 2147483647) (h : Hid (IntsAt w ao n .i32 f)) :
    Calls Try.prog 13 #[.slice ao n cap] w fun e w' => e = .returned (.int .u64 (normF f n)) ∧ w' = w := by
  by_cases hl : 512 < n
  · have hl' : (512 : Int) < n := by omega
    obtain ⟨b0, off0, rfl, _⟩ := h.out 0 (by omega)
    go_enter Try.func13, Try.ntmps13
    go_wp2
    go_loop [3, 14] (fun s i => ∃ k : Nat, k ≤ 512 ∧ i = .int .i64 k ∧ s = .int .u64 (sumF (fun j => sqF (f j)) k)) (fun _ i => 512 - (intOf i).toNat)
    case atStart => exact ⟨0, by omega, rfl, rfl⟩
    case round =>
      obtain ⟨k, hk, rfl, rfl⟩ := hrel
      by_cases hlt : k < 512
      · have hlt' : (k : Int) < 512 := by omega
        obtain ⟨b, off, hao, c0⟩ := h.out k (by omega)
        first | subst hao | (simp only [Option.some.injEq, Addr.mk.injEq, and_true] at hao; obtain ⟨rfl, rfl⟩ := hao)
        have hb := hf k (by omega)
        have h1 := sqs_bd f (n := k) (by omega)
        have h2 := sqs_bd f (n := k + 1) (by omega)
        have h3 := sqF_bd (f k)
        have hs : sumF (fun j => sqF (f j)) (k + 1) = sumF (fun j => sqF (f j)) k + heldF (f k) * heldF (f k) := rfl
        rw [hs] at h2
        unfold sqF at h3
        have hh := heldF_bd (f k)
        have HS : Hid _ := hs
        clear h hs hlt hk
        go_wp2_with (go_at_call 18; refine (rwithin_any _ _ _ (by omega) (by omega)).mono ?_; rintro e w' ⟨rfl, rfl⟩; rw [show clamp (f k) (-134217728) 134217728 = heldF (f k) from rfl])
        go_round
        case rel => exact ⟨k + 1, by omega, by go_num, by rw [HS.out]⟩
        case measure => simp [intOf]; omega
      · have e : (k : Int) = 512 := by omega
        have HK : Hid (k = min n 512) := by show _ = _; omega
        clear h hlt hk
        go_wp2
        go_ret
        exact ⟨ret_int (by unfold normF; rw [← HK.out]), rfl⟩
  · have hl' : (n : Int) ≤ 512 := by omega
    go_enter Try.func13, Try.ntmps13
    go_wp2
    go_loop [3, 14] (fun s i => ∃ k : Nat, k ≤ n ∧ i = .int .i64 k ∧ s = .int .u64 (sumF (fun j => sqF (f j)) k)) (fun _ i => n - (intOf i).toNat)
    case atStart => exact ⟨0, by omega, rfl, rfl⟩
    case round =>
      obtain ⟨k, hk, rfl, rfl⟩ := hrel
      by_cases hlt : k < n
      · obtain ⟨b, off, hao, c0⟩ := h.out k (by omega)
        first | subst hao | (simp only [Option.some.injEq, Addr.mk.injEq, and_true] at hao; obtain ⟨rfl, rfl⟩ := hao)
        have hb := hf k (by omega)
        have h1 := sqs_bd f (n := k) (by omega)
        have h2 := sqs_bd f (n := k + 1) (by omega)
        have h3 := sqF_bd (f k)
        have hs : sumF (fun j => sqF (f j)) (k + 1) = sumF (fun j => sqF (f j)) k + heldF (f k) * heldF (f k) := rfl
        rw [hs] at h2
        unfold sqF at h3
        have hh := heldF_bd (f k)
        have HS : Hid _ := hs
        clear h hs
        go_wp2_with (go_at_call 18; refine (rwithin_any _ _ _ (by omega) (by omega)).mono ?_; rintro e w' ⟨rfl, rfl⟩; rw [show clamp (f k) (-134217728) 134217728 = heldF (f k) from rfl])
        go_round
        case rel => exact ⟨k + 1, by omega, by go_num, by rw [HS.out]⟩
        case measure => simp [intOf]; omega
      · have e : k = n := by omega
        subst e
        clear h
        go_wp2
        go_ret
        exact ⟨ret_int (by unfold normF; congr 1; omega), rfl⟩

set_option maxRecDepth 20000 in
set_option maxHeartbeats 400000 in
theorem rnorm_any (ao : Option Addr) (n cap : Nat) (f : Nat → Int) (w : World) (hc : n ≤ cap) (hn : cap ≤ 9223372036854775807) (hf : ∀ i, i < n → -2147483648 ≤ f i ∧ f i ≤ 2147483647) (h : Hid (IntsAt w ao n .i32 f)) :
    Calls Try.prog 12 #[.slice ao n cap] w fun e w' => e = .returned (.int .u64 (normF f n)) ∧ w' = w := by
  go_enter Try.func12, Try.ntmps12
  go_wp2
  go_loop [3, 4] (fun s i => ∃ k : Nat, k ≤ min n 512 ∧ i = .int .i64 k ∧ s = .int .u64 (sumF (fun j => sqF (f j)) k)) (fun _ i => 512 - (intOf i).toNat)
  case atStart => exact ⟨0, by omega, rfl, rfl⟩
  case round =>
    obtain ⟨k, hk, rfl, rfl⟩ := hrel
    by_cases hlt : k < n
    · by_cases hlt2 : k < 512
      · have hlt2' : (k : Int) < 512 := by omega
        obtain ⟨b, off, rfl, c0⟩ := h.out k hlt
        have hb := hf k hlt
        have h1 := sqs_bd f (n := k) (by omega)
        have h2 := sqs_bd f (n := k + 1) (by omega)
        have h3 := sqF_bd (f k)
        have hs : sumF (fun j => sqF (f j)) (k + 1) = sumF (fun j => sqF (f j)) k + sqF (f k) := rfl
        rw [hs] at h2
        rcases (show f k < -134217728 ∨ (-134217728 ≤ f k ∧ f k < 0) ∨ (0 ≤ f k ∧ f k ≤ 134217728) ∨ 134217728 < f k by omega) with g | ⟨g, g'⟩ | ⟨g, g'⟩ | g
        · have hy : sqF (f k) = 134217728 * 134217728 := by
            unfold sqF heldF clamp
            rw [if_pos g]; rfl
          rw [hy] at h2 h3 hs
          have HS : Hid _ := hs
          clear h hs hy hlt2 hk
          go_wp2
          go_round
          case rel => exact ⟨k + 1, by omega, by go_num, by first | (rw [HS.out]; done) | (rw [HS.out]; rfl)⟩
          case measure => simp [intOf]; omega
        · have hy : sqF (f k) = -(f k) * -(f k) := by
            unfold sqF heldF clamp
            rw [if_neg (by omega), if_neg (by omega), Int.neg_mul_neg]
          rw [hy] at h2 h3 hs
          have HS : Hid _ := hs
          clear h hs hy hlt2 hk
          go_wp2
          go_round
          case rel => exact ⟨k + 1, by omega, by go_num, by first | (rw [HS.out]; done) | (rw [HS.out]; rfl)⟩
          case measure => simp [intOf]; omega
        · have hy : sqF (f k) = f k * f k := by
            unfold sqF heldF clamp
            rw [if_neg (by omega), if_neg (by omega)]
          rw [hy] at h2 h3 hs
          have HS : Hid _ := hs
          clear h hs hy hlt2 hk
          go_wp2
          go_round
          case rel => exact ⟨k + 1, by omega, by go_num, by first | (rw [HS.out]; done) | (rw [HS.out]; rfl)⟩
          case measure => simp [intOf]; omega
        · have hy : sqF (f k) = 134217728 * 134217728 := by
            unfold sqF heldF clamp
            rw [if_neg (by omega), if_pos g]
          rw [hy] at h2 h3 hs
          have HS : Hid _ := hs
          clear h hs hy hlt2 hk
          go_wp2
          go_round
          case rel => exact ⟨k + 1, by omega, by go_num, by first | (rw [HS.out]; done) | (rw [HS.out]; rfl)⟩
          case measure => simp [intOf]; omega
      · have HK : Hid (k = min n 512) := by show _ = _; omega
        have hlt2' : (k : Int) = 512 := by omega
        clear h hlt2 hk
        go_wp2
        go_ret
        exact ⟨ret_int (by unfold normF; rw [← HK.out]), rfl⟩
    · have HK : Hid (k = min n 512) := by show _ = _; omega
      have hk' : (k : Int) ≤ 512 := by omega
      have hkn : k = n := by omega
      clear h hk hlt
      subst hkn
      go_wp2
      go_ret
      exact ⟨ret_int (by unfold normF; rw [← HK.out]), rfl⟩

set_option maxHeartbeats 400000 in
theorem length_any (ao : Option Addr) (n cap : Nat) (f : Nat → Int) (w : World) (hc : n ≤ cap) (hn : cap ≤ 9223372036854775807) (hf : ∀ i, i < n → -2147483648 ≤ f i ∧ f i ≤ 2147483647) (h : Hid (IntsAt w ao n .i32 f)) :
    Calls Try.prog 14 #[.slice ao n cap] w fun e w' => e = .returned (.int .u64 (rootF (normF f n))) ∧ w' = w := by
  have hb := normF_bd f n
  have H1 := norm_any ao n cap f w hc hn hf h
  clear h
  go_enter Try.func14, Try.ntmps14
  go_wp2_with (first | (go_at_call 13; refine H1.mono ?_; rintro e w' ⟨rfl, rfl⟩) | (go_at_call 10; refine (sqrt_any _ _ (by omega) (by omega)).mono ?_; rintro e w' ⟨rfl, rfl⟩))
  go_ret
  exact ⟨rfl, rfl⟩

set_option maxHeartbeats 400000 in
theorem awake_r (w : World) :
    Calls Try.prog 9 #[] w fun e w' => e = .returned (.bool true) ∧ Below w.heap.size w w' := by
  have E1 : Hid (rootF 8 = 2) := by show _ = _; decide
  have E2 : Hid (rootF (normF (fun i => [3, 4].getD i 0) 2) = 5) := by show _ = _; decide
  have E3 : Hid (partF (-7) 2 4 = -3) := by show _ = _; decide
  go_enter Try.func9, Try.ntmps9
  go_wp2_with fail
  refine (sqrt_any _ _ (by omega) (by omega)).mono ?_
  rintro e w' ⟨rfl, rfl⟩
  rw [E1.out]
  go_wp2_with fail
  refine (length_any _ 2 2 (fun i => [3, 4].getD i 0) _ (by omega) (by omega) (fun i hi => ?_) (fun i hi => ?_)).mono ?_
  · rcases (show i = 0 ∨ i = 1 by omega) with rfl | rfl <;> exact ⟨by decide, by decide⟩
  · rcases (show i = 0 ∨ i = 1 by omega) with rfl | rfl
    · exact ⟨_, _, rfl, by simp [go_sem]⟩
    · exact ⟨_, _, rfl, by simp [go_sem]⟩
  rintro e w1 ⟨rfl, rfl⟩
  rw [E2.out]
  go_wp2_with (go_at_call 15; refine (part_any _ _ _ _ (by omega) (by omega) (by omega) (by omega)).mono ?_; rintro e w2 ⟨rfl, rfl⟩; rw [E3.out])
  go_ret
  exact ⟨rfl, by go_grown⟩
end Go.Proofs.Ytlddkbimkbdfpaa
