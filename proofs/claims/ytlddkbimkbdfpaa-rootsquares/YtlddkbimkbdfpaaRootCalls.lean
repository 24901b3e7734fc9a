/-
  What each function of package root and of the document's own answer for layer 3 (spinetref03) answers, as a function on whole numbers: roots, parts. Integer arguments within their kinds.
-/
import Derived.Test.YtlddkbimkbdfpaaRootMath
import Derived.Test.YtlddkbimkbdfpaaRows
import Derived.ProofKit
import Derived.OpenShut
import Derived.WalkSpells
import Derived.Handy
import Derived.WalkLawsBesides
import Derived.Below
namespace Go.Proofs.Ytlddkbimkbdfpaa
set_option linter.unusedVariables false
open Go.ChangeShapes Go.WideShapes Go.ChangeAt Go.RowKit

theorem ret_int {k : IntKind} {a b : Int} (h : a = b) : Ending.returned (.int k a) = .returned (.int k b) := by rw [h]
theorem ret_true {b : Bool} (h : b = true) : Ending.returned (.bool b) = .returned (.bool true) := by rw [h]

theorem or_bit {r : Int} {k : Nat} (hk : k ≤ 31) (h0 : 0 ≤ r) (h1 : r < 18446744073709551616) (h2 : r % p2 (k + 1) = 0) : bits .or .u64 r (p2 k) = r + p2 k := by
  have hp := p2_pos k
  have hs := p2_succ k
  have hm := p2_62 (n := k) (by omega)
  refine bits_join .u64 64 (by decide) (fun n a b => by rw [IntKind.wrap_u64]; omega) (k + 1) r (p2 k) h0 h2 (by omega) (by omega) ?_ (by omega)
  show p2 k < p2 (k + 1)
  omega

theorem mod_half {r : Int} {k : Nat} (h : r % p2 (k + 1) = 0) : r % p2 k = 0 := by
  have hs := p2_succ k
  have e := Int.emod_emod_of_dvd r (m := p2 k) (k := p2 (k + 1)) ⟨2, by omega⟩
  rw [h] at e
  rw [← e]; exact Int.zero_emod _
theorem rootN_yes {x q : Int} {k : Nat} (h : (q + p2 k) * (q + p2 k) ≤ x) : rootN x (k + 1) q = rootN x k (q + p2 k) := by rw [rootN, if_pos h]
theorem rootN_no {x q : Int} {k : Nat} (h : ¬ (q + p2 k) * (q + p2 k) ≤ x) : rootN x (k + 1) q = rootN x k q := by rw [rootN, if_neg h]

set_option maxHeartbeats 400000 in
theorem sqrt_any (x : Int) (w : World) (h1 : 0 ≤ x) (h2 : x ≤ 18446744073709551615) :
    Calls Try.prog 10 #[.int .u64 x] w fun e w' => e = .returned (.int .u64 (rootF x)) ∧ w' = w := by
  go_enter Try.func10, Try.ntmps10
  go_wp2
  go_loop [3, 4] (fun r b => ∃ (k : Nat) (q : Int), k ≤ 32 ∧ 0 ≤ q ∧ q + p2 k ≤ 4294967296 ∧ q % p2 k = 0 ∧ rootN x k q = rootF x ∧ r = .int .u64 q ∧ b = .int .u64 (p2 k / 2)) (fun _ b => (intOf b).toNat)
  case atStart => exact ⟨32, 0, by omega, by omega, by rw [p2_32]; omega, Int.zero_emod _, rfl, rfl, by rw [p2_32]; rfl⟩
  case round =>
    obtain ⟨k, q, hk, hq, hqk, hm, hR, rfl, rfl⟩ := hrel
    cases k with
    | zero =>
      rw [show p2 0 / 2 = 0 by decide]
      go_wp2
      go_ret
      exact ⟨ret_int hR, rfl⟩
    | succ k =>
      have hp := p2_pos k
      have hs := p2_succ k
      rw [show p2 (k + 1) / 2 = p2 k by omega]
      have hor := or_bit (r := q) (k := k) (by omega) hq (by omega) hm
      have hsq := sq_le (a := q + p2 k) (b := 4294967295) (by omega) (by omega)
      have hnn := sq_nn (q + p2 k)
      have hm2 := mod_half hm
      have HM : Hid (q % p2 k = 0) := hm2
      have HR : Hid _ := hR
      have HS : Hid _ := hs
      clear hm hR hm2
      by_cases hle : (q + p2 k) * (q + p2 k) ≤ x
      · go_wp2
        go_round
        case rel => exact ⟨k, q + p2 k, by omega, by omega, by omega, by rw [Int.add_emod_right]; exact HM.out, by rw [← rootN_yes hle]; exact HR.out, rfl, rfl⟩
        case measure => simp [intOf]; omega
      · go_wp2
        go_round
        case rel => exact ⟨k, q, by omega, by omega, by omega, HM.out, by rw [← rootN_no hle]; exact HR.out, rfl, rfl⟩
        case measure => simp [intOf]; omega

theorem fits_is {r x : Int} (hr : 0 < r) (hx : 0 ≤ x) : (r ≤ x / r) ↔ (r * r ≤ x) := Int.le_ediv_iff_mul_le hr

set_option maxHeartbeats 400000 in
theorem fits_any (r x : Int) (w : World) (h1 : 0 < r) (h2 : 0 ≤ x) (h3 : r ≤ 18446744073709551615) (h4 : x ≤ 18446744073709551615) :
    Calls Try.prog 17 #[.int .u64 r, .int .u64 x] w fun e w' => e = .returned (.bool (decide (r * r ≤ x))) ∧ w' = w := by
  have hr : ¬ r = 0 := by omega
  go_enter Try.func17, Try.ntmps17
  go_wp2
  go_ret
  refine ⟨?_, rfl⟩
  show Ending.returned (.bool (r == 0 || decide (r ≤ x / r))) = _
  congr 2
  rw [show (r == 0) = false by simp [hr], Bool.false_or]
  exact decide_eq_decide.2 (fits_is h1 h2)

set_option maxHeartbeats 400000 in
theorem rsqrt_any (x : Int) (w : World) (h1 : 0 ≤ x) (h2 : x ≤ 18446744073709551615) :
    Calls Try.prog 11 #[.int .u64 x] w fun e w' => e = .returned (.int .u64 (rootF x)) ∧ w' = w := by
  go_enter Try.func11, Try.ntmps11
  go_wp2
  go_loop [3, 4] (fun r b => ∃ (k : Nat) (q : Int), k ≤ 32 ∧ 0 ≤ q ∧ q + p2 k ≤ 4294967296 ∧ rootN x k q = rootF x ∧ r = .int .u64 q ∧ b = .int .u64 (p2 k / 2)) (fun _ b => (intOf b).toNat)
  case atStart => exact ⟨32, 0, by omega, by omega, by rw [p2_32]; omega, rfl, rfl, by rw [p2_32]; rfl⟩
  case round =>
    obtain ⟨k, q, hk, hq, hqk, hR, rfl, rfl⟩ := hrel
    cases k with
    | zero =>
      rw [show p2 0 / 2 = 0 by decide]
      go_wp2
      go_ret
      exact ⟨ret_int hR, rfl⟩
    | succ k =>
      have hp := p2_pos k
      have hs := p2_succ k
      rw [show p2 (k + 1) / 2 = p2 k by omega]
      have HR : Hid _ := hR
      clear hR
      by_cases hle : (q + p2 k) * (q + p2 k) ≤ x
      · have hd : decide ((q + p2 k) * (q + p2 k) ≤ x) = true := by simp [hle]
        have HD : Hid _ := hd
        clear hd
        go_wp2_with (go_at_call 17; refine (fits_any _ _ _ (by omega) (by omega) (by omega) (by omega)).mono ?_; rintro e w' ⟨rfl, rfl⟩; rw [HD.out])
        go_round
        case rel => exact ⟨k, q + p2 k, by omega, by omega, by omega, by rw [← rootN_yes hle]; exact HR.out, rfl, by go_num⟩
        case measure => simp [intOf]; omega
      · have hd : decide ((q + p2 k) * (q + p2 k) ≤ x) = false := by simp [hle]
        have HD : Hid _ := hd
        clear hd
        go_wp2_with (go_at_call 17; refine (fits_any _ _ _ (by omega) (by omega) (by omega) (by omega)).mono ?_; rintro e w' ⟨rfl, rfl⟩; rw [HD.out])
        go_round
        case rel => exact ⟨k, q, by omega, by omega, by omega, by rw [← rootN_no (by omega)]; exact HR.out, rfl, by go_num⟩
        case measure => simp [intOf]; omega

set_option maxHeartbeats 400000 in
theorem rwithin_any (a m : Int) (w : World) (h1 : 0 ≤ m) (h2 : m ≤ 1073741824) :
    Calls Try.prog 18 #[.int .i64 a, .int .i64 m] w fun e w' => e = .returned (.int .i64 (clamp a (-m) m)) ∧ w' = w := by
  by_cases ha : a < -m
  · go_enter Try.func18, Try.ntmps18
    go_wp2
    go_ret
    exact ⟨ret_int (by unfold clamp; rw [if_pos ha]), rfl⟩
  · by_cases hc : m < a
    · go_enter Try.func18, Try.ntmps18
      go_wp2
      go_ret
      exact ⟨ret_int (by unfold clamp; rw [if_neg (by omega), if_pos hc]), rfl⟩
    · go_enter Try.func18, Try.ntmps18
      go_wp2
      go_ret
      exact ⟨ret_int (by unfold clamp; rw [if_neg (by omega), if_neg (by omega)]), rfl⟩

theorem mul_bds {a b A B : Int} (h1 : -A ≤ a) (h2 : a ≤ A) (h3 : -B ≤ b) (h4 : b ≤ B) : -(A * B) ≤ a * b ∧ a * b ≤ A * B := by
  have hA : 0 ≤ A := by omega
  have hB : 0 ≤ B := by omega
  rcases Int.le_total 0 a with ha | ha <;> rcases Int.le_total 0 b with hb | hb
  · have p := Int.mul_nonneg ha hb; have q := Int.mul_le_mul h2 h4 hb hA; omega
  · have p := Int.mul_nonneg ha (show 0 ≤ -b by omega); have q := Int.mul_le_mul h2 (show -b ≤ B by omega) (by omega) hA; rw [Int.mul_neg] at p q; omega
  · have p := Int.mul_nonneg (show 0 ≤ -a by omega) hb; have q := Int.mul_le_mul (show -a ≤ A by omega) h4 hb hA; rw [Int.neg_mul] at p q; omega
  · have p := Int.mul_nonneg (show 0 ≤ -a by omega) (show 0 ≤ -b by omega); have q := Int.mul_le_mul (show -a ≤ A by omega) (show -b ≤ B by omega) (by omega) hA; rw [Int.neg_mul_neg] at p q; omega

set_option maxHeartbeats 400000 in
theorem part_any (x g n : Int) (w : World) (h1 : -2147483648 ≤ x) (h2 : x ≤ 2147483647) (h3 : 0 ≤ n) (h4 : n ≤ 18446744073709551615) :
    Calls Try.prog 15 #[.int .i32 x, .int .i64 g, .int .u64 n] w fun e w' => e = .returned (.int .i64 (partF x g n)) ∧ w' = w := by
  by_cases hn : n = 0
  · subst hn
    go_enter Try.func15, Try.ntmps15
    go_wp2
    go_ret
    exact ⟨ret_int (by unfold partF; rw [if_pos (by omega)]), rfl⟩
  · by_cases hl : 4611686018427387904 < n
    · go_enter Try.func15, Try.ntmps15
      go_wp2
      go_ret
      exact ⟨ret_int (by unfold partF; rw [if_pos (by omega)]), rfl⟩
    · have hc := clamp_bd g (-1073741824) 1073741824 (by omega)
      have hm := mul_bds (a := x) (b := clamp g (-1073741824) 1073741824) (A := 2147483648) (B := 1073741824) (by omega) (by omega) (by omega) (by omega)
      go_enter Try.func15, Try.ntmps15
      go_wp2_with (go_at_call 18; refine (rwithin_any _ _ _ (by omega) (by omega)).mono ?_; rintro e w' ⟨rfl, rfl⟩)
      go_ret
      exact ⟨ret_int (by unfold partF; rw [if_neg (by omega)]), rfl⟩

theorem div_bds {m n : Int} (h1 : 0 ≤ m) (h2 : m ≤ 2305843009213693952) (hn : 0 ≤ n) : 0 ≤ m / n ∧ m / n ≤ 2305843009213693952 :=
  ⟨Int.ediv_nonneg h1 hn, Int.le_trans (Int.ediv_le_self _ h1) h2⟩
theorem part_pos {m n z : Int} (h1 : 0 ≤ m) (h : z = m) : m / n = z.tdiv n := by rw [h, Int.tdiv_eq_ediv_of_nonneg h1]
theorem part_neg {m n z : Int} (h1 : 0 ≤ m) (h : z = -m) : -(m / n) = z.tdiv n := by rw [h, Int.neg_tdiv, Int.tdiv_eq_ediv_of_nonneg h1]
theorem partF_is {x g n c z : Int} (h1 : ¬ n = 0) (h2 : ¬ 4611686018427387904 < n) (hc : clamp g (-1073741824) 1073741824 = c) (h : z = (x * c).tdiv n) : z = partF x g n := by
  unfold partF; rw [if_neg (by omega), hc]; exact h

set_option maxHeartbeats 400000 in
theorem rpart_any (x g n : Int) (w : World) (h1 : -2147483648 ≤ x) (h2 : x ≤ 2147483647) (h3 : 0 ≤ n) (h4 : n ≤ 18446744073709551615) :
    Calls Try.prog 16 #[.int .i32 x, .int .i64 g, .int .u64 n] w fun e w' => e = .returned (.int .i64 (partF x g n)) ∧ w' = w := by
  by_cases hn : n = 0
  · subst hn
    go_enter Try.func16, Try.ntmps16
    go_wp2
    go_ret
    exact ⟨ret_int (by unfold partF; rw [if_pos (by omega)]), rfl⟩
  · by_cases hl : 4611686018427387904 < n
    · go_enter Try.func16, Try.ntmps16
      go_wp2
      go_ret
      exact ⟨ret_int (by unfold partF; rw [if_pos (by omega)]), rfl⟩
    · rcases (show (x < 0 ∧ g < -1073741824) ∨ (x < 0 ∧ 1073741824 < g) ∨ (x < 0 ∧ -1073741824 ≤ g ∧ g < 0) ∨ (x < 0 ∧ 0 ≤ g ∧ g ≤ 1073741824) ∨ (0 ≤ x ∧ g < -1073741824) ∨ (0 ≤ x ∧ 1073741824 < g) ∨ (0 ≤ x ∧ -1073741824 ≤ g ∧ g < 0) ∨ (0 ≤ x ∧ 0 ≤ g ∧ g ≤ 1073741824) by omega) with ⟨hx, hg⟩ | ⟨hx, hg⟩ | ⟨hx, hg, hg'⟩ | ⟨hx, hg, hg'⟩ | ⟨hx, hg⟩ | ⟨hx, hg⟩ | ⟨hx, hg, hg'⟩ | ⟨hx, hg, hg'⟩
      · have hm : 0 ≤ -x * 1073741824 ∧ -x * 1073741824 ≤ 2305843009213693952 := by omega
        have hd := div_bds (n := n) hm.1 hm.2 h3
        have HE : Hid ((-x * 1073741824 / n) = partF x g n) := partF_is (c := -1073741824) hn hl (by unfold clamp; rw [if_pos (by omega)]) (part_pos hm.1 (by omega))
        go_enter Try.func16, Try.ntmps16
        go_wp2
        all_goals first
          | (go_ret; exact ⟨ret_int HE.out, rfl⟩)
          | (exfalso; simp_all; done)
          | (exfalso; simp_all; omega)
      · have hm : 0 ≤ -x * 1073741824 ∧ -x * 1073741824 ≤ 2305843009213693952 := by omega
        have hd := div_bds (n := n) hm.1 hm.2 h3
        have HE : Hid (-(-x * 1073741824 / n) = partF x g n) := partF_is (c := 1073741824) hn hl (by unfold clamp; rw [if_neg (by omega), if_pos (by omega)]) (part_neg hm.1 (by omega))
        go_enter Try.func16, Try.ntmps16
        go_wp2
        all_goals first
          | (go_ret; exact ⟨ret_int HE.out, rfl⟩)
          | (exfalso; simp_all; done)
          | (exfalso; simp_all; omega)
      · have hm : 0 ≤ -x * -g ∧ -x * -g ≤ 2305843009213693952 := ⟨Int.mul_nonneg (by omega) (by omega), Int.le_trans (Int.mul_le_mul (c := 2147483648) (d := 1073741824) (by omega) (by omega) (by omega) (by omega)) (by omega)⟩
        have hd := div_bds (n := n) hm.1 hm.2 h3
        have HE : Hid ((-x * -g / n) = partF x g n) := partF_is (c := g) hn hl (by exact clamp_in _ _ _ (by omega) (by omega)) (part_pos hm.1 (by first | rfl | rw [Int.neg_mul_neg] | rw [Int.neg_mul, Int.neg_neg] | rw [Int.mul_neg, Int.neg_neg]))
        go_enter Try.func16, Try.ntmps16
        go_wp2
        all_goals first
          | (go_ret; exact ⟨ret_int HE.out, rfl⟩)
          | (exfalso; simp_all; done)
          | (exfalso; simp_all; omega)
      · have hm : 0 ≤ -x * g ∧ -x * g ≤ 2305843009213693952 := ⟨Int.mul_nonneg (by omega) (by omega), Int.le_trans (Int.mul_le_mul (c := 2147483648) (d := 1073741824) (by omega) (by omega) (by omega) (by omega)) (by omega)⟩
        have hd := div_bds (n := n) hm.1 hm.2 h3
        have HE : Hid (-(-x * g / n) = partF x g n) := partF_is (c := g) hn hl (by exact clamp_in _ _ _ (by omega) (by omega)) (part_neg hm.1 (by first | rfl | rw [Int.neg_mul_neg] | rw [Int.neg_mul, Int.neg_neg] | rw [Int.mul_neg, Int.neg_neg]))
        go_enter Try.func16, Try.ntmps16
        go_wp2
        all_goals first
          | (go_ret; exact ⟨ret_int HE.out, rfl⟩)
          | (exfalso; simp_all; done)
          | (exfalso; simp_all; omega)
      · have hm : 0 ≤ x * 1073741824 ∧ x * 1073741824 ≤ 2305843009213693952 := by omega
        have hd := div_bds (n := n) hm.1 hm.2 h3
        have HE : Hid (-(x * 1073741824 / n) = partF x g n) := partF_is (c := -1073741824) hn hl (by unfold clamp; rw [if_pos (by omega)]) (part_neg hm.1 (by omega))
        go_enter Try.func16, Try.ntmps16
        go_wp2
        all_goals first
          | (go_ret; exact ⟨ret_int HE.out, rfl⟩)
          | (exfalso; simp_all; done)
          | (exfalso; simp_all; omega)
      · have hm : 0 ≤ x * 1073741824 ∧ x * 1073741824 ≤ 2305843009213693952 := by omega
        have hd := div_bds (n := n) hm.1 hm.2 h3
        have HE : Hid ((x * 1073741824 / n) = partF x g n) := partF_is (c := 1073741824) hn hl (by unfold clamp; rw [if_neg (by omega), if_pos (by omega)]) (part_pos hm.1 (by omega))
        go_enter Try.func16, Try.ntmps16
        go_wp2
        all_goals first
          | (go_ret; exact ⟨ret_int HE.out, rfl⟩)
          | (exfalso; simp_all; done)
          | (exfalso; simp_all; omega)
      · have hm : 0 ≤ x * -g ∧ x * -g ≤ 2305843009213693952 := ⟨Int.mul_nonneg (by omega) (by omega), Int.le_trans (Int.mul_le_mul (c := 2147483648) (d := 1073741824) (by omega) (by omega) (by omega) (by omega)) (by omega)⟩
        have hd := div_bds (n := n) hm.1 hm.2 h3
        have HE : Hid (-(x * -g / n) = partF x g n) := partF_is (c := g) hn hl (by exact clamp_in _ _ _ (by omega) (by omega)) (part_neg hm.1 (by first | rfl | rw [Int.neg_mul_neg] | rw [Int.neg_mul, Int.neg_neg] | rw [Int.mul_neg, Int.neg_neg]))
        go_enter Try.func16, Try.ntmps16
        go_wp2
        all_goals first
          | (go_ret; exact ⟨ret_int HE.out, rfl⟩)
          | (exfalso; simp_all; done)
          | (exfalso; simp_all; omega)
      · have hm : 0 ≤ x * g ∧ x * g ≤ 2305843009213693952 := ⟨Int.mul_nonneg (by omega) (by omega), Int.le_trans (Int.mul_le_mul (c := 2147483648) (d := 1073741824) (by omega) (by omega) (by omega) (by omega)) (by omega)⟩
        have hd := div_bds (n := n) hm.1 hm.2 h3
        have HE : Hid ((x * g / n) = partF x g n) := partF_is (c := g) hn hl (by exact clamp_in _ _ _ (by omega) (by omega)) (part_pos hm.1 (by first | rfl | rw [Int.neg_mul_neg] | rw [Int.neg_mul, Int.neg_neg] | rw [Int.mul_neg, Int.neg_neg]))
        go_enter Try.func16, Try.ntmps16
        go_wp2
        all_goals first
          | (go_ret; exact ⟨ret_int HE.out, rfl⟩)
          | (exfalso; simp_all; done)
          | (exfalso; simp_all; omega)
end Go.Proofs.Ytlddkbimkbdfpaa
