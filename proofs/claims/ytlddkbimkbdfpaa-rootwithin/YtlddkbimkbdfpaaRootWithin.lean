/-
  The law RootWithin of layer 3 as a walk, for any list of int32 and any uint32: it returns true, and nothing that was there has turned. No condition beside the arguments' kinds.
-/
import Derived.Test.YtlddkbimkbdfpaaRootLaws
namespace Go.Proofs.Ytlddkbimkbdfpaa
set_option linter.unusedVariables false
open Go.ChangeShapes Go.WideShapes Go.ChangeAt Go.RowKit

theorem tdiv_bds {m n g : Int} (hn : 0 < n) (hg : 0 ≤ g) (h1 : -(n * g) ≤ m) (h2 : m ≤ n * g) : -g ≤ m.tdiv n ∧ m.tdiv n ≤ g := by
  rcases Int.le_total 0 m with h | h
  · rw [Int.tdiv_eq_ediv_of_nonneg h]
    have a := Int.ediv_nonneg h (Int.le_of_lt hn)
    have b : m / n ≤ g := Int.ediv_le_of_le_mul hn (by rw [Int.mul_comm]; exact h2)
    omega
  · have e : m = -(-m) := by omega
    rw [e, Int.neg_tdiv, Int.tdiv_eq_ediv_of_nonneg (show 0 ≤ -m by omega)]
    have a := Int.ediv_nonneg (show 0 ≤ -m by omega) (Int.le_of_lt hn)
    have b : -m / n ≤ g := Int.ediv_le_of_le_mul hn (by rw [Int.mul_comm]; omega)
    omega
theorem in_list {f : Nat → Int} {n i : Nat} (hn : n ≤ 60) (hi : i < n) (h1 : -1048576 ≤ f i) (h2 : f i ≤ 1048576) : f i ≤ rootF (normF f n) ∧ -(f i) ≤ rootF (normF f n) := by
  have hb := normF_bd f n
  obtain ⟨s1, s2, s3⟩ := rootF_spec (x := normF f n) hb.1 (by omega)
  have hs : sqF (f i) ≤ normF f n := by
    unfold normF
    rw [show min n 512 = n by omega]
    exact sum_ge (f := fun j => sqF (f j)) (fun j => (sqF_bd (f j)).1) hi
  have e : sqF (f i) = f i * f i := by unfold sqF heldF; rw [clamp_in _ _ _ (by omega) (by omega)]
  generalize rootF (normF f n) = L at *
  have a : f i < L + 1 := lt_of_sq (by omega) (by omega)
  have b : -(f i) < L + 1 := lt_of_sq (by omega) (by rw [Int.neg_mul_neg]; omega)
  omega
theorem part_bds {x g L : Int} (h1 : x ≤ L) (h2 : -x ≤ L) (hL : L ≤ 4294967295) (hg : 0 ≤ g) (hg2 : g ≤ 1048576) : -g ≤ partF x g L ∧ partF x g L ≤ g := by
  unfold partF
  split
  · omega
  · rw [clamp_in _ _ _ (by omega) (by omega)]
    have hm := mul_bds (a := x) (b := g) (A := L) (B := g) (by omega) h1 (by omega) (by omega)
    exact tdiv_bds (by omega) hg hm.1 hm.2
theorem part_0 (x g : Int) : partF x g 0 = 0 := by unfold partF; rw [if_pos (by omega)]

set_option maxHeartbeats 1000000 in
theorem within_law (ao : Option Addr) (n cap : Nat) (f : Nat → Int) (g : Int) (w : World) (hc : n ≤ cap) (hn : cap ≤ 9223372036854775807) (hf : ∀ i, i < n → -2147483648 ≤ f i ∧ f i ≤ 2147483647) (hg1 : 0 ≤ g) (hg2 : g ≤ 4294967295) (h : Hid (IntsAt w ao n .i32 f)) :
    Calls Try.prog 8 #[.slice ao n cap, .int .u32 g] w fun e w' => e = .returned (.bool true) ∧ Below w.heap.size w w' := by
  by_cases hl : n ≤ 60
  · by_cases hg : g ≤ 1048576
    · have hl' : (n : Int) ≤ 60 := by omega
      have HL : Hid _ := hl
      clear hl
      go_enter Try.func8, Try.ntmps8
      go_wp2_with fail
      refine (awake_r _).mono ?_
      rintro e w0 ⟨rfl, hB⟩
      have hI : Hid (IntsAt w0 ao n .i32 f) := h.out.below hB
      clear h
      go_wp2
      go_loop [23] (fun i => ∃ k : Nat, k ≤ n ∧ i = .int .i64 k ∧ ∀ j, j < k → -1048576 ≤ f j ∧ f j ≤ 1048576) (fun i => n - (intOf i).toNat)
      case atStart => exact ⟨0, by omega, rfl, fun j hj => by omega⟩
      case round =>
        obtain ⟨k, hk, rfl, hall⟩ := hrel
        by_cases hlt : k < n
        · obtain ⟨b, off, rfl, c0⟩ := hI.out k hlt
          have hb := hf k hlt
          by_cases hin : -1048576 ≤ f k ∧ f k ≤ 1048576
          · have h1 := hin.1
            have h2 := hin.2
            have HA : Hid _ := hall
            clear hI hall hin
            go_wp2
            go_round
            case rel =>
              refine ⟨k + 1, by omega, by go_num, fun j hj => ?_⟩
              rcases Nat.lt_or_ge j k with h' | h'
              · exact HA.out j h'
              · have e : j = k := by omega
                subst e
                exact ⟨h1, h2⟩
            case measure => simp [intOf]; omega
          · clear hI hall
            rcases (show f k < -1048576 ∨ 1048576 < f k by omega) with h' | h'
            · clear hin
              go_wp2
              go_ret
              exact ⟨rfl, by assumption⟩
            · clear hin
              go_wp2
              go_ret
              exact ⟨rfl, by assumption⟩
        · have e : k = n := by omega
          subst e
          have HA : Hid _ := hall
          clear hall hlt
          have hb := normF_bd f k
          have hL := rootF_bd hb.1 (show normF f k ≤ 18446744073709551615 by omega)
          obtain ⟨L, hLe⟩ : ∃ L, rootF (normF f k) = L := ⟨_, rfl⟩
          have H1 := length_any ao k cap f w0 hc hn hf hI
          have HX : Hid (∀ j, j < k → f j ≤ L ∧ -(f j) ≤ L) := fun j hj => by rw [← hLe]; exact in_list HL.out hj (HA.out j hj).1 (HA.out j hj).2
          rw [hLe] at hL H1
          clear hLe hb
          go_wp2_with (go_at_call 14; refine H1.mono ?_; rintro e w' ⟨rfl, rfl⟩)
          go_loop [41] (fun i => ∃ j : Nat, j ≤ k ∧ i = .int .i64 j) (fun i => k - (intOf i).toNat)
          case atStart => exact ⟨0, by omega, rfl⟩
          case round =>
            obtain ⟨j, hj, rfl⟩ := hrel
            by_cases hlt : j < k
            · obtain ⟨b, off, rfl, c0⟩ := hI.out j hlt
              have hb := hf j hlt
              have hx := HX.out j hlt
              have hin := HA.out j hlt
              have hp := part_bds hx.1 hx.2 hL.2 hg1 hg
              clear hI H1
              by_cases h0 : L = 0
              · subst h0
                have HP : Hid _ := part_0 (f j) g
                clear hp
                go_wp2_with (go_at_call 15; refine (part_any _ _ _ _ (by omega) (by omega) (by omega) (by omega)).mono ?_; rintro e w' ⟨rfl, rfl⟩; rw [HP.out])
                go_round
                case rel => exact ⟨j + 1, by omega, by go_num⟩
                case measure => simp [intOf]; omega
              · go_wp2_with (go_at_call 15; refine (part_any _ _ _ _ (by omega) (by omega) (by omega) (by omega)).mono ?_; rintro e w' ⟨rfl, rfl⟩)
                go_round
                case rel => exact ⟨j + 1, by omega, by go_num⟩
                case measure => simp [intOf]; omega
            · have e : j = k := by omega
              subst e
              clear hI H1
              go_wp2
              go_ret
              exact ⟨rfl, by assumption⟩
    · have hg' : 1048576 < g := by omega
      have hl' : (n : Int) ≤ 60 := by omega
      clear hl hg h
      go_enter Try.func8, Try.ntmps8
      go_wp2_with (first | (go_at_call 9; refine (awake_r _).mono ?_; rintro e w0 ⟨rfl, hB⟩))
      go_ret
      exact ⟨rfl, by assumption⟩
  · have hl' : (60 : Int) < n := by omega
    clear hl h
    go_enter Try.func8, Try.ntmps8
    go_wp2_with (first | (go_at_call 9; refine (awake_r _).mono ?_; rintro e w0 ⟨rfl, hB⟩))
    go_ret
    exact ⟨rfl, by assumption⟩
end Go.Proofs.Ytlddkbimkbdfpaa
