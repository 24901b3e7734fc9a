/-
  What the functions of package cost answer that touch no memory (hasNumbers, isSplit, parts, rankBits, splitBits), and math/bits.Len64 below 2^24. Nothing that was there has turned.
-/
import Derived.Test.YtfgpmdikkncckaaGreatDoorCostMath
import Derived.Test.YtfgpmdikkncckaaGreatDoorMrgK
import Derived.Handy
namespace Go.Proofs.YtfgpmdikkncckaaGreatDoor
set_option linter.unusedVariables false
open Go.ChangeShapes Go.WideShapes Go.ChangeAt Go.RowKit

theorem lenN_more {x d : Nat} (hd : 2 ^ d ≤ x) (hx : x < 16777216) : lenN x = d + lenN (x / 2 ^ d) := by
  have hp : 0 < 2 ^ d := Nat.pow_pos (by decide)
  have hq : x / 2 ^ d < 16777216 := Nat.lt_of_le_of_lt (Nat.div_le_self _ _) hx
  have h1 : 1 ≤ x / 2 ^ d := (Nat.le_div_iff_mul_le hp).2 (by omega)
  obtain ⟨a, b, _⟩ := lenN_spec hq
  symm
  apply lenN_only hx
  · rw [Nat.pow_add, Nat.mul_comm]
    exact (Nat.div_lt_iff_lt_mul hp).1 a
  · right
    have h0 : lenN (x / 2 ^ d) ≠ 0 := by intro e; rw [e] at a; simp at a; omega
    rcases b with e | e
    · exact absurd e h0
    · rw [show d + lenN (x / 2 ^ d) - 1 = lenN (x / 2 ^ d) - 1 + d by omega, Nat.pow_add]
      exact (Nat.le_div_iff_mul_le hp).1 e
theorem tab_ok (T : ByteArray) (hT : (List.range 256).all (fun i => if h : i < T.size then Nat.beq T[i].toNat (lenN i) else false) = true) (i : Nat) (hi : i < 256) (h : i < T.size) : T[i].toNat = lenN i := by
  have h1 := List.all_eq_true.1 hT i (List.mem_range.2 hi)
  rw [dif_pos h] at h1
  exact Nat.eq_of_beq_eq_true h1
theorem len_fin (T : ByteArray) (hT : (List.range 256).all (fun i => if h : i < T.size then Nat.beq T[i].toNat (lenN i) else false) = true) (x P D : Int) (d : Nat) (hd : d ≤ 16) (hD : D = d) (hP : P = 2 ^ d) (hx : P ≤ x) (hx2 : x < 16777216) (h1 : x / P < 256) (w : World) (h : (x / P).toNat < T.size) :
    Ending.returned (.int .i64 (wrap64 (D + wrap64 T[(x / P).toNat].toNat))) = .returned (.int .i64 (lenN x.toNat : Nat)) ∧ w = w := by
  have hp : 0 < 2 ^ d := Nat.pow_pos (by decide)
  have hpi : (0 : Int) < 2 ^ d := by exact_mod_cast hp
  obtain ⟨X, rfl⟩ : ∃ X : Nat, x = X := ⟨x.toNat, by rw [hP] at hx; omega⟩
  have hPn : P = ((2 ^ d : Nat) : Int) := by rw [hP]; simp
  have e : ((X : Int) / P).toNat = X / 2 ^ d := by rw [hPn, ← Int.natCast_ediv, Int.toNat_natCast]
  have k1 := tab_ok T hT ((X : Int) / P).toNat (by omega) h
  generalize T[((X : Int) / P).toNat].toNat = k at *
  rw [e] at k1
  subst k1
  refine ⟨?_, rfl⟩
  have hX : X < 16777216 := by omega
  have hX2 : X / 2 ^ d < 16777216 := Nat.lt_of_le_of_lt (Nat.div_le_self _ _) hX
  have hX3 : 2 ^ d ≤ X := by rw [hPn] at hx; exact_mod_cast hx
  have hl := (lenN_spec hX2).2.2
  rw [Int.toNat_natCast, lenN_more hX3 hX, hD]
  clear hX hX2 hX3 hx hx2 h1 h e hPn hP hp hpi
  generalize lenN (X / 2 ^ d) = k at *
  have e : wrap64 (k : Int) = k := by unfold wrap64; omega
  rw [e]
  have e2 : wrap64 ((d : Int) + (k : Int)) = ((d + k : Nat) : Int) := by unfold wrap64; omega
  rw [e2]
theorem len_low (T : ByteArray) (hT : (List.range 256).all (fun i => if h : i < T.size then Nat.beq T[i].toNat (lenN i) else false) = true) (x : Int) (h0 : 0 ≤ x) (h1 : x < 256) (w : World) (h : x.toNat < T.size) :
    Ending.returned (.int .i64 (wrap64 (wrap64 T[x.toNat].toNat))) = .returned (.int .i64 (lenN x.toNat : Nat)) ∧ w = w := by
  have k1 := tab_ok T hT x.toNat (by omega) h
  generalize T[x.toNat].toNat = k at *
  subst k1
  have hl := (lenN_spec (x := x.toNat) (by omega)).2.2
  generalize lenN x.toNat = k at *
  have e : wrap64 (k : Int) = k := by unfold wrap64; omega
  rw [e, e]
  exact ⟨rfl, rfl⟩

set_option maxRecDepth 20000 in
theorem len64_int (x : Int) (w : World) (h0 : 0 ≤ x) (h1 : x < 16777216) :
    Calls Tryz.prog 106 #[.int .u64 x] w fun e w' => e = .returned (.int .i64 (lenN x.toNat : Nat)) ∧ w' = w := by
  by_cases h2 : 65536 ≤ x
  · go_enter Tryz.func106, Tryz.ntmps106
    go_wp2
    go_ret
    exact len_fin _ (by decide +kernel) x 65536 16 16 (by decide) rfl rfl h2 h1 (by omega) w _
  · by_cases h3 : 256 ≤ x
    · have h4 : x < 65536 := by omega
      clear h2
      go_enter Tryz.func106, Tryz.ntmps106
      go_wp2
      go_ret
      exact len_fin _ (by decide +kernel) x 256 8 8 (by decide) rfl rfl h3 h1 (by omega) w _
    · have h4 : x < 256 := by omega
      clear h2 h3
      go_enter Tryz.func106, Tryz.ntmps106
      go_wp2
      go_ret
      refine len_low _ ?_ x h0 h4 w _; decide +kernel
theorem len64_any (x : Nat) (w : World) (h1 : x < 16777216) :
    Calls Tryz.prog 106 #[.int .u64 x] w fun e w' => e = .returned (.int .i64 (lenN x : Nat)) ∧ w' = w := len64_int x w (by omega) (by omega)

theorem hasn_no (w : World) (n : Int) (h : ¬ (1 ≤ n ∧ n ≤ 16)) : Calls Tryz.prog 72 #[.int .i64 n] w fun e w' => e = .returned (.bool false) ∧ w' = w := by
  by_cases h1 : n < 1
  · go_enter Tryz.func72, Tryz.ntmps72
    go_wp2
    go_ret
    exact ⟨rfl, rfl⟩
  · have h2 : decide (n ≤ 16) = false := by simp; omega
    go_enter Tryz.func72, Tryz.ntmps72
    go_wp2
    go_ret
    exact ⟨rfl, rfl⟩
theorem hasn_yes (w : World) (n : Int) (h1 : 1 ≤ n) (h2 : n ≤ 16) : Calls Tryz.prog 72 #[.int .i64 n] w fun e w' => e = .returned (.bool true) ∧ w' = w := by
  go_enter Tryz.func72, Tryz.ntmps72
  go_wp2
  go_ret
  exact ⟨rfl, rfl⟩

theorem iss_no (w : World) (n : Int) (h : n ≤ 8) : Calls Tryz.prog 70 #[.int .i64 n] w fun e w' => e = .returned (.bool false) ∧ w' = w := by
  have h' : decide (8 < n) = false := by simp; omega
  go_enter Tryz.func70, Tryz.ntmps70
  go_wp2
  go_ret
  exact ⟨rfl, rfl⟩
theorem iss_yes (w : World) (n : Int) (h : 8 < n) : Calls Tryz.prog 70 #[.int .i64 n] w fun e w' => e = .returned (.bool true) ∧ w' = w := by
  go_enter Tryz.func70, Tryz.ntmps70
  go_wp2
  go_ret
  exact ⟨rfl, rfl⟩

theorem parts_any (w : World) (n : Nat) (h : n ≤ 16) : Calls Tryz.prog 92 #[.int .i64 n] w fun e w' => e = .returned (.tuple #[.int .i64 ((n / 2 : Nat) : Int), .int .i64 ((n - n / 2 : Nat) : Int)]) ∧ w' = w := by
  have e1 : (n : Int).tdiv 2 = ((n / 2 : Nat) : Int) := by rw [Int.tdiv_eq_ediv_of_nonneg (by omega)]; rfl
  have e2 : (n : Int) - ((n / 2 : Nat) : Int) = ((n - n / 2 : Nat) : Int) := by omega
  have b : n / 2 ≤ 8 := by omega
  have HE : Hid _ := e2
  generalize n / 2 = q at *
  clear e2
  go_enter Tryz.func92, Tryz.ntmps92
  go_wp2
  go_returns
  exact ⟨by rw [HE.out]; rfl, rfl⟩

theorem rankBits_any (w : World) (v : Nat) (h1 : 1 ≤ v) (h2 : v ≤ 1048576) : Calls Tryz.prog 96 #[.int .u64 v] w fun e w' => e = .returned (.int .i64 ((lenN (v - 1) + 1 : Nat) : Int)) ∧ w' = w := by
  obtain ⟨u, rfl⟩ : ∃ u, v = u + 1 := ⟨v - 1, by omega⟩
  have hl := (lenN_spec (x := u) (by omega)).2.2
  have HL : Hid (∀ w, Calls Tryz.prog 106 #[.int .u64 u] w fun e w' => e = .returned (.int .i64 (lenN u : Nat)) ∧ w' = w) := fun w => len64_any u w (by omega)
  rw [Nat.add_sub_cancel]
  generalize lenN u = l at *
  have HE : Hid (((u + 1 : Nat) : Int) - 1 = (u : Int)) := by show _ = _; omega
  have hu : ((u + 1 : Nat) : Int) ≤ 1048576 := by omega
  have hu1 : 1 ≤ ((u + 1 : Nat) : Int) := by omega
  generalize ((u + 1 : Nat) : Int) = v at *
  go_enter Tryz.func96, Tryz.ntmps96
  go_wp2_with fail
  rw [HE.out]
  refine (HL.out _).mono ?_
  rintro e w1 ⟨rfl, rfl⟩
  go_wp2
  go_returns
  exact ⟨rfl, rfl⟩

theorem splitBits_any (w : World) (k : Nat) (h : k ≤ 32) : Calls Tryz.prog 93 #[.int .i64 k] w fun e w' => e = .returned (.int .i64 ((lenN k + 1 : Nat) : Int)) ∧ w' = w := by
  have hl := (lenN_spec (x := k) (by omega)).2.2
  have HL : Hid (∀ w, Calls Tryz.prog 106 #[.int .u64 k] w fun e w' => e = .returned (.int .i64 (lenN k : Nat)) ∧ w' = w) := fun w => len64_any k w (by omega)
  generalize lenN k = l at *
  go_enter Tryz.func93, Tryz.ntmps93
  go_wp2_with fail
  refine (HL.out _).mono ?_
  rintro e w1 ⟨rfl, rfl⟩
  go_wp2
  go_returns
  exact ⟨rfl, rfl⟩

set_option maxHeartbeats 1000000 in
/-- dearest, over two rows that lie in memory. -/
theorem dearest_any (w : World) (b o1 o2 k : Nat) (f g : Nat → Nat) (hk : k ≤ 32) (hf : Hid (∀ q, q ≤ k → f q ≤ 41 ∧ w.cell? ⟨b, o1 + q, none⟩ = some (.int .i64 (f q : Nat)))) (hg : Hid (∀ q, q ≤ k → g q ≤ 41 ∧ w.cell? ⟨b, o2 + q, none⟩ = some (.int .i64 (g q : Nat)))) :
    Calls Tryz.prog 94 #[.pointer (some ⟨b, o1, none⟩), .pointer (some ⟨b, o2, none⟩), .int .i64 k] w fun e w' => e = .returned (.int .i64 (dear f g k (k + 1) : Nat)) ∧ ∃ d, w' = w.drewN d := by
  go_enter Tryz.func94, Tryz.ntmps94
  go_wp2
  go_loopw [7, 11] (fun m a wr => ∃ q m0 d : Nat, q ≤ k + 1 ∧ m0 ≤ 82 ∧ a = .int .i64 q ∧ m = .int .i64 m0 ∧ Hid (dear f g k q = m0) ∧ wr = w.drewN d) (fun _ a _ => k + 1 - (intOf a).toNat)
  case atStart => exact ⟨0, 0, 0, by omega, by omega, rfl, rfl, rfl, rfl⟩
  case round =>
    obtain ⟨q, m0, d, hq, hm0, rfl, rfl, HM, rfl⟩ := hrel
    by_cases hlt : q < k + 1
    · have hlt' : (q : Int) < (k : Int) + 1 := by omega
      obtain ⟨f1, c1⟩ := hf.out q (by omega)
      obtain ⟨g1, c2⟩ := hg.out (k - q) (by omega)
      have HD : Hid (dear f g k (q + 1) = max (dear f g k q) (f q + g (k - q))) := by show dear f g k (q + 1) = _; rw [dear]
      have em : ((k : Int) - (q : Int)).toNat = k - q := by omega
      have HDB : Hid (∀ q, q ≤ k + 1 → dear f g k q ≤ 82) := dear_bd (fun q h => (hf.out q h).1) (fun q h => (hg.out q h).1)
      generalize f q = x at *
      generalize g (k - q) = y at *
      by_cases hc : m0 < x + y
      · have hc' : (m0 : Int) < (x : Int) + (y : Int) := by omega
        go_wp2
        go_region
        all_goals go_wp2
        all_goals go_roundw
        case rel => exact ⟨q + 1, x + y, _, by omega, by omega, by go_num, by go_num, by show _ = _; rw [HD.out, HM.out]; omega, rfl⟩
        case measure => simp [intOf]; omega
      · have hc' : ¬ (m0 : Int) < (x : Int) + (y : Int) := by omega
        go_wp2
        go_region
        all_goals go_wp2
        all_goals go_roundw
        case rel => exact ⟨q + 1, m0, _, by omega, by omega, by go_num, by go_num, by show _ = _; rw [HD.out, HM.out]; omega, rfl⟩
        case measure => simp [intOf]; omega
    · obtain rfl : q = k + 1 := by omega
      go_wp2
      go_returns
      exact ⟨by rw [HM.out]; rfl, d, rfl⟩
end Go.Proofs.YtfgpmdikkncckaaGreatDoor
