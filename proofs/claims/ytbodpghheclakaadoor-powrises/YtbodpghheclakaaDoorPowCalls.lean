/-
  What each function of package pow and of the document's own answer for layer 4 (spinetref04) answers, as a function on whole numbers. The table of package pow lies in memory as the row lists it.
-/
import Derived.Test.YtbodpghheclakaaDoorPowMath
import Derived.Test.YtbodpghheclakaaDoorIntsAt
import Derived.Test.YtbodpghheclakaaDoorRows
import Derived.ProofKit
import Derived.OpenShut
import Derived.WalkSpells
import Derived.Handy
import Derived.WalkLawsBesides
import Derived.Below
namespace Go.Proofs.YtbodpghheclakaaDoor
set_option linter.unusedVariables false
open Go.ChangeShapes Go.WideShapes Go.ChangeAt Go.RowKit

theorem ret_int {k : IntKind} {a b : Int} (h : a = b) : Ending.returned (.int k a) = .returned (.int k b) := by rw [h]
theorem ret_true {b : Bool} (h : b = true) : Ending.returned (.bool b) = .returned (.bool true) := by rw [h]

/-- The table of package pow lies where the program has it. -/
def Steps (w : World) : Prop := IntsAt w (some ⟨0, 0, none⟩) 16 .i64 stepF
theorem Steps.below {w w' : World} (h : Steps w) (hb : Below w.heap.size w w') : Steps w' := IntsAt.below h hb
theorem Steps.cell {w : World} (h : Steps w) {i : Nat} (hi : i < 16) : w.cell? ⟨0, i, none⟩ = some (.int .i64 (stepF i)) := by
  obtain ⟨b, off, h1, h2⟩ := h i hi
  cases h1
  rw [Nat.zero_add] at h2; exact h2

theorem and15 {a : Int} (h1 : 0 ≤ a) (h2 : a ≤ 18446744073709551615) : bits .and .u64 a 15 = a % 16 :=
  bits_mask .u64 64 (by decide) (fun n h0 hn => IntWalk.u64_in n (by omega)) 4 (by omega) a h1 (by omega)

set_option maxHeartbeats 400000 in
theorem pwithin_any (x m : Int) (w : World) (h1 : 0 ≤ m) (h2 : m ≤ 1073741824) :
    Calls Tryd.prog 17 #[.int .i64 x, .int .i64 m] w fun e w' => e = .returned (.int .u64 (clamp x 0 m)) ∧ w' = w := by
  by_cases ha : x < 0
  · go_enter Tryd.func17, Tryd.ntmps17
    go_wp2
    go_ret
    exact ⟨ret_int (by unfold clamp; rw [if_pos ha]), rfl⟩
  · by_cases hc : m < x
    · go_enter Tryd.func17, Tryd.ntmps17
      go_wp2
      go_ret
      exact ⟨ret_int (by unfold clamp; rw [if_neg (by omega), if_pos hc]; try omega), rfl⟩
    · go_enter Tryd.func17, Tryd.ntmps17
      go_wp2
      go_ret
      exact ⟨ret_int (by unfold clamp; rw [if_neg (by omega), if_neg (by omega)]; try omega), rfl⟩

set_option maxHeartbeats 400000 in
theorem exp_any (e : Int) (w : World) (h : Hid (Steps w)) :
    Calls Tryd.prog 9 #[.int .i64 e] w fun x w' => x = .returned (.int .i64 (expF e)) ∧ w' = w := by
  have hc := clamp_bd e 0 320 (by omega)
  obtain ⟨c, hE⟩ : ∃ c, clamp e 0 320 = c := ⟨_, rfl⟩
  rw [hE] at hc
  have HE : Hid _ := hE
  clear hE
  have hi : (c % 16).toNat < 16 := by omega
  have hcell := h.out.cell hi
  have hs := stepF_bd hi
  have hand := and15 (a := c) (by omega) (by omega)
  have hp := stepP_bd (i := (c % 16).toNat) (n := (c / 16).toNat) hi (by omega)
  go_enter Tryd.func9, Tryd.ntmps9
  go_wp2_with (go_at_call 17; refine (pwithin_any _ _ _ (by omega) (by omega)).mono ?_; rintro e w' ⟨rfl, rfl⟩; rw [HE.out])
  go_ret
  refine ⟨ret_int ?_, rfl⟩
  unfold expF; rw [HE.out]; unfold gain
  rw [pow_is, IntWalk.wrap64_in _ (by omega), show c.toNat % 16 = (c % 16).toNat by omega, show c.toNat / 16 = (c / 16).toNat by omega]

set_option maxRecDepth 20000 in
set_option maxHeartbeats 400000 in
theorem log_any (v : Int) (w : World) (h : Hid (Steps w)) :
    Calls Tryd.prog 11 #[.int .i64 v] w fun x w' => x = .returned (.int .i64 (logF v)) ∧ w' = w := by
  go_enter Tryd.func11, Tryd.ntmps11
  go_wp2
  go_loop [3] (fun e => ∃ k : Nat, (k : Int) ≤ 320 ∧ e = .int .i64 k ∧ Hid (logN v k = logF v)) (fun e => (intOf e).toNat)
  case atStart => exact ⟨320, by omega, rfl, rfl⟩
  case round =>
    obtain ⟨k, hk, rfl, HR⟩ := hrel
    cases k with
    | zero =>
      go_wp2
      go_ret
      exact ⟨ret_int HR.out, rfl⟩
    | succ k =>
      have HG : Hid (expF ((k : Int) + 1) = gain (k + 1)) := expF_nat (e := k + 1) (by omega)
      by_cases hle : gain (k + 1) ≤ v
      · go_wp2_with (go_at_call 9; refine (exp_any _ _ h).mono ?_; rintro e w' ⟨rfl, rfl⟩; rw [HG.out])
        go_ret
        exact ⟨ret_int (by rw [← HR.out, logN_yes hle]), rfl⟩
      · go_wp2_with (go_at_call 9; refine (exp_any _ _ h).mono ?_; rintro e w' ⟨rfl, rfl⟩; rw [HG.out])
        go_round
        case rel => exact ⟨k, by omega, by go_num, by have := HR.out; rw [logN_no (by omega)] at this; exact this⟩
        case measure => simp [intOf]

set_option maxHeartbeats 400000 in
theorem fine_any (q f : Int) (w : World) :
    Calls Tryd.prog 13 #[.int .i64 q, .int .i64 f] w fun x w' => x = .returned (.int .i64 (fineF q f)) ∧ w' = w := by
  have key : ∀ (n : Nat), n ≤ 3 → clamp f 0 3 = n → Calls Tryd.prog 13 #[.int .i64 q, .int .i64 f] w fun x w' => x = .returned (.int .i64 (fineF q f)) ∧ w' = w := by
    intro n hn hE
    have HE : Hid _ := hE
    clear hE
    have hP : Hid (fineP f = p2 n) := by unfold fineP; rw [HE.out]; rfl
    have hp := p2_pos n
    obtain ⟨c, hC⟩ : ∃ c, clamp q 0 (p2 n - 1) = c := ⟨_, rfl⟩
    have hc := clamp_bd q 0 (p2 n - 1) (by omega)
    rw [hC] at hc
    have HF : Hid (fineF q f = (2 * c + 1) * 4 / p2 n - 4) := by unfold fineF; rw [hP.out, hC]; exact rfl
    rcases (show n = 0 ∨ n = 1 ∨ n = 2 ∨ n = 3 by omega) with rfl | rfl | rfl | rfl
    all_goals
      simp only [p2_is0, p2_is1, p2_is2, p2_is3, Int.reduceSub] at hC hc HF
      have HC : Hid _ := hC
      clear hC hp hn
      go_enter Tryd.func13, Tryd.ntmps13
      go_wp2_with fail
      refine (pwithin_any _ _ _ (by omega) (by omega)).mono ?_
      rintro e w' ⟨rfl, rfl⟩
      rw [HE.out]
      go_wp2_with fail
      refine (pwithin_any _ _ _ (by omega) (by omega)).mono ?_
      rintro e w' ⟨rfl, rfl⟩
      rw [HC.out]
      go_wp2
      go_ret
      exact ⟨ret_int (by rw [HF.out]; try omega), rfl⟩
  have hb := clamp_bd f 0 3 (by omega)
  exact key (clamp f 0 3).toNat (by omega) (by omega)

theorem step_at {i : Nat} (h : i < 16) : (stepT.map (Value.int .i64))[i]'(by simpa [stepT] using h) = .int .i64 (stepF i) := by
  rw [List.getElem_map]
  congr 1
  unfold stepF
  rw [List.getD_eq_getElem?_getD, List.getElem?_eq_getElem (by simpa [stepT] using h)]; rfl

set_option maxHeartbeats 400000 in
theorem step_any (n : Int) (w : World) (h0 : 0 ≤ n) (h1 : n < 16) :
    Calls Tryd.prog 18 #[.int .i64 n] w fun x w' => x = .returned (.int .i64 (stepF n.toNat)) ∧ Below w.heap.size w w' := by
  go_enter Tryd.func18, Tryd.ntmps18
  go_wp2
  go_ret
  refine ⟨congrArg Ending.returned (step_at (i := n.toNat) (by omega)), ?_⟩
  with_reducible exact (Below.refl _ _).alloc (Nat.le_refl _) _

theorem rgain_is {k : Nat} {c : Int} (h0 : 0 ≤ c) (h : (k : Int) = c / 16) : stepF (c % 16).toNat * p2 k / 32768 = gain c.toNat := by
  unfold gain
  rw [show c.toNat % 16 = (c % 16).toNat by omega, show c.toNat / 16 = k by omega]
theorem rexp_bd {c : Int} {k : Nat} (h : (k : Int) ≤ 20) : 32768 ≤ stepF (c % 16).toNat * p2 k ∧ stepF (c % 16).toNat * p2 k ≤ 65805484032 := stepP_bd (by omega) (by omega)
theorem next_is {z : Int} {k : Nat} : z * p2 k * 2 = z * p2 (k + 1) := by rw [p2_succ, Int.mul_comm 2, Int.mul_assoc]

set_option maxRecDepth 20000 in
set_option maxHeartbeats 400000 in
theorem rexp_lo (e : Int) (w : World) (ha : e < 0) :
    Calls Tryd.prog 10 #[.int .i64 e] w fun x w' => x = .returned (.int .i64 (gain (0 : Int).toNat)) ∧ Below w.heap.size w w' := by
  go_enter Tryd.func10, Tryd.ntmps10
  go_wp2_with fail
  refine (step_any _ _ (by omega) (by omega)).mono ?_
  rintro x w1 ⟨rfl, hB⟩
  have HBl : Hid _ := hB
  clear hB
  go_wp2
  go_loop [3, 4] (fun x i => ∃ k : Nat, (k : Int) ≤ 0 ∧ i = .int .i64 k ∧ x = .int .i64 (stepF 0 * p2 k)) (fun _ i => (0 : Int).toNat - (intOf i).toNat)
  case atStart => exact ⟨0, by omega, rfl, by rw [p2_is0, Int.mul_one]; try rfl⟩
  case round =>
    obtain ⟨k, hk, rfl, rfl⟩ := hrel
    have hb : 32768 ≤ stepF 0 * p2 k ∧ stepF 0 * p2 k ≤ 65805484032 := stepP_bd (by omega) (by omega)
    have HG := rgain_is (k := k) (c := 0) (by omega)
    by_cases hlt : (k : Int) < 0
    · clear HG
      go_wp2
      go_round
      case rel => exact ⟨k + 1, by omega, by go_num, congrArg (Value.int .i64) next_is⟩
      case measure => simp [intOf]; omega
    · have hke : Hid ((k : Int) = (0 : Int) / 16) := by show (k : Int) = _; omega
      clear HG hk
      go_wp2
      go_ret
      exact ⟨ret_int (rgain_is (by omega) hke.out), HBl.out⟩

set_option maxRecDepth 20000 in
set_option maxHeartbeats 400000 in
theorem rexp_hi (e : Int) (w : World) (ha : 320 < e) :
    Calls Tryd.prog 10 #[.int .i64 e] w fun x w' => x = .returned (.int .i64 (gain (320 : Int).toNat)) ∧ Below w.heap.size w w' := by
  go_enter Tryd.func10, Tryd.ntmps10
  go_wp2_with fail
  refine (step_any _ _ (by omega) (by omega)).mono ?_
  rintro x w1 ⟨rfl, hB⟩
  have HBl : Hid _ := hB
  clear hB
  go_wp2
  go_loop [3, 4] (fun x i => ∃ k : Nat, (k : Int) ≤ 20 ∧ i = .int .i64 k ∧ x = .int .i64 (stepF 0 * p2 k)) (fun _ i => (20 : Int).toNat - (intOf i).toNat)
  case atStart => exact ⟨0, by omega, rfl, by rw [p2_is0, Int.mul_one]; try rfl⟩
  case round =>
    obtain ⟨k, hk, rfl, rfl⟩ := hrel
    have hb : 32768 ≤ stepF 0 * p2 k ∧ stepF 0 * p2 k ≤ 65805484032 := stepP_bd (by omega) (by omega)
    have HG := rgain_is (k := k) (c := 320) (by omega)
    by_cases hlt : (k : Int) < 20
    · clear HG
      go_wp2
      go_round
      case rel => exact ⟨k + 1, by omega, by go_num, congrArg (Value.int .i64) next_is⟩
      case measure => simp [intOf]; omega
    · have hke : Hid ((k : Int) = (320 : Int) / 16) := by show (k : Int) = _; omega
      clear HG hk
      go_wp2
      go_ret
      exact ⟨ret_int (rgain_is (by omega) hke.out), HBl.out⟩

set_option maxRecDepth 20000 in
set_option maxHeartbeats 400000 in
theorem rexp_in (e : Int) (w : World) (ha : 0 ≤ e) (hb : e ≤ 320) :
    Calls Tryd.prog 10 #[.int .i64 e] w fun x w' => x = .returned (.int .i64 (gain (e : Int).toNat)) ∧ Below w.heap.size w w' := by
  have ht : e.tmod 16 = e % 16 := Int.tmod_eq_emod_of_nonneg ha
  have hd : e.tdiv 16 = e / 16 := Int.tdiv_eq_ediv_of_nonneg ha
  go_enter Tryd.func10, Tryd.ntmps10
  go_wp2_with fail
  refine (step_any _ _ (by omega) (by omega)).mono ?_
  rintro x w1 ⟨rfl, hB⟩
  have HBl : Hid _ := hB
  clear hB
  go_wp2
  go_loop [3, 4] (fun x i => ∃ k : Nat, (k : Int) ≤ e / 16 ∧ i = .int .i64 k ∧ x = .int .i64 (stepF ((e : Int) % 16).toNat * p2 k)) (fun _ i => (e / 16 : Int).toNat - (intOf i).toNat)
  case atStart => exact ⟨0, by omega, rfl, by rw [p2_is0, Int.mul_one]; try rfl⟩
  case round =>
    obtain ⟨k, hk, rfl, rfl⟩ := hrel
    have hb := rexp_bd (c := e) (k := k) (by omega)
    have HG := rgain_is (k := k) (c := e) (by omega)
    by_cases hlt : (k : Int) < e / 16
    · clear HG
      go_wp2
      go_round
      case rel => exact ⟨k + 1, by omega, by go_num, congrArg (Value.int .i64) next_is⟩
      case measure => simp [intOf]; omega
    · have hke : Hid ((k : Int) = (e : Int) / 16) := by show (k : Int) = _; omega
      clear HG hk
      go_wp2
      go_ret
      exact ⟨ret_int (rgain_is (by omega) hke.out), HBl.out⟩

theorem rexp_any (e : Int) (w : World) :
    Calls Tryd.prog 10 #[.int .i64 e] w fun x w' => x = .returned (.int .i64 (expF e)) ∧ Below w.heap.size w w' := by
  unfold expF clamp
  by_cases ha : e < 0
  · rw [if_pos ha]; exact rexp_lo e w ha
  · rw [if_neg ha]
    by_cases hb : 320 < e
    · rw [if_pos hb]; exact rexp_hi e w hb
    · rw [if_neg hb]; exact rexp_in e w (by omega) (by omega)
end Go.Proofs.YtbodpghheclakaaDoor
