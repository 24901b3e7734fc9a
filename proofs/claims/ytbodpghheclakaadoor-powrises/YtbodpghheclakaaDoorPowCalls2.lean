/-
  What the document's own answers for layer 4 (spinetref04: Log, Fine, Loud), pow.Loud and the examples of the laws come to. The table of package pow lies in memory as the row lists it.
-/
import Derived.Test.YtbodpghheclakaaDoorPowCalls
namespace Go.Proofs.YtbodpghheclakaaDoor
set_option linter.unusedVariables false
open Go.ChangeShapes Go.WideShapes Go.ChangeAt Go.RowKit

theorem logM_yes {v : Int} {k : Nat} (h : gain k ≤ v) : (k : Int) = logN v (k + 1 - 1) := by
  cases k with
  | zero => rfl
  | succ k => exact (logN_yes h).symm
theorem logM_no {v : Int} {k : Nat} (h : ¬ gain k ≤ v) : logN v (k - 1) = logN v (k + 1 - 1) := by
  cases k with
  | zero => rfl
  | succ k => exact (logN_no h).symm

set_option maxRecDepth 20000 in
set_option maxHeartbeats 400000 in
theorem rlog_any (v : Int) (w : World) :
    Calls Tryd.prog 12 #[.int .i64 v] w fun x w' => x = .returned (.int .i64 (logF v)) ∧ Below w.heap.size w w' := by
  go_enter Tryd.func12, Tryd.ntmps12
  go_wp2
  go_loopw [3, 4] (fun out e wr => ∃ k : Nat, (k : Int) ≤ 321 ∧ e = .int .i64 k ∧ out = .int .i64 (logN v (k - 1)) ∧ Hid (Below w.heap.size w wr)) (fun _ e _ => 321 - (intOf e).toNat)
  case atStart => exact ⟨0, by omega, rfl, rfl, Below.refl _ _⟩
  case round =>
    obtain ⟨k, hk, rfl, rfl, HB⟩ := hrel
    by_cases hlt : (k : Int) ≤ 320
    · have HG : Hid (expF (k : Int) = gain k) := expF_nat (e := k) (by omega)
      by_cases hle : gain k ≤ v
      · go_wp2_with (go_at_call 10; refine (rexp_any _ _).mono ?_; rintro e w' ⟨rfl, hB⟩; rw [HG.out])
        go_round
        case rel => exact ⟨k + 1, by omega, by go_num, congrArg (Value.int .i64) (logM_yes hle), HB.out.trans (hB.mono HB.out.size)⟩
        case measure => simp [intOf]; omega
      · go_wp2_with (go_at_call 10; refine (rexp_any _ _).mono ?_; rintro e w' ⟨rfl, hB⟩; rw [HG.out])
        go_round
        case rel => exact ⟨k + 1, by omega, by go_num, congrArg (Value.int .i64) (logM_no (by omega)), HB.out.trans (hB.mono HB.out.size)⟩
        case measure => simp [intOf]; omega
    · have hke : Hid (k = 321) := by show k = 321; omega
      go_wp2
      go_ret
      exact ⟨ret_int (by rw [hke.out]; rfl), HB.out⟩

set_option maxRecDepth 20000 in
set_option maxHeartbeats 4000000 in
theorem rfine_any (q f : Int) (w : World) :
    Calls Tryd.prog 14 #[.int .i64 q, .int .i64 f] w fun x w' => x = .returned (.int .i64 (fineF q f)) ∧ w' = w := by
  have key : ∀ (n : Nat), n ≤ 3 → clamp f 0 3 = n → Calls Tryd.prog 14 #[.int .i64 q, .int .i64 f] w fun x w' => x = .returned (.int .i64 (fineF q f)) ∧ w' = w := by
    intro n hn hE
    have hP : fineP f = p2 n := by unfold fineP; rw [hE]; rfl
    have hf : (f < 0 ∧ n = 0) ∨ (3 < f ∧ n = 3) ∨ (f = n) := by
      unfold clamp at hE; split at hE
      · exact .inl ⟨by omega, by omega⟩
      · split at hE
        · exact .inr (.inl ⟨by omega, by omega⟩)
        · exact .inr (.inr hE)
    have hC := clamp_bd q 0 (p2 n - 1) (by have := p2_pos n; omega)
    have hq : (q < 0 ∧ clamp q 0 (p2 n - 1) = 0) ∨ (0 ≤ q ∧ p2 n - 1 < q ∧ clamp q 0 (p2 n - 1) = p2 n - 1) ∨ (0 ≤ q ∧ q ≤ p2 n - 1 ∧ clamp q 0 (p2 n - 1) = q) := by
      unfold clamp
      by_cases h1 : q < 0
      · exact .inl ⟨h1, by rw [if_pos h1]⟩
      · rw [if_neg h1]
        by_cases h2 : p2 n - 1 < q
        · exact .inr (.inl ⟨by omega, h2, by rw [if_pos h2]⟩)
        · exact .inr (.inr ⟨by omega, by omega, by rw [if_neg h2]⟩)
    have HF : ∀ c, clamp q 0 (p2 n - 1) = c → fineF q f = (2 * c + 1) * 4 / p2 n - 4 := by
      intro c hc; unfold fineF; rw [hP, hc]
    have HN : Hid (n ≤ 3) := hn
    clear hE hP hC hn
    rcases hq with ⟨hq1, hq2⟩ | ⟨hq0, hq1, hq2⟩ | ⟨hq0, hq1, hq2⟩
    all_goals
      have HR : Hid _ := HF _ hq2
      clear HF hq2
      rcases hf with ⟨hf1, rfl⟩ | ⟨hf1, rfl⟩ | rfl
      rotate_left 2
      rcases (show n = 0 ∨ n = 1 ∨ n = 2 ∨ n = 3 by have := HN.out; omega) with rfl | rfl | rfl | rfl
      all_goals
        simp only [p2_is0, p2_is1, p2_is2, p2_is3, Int.reduceSub] at *
        clear HN
        go_enter Tryd.func14, Tryd.ntmps14
        go_wp2
        go_rounds 5
        all_goals
          go_ret
          exact ⟨ret_int (by rw [HR.out]; try omega), rfl⟩
  have hb := clamp_bd f 0 3 (by omega)
  exact key (clamp f 0 3).toNat (by omega) (by omega)
end Go.Proofs.YtbodpghheclakaaDoor
