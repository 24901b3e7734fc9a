/-
  What Count of package mode answers, at a list of up to 60 modes that lies somewhere: a new map that holds how often each right one is there, and nothing else. Nothing that was there is turned.
-/
import Derived.Test.YtkjaalcckdacoaaDoorModeLaws
import Derived.Test.YtkjaalcckdacoaaDoorModeCntMath
import Derived.RegionTactic
namespace Go.Proofs.YtkjaalcckdacoaaDoor
set_option linter.unusedVariables false
open Go.ChangeShapes Go.WideShapes Go.ChangeAt Go.RowKit
open Go.Sort (grow)

theorem grownBy_below {W w : World} (h : Below W.heap.size W w) : W.grownBy w none := ⟨h.os, h.tape, h.output, h.size, fun k hk _ => h.block k hk⟩

set_option maxHeartbeats 1000000 in
theorem count_any (ao : Option Addr) (n cap : Nat) (f g : Nat → Int) (w : World) (hn : n ≤ 60) (hL : Hid (PairsAt w ao n f g)) (hW : Hid (∀ i, i < n → (Lit.int .i64 (f i)).wf = true ∧ (Lit.int .i64 (g i)).wf = true)) :
    Calls Tryd.prog 20 #[.slice ao n cap] w fun e w' => ∃ (b : Nat) (D : DataW Unit), e = .returned (.map (some b)) ∧ w.heap.size ≤ b ∧ w'.ownsMap Tryd.prog 24 (plainElem Tryd.prog 3) b n D ∧ Counts f g n D ∧ Below w.heap.size w w' := by
  have hmm := @run_makeMap Tryd.prog
  go_enter Tryd.func20, Tryd.ntmps20
  go_wp2
  go_loopw [9] (fun i wr => ∃ k : Nat, k ≤ n ∧ i = .int .i64 k ∧ (∃ D : DataW Unit, wr.ownsMap Tryd.prog 24 (plainElem Tryd.prog 3) w.heap.size k D ∧ Counts f g k D) ∧ Hid (Below w.heap.size w wr)) (fun i _ => n - (intOf i).toNat)
  case atStart => exact ⟨0, by omega, rfl, ⟨_, World.ownsMap_made _ _ _ _, counts_start f g⟩, (Below.refl _ _).alloc (Nat.le_refl _) _⟩
  case round =>
    obtain ⟨k, hk, rfl, ⟨D, hown, hC⟩, HB⟩ := hrel
    by_cases hlt : k < n
    · have hlt' : (k : Int) < (n : Int) := by omega
      obtain ⟨b, off, rfl, x0, x1⟩ := (hL.out.keep HB.out) k hlt
      obtain ⟨wf0, wf1⟩ := hW.out k hlt
      have HO : Hid (wr.ownsMap Tryd.prog 24 (plainElem Tryd.prog 3) w.heap.size k D) := hown
      have HC : Hid (Counts f g k D) := hC
      clear hown hC
      by_cases hr : right (f k) (g k)
      · go_wp2_with (go_at_call 10; refine (right_yes _ _ _ hr).mono ?_; rintro e w1 ⟨rfl, hb⟩)
        have c0 : w1.cell? ⟨wr.heap.size, 0, none⟩ = some (.int .i64 (f k)) := by rw [hb.cell (by simp)]; go_simp
        have c1 : w1.cell? ⟨wr.heap.size, 1, none⟩ = some (.int .i64 (g k)) := by rw [hb.cell (by simp)]; go_simp
        have own1 : w1.drew.ownsMap Tryd.prog 24 (plainElem Tryd.prog 3) w.heap.size k D := ((HO.out.alloc _).kept (grownBy_below hb) (by simp)).drew
        have hcl := cnt_le f g k (f k) (g k)
        have hat := (HC.out.1 _ _ wf0 wf1).1
        have hN := counts_right HC.out (own1.tidy modeKeyed) hr wf0 wf1
        obtain ⟨m, hm⟩ : ∃ m : Nat, cnt f g k (f k) (g k) = m := ⟨_, rfl⟩
        rw [hm] at hat hcl hN
        have q0 := lookup_at own1 modeKeyed Tryd.underlying38 Tryd.underlying3 zeroInt (key_md wf0 wf1) hat
        obtain ⟨st, w2, w4, q1, q2, q3, own4, grow4⟩ := bump own1 modeLaw Tryd.underlying38 Tryd.underlying3 zeroInt (by unfold maxLen; omega) (key_md wf0 wf1) hat (v := (m : Int) + 1) (WalkArith.wf_i64 (by omega))
        have HB1 : Hid (Below w.heap.size w w4) := by
          have h1 : Below w.heap.size w w1 := (HB.out.alloc HB.out.size _).trans (hb.mono (by have := HB.out.size; simp; omega))
          exact (h1.drew).grown grow4 h1.size (fun j hj => by cases hj; exact Nat.le_refl _)
        have HR : Hid (∃ D : DataW Unit, w4.ownsMap Tryd.prog 24 (plainElem Tryd.prog 3) w.heap.size (k + 1) D ∧ Counts f g (k + 1) D) := ⟨_, own4, hN⟩
        clear own1 own4 hat hN hm HO HC grow4
        go_region
        all_goals go_wp2
        all_goals go_roundw
        all_goals first | exact ⟨k + 1, by omega, by go_num, HR.out, HB1⟩ | (simp [intOf]; omega)
      · go_wp2_with (go_at_call 10; refine (right_no _ _ _ hr).mono ?_; rintro e w1 ⟨rfl, hb⟩)
        go_roundw
        case rel => exact ⟨k + 1, by omega, by go_num, ⟨D, ((HO.out.alloc _).kept (grownBy_below hb) (by simp)).mono (by omega), counts_wrong HC.out hr⟩, (HB.out.alloc HB.out.size _).trans (hb.mono (by have := HB.out.size; simp; omega))⟩
        case measure => simp [intOf]; omega
    · have e : k = n := by omega
      subst e
      go_wp2
      go_ret
      exact ⟨_, D, rfl, Nat.le_refl _, hown, hC, HB.out⟩
end Go.Proofs.YtkjaalcckdacoaaDoor
