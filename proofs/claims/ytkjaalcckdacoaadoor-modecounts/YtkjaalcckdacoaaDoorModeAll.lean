/-
  What All of package mode answers: the six modes, in order; and the law ModeAll of layer 5 as a walk.
-/
import Derived.Test.YtkjaalcckdacoaaDoorModeLaws
import Derived.Test.YtkjaalcckdacoaaDoorModeRows
import Derived.Deep.DeepCutAuto
namespace Go.Proofs.YtkjaalcckdacoaaDoor
set_option linter.unusedVariables false
open Go.ChangeShapes Go.WideShapes Go.ChangeAt Go.RowKit
open Go.Sort (grow)
attribute [local go_sem] cell?_gr frozen?_gr setCell_gr size_gr drew_gr drewN_gr redrawn_drew redrawn_drewN redrawn_redrawn gr_gr heap_redrawn Array.size_append
attribute [local go_sem] lt_1 lt_11 lt_2 lt_21 lt_3 lt_31 lt_4 lt_41 lt_5 lt_51 lt_6 lt_61 eql_md neq_md

theorem mode_info : (Tryd.prog.info? 24).map (fun i => (i.zero, i.size, i.bytes)) = some (some (.agg #[.int .i64 (0), .int .i64 (0)]), 2, 16) := by kernel_rfl

set_option maxHeartbeats 1000000 in
theorem all_any (w : World) :
    Calls Tryd.prog 22 #[] w fun e w' => ∃ (ao : Option Addr) (cap : Nat), e = .returned (.slice ao 6 cap) ∧ PairsAt w' ao 6 allS allC ∧ (∀ a, ao = some a → w.heap.size ≤ a.block ∧ a.block < w'.heap.size) ∧ Below w.heap.size w w' := by
  obtain ⟨i0, hi, hz0, hz1, hz2⟩ := info_parts mode_info
  go_enter Tryd.func22, Tryd.ntmps22
  go_wp2
  go_loopw [1, 4] (fun v i wr => ∃ k : Nat, k ≤ 3 ∧ i = .int .i64 k ∧ wr.ownsRow w.heap.size 24 2 v (2 * k + 0) (rowL allS allC (2 * k + 0)) ∧ Hid (Below w.heap.size w wr)) (fun _ i _ => 3 - (intOf i).toNat)
  case atStart => exact ⟨0, by omega, rfl, World.ownsRow_nil _ _ _ _, Below.refl _ _⟩
  case round =>
    obtain ⟨k, hk, rfl, hown, HB⟩ := hrel
    by_cases hlt : k < 3
    · have hlt' : (k : Int) < 3 := by omega
      go_wp2
      go_loopw [1, 7] (fun v i wr => ∃ m : Nat, m ≤ 2 ∧ i = .int .i64 m ∧ wr.ownsRow w.heap.size 24 2 v (2 * k + m) (rowL allS allC (2 * k + m)) ∧ Hid (Below w.heap.size w wr)) (fun _ i _ => 2 - (intOf i).toNat)
      case atStart => exact ⟨0, by omega, rfl, hown, HB⟩
      case round =>
        clear hown HB
        obtain ⟨m, hm, rfl, hown, HB⟩ := hrel
        by_cases hml : m < 2
        · have hml' : (m : Int) < 2 := by omega
          go_wp2_with (at_builtin; refine wpList_append_own _ rfl _ _ 36 rfl w.heap.size 24 i0 (.agg #[.int .i64 (0), .int .i64 (0)]) 2 16 Tryd.underlying36 hi hz0 hz1 hz2 rfl (by decide) _ _ _ rfl (hown.alloc _) ⟨wr.heap.size, 0, none⟩ 1 1 [.int .i64 (k : Int), .int .i64 (1 + (m : Int))] rfl rfl ?c1 ?c2 ?c3 ?c4 ?c5 ?_)
          case c1 => exact World.news_of_block (heap_alloc_new _ _)
          case c2 => intro u hu; simp at hu; rcases hu with rfl | rfl <;> rfl
          case c3 => unfold maxLen; omega
          case c4 => omega
          case c5 => have := HB.out.size; simp; omega
          intro v' w1 hown' hgrow _
          have HB1 : Hid (Below w.heap.size w w1) := row_next hown (Nat.le_refl _) HB.out HB.out.size hgrow
          rw [all_next hml] at hown'
          have HO : Hid _ := hown'
          clear hown hgrow hown'
          go_wp2
          go_roundw
          case rel => exact ⟨m + 1, by omega, by go_num, HO.out, HB1⟩
          case measure => simp [intOf]; omega
        · have e : m = 2 := by omega
          subst e
          go_wp2
          go_roundw
          case rel => exact ⟨k + 1, by omega, by go_num, hown, HB⟩
          case measure => simp [intOf]; omega
    · have e : k = 3 := by omega
      subst e
      obtain ⟨ao, cap, rfl, hl, ha⟩ := row_lies hown
      go_wp2
      go_ret
      exact ⟨ao, cap, rfl, hl, ha, HB.out⟩

theorem all_is {s c : Int} : (0 = s ∧ 1 = c ∨ 0 = s ∧ 2 = c ∨ 1 = s ∧ 1 = c ∨ 1 = s ∧ 2 = c ∨ 2 = s ∧ 1 = c ∨ 2 = s ∧ 2 = c) ↔ right s c := by unfold right; omega
/-- Is a mode among the first k of all? -/
def amid (s c : Int) : Nat → Bool
  | 0 => false
  | k + 1 => amid s c k || (allS k == s && allC k == c)
theorem amid_all (s c : Int) : amid s c 6 = decide (right s c) := by
  simp only [amid, Bool.false_or]
  rw [show allS 0 = 0 from rfl, show allS 1 = 0 from rfl, show allS 2 = 1 from rfl, show allS 3 = 1 from rfl, show allS 4 = 2 from rfl, show allS 5 = 2 from rfl, show allC 0 = 1 from rfl, show allC 1 = 2 from rfl, show allC 2 = 1 from rfl, show allC 3 = 2 from rfl, show allC 4 = 1 from rfl, show allC 5 = 2 from rfl]
  rw [Bool.eq_iff_iff]
  simp only [Bool.or_eq_true, Bool.and_eq_true, beq_iff_eq, decide_eq_true_eq]
  rw [← all_is]
  simp only [or_assoc]

set_option maxHeartbeats 1000000 in
theorem all_law (i s c : Int) (w : World) (h : Hid (Tabs w)) (hi : 0 ≤ i) (hi' : i ≤ 255) :
    Calls Tryd.prog 7 #[.int .u8 i, .int .i64 s, .int .i64 c] w fun e w' => e = .returned (.bool true) ∧ Below w.heap.size w w' := by
  have t6 : i.tmod 6 = i % 6 := by rw [Int.tmod_eq_emod_of_nonneg hi]
  obtain ⟨q, hq⟩ : ∃ q : Nat, i % 6 = q := ⟨(i % 6).toNat, by omega⟩
  have hq6 : q < 6 := by omega
  rw [hq] at t6
  have t2 : (q : Int).tdiv 2 = allS q := by unfold allS; rw [Int.tdiv_eq_ediv_of_nonneg (by omega)]; omega
  have t3 : (q : Int).tmod 2 = allC q - 1 := by unfold allC; rw [Int.tmod_eq_emod_of_nonneg (by omega)]; omega
  have b1 : 0 ≤ allS q ∧ allS q ≤ 2 := by unfold allS; omega
  have b2 : 1 ≤ allC q ∧ allC q ≤ 2 := by unfold allC; omega
  have q1 : (q : Int) < 6 := by omega
  clear hq
  go_enter Tryd.func7, Tryd.ntmps7
  go_wp2_with (first | (go_at_call 8; refine (awake_m _ h).mono ?_; rintro e w0 ⟨rfl, hb0⟩) | (go_at_call 22; refine (all_any _).mono ?_; rintro e w1 ⟨ao, cap, rfl, hl, ha, hb1⟩; obtain ⟨b, off, rfl, x0, x1⟩ := hl q hq6))
  have HL : Hid (PairsAt w1 (some ⟨b, off, none⟩) 6 allS allC) := hl
  have hbw := (ha _ rfl).2
  clear hl ha x0 x1
  go_loopw [8, 38] (fun v i wr => ∃ k : Nat, k ≤ 6 ∧ i = .int .i64 k ∧ v = .bool (amid s c k) ∧ Hid (Below w1.heap.size w1 wr)) (fun _ i _ => 6 - (intOf i).toNat)
  case atStart => exact ⟨0, by omega, rfl, rfl, Below.refl _ _⟩
  case round =>
    obtain ⟨k, hk, rfl, rfl, HB⟩ := hrel
    by_cases hlt : k < 6
    · have hlt' : (k : Int) < 6 := by omega
      obtain ⟨b', off', e', x0, x1⟩ := (HL.out.keep HB.out) k hlt
      cases e'
      have hstep : amid s c (k + 1) = (amid s c k || (allS k == s && allC k == c)) := rfl
      have HS : Hid _ := hstep
      clear hstep
      cases hA : amid s c k
      · rw [hA] at HS
        by_cases a1 : allS k = s
        · by_cases a2 : allC k = c
          · have HS' : Hid (amid s c (k + 1) = true) := by show _ = _; rw [HS.out, a1, a2]; simp
            go_wp2
            go_roundw
            case rel => exact ⟨k + 1, by omega, by go_num, by rw [HS'.out], HB.out.trans (Below.mono (Below.alloc (Below.refl _ _) (Nat.le_refl _) _) HB.out.size)⟩
            case measure => simp [intOf]; omega
          · have HS' : Hid (amid s c (k + 1) = false) := by show _ = _; rw [HS.out]; simp [a2]
            go_wp2
            go_roundw
            case rel => exact ⟨k + 1, by omega, by go_num, by rw [HS'.out], HB.out.trans (Below.mono (Below.alloc (Below.refl _ _) (Nat.le_refl _) _) HB.out.size)⟩
            case measure => simp [intOf]; omega
        · have HS' : Hid (amid s c (k + 1) = false) := by show _ = _; rw [HS.out]; simp [a1]
          go_wp2
          go_roundw
          case rel => exact ⟨k + 1, by omega, by go_num, by rw [HS'.out], HB.out.trans (Below.mono (Below.alloc (Below.refl _ _) (Nat.le_refl _) _) HB.out.size)⟩
          case measure => simp [intOf]; omega
      · rw [hA] at HS
        go_wp2
        go_roundw
        case rel => exact ⟨k + 1, by omega, by go_num, by rw [HS.out]; simp, HB.out.trans (Below.mono (Below.alloc (Below.refl _ _) (Nat.le_refl _) _) HB.out.size)⟩
        case measure => simp [intOf]; omega
    · have e : k = 6 := by omega
      subst e
      have hA := amid_all s c
      go_wp2_with (go_at_call 10; refine (right_any _ _ _).mono ?_; rintro e w2 ⟨rfl, hb2⟩)
      go_ret
      exact ⟨ret_bool (by simp), hb0.trans ((hb1.trans ((HB.out.trans (hb2.mono HB.out.size)).mono hb1.size)).mono hb0.size)⟩
end Go.Proofs.YtkjaalcckdacoaaDoor
