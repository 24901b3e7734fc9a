/-
  The laws of layer 4 (pow), each as a walk: called at any arguments of its types, with the table of package pow as the row lists it, it returns true, and nothing that was there has turned.
-/
import Derived.Test.YtbodpghheclakaaDoorPowCalls2
namespace Go.Proofs.YtbodpghheclakaaDoor
set_option linter.unusedVariables false
open Go.ChangeShapes Go.WideShapes Go.ChangeAt Go.RowKit

set_option maxHeartbeats 400000 in
theorem loud_any (c q f : Int) (w : World) :
    Calls Tryd.prog 15 #[.int .i64 c, .int .i64 q, .int .i64 f] w fun x w' => x = .returned (.int .i64 (loudF c q f)) ∧ w' = w := by
  have hf := fineF_bd q f
  have hk := clamp_bd c 0 31 (by omega)
  obtain ⟨a, hA⟩ : ∃ a, fineF q f = a := ⟨_, rfl⟩
  obtain ⟨k, hK⟩ : ∃ k, clamp c 0 31 = k := ⟨_, rfl⟩
  have HL : Hid (loudF c q f = clamp (k * 8 + a) 0 320) := by unfold loudF; rw [hA, hK]; exact rfl
  have hl := clamp_bd (k * 8 + a) 0 320 (by omega)
  obtain ⟨l, hl'⟩ : ∃ l, clamp (k * 8 + a) 0 320 = l := ⟨_, rfl⟩
  rw [hA] at hf
  rw [hK] at hk
  rw [hl'] at hl
  have HA : Hid _ := hA
  have HK : Hid _ := hK
  have HLL : Hid _ := hl'
  clear hA hK hl'
  go_enter Tryd.func15, Tryd.ntmps15
  go_wp2_with fail
  refine (pwithin_any _ _ _ (by omega) (by omega)).mono ?_
  rintro e w' ⟨rfl, rfl⟩
  rw [HK.out]
  go_wp2_with fail
  refine (fine_any _ _ _).mono ?_
  rintro e w' ⟨rfl, rfl⟩
  rw [HA.out]
  go_wp2_with fail
  refine (pwithin_any _ _ _ (by omega) (by omega)).mono ?_
  rintro e w' ⟨rfl, rfl⟩
  rw [HLL.out]
  go_wp2
  go_ret
  exact ⟨ret_int (by rw [HL.out, HLL.out]), rfl⟩

set_option maxHeartbeats 400000 in
theorem rloud_any (c q f : Int) (w : World) :
    Calls Tryd.prog 16 #[.int .i64 c, .int .i64 q, .int .i64 f] w fun x w' => x = .returned (.int .i64 (loudF c q f)) ∧ w' = w := by
  have hf := fineF_bd q f
  have hk := clamp_bd c 0 31 (by omega)
  obtain ⟨a, hA⟩ : ∃ a, fineF q f = a := ⟨_, rfl⟩
  obtain ⟨k, hK⟩ : ∃ k, clamp c 0 31 = k := ⟨_, rfl⟩
  have hL : loudF c q f = clamp (k * 8 + a) 0 320 := by unfold loudF; rw [hA, hK]
  have hc : (c < 0 ∧ k = 0) ∨ (0 ≤ c ∧ 31 < c ∧ k = 31) ∨ (0 ≤ c ∧ c ≤ 31 ∧ c = k) := by
    unfold clamp at hK; split at hK
    · exact .inl ⟨by omega, by omega⟩
    · split at hK
      · exact .inr (.inl ⟨by omega, by omega, by omega⟩)
      · exact .inr (.inr ⟨by omega, by omega, by omega⟩)
  have hl : (k * 8 + a < 0 ∧ loudF c q f = 0) ∨ (0 ≤ k * 8 + a ∧ loudF c q f = k * 8 + a) := by
    rw [hL]; unfold clamp
    by_cases h : k * 8 + a < 0
    · exact .inl ⟨h, by rw [if_pos h]⟩
    · exact .inr ⟨by omega, by rw [if_neg h, if_neg (by omega)]⟩
  rw [hA] at hf
  have HA : Hid _ := hA
  clear hA hK hL
  rcases hl with ⟨hl1, hl2⟩ | ⟨hl1, hl2⟩
  all_goals
    have HR : Hid _ := hl2
    clear hl2
    rcases hc with ⟨hc1, rfl⟩ | ⟨hc0, hc1, rfl⟩ | ⟨hc0, hc1, rfl⟩
    all_goals first
      | (exfalso; omega)
      | (go_enter Tryd.func16, Tryd.ntmps16
         go_wp2_with (go_at_call 14; refine (rfine_any _ _ _).mono ?_; rintro e w' ⟨rfl, rfl⟩; rw [HA.out])
         go_ret
         exact ⟨ret_int (by rw [HR.out]; try omega), rfl⟩)

theorem exp24 : expF 24 = 2 := by decide +kernel
theorem log3 : logF 3 = 31 := by decide +kernel
theorem fine00 : fineF 0 0 = 0 := by decide +kernel
theorem fine11 : fineF 1 1 = 2 := by decide +kernel

set_option maxHeartbeats 400000 in
theorem awake_p (w : World) (h : Hid (Steps w)) :
    Calls Tryd.prog 8 #[] w fun e w' => e = .returned (.bool true) ∧ w' = w := by
  go_enter Tryd.func8, Tryd.ntmps8
  go_wp2_with (first | (go_at_call 9; refine (exp_any _ _ h).mono ?_; rintro e w' ⟨rfl, rfl⟩; rw [exp24]) | (go_at_call 11; refine (log_any _ _ h).mono ?_; rintro e w' ⟨rfl, rfl⟩; rw [log3]) | (go_at_call 13; refine (fine_any _ _ _).mono ?_; rintro e w' ⟨rfl, rfl⟩; first | rw [fine00] | rw [fine11]))
  go_ret
  exact ⟨rfl, rfl⟩

set_option maxHeartbeats 400000 in
theorem tells_law (e v : Int) (w : World) (h : Hid (Steps w)) :
    Calls Tryd.prog 3 #[.int .i64 e, .int .i64 v] w fun x w' => x = .returned (.bool true) ∧ Below w.heap.size w w' := by
  go_enter Tryd.func3, Tryd.ntmps3
  go_wp2_with fail
  refine (awake_p _ h).mono ?_
  rintro x w' ⟨rfl, rfl⟩
  go_wp2_with fail
  refine (exp_any _ _ h).mono ?_
  rintro x w' ⟨rfl, rfl⟩
  go_wp2_with fail
  refine (rexp_any _ _).mono ?_
  rintro x w1 ⟨rfl, hB⟩
  have HB : Hid _ := hB
  have H1 : Hid (Steps w1) := h.out.below hB
  clear hB
  go_wp2_with fail
  refine (log_any _ _ H1).mono ?_
  rintro x w' ⟨rfl, rfl⟩
  go_wp2_with fail
  refine (rlog_any _ _).mono ?_
  rintro x w2 ⟨rfl, hB⟩
  have HB2 : Hid _ := hB
  clear hB
  go_wp2
  go_ret
  exact ⟨rfl, HB.out.trans (HB2.out.mono HB.out.size)⟩

set_option maxHeartbeats 400000 in
theorem louds_law (c q f : Int) (w : World) (h : Hid (Steps w)) :
    Calls Tryd.prog 4 #[.int .i64 c, .int .i64 q, .int .i64 f] w fun x w' => x = .returned (.bool true) ∧ Below w.heap.size w w' := by
  go_enter Tryd.func4, Tryd.ntmps4
  go_wp2_with (first | (go_at_call 8; refine (awake_p _ h).mono ?_; rintro e w' ⟨rfl, rfl⟩) | (go_at_call 13; refine (fine_any _ _ _).mono ?_; rintro e w' ⟨rfl, rfl⟩) | (go_at_call 14; refine (rfine_any _ _ _).mono ?_; rintro e w' ⟨rfl, rfl⟩) | (go_at_call 15; refine (loud_any _ _ _ _).mono ?_; rintro e w' ⟨rfl, rfl⟩) | (go_at_call 16; refine (rloud_any _ _ _ _).mono ?_; rintro e w' ⟨rfl, rfl⟩))
  go_ret
  exact ⟨rfl, Below.refl _ _⟩
end Go.Proofs.YtbodpghheclakaaDoor
