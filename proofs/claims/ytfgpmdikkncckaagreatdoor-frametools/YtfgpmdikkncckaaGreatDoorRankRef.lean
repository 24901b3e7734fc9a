/-
  What Rank of package spinetref11 answers for a right vector: its rank. Nothing is turned.
-/
import Derived.Test.YtfgpmdikkncckaaGreatDoorMrgK
namespace Go.Proofs.YtfgpmdikkncckaaGreatDoor
set_option linter.unusedVariables false
open Go.ChangeShapes Go.WideShapes Go.ChangeAt Go.RowKit

theorem rrank_nil (w : World) (ao : Option Addr) (cap : Nat) : Calls Tryz.prog 55 #[.slice ao (0 : Nat) cap] w fun e w' => e = .returned (.int .u64 (0 : Nat)) ∧ ∃ d, w' = w.drewN d := by
  go_enter Tryz.func55, Tryz.ntmps55
  go_wp2
  go_returns
  exact ⟨rfl, 0, rfl⟩

set_option maxHeartbeats 2000000 in
theorem rrank_cons (n : Nat) (hn : n ≤ 15) (ih : ∀ (w : World) (ao : Option Addr) (cap : Nat) (r : List Int), n ≤ cap → cap ≤ 9223372036854775807 → Hid (r.length = n) → ∀ k, k ≤ 32 → Hid (pul r = k) → Hid (LAt w ao r) → Calls Tryz.prog 55 #[.slice ao n cap] w fun e w' => e = .returned (.int .u64 (rk r k : Nat)) ∧ ∃ d, w' = w.drewN d)
    (w : World) (ao : Option Addr) (cap : Nat) (x : Int) (r : List Int) (hc : n + 1 ≤ cap) (hc2 : cap ≤ 9223372036854775807) (hr : Hid (r.length = n)) (k : Nat) (hk : k ≤ 32) (hp : Hid (x.natAbs + pul r = k)) (h : Hid (LAt w ao (x :: r))) :
    Calls Tryz.prog 55 #[.slice ao (n + 1 : Nat) cap] w fun e w' => e = .returned (.int .u64 (sm n k (place x) + rk r (k - x.natAbs) : Nat)) ∧ ∃ d, w' = w.drewN d := by
  obtain ⟨bl, off, rfl, c0⟩ := h.out 0 x (by simp)
  rw [Nat.add_zero] at c0
  obtain ⟨a, ha⟩ : ∃ a, x.natAbs = a := ⟨_, rfl⟩
  have HA : Hid (x.natAbs = a) := ha
  have hxa : x.natAbs ≤ 32 := by have := hp.out; omega
  have HL : Hid (LAt w (some ⟨bl, off + 1, none⟩) r) := h.out.tail
  have HPr : Hid (pul r = k - x.natAbs) := by show pul r = k - x.natAbs; have := hp.out; omega
  have HRB : Hid _ := rk_bd r (by rw [hr.out]; omega) (k - x.natAbs) (by omega) HPr.out
  obtain ⟨R, hR⟩ : ∃ R, rk r (k - x.natAbs) = R := ⟨_, rfl⟩
  have hRb : R ≤ 2460955893981184 := by rw [← hR]; exact HRB.out
  obtain ⟨P, hP⟩ : ∃ P, place x = P := ⟨_, rfl⟩
  have hPb : P ≤ 2 * k := by have := place_le x; have := hp.out; omega
  have HR : Hid (rk r (k - x.natAbs) = R) := hR
  have HP : Hid (place x = P) := hP
  rw [hR, hP]
  clear hR hP ha HRB
  go_enter Tryz.func55, Tryz.ntmps55
  go_upto_region 4 with (go_at_call 24; refine (rpul_any _ _ (n + 1) cap (x :: r) (by omega) (by show (x :: r).length = n + 1; rw [List.length_cons, hr.out]) k hp hk h).mono ?_; rintro e w1 ⟨rfl, hw⟩; obtain rfl := hw.symm; clear hw)
  go_cut [4] (fun v wc => v = .int .u64 R ∧ ∃ d, wc = w.drewN d)
  case first =>
    by_cases hcap : cap = 1
    · subst hcap
      obtain rfl : n = 0 := by omega
      have hR0 : R = 0 := by
        have e : r = [] := List.length_eq_zero_iff.1 hr.out
        have := HR.out
        rw [e, rk] at this
        exact this.symm
      subst hR0
      go_wp2_with fail
      refine (rrank_nil _ _ _).mono ?_
      rintro e w1 ⟨rfl, d, rfl⟩
      go_wp2
      go_meet
      exact ⟨rfl, d, rfl⟩
    · go_wp2_with fail
      refine (ih _ _ _ r (by omega) (by omega) hr (k - x.natAbs) (by omega) HPr HL).mono ?_
      rw [HR.out]
      rintro e w1 ⟨rfl, d, rfl⟩
      go_wp2
      go_meet
      exact ⟨rfl, d, rfl⟩
  case rest =>
    obtain ⟨rfl, d0, rfl⟩ := hcut
    go_wp2_with fail
    go_loopw [4, 5] (fun s i wr => ∃ m d : Nat, m ≤ k + 1 ∧ i = .int .i64 m ∧ wr = w.drewN d ∧ ∃ s0 : Nat, Hid (sm n k (min P (2 * m - 1)) = s0) ∧ s = .int .u64 (R + s0 : Nat)) (fun _ i _ => k + 1 - (intOf i).toNat)
    case atStart => exact ⟨0, d0, by omega, rfl, rfl, 0, by show sm n k (min P (2 * 0 - 1)) = 0; rw [show min P (2 * 0 - 1) = 0 by omega]; rfl, rfl⟩
    case round =>
      obtain ⟨m, d, hm, rfl, rfl, s0, HS, rfl⟩ := hrel
      by_cases hmk : m ≤ k
      · have hmk' : (m : Int) ≤ (k : Int) := by omega
        have HB : Hid _ := ref_both n k P m
        have hs0 : s0 ≤ 2460955893981184 := by rw [← HS.out]; exact Nat.le_trans (sm_le (by omega) hk (by omega)) (vv_bd (by omega) hk)
        have hv := vv_bd (n := n) (k := k - m) (by omega) (by omega)
        have HV : Hid (vI (n : Int) ((k : Int) - (m : Int)) = vv n (k - m)) := vI_sub (by omega) hk hmk
        obtain ⟨v, hve⟩ : ∃ v, vv n (k - m) = v := ⟨_, rfl⟩
        rw [hve] at hv HV HB
        obtain ⟨pm, hpm⟩ : ∃ pm, place (m : Int) = pm := ⟨_, rfl⟩
        obtain ⟨qm, hqm⟩ : ∃ qm, place (-(m : Int)) = qm := ⟨_, rfl⟩
        rw [hpm, hqm, HS.out] at HB
        have HPM : Hid (place (m : Int) = pm) := hpm
        have HQM : Hid (place (-(m : Int)) = qm) := hqm
        have hpm2 : pm ≤ 64 := by have := place_le (m : Int); omega
        have hqm2 : qm ≤ 64 := by have := place_le (-(m : Int)); omega
        have HPQ : Hid (m ≠ 0 → qm = pm + 1) := fun hm0 => by rw [← hqm, ← hpm]; exact place_neg (by omega)
        have HPZ : Hid (m = 0 → pm = 0) := fun hm0 => by rw [← hpm, hm0]; rfl
        clear hve hpm hqm
        by_cases h0 : m = 0
        · have h00 : ¬ (0 : Int) < (m : Int) := by omega
          have h01 : decide (0 < m) = false := decide_eq_false (by omega)
          by_cases h1 : pm < P
          · have h1' : (pm : Int) < (P : Int) := by omega
            rw [if_pos h1, if_neg (by omega), Nat.add_zero] at HB
            clear h0
            go_wp2_with fail
            go_quiet (first | (go_at_call 81; refine (place_any _ _ (by omega)).mono ?_; (first | rw [HPM.out] | rw [HQM.out] | rw [HP.out]); rintro e5 w5 ⟨rfl, rfl⟩; exact ⟨rfl, _, rfl⟩))
            go_wp2_with (go_at_call 56; refine (rv_any _ (n : Int) ((k : Int) - (m : Int))).mono ?_; rw [HV.out]; rintro e w1 ⟨rfl, hw⟩; obtain rfl := hw.symm; clear hw)
            go_quiet (first | (go_at_call 81; refine (place_any _ _ (by omega)).mono ?_; (first | rw [HPM.out] | rw [HQM.out] | rw [HP.out]); rintro e5 w5 ⟨rfl, rfl⟩; exact ⟨rfl, _, rfl⟩))
            go_wp2_with (go_at_call 56; refine (rv_any _ (n : Int) ((k : Int) - (m : Int))).mono ?_; rw [HV.out]; rintro e w1 ⟨rfl, hw⟩; obtain rfl := hw.symm; clear hw)
            go_roundw
            case rel => exact ⟨m + 1, _, by omega, by go_num, (by first | rfl | exact World.drewN_drewN _ _ _ | (rw [World.drewN_drewN]; exact World.drewN_drewN _ _ _)), s0 + v, HB, by go_num⟩
            case measure => simp [intOf]; omega
          · have h1' : ¬ (pm : Int) < (P : Int) := by omega
            rw [if_neg h1, if_neg (by omega), Nat.add_zero, Nat.add_zero] at HB
            clear h0
            go_wp2_with fail
            go_quiet (first | (go_at_call 81; refine (place_any _ _ (by omega)).mono ?_; (first | rw [HPM.out] | rw [HQM.out] | rw [HP.out]); rintro e5 w5 ⟨rfl, rfl⟩; exact ⟨rfl, _, rfl⟩))
            go_wp2_with (go_at_call 56; refine (rv_any _ (n : Int) ((k : Int) - (m : Int))).mono ?_; rw [HV.out]; rintro e w1 ⟨rfl, hw⟩; obtain rfl := hw.symm; clear hw)
            go_quiet (first | (go_at_call 81; refine (place_any _ _ (by omega)).mono ?_; (first | rw [HPM.out] | rw [HQM.out] | rw [HP.out]); rintro e5 w5 ⟨rfl, rfl⟩; exact ⟨rfl, _, rfl⟩))
            go_wp2_with (go_at_call 56; refine (rv_any _ (n : Int) ((k : Int) - (m : Int))).mono ?_; rw [HV.out]; rintro e w1 ⟨rfl, hw⟩; obtain rfl := hw.symm; clear hw)
            go_roundw
            case rel => exact ⟨m + 1, _, by omega, by go_num, (by first | rfl | exact World.drewN_drewN _ _ _ | (rw [World.drewN_drewN]; exact World.drewN_drewN _ _ _)), s0, HB, by go_num⟩
            case measure => simp [intOf]; omega
        · have h00 : (0 : Int) < (m : Int) := by omega
          have h01 : decide (0 < m) = true := decide_eq_true (by omega)
          have hpq := HPQ.out h0
          by_cases h1 : pm < P
          · have h1' : (pm : Int) < (P : Int) := by omega
            by_cases h2 : qm < P
            · have h2' : (qm : Int) < (P : Int) := by omega
              rw [if_pos h1, if_pos ⟨by omega, h2⟩] at HB
              go_wp2_with fail
              go_quiet (first | (go_at_call 81; refine (place_any _ _ (by omega)).mono ?_; (first | rw [HPM.out] | rw [HQM.out] | rw [HP.out]); rintro e5 w5 ⟨rfl, rfl⟩; exact ⟨rfl, _, rfl⟩))
              go_wp2_with (go_at_call 56; refine (rv_any _ (n : Int) ((k : Int) - (m : Int))).mono ?_; rw [HV.out]; rintro e w1 ⟨rfl, hw⟩; obtain rfl := hw.symm; clear hw)
              go_quiet (first | (go_at_call 81; refine (place_any _ _ (by omega)).mono ?_; (first | rw [HPM.out] | rw [HQM.out] | rw [HP.out]); rintro e5 w5 ⟨rfl, rfl⟩; exact ⟨rfl, _, rfl⟩))
              go_wp2_with (go_at_call 56; refine (rv_any _ (n : Int) ((k : Int) - (m : Int))).mono ?_; rw [HV.out]; rintro e w1 ⟨rfl, hw⟩; obtain rfl := hw.symm; clear hw)
              go_roundw
              case rel => exact ⟨m + 1, _, by omega, by go_num, (by first | rfl | exact World.drewN_drewN _ _ _ | (rw [World.drewN_drewN]; exact World.drewN_drewN _ _ _)), s0 + v + v, HB, by go_num⟩
              case measure => simp [intOf]; omega
            · have h2' : ¬ (qm : Int) < (P : Int) := by omega
              rw [if_pos h1, if_neg (by omega), Nat.add_zero] at HB
              go_wp2_with fail
              go_quiet (first | (go_at_call 81; refine (place_any _ _ (by omega)).mono ?_; (first | rw [HPM.out] | rw [HQM.out] | rw [HP.out]); rintro e5 w5 ⟨rfl, rfl⟩; exact ⟨rfl, _, rfl⟩))
              go_wp2_with (go_at_call 56; refine (rv_any _ (n : Int) ((k : Int) - (m : Int))).mono ?_; rw [HV.out]; rintro e w1 ⟨rfl, hw⟩; obtain rfl := hw.symm; clear hw)
              go_quiet (first | (go_at_call 81; refine (place_any _ _ (by omega)).mono ?_; (first | rw [HPM.out] | rw [HQM.out] | rw [HP.out]); rintro e5 w5 ⟨rfl, rfl⟩; exact ⟨rfl, _, rfl⟩))
              go_wp2_with (go_at_call 56; refine (rv_any _ (n : Int) ((k : Int) - (m : Int))).mono ?_; rw [HV.out]; rintro e w1 ⟨rfl, hw⟩; obtain rfl := hw.symm; clear hw)
              go_roundw
              case rel => exact ⟨m + 1, _, by omega, by go_num, (by first | rfl | exact World.drewN_drewN _ _ _ | (rw [World.drewN_drewN]; exact World.drewN_drewN _ _ _)), s0 + v, HB, by go_num⟩
              case measure => simp [intOf]; omega
          · have h1' : ¬ (pm : Int) < (P : Int) := by omega
            have h2' : ¬ (qm : Int) < (P : Int) := by omega
            rw [if_neg h1, if_neg (by omega), Nat.add_zero, Nat.add_zero] at HB
            go_wp2_with fail
            go_quiet (first | (go_at_call 81; refine (place_any _ _ (by omega)).mono ?_; (first | rw [HPM.out] | rw [HQM.out] | rw [HP.out]); rintro e5 w5 ⟨rfl, rfl⟩; exact ⟨rfl, _, rfl⟩))
            go_wp2_with (go_at_call 56; refine (rv_any _ (n : Int) ((k : Int) - (m : Int))).mono ?_; rw [HV.out]; rintro e w1 ⟨rfl, hw⟩; obtain rfl := hw.symm; clear hw)
            go_quiet (first | (go_at_call 81; refine (place_any _ _ (by omega)).mono ?_; (first | rw [HPM.out] | rw [HQM.out] | rw [HP.out]); rintro e5 w5 ⟨rfl, rfl⟩; exact ⟨rfl, _, rfl⟩))
            go_wp2_with (go_at_call 56; refine (rv_any _ (n : Int) ((k : Int) - (m : Int))).mono ?_; rw [HV.out]; rintro e w1 ⟨rfl, hw⟩; obtain rfl := hw.symm; clear hw)
            go_roundw
            case rel => exact ⟨m + 1, _, by omega, by go_num, (by first | rfl | exact World.drewN_drewN _ _ _ | (rw [World.drewN_drewN]; exact World.drewN_drewN _ _ _)), s0, HB, by go_num⟩
            case measure => simp [intOf]; omega
      · obtain rfl : m = k + 1 := by omega
        have HE : Hid (sm n k P = s0) := by show sm n k P = s0; rw [← HS.out]; congr 1; omega
        have hmk' : ¬ ((k : Int) + 1) ≤ (k : Int) := by omega
        go_wp2
        go_returns
        exact ⟨by rw [HE.out, Int.add_comm (s0 : Int) (R : Int)]; rfl, d, rfl⟩

theorem rrank_any : ∀ (n : Nat), n ≤ 16 → ∀ (w : World) (ao : Option Addr) (cap : Nat) (r : List Int), n ≤ cap → cap ≤ 9223372036854775807 → Hid (r.length = n) → ∀ k, k ≤ 32 → Hid (pul r = k) → Hid (LAt w ao r) → Calls Tryz.prog 55 #[.slice ao n cap] w fun e w' => e = .returned (.int .u64 (rk r k : Nat)) ∧ ∃ d, w' = w.drewN d
  | 0, _, w, ao, cap, r, h1, h2, h3, k, hk, hp, h => by
    have e : r = [] := List.length_eq_zero_iff.1 h3.out
    subst e
    rw [rk]
    exact rrank_nil w ao cap
  | n + 1, hn, w, ao, cap, [], h1, h2, h3, k, hk, hp, h => by have := h3.out; simp at this
  | n + 1, hn, w, ao, cap, x :: r, h1, h2, h3, k, hk, hp, h => by
    have hl : r.length = n := by have := h3.out; simpa using this
    rw [rk, hl]
    exact rrank_cons n (by omega) (fun w ao cap r a1 a2 a3 k a4 a5 a6 => rrank_any n (by omega) w ao cap r a1 a2 a3 k a4 a5 a6) w ao cap x r h1 h2 hl k hk hp h
end Go.Proofs.YtfgpmdikkncckaaGreatDoor
