/-
  What fill and join of package cost do: they work out one row of a sheet. Nothing that was there is turned but the sheet's own block.
-/
import Derived.Test.YtfgpmdikkncckaaGreatDoorCostSheet
import Derived.Deep.RegionHeld3
namespace Go.Proofs.YtfgpmdikkncckaaGreatDoor
set_option linter.unusedVariables false
open Go.ChangeShapes Go.WideShapes Go.ChangeAt Go.RowKit

set_option maxHeartbeats 2000000 in
/-- fill. -/
theorem fill_any (w : World) (b tb n : Nat) (h1 : 1 ≤ n) (h2 : n ≤ 8) (hS : Hid (SB w b n n 0)) (hT : Hid (TabAt w tb)) (hne : Hid (tb ≠ b)) :
    Calls Tryz.prog 73 #[.pointer (some ⟨b, 0, none⟩), .pointer (some ⟨tb, 0, none⟩), .int .i64 n] w fun e w' => e = .returned (.tuple #[]) ∧ SB w' b (n + 1) (n + 1) 0 ∧ w.grownBy w' (some b) := by
  obtain ⟨hc0, hb0, _⟩ := cap_bd (n := n) (by omega)
  have c0 := hS.out.at_ n (by omega)
  have f0 := hS.out.free n
  have HG : Hid (∀ w, Hid (TabAt w tb) → Calls Tryz.prog 95 #[.iface 90 (.pointer (some ⟨tb, 0, none⟩)), .int .i64 n] w fun e w' => e = .returned (.int .i64 (cap n : Nat)) ∧ w' = w) := fun w h => great_tab w tb n h1 h2 h
  have HS1 : Hid (SB (w.setCell ⟨b, n, none⟩ (.int .i64 (cap n : Nat))).drew b (n + 1) n 0) := (hS.out.set (by omega) (cap n) (fun j hj => sf_most (by omega))).drewN 1
  have HG1 : Hid (w.grownBy (w.setCell ⟨b, n, none⟩ (.int .i64 (cap n : Nat))).drew (some b)) := ⟨rfl, rfl, rfl, by simp, fun i hi hn => Below.heap_setCell _ _ _ _ (by intro e; exact hn (by rw [e]))⟩
  have HV : Hid (∀ k, k < cap n → lenN (vv n (k + 1) - 1) + 1 = bt n (k + 1) ∧ 1 ≤ vv n (k + 1) ∧ vv n (k + 1) ≤ 1048576 ∧ bt n (k + 1) ≤ 41) := fun k hk => ⟨rank_is h1 h2 (by omega) hk, by have := v_two h1 h2 (k := k + 1) (by omega) (by omega); omega, (may_is h1 h2 (by omega)).2 hk, bt_bd (by omega) (by omega)⟩
  have HE : Hid (∀ w', SB w' b (n + 1) n (cap n) → SB w' b (n + 1) (n + 1) 0) := fun w' h => ⟨h.blk, fun j hj => by rw [h.at_ j hj, sf_end (by omega) hj]⟩
  generalize sf n n 0 n = z at *
  obtain ⟨C, hC⟩ : ∃ C, cap n = C := ⟨_, rfl⟩
  rw [hC] at hc0 HG HS1 HG1 HV HE
  clear hb0 hC
  go_enter Tryz.func73, Tryz.ntmps73
  go_wp2
  go_region_with (go_at_call 95; refine (HG.out _ (by exact hT.out.drewN 1)).mono ?_; rintro e w2 ⟨rfl, hw⟩; obtain rfl := hw.symm; clear hw)
  go_wp2
  generalize (w.setCell ⟨b, n, none⟩ (.int .i64 C)).drew = w1 at *
  go_loopw [22] (fun i wr => ∃ k : Nat, k ≤ C ∧ i = .int .i64 k ∧ Hid (SB wr b (n + 1) n k) ∧ Hid (w.grownBy wr (some b))) (fun i _ => C - (intOf i).toNat)
  case atStart => exact ⟨0, by omega, rfl, HS1, HG1⟩
  case round =>
    obtain ⟨k, hk, rfl, HSk, HGk⟩ := hrel
    by_cases hlt : k < C
    · have hlt' : (k : Int) < (C : Int) := by omega
      obtain ⟨v1, v2, v3, v4⟩ := HV.out k hlt
      have c1 := HSk.out.at_ (17 + n * 33 + (k + 1)) (by omega)
      have f1 := HSk.out.free (17 + n * 33 + (k + 1))
      have HT1 : Hid (TabAt wr tb) := hT.out.kept HGk.out (by intro e; cases e; exact hne.out rfl)
      have HVV : Hid (vI n ((k : Int) + 1) = vv n (k + 1)) := vI_at' (n := n) (k := k + 1) (by omega) (by omega)
      have ew : IntKind.i64.wrap ((k : Int) + 1) = (k : Int) + 1 := by simp [IntKind.wrap, IntKind.bits, IntKind.signed]; omega
      have HV1 : Hid _ := v1
      have HV2 : Hid _ := v2
      have HV3 : Hid _ := v3
      have HX : Hid (SB ((wr.setCell ⟨b, 17 + n * 33 + (k + 1), none⟩ (.int .i64 (bt n (k + 1) : Nat))).drew) b (n + 1) n (k + 1)) := (HSk.out.set (by omega) (bt n (k + 1)) (fun j hj => sf_row (by omega))).drewN 1
      have HY : Hid (w.grownBy (wr.setCell ⟨b, 17 + n * 33 + (k + 1), none⟩ (.int .i64 (bt n (k + 1) : Nat))).drew (some b)) := (fun (h : w.grownBy (wr.setCell ⟨b, 17 + n * 33 + (k + 1), none⟩ (.int .i64 (bt n (k + 1) : Nat))) (some b)) => ⟨h.os, h.tape, h.output, h.size, h.block⟩) (grown_set HGk.out _ _)
      generalize vv n (k + 1) = v at *
      generalize bt n (k + 1) = t at *
      generalize sf (n + 1) n k (17 + n * 33 + (k + 1)) = z1 at *
      clear v1 v2 v3
      go_wp2
      go_region_with (first | (go_at_call 97; refine (tv_any _ tb n ((k : Int) + 1) (by exact HT1.out.drewN 1)).mono ?_; rw [HVV.out]; rintro e w2 ⟨rfl, hw⟩; obtain rfl := hw.symm; clear hw) | (go_at_call 96; refine (rankBits_any _ v HV2.out HV3.out).mono ?_; rw [HV1.out]; rintro e w2 ⟨rfl, hw⟩; obtain rfl := hw.symm; clear hw))
      all_goals (
        go_wp2
        go_roundw
        case rel => exact ⟨k + 1, by omega, by go_num, HX, HY⟩
        case measure => simp [intOf]; omega)
    · obtain rfl : k = C := by omega
      go_wp2
      go_returns
      exact ⟨rfl, HE.out _ HSk.out, HGk.out⟩

theorem splitBits_as (w : World) (x : Int) (k l : Nat) (hx : x = k) (h : k ≤ 32) (hl : lenN k + 1 = l) : Calls Tryz.prog 93 #[.int .i64 x] w fun e w' => e = .returned (.int .i64 l) ∧ w' = w := by
  subst hx hl
  exact splitBits_any w k h
theorem dearest_as (w : World) (x : Int) (b o1 o2 k m : Nat) (f g : Nat → Nat) (hx : x = k) (hm : dear f g k (k + 1) = m) (hk : k ≤ 32) (hf : Hid (∀ q, q ≤ k → f q ≤ 41 ∧ w.cell? ⟨b, o1 + q, none⟩ = some (.int .i64 (f q : Nat)))) (hg : Hid (∀ q, q ≤ k → g q ≤ 41 ∧ w.cell? ⟨b, o2 + q, none⟩ = some (.int .i64 (g q : Nat)))) :
    Calls Tryz.prog 94 #[.pointer (some ⟨b, o1, none⟩), .pointer (some ⟨b, o2, none⟩), .int .i64 x] w fun e w' => e = .returned (.int .i64 m) ∧ ∃ d, w' = w.drewN d := by
  subst hx hm
  exact dearest_any w b o1 o2 k f g hk hf hg

set_option maxHeartbeats 20000000 in
/-- join. -/
theorem join_any (w : World) (b n : Nat) (h1 : 9 ≤ n) (h2 : n ≤ 16) (hS : Hid (SB w b n n 0)) :
    Calls Tryz.prog 71 #[.pointer (some ⟨b, 0, none⟩), .int .i64 n] w fun e w' => e = .returned (.tuple #[]) ∧ SB w' b (n + 1) (n + 1) 0 ∧ w.grownBy w' (some b) := by
  obtain ⟨hc0, hb0, _⟩ := cap_bd (n := n) (by omega)
  have hbn : n / 2 ≤ 8 ∧ 4 ≤ n / 2 := by omega
  have hh := half_is h1 h2
  have f0 := hS.out.free n
  have c0 := hS.out.at_ n (by omega)
  have c1 := hS.out.at_ (n / 2) (by omega)
  have c2 := hS.out.at_ (n - n / 2) (by omega)
  rw [sf_cap (by omega) (by omega)] at c1 c2
  have HP : Hid (∀ w, Calls Tryz.prog 92 #[.int .i64 n] w fun e w' => e = .returned (.tuple #[.int .i64 ((n / 2 : Nat) : Int), .int .i64 ((n - n / 2 : Nat) : Int)]) ∧ w' = w) := fun w => parts_any w n h2
  have HS1 : Hid (SB (w.setCell ⟨b, n, none⟩ (.int .i64 (cap n : Nat))).drew b (n + 1) n 0) := (hS.out.set (by omega) (cap n) (fun j hj => sf_most (by omega))).drewN 1
  have HG1 : Hid (w.grownBy (w.setCell ⟨b, n, none⟩ (.int .i64 (cap n : Nat))).drew (some b)) := ⟨rfl, rfl, rfl, by simp, fun i hi hn => Below.heap_setCell _ _ _ _ (by intro e; exact hn (by rw [e]))⟩
  have HE : Hid (∀ w', SB w' b (n + 1) n (cap n) → SB w' b (n + 1) (n + 1) 0) := fun w' h => ⟨h.blk, fun j hj => by
    rw [h.at_ j hj]
    by_cases e : n = 16
    · subst e; exact congrArg (fun x : Nat => some (Value.int .i64 x)) (sf_end16 hj)
    · rw [sf_end (by omega) hj]⟩
  have HDR : Hid (∀ k, k < cap n → ∀ q wr, q ≤ 32 → SB wr b (n + 1) n k → wr.cell? ⟨b, 17 + n / 2 * 33 + q, none⟩ = some (.int .i64 (bt (n / 2) q : Nat)) ∧ wr.cell? ⟨b, 17 + (n - n / 2) * 33 + q, none⟩ = some (.int .i64 (bt (n - n / 2) q : Nat))) := fun k hk q wr hq h => ⟨by rw [h.at_ _ (by omega), sf_bt hq (by omega)], by rw [h.at_ _ (by omega), sf_bt hq (by omega)]⟩
  have HV : Hid (∀ k, k < cap n → lenN (k + 1) + 1 + dear (bt (n / 2)) (bt (n - n / 2)) (k + 1) (k + 1 + 1) = bt n (k + 1) ∧ bt n (k + 1) ≤ 41) := fun k hk => ⟨dear_is h1 h2 (by omega) hk, bt_bd h2 (by omega)⟩
  have HBB : Hid (∀ q, q ≤ 32 → bt (n / 2) q ≤ 41 ∧ bt (n - n / 2) q ≤ 41) := fun q hq => ⟨bt_bd (by omega) hq, bt_bd (by omega) hq⟩
  have hca := (cap_bd (n := n / 2) (by omega)).1
  have hcb := (cap_bd (n := n - n / 2) (by omega)).1
  have hn2 : n - n / 2 ≤ 8 := by omega
  have HC0 : Hid (∀ w', SB w' b (n + 1) n 0 → w'.cell? ⟨b, n, none⟩ = some (.int .i64 (cap n : Nat))) := fun w' h => by rw [h.at_ n (by omega), sf_cap (by omega) (by omega)]
  obtain ⟨C, hC⟩ : ∃ C, cap n = C := ⟨_, rfl⟩
  rw [hC] at hc0 HS1 HG1 HV HE HDR hh HC0
  generalize n / 2 = n1 at *
  generalize n - n1 = n2 at *
  generalize cap n1 = A at *
  generalize cap n2 = B at *
  generalize bt n1 = f at *
  generalize bt n2 = g at *
  generalize sf n n 0 n = z at *
  clear hb0 hC
  go_enter Tryz.func71, Tryz.ntmps71
  go_wp2_with (go_at_call 92; refine (HP.out _).mono ?_; rintro e w1 ⟨rfl, hw⟩; obtain rfl := hw.symm; clear hw)
  have HH : Hid (C = min A B) := hh
  clear hh
  go_upto_region 1 with fail
  go_cut [] (fun wc => wc = (w.setCell ⟨b, n, none⟩ (.int .i64 C)).drew)
  case first =>
    by_cases hlt : (B : Int) < (A : Int)
    · obtain rfl : C = B := by have := HH.out; omega
      go_region
      all_goals go_wp2
      all_goals go_meet
      all_goals rfl
    · obtain rfl : C = A := by have := HH.out; omega
      go_region
      all_goals go_wp2
      all_goals go_meet
      all_goals rfl
  case rest =>
    obtain rfl := hcut
    generalize (w.setCell ⟨b, n, none⟩ (.int .i64 C)).drew = w1 at *
    have cn := HC0.out w1 HS1.out
    clear f0 c0 c1 c2
    go_wp2
    go_loopw [36] (fun i wr => ∃ k : Nat, k ≤ C ∧ i = .int .i64 k ∧ Hid (SB wr b (n + 1) n k) ∧ Hid (w.grownBy wr (some b))) (fun i _ => C - (intOf i).toNat)
    case atStart => exact ⟨0, by omega, rfl, HS1, HG1⟩
    case round =>
      clear cn HS1 HG1
      obtain ⟨k, hk, rfl, HSk, HGk⟩ := hrel
      by_cases hlt : k < C
      · have hlt' : (k : Int) < (C : Int) := by omega
        obtain ⟨v1, v2⟩ := HV.out k hlt
        have c3 := HSk.out.at_ (17 + n * 33 + (k + 1)) (by omega)
        have f3 := HSk.out.free (17 + n * 33 + (k + 1))
        have ew : IntKind.i64.wrap ((k : Int) + 1) = (k : Int) + 1 := by simp [IntKind.wrap, IntKind.bits, IntKind.signed]; omega
        have hll := (lenN_spec (x := k + 1) (by omega)).2.2
        have HX : Hid (∀ d, SB ((wr.drewN d).setCell ⟨b, 17 + n * 33 + (k + 1), none⟩ (.int .i64 (bt n (k + 1) : Nat))) b (n + 1) n (k + 1)) := fun d => (HSk.out.drewN d).set (by omega) (bt n (k + 1)) (fun j hj => sf_row (by omega))
        have HY : Hid (∀ d, w.grownBy ((wr.drewN d).setCell ⟨b, 17 + n * 33 + (k + 1), none⟩ (.int .i64 (bt n (k + 1) : Nat))) (some b)) := fun d => grown_set (⟨HGk.out.os, HGk.out.tape, HGk.out.output, HGk.out.size, HGk.out.block⟩ : w.grownBy (wr.drewN d) (some b)) _ _
        obtain ⟨l, hl⟩ : ∃ l, lenN (k + 1) + 1 = l := ⟨_, rfl⟩
        have HSP : Hid (∀ w, Calls Tryz.prog 93 #[.int .i64 ((k : Int) + 1)] w fun e w' => e = .returned (.int .i64 l) ∧ w' = w) := fun w => splitBits_as w _ (k + 1) l (by omega) (by omega) hl
        obtain ⟨m, hm⟩ : ∃ m, dear f g (k + 1) (k + 1 + 1) = m := ⟨_, rfl⟩
        have HDE : Hid (∀ d, Calls Tryz.prog 94 #[.pointer (some ⟨b, 17 + n1 * 33, none⟩), .pointer (some ⟨b, 17 + n2 * 33, none⟩), .int .i64 ((k : Int) + 1)] (wr.drewN d) fun e w' => e = .returned (.int .i64 m) ∧ ∃ d', w' = (wr.drewN d).drewN d') := fun d => dearest_as _ _ b _ _ (k + 1) m f g (by omega) hm (by omega) (fun q hq => ⟨(HBB.out q (by omega)).1, (HDR.out k hlt q _ (by omega) (HSk.out.drewN d)).1⟩) (fun q hq => ⟨(HBB.out q (by omega)).2, (HDR.out k hlt q _ (by omega) (HSk.out.drewN d)).2⟩)
        rw [hm, hl] at v1
        have hm0 : m ≤ 41 := by omega
        have hl0 : l ≤ 41 := by omega
        have HV1 : Hid ((l : Int) + (m : Int) = (bt n (k + 1) : Nat)) := by show _ = _; omega
        generalize bt n (k + 1) = t at *
        generalize sf (n + 1) n k (17 + n * 33 + (k + 1)) = z1 at *
        clear v1 hm hl
        have i1 : (n1 : Int) < 17 := by omega
        have i2 : (n2 : Int) < 17 := by omega
        have i3 : (n : Int) < 17 := by omega
        have i4 : (k : Int) + 1 < 33 := by omega
        have j1 : (0 : Int) ≤ (n1 : Int) := by omega
        have j2 : (0 : Int) ≤ (n2 : Int) := by omega
        have j3 : (0 : Int) ≤ (n : Int) := by omega
        have j4 : (0 : Int) ≤ (k : Int) + 1 := by omega
        go_wp2
        go_region_held3 (fun _ => True) (trivial) ((first | (go_at_call 93; refine (HSP.out _).mono ?_; rintro e w2 ⟨rfl, hw⟩; obtain rfl := hw.symm; clear hw) | (go_at_call 94; refine (HDE.out 1).mono ?_; rintro e w2 ⟨rfl, d, rfl⟩)))
        go_wp2
        go_roundw
        case rel => exact ⟨k + 1, by omega, by go_num, by have := HX.out (1 + d); rw [← HV1.out] at this; exact this, by have := HY.out (1 + d); rw [← HV1.out] at this; exact this⟩
        case measure => simp [intOf]; omega
      · obtain rfl : k = C := by omega
        go_wp2
        go_returns
        exact ⟨rfl, HE.out _ HSk.out, HGk.out⟩
end Go.Proofs.YtfgpmdikkncckaaGreatDoor
