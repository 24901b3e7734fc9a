/-
  The law SwiftAlike of layer 8 as a walk: it returns true, and nothing that was there has turned.
-/
import Derived.Test.YtiejdlapgppbkaaDoorSwiftLaws
namespace Go.Proofs.YtiejdlapgppbkaaDoor
set_option linter.unusedVariables false
open Go.ChangeShapes Go.WideShapes Go.ChangeAt Go.RowKit

theorem grown_qN {a w : World} {row : Option Nat} (h : a.grownBy w row) (q : Nat) : a.grownBy (w.drewN q) row := ⟨h.os, h.tape, h.output, h.size, h.block⟩
theorem var_keep {w w' : World} {g : Nat} {o : Obj} (h : w.heap[g]? = some o) (hg : w.grownBy w' none) : w'.heap[g]? = some o := (hg.block g (lt_size_of_block h) (by simp)).trans h

theorem salike_long (ab : Option Addr) (nb cb : Nat) (ao : Option Addr) (n cap : Nat) (w : World) (hn : 1300 < nb ∨ 200 < n) (hT : Hid (Tz w)) :
    Calls Tryd.prog 4 #[.slice ab nb cb, .slice ao n cap] w fun e w' => e = .returned (.bool true) ∧ Below w.heap.size w w' := by
  go_enter Tryd.func4, Tryd.ntmps4
  go_wp2_with (first
    | (go_at_call 8; refine (sawake _ hT).mono ?_; rintro e W0 ⟨rfl, hB0⟩; replace hB0 : Hid (Below w.heap.size w W0) := hB0)
    | (go_at_call 9; refine (slong_yes ab nb cb ao n cap _ hn).mono ?_; rintro e W1 ⟨rfl, rfl⟩))
  go_ret
  exact ⟨rfl, hB0.out⟩

set_option maxHeartbeats 8000000 in
set_option maxRecDepth 20000 in
theorem salike_any (ab : Option Addr) (nb cb : Nat) (p : Nat → Int) (ao : Option Addr) (n cap : Nat) (f : Nat → Opr) (w : World) (hb : nb ≤ 1300) (hn : n ≤ 200) (hp : Hid (Bx nb p)) (hi : Hid (IntsAt w ab nb .u8 p)) (hf : Hid (OprsAt w ao n f)) (hT : Hid (Tz w)) :
    Calls Tryd.prog 4 #[.slice ab nb cb, .slice ao n cap] w fun e w' => e = .returned (.bool true) ∧ Below w.heap.size w w' := by
  have hn' : (n : Int) ≤ 200 := by omega
  have hb' : (nb : Int) ≤ 1300 := by omega
  go_enter Tryd.func4, Tryd.ntmps4
  go_wp2_with (first
    | (go_at_call 8; refine (sawake _ hT).mono ?_; rintro e W0 ⟨rfl, HB0⟩; replace HB0 : Hid (Below w.heap.size w W0) := HB0)
    | (go_at_call 9; refine (slong_no ab nb cb ao n cap _ hb hn).mono ?_; rintro e W1 ⟨rfl, rfl⟩)
    | (go_at_call 10; refine (swnew W1 ab nb cb p (by omega) hp (hT.out.below HB0.out) (hi.out.below HB0.out)).mono ?_; rintro e w1 ⟨bx, rfl, HX, HB1⟩; replace HX : Hid (SwAt w1 W1.heap.size w1.heap.size bx nb p (Re.new p)) := HX; replace HB1 : Hid (Below W1.heap.size W1 w1) := HB1)
    | (go_at_call 21; refine (rdnew w1 ab nb cb p (by omega) hp ((hi.out.below HB0.out).below HB1.out)).mono ?_; rintro e w2 ⟨by', rfl, HY, HB2⟩; replace HY : Hid (RdAt w2 w1.heap.size w2.heap.size by' nb p (Re.new p)) := HY; replace HB2 : Hid (Below w1.heap.size w1 w2) := HB2))
  have HL1 : Hid (w.heap.size ≤ W1.heap.size) := HB0.out.size
  have HBW : Hid (Below w.heap.size w w2) := (HB0.out.trans (HB1.out.mono HB0.out.size)).trans (HB2.out.mono (Nat.le_trans HB0.out.size HB1.out.size))
  have HXW : Hid (SwAt w2 W1.heap.size w1.heap.size bx nb p (Re.new p)) := HX.out.keep (grown_below HB2.out none)
  generalize W1.heap.size = lo at *
  generalize w1.heap.size = hi1 at *
  generalize hh2 : w2.heap.size = hi2 at *
  clear HX HB1 HB0 HB2
  go_loopw [7] (fun i wr => ∃ (a : Nat) (m : Re), a ≤ 3 ∧ i = .int .i64 a ∧ Hid m.Good ∧ m.tk ≤ 3 + 2 * (200 * a) ∧ m.nb ≤ 16 * (200 * a) ∧ Hid (SwAt wr lo hi1 bx nb p m) ∧ Hid (RdAt wr hi1 hi2 by' nb p m) ∧ Hid (Below w.heap.size w wr)) (fun i _ => 3 - (intOf i).toNat)
  case atStart => exact ⟨0, Re.new p, by omega, rfl, new_good hp.out, Nat.le_refl _, Nat.le_refl _, HXW, HY, HBW⟩
  case round =>
    obtain ⟨a, m0, ha, rfl, HG0, n10, n20, HX0, HY0, HB0⟩ := hrel
    by_cases halt : a < 3
    · have halt' : (a : Int) < 3 := by omega
      go_wp2
      obtain ⟨w5, hw5⟩ : ∃ x, x = wr := ⟨_, rfl⟩
      rw [← hw5] at HX0 HY0 HB0
      rw [← hw5]
      clear hw5 wr HXW HY HBW
      go_loopw [25] (fun i wr => ∃ (j : Nat) (m : Re), j ≤ n ∧ i = .int .i64 j ∧ Hid m.Good ∧ m.tk ≤ 3 + 2 * (200 * a + j) ∧ m.nb ≤ 16 * (200 * a + j) ∧ Hid (SwAt wr lo hi1 bx nb p m) ∧ Hid (RdAt wr hi1 hi2 by' nb p m) ∧ Hid (Below w.heap.size w wr)) (fun i _ => n - (intOf i).toNat)
      case atStart => exact ⟨0, m0, by omega, rfl, HG0, by omega, by omega, HX0, HY0, HB0⟩
      case round =>
        obtain ⟨j, m, hj, rfl, HG, n1, n2, HX, HY, HB⟩ := hrel
        by_cases hlt : j < n
        · have hlt' : (j : Int) < n := by omega
          obtain ⟨bo, off, rfl, c0, c1, c2, c3, ho⟩ := (hf.out.below HB.out) j hlt
          generalize f j = o at *
          obtain ⟨k, x, y, t⟩ := o
          simp only at c0 c1 c2 c3
          have k0 : 0 ≤ k := ho.k0
          have k255 : k ≤ 255 := ho.k1
          clear ho
          have e3 : Int.tmod k 3 = k % 3 := Int.tmod_eq_emod_of_nonneg k0
          have t1 : m.tk ≤ 800000 := by omega
          have t9 : m.nb ≤ 700000 := by omega
          have HLX : Hid (0 < lo ∧ lo ≤ bx ∧ bx < hi1) := ⟨HX.out.lt.1, HX.out.lt.2.1, HX.out.lt.2.2.1⟩
          have HLY : Hid (hi1 ≤ by' ∧ by' < hi2) := ⟨HY.out.lt.1, HY.out.lt.2.1⟩
          have HNV : Hid (bx < wr.heap.size ∧ by' < wr.heap.size) := ⟨HX.out.lt.2.2.2, HY.out.lt.2.2⟩
          clear HX0 HY0 HB0 HG0
          go_wp2
          obtain ⟨A, hA⟩ : ∃ A, wr.alloc (.cells #[.int .u8 k, .int .i64 x, .int .i64 y, .int .i64 t] 31) = A := ⟨_, rfl⟩
          have hv : A.heap[wr.heap.size]? = some (.cells #[.int .u8 k, .int .i64 x, .int .i64 y, .int .i64 t] 31 (0, 0)) := by rw [← hA]; exact heap_alloc_new wr _
          have a0 := row_cell hv 0 rfl
          have a1 := row_cell hv 1 rfl
          have a2 := row_cell hv 2 rfl
          have a3 := row_cell hv 3 rfl
          have HXA : Hid (SwAt A lo hi1 bx nb p m) := by rw [← hA]; exact SwAt.keep HX.out (grown_alloc (grown_refl _ none) _)
          have HYA : Hid (RdAt A hi1 hi2 by' nb p m) := by rw [← hA]; exact RdAt.keep HY.out (grown_alloc (grown_refl _ none) _)
          have HBA : Hid (Below w.heap.size w A) := by rw [← hA]; exact below_alloc' HB.out _ HB.out.size
          have HVA : Hid (A.heap[wr.heap.size]? = some (.cells #[.int .u8 k, .int .i64 x, .int .i64 y, .int .i64 t] 31 (0, 0))) := hv
          rw [hA]
          clear hv hA HX HY HB c0 c1 c2 c3
          generalize wr.heap.size = bv at *
          clear wr
          go_quiet (first
            | (go_at_call 12; refine (swget _ lo hi1 bx nb p m _ HG (SwAt.keep HXA.out (grown_dN _ _))).mono ?_; rintro e w5 ⟨rfl, rfl⟩; exact ⟨rfl, _, rfl⟩)
            | (go_at_call 22; refine (rdget _ hi1 hi2 by' nb p m _ HG (RdAt.keep HYA.out (grown_dN _ _))).mono ?_; rintro e w5 ⟨rfl, rfl⟩; exact ⟨rfl, _, rfl⟩))
          by_cases hk : k % 3 = 2
          · have hrk := rawK_le y
            have HG2 : Hid (m.raw (rawK y)).Good := rawRe_good HG.out _
            have HK : Hid ((m.raw (rawK y)).tk ≤ 3 + 2 * (200 * a + (j + 1)) ∧ (m.raw (rawK y)).nb ≤ 16 * (200 * a + (j + 1))) := by show m.tk ≤ _ ∧ m.nb + rawK y ≤ _; omega
            obtain ⟨m2, hm2⟩ : ∃ m2, m.raw (rawK y) = m2 := ⟨_, rfl⟩
            rw [hm2] at HK HG2
            have HM2 : Hid (m.raw (rawK y) = m2) := hm2
            clear hm2
            have t2 : m2.tk ≤ 900000 := by have := HK.out; omega
            have t3 : m2.nb ≤ 900000 := by have := HK.out; omega
            obtain ⟨s, hs⟩ : ∃ s, rsum nb p m.nb (rawK y) = s := ⟨_, rfl⟩
            have HS : Hid (rsum nb p m.nb (rawK y) = s) := hs
            clear hs hrk
            go_wp2
            go_region_with (first
              | (go_at_call 23; refine (rdraw wa hi1 hi2 by' nb p m y (by omega) t9 hp HYa).mono ?_; rw [HM2.out, HS.out]; rintro e wz ⟨rfl, HYz, HBz⟩; replace HYz : Hid (RdAt wz hi1 hi2 by' nb p m2) := HYz; have HXz : Hid (SwAt wz lo hi1 bx nb p m2) := HXb.out.kept HBz (by intro q e; cases e; have := HLX.out; have := HLY.out; exact ⟨by omega, .inr (by omega)⟩); have HBwz : Hid (Below w.heap.size w wz) := below_grown HBwa.out HBz (by have := HLX.out; have := HLY.out; have := HL1.out; omega) HBwa.out.size; clear HBz)
              | (go_at_call 16; refine (swraw wa lo hi1 bx nb p m y (by omega) t9 hp HXa).mono ?_; rw [HM2.out, HS.out]; rintro e wz ⟨rfl, HXz, HBz⟩; replace HXz : Hid (SwAt wz lo hi1 bx nb p m2) := HXz; have HYz : Hid (RdAt wz hi1 hi2 by' nb p m2) := HYb.out.kept HBz (by intro q e; cases e; have := HLX.out; have := HLY.out; exact .inl (by omega)); have HBwz : Hid (Below w.heap.size w wz) := below_grown HBwa.out HBz (by have := HLX.out; have := HLY.out; have := HL1.out; omega) HBwa.out.size; clear HBz)
              | (go_at_call 16; refine (swraw _ lo hi1 bx nb p m y (by omega) t9 hp (by exact SwAt.keep HXA.out (by repeat (first | (with_reducible exact grown_refl _ none) | (with_reducible refine grown_alloc ?_ _) | (with_reducible refine grown_drew ?_) | (with_reducible refine grown_qN ?_ _))))).mono ?_; rw [HM2.out, HS.out]; rintro e wa ⟨rfl, HXb, HBa⟩; replace HXb : Hid (SwAt wa lo hi1 bx nb p m2) := HXb; have HYa : Hid (RdAt wa hi1 hi2 by' nb p m) := (RdAt.keep HYA.out (by repeat (first | (with_reducible exact grown_refl _ none) | (with_reducible refine grown_alloc ?_ _) | (with_reducible refine grown_drew ?_) | (with_reducible refine grown_qN ?_ _)))).kept HBa (by intro q e; cases e; have := HLX.out; have := HLY.out; exact .inl (by omega)); have o2 := row_cell (var_cell HBa (var_keep HVA.out (by repeat (first | (with_reducible exact grown_refl _ none) | (with_reducible refine grown_alloc ?_ _) | (with_reducible refine grown_drew ?_) | (with_reducible refine grown_qN ?_ _)))) (by have := HLX.out; have := HLY.out; have := HNV.out; omega)) 2 rfl; have HBwa : Hid (Below w.heap.size w wa) := below_grown (by repeat (first | (with_reducible exact HBA.out) | (with_reducible refine Below.drew ?_) | (with_reducible refine below_dN ?_ _))) HBa (by have := HLX.out; have := HLY.out; have := HL1.out; omega) (Nat.le_trans HBA.out.size (grown_size (row := none) (by repeat (first | (with_reducible exact grown_refl _ none) | (with_reducible refine grown_alloc ?_ _) | (with_reducible refine grown_drew ?_) | (with_reducible refine grown_qN ?_ _))))); clear HBa)
              | (go_at_call 23; refine (rdraw _ hi1 hi2 by' nb p m y (by omega) t9 hp (by exact RdAt.keep HYA.out (by repeat (first | (with_reducible exact grown_refl _ none) | (with_reducible refine grown_alloc ?_ _) | (with_reducible refine grown_drew ?_) | (with_reducible refine grown_qN ?_ _))))).mono ?_; rw [HM2.out, HS.out]; rintro e wa ⟨rfl, HYb, HBa⟩; replace HYb : Hid (RdAt wa hi1 hi2 by' nb p m2) := HYb; have HXa : Hid (SwAt wa lo hi1 bx nb p m) := (SwAt.keep HXA.out (by repeat (first | (with_reducible exact grown_refl _ none) | (with_reducible refine grown_alloc ?_ _) | (with_reducible refine grown_drew ?_) | (with_reducible refine grown_qN ?_ _)))).kept HBa (by intro q e; cases e; have := HLX.out; have := HLY.out; exact ⟨by omega, .inr (by omega)⟩); have o2 := row_cell (var_cell HBa (var_keep HVA.out (by repeat (first | (with_reducible exact grown_refl _ none) | (with_reducible refine grown_alloc ?_ _) | (with_reducible refine grown_drew ?_) | (with_reducible refine grown_qN ?_ _)))) (by have := HLX.out; have := HLY.out; have := HNV.out; omega)) 2 rfl; have HBwa : Hid (Below w.heap.size w wa) := below_grown (by repeat (first | (with_reducible exact HBA.out) | (with_reducible refine Below.drew ?_) | (with_reducible refine below_dN ?_ _))) HBa (by have := HLX.out; have := HLY.out; have := HL1.out; omega) (Nat.le_trans HBA.out.size (grown_size (row := none) (by repeat (first | (with_reducible exact grown_refl _ none) | (with_reducible refine grown_alloc ?_ _) | (with_reducible refine grown_drew ?_) | (with_reducible refine grown_qN ?_ _))))); clear HBa))
            all_goals (
              go_wp2_with (first | (go_at_call 18; refine (swleft _ lo hi1 bx nb p m2 (by omega) t2 t3 (SwAt.keep HXz.out (by repeat (first | (with_reducible exact grown_refl _ none) | (with_reducible refine grown_alloc ?_ _) | (with_reducible refine grown_drew ?_) | (with_reducible refine grown_qN ?_ _))))).mono ?_; rintro e w5 ⟨rfl, rfl⟩) | (go_at_call 25; refine (rdleft _ hi1 hi2 by' nb p m2 (by omega) t2 t3 (RdAt.keep HYz.out (by repeat (first | (with_reducible exact grown_refl _ none) | (with_reducible refine grown_alloc ?_ _) | (with_reducible refine grown_drew ?_) | (with_reducible refine grown_qN ?_ _))))).mono ?_; rintro e w5 ⟨rfl, rfl⟩) | (go_at_call 20; refine (swrng _ lo hi1 bx nb p m2 (SwAt.keep HXz.out (by repeat (first | (with_reducible exact grown_refl _ none) | (with_reducible refine grown_alloc ?_ _) | (with_reducible refine grown_drew ?_) | (with_reducible refine grown_qN ?_ _))))).mono ?_; rintro e w5 ⟨rfl, rfl⟩) | (go_at_call 26; refine (rdrng _ hi1 hi2 by' nb p m2 (RdAt.keep HYz.out (by repeat (first | (with_reducible exact grown_refl _ none) | (with_reducible refine grown_alloc ?_ _) | (with_reducible refine grown_drew ?_) | (with_reducible refine grown_qN ?_ _))))).mono ?_; rintro e w5 ⟨rfl, rfl⟩))
              go_roundw
              case rel => exact ⟨j + 1, m2, by omega, by go_num, HG2, HK.out.1, HK.out.2, SwAt.keep HXz.out (by repeat (first | (with_reducible exact grown_refl _ none) | (with_reducible refine grown_alloc ?_ _) | (with_reducible refine grown_drew ?_) | (with_reducible refine grown_qN ?_ _))), RdAt.keep HYz.out (by repeat (first | (with_reducible exact grown_refl _ none) | (with_reducible refine grown_alloc ?_ _) | (with_reducible refine grown_drew ?_) | (with_reducible refine grown_qN ?_ _))), HBwz.out.drew.drew⟩
              case measure => simp [intOf]; omega)
          · have hk2 : (k % 3 == 2) = false := by simp; omega
            have hn2 := takeU_n m p x y t
            have HG2 : Hid (m.takeU p x y t).Good := takeU_good hp.out HG.out x y t
            obtain ⟨m2, hm2⟩ : ∃ m2, m.takeU p x y t = m2 := ⟨_, rfl⟩
            rw [hm2] at hn2 HG2
            have HM2 : Hid (m.takeU p x y t = m2) := hm2
            clear hm2
            have t2 : m2.tk ≤ 900000 := by omega
            have t3 : m2.nb ≤ 900000 := by omega
            have HK : Hid (m2.tk ≤ 3 + 2 * (200 * a + (j + 1)) ∧ m2.nb ≤ 16 * (200 * a + (j + 1))) := by show _ ∧ _; omega
            clear hn2
            go_wp2_with (first
              | (go_at_call 14; refine (swtakeU _ lo hi1 bx nb p m x y t (by omega) t1 hp HG (by exact SwAt.keep HXA.out (by repeat (first | (with_reducible exact grown_refl _ none) | (with_reducible refine grown_alloc ?_ _) | (with_reducible refine grown_drew ?_) | (with_reducible refine grown_qN ?_ _))))).mono ?_; rw [HM2.out]; rintro e wa ⟨rfl, HXa, HBa⟩; replace HXa : Hid (SwAt wa lo hi1 bx nb p m2) := HXa; have HYa : Hid (RdAt wa hi1 hi2 by' nb p m) := (RdAt.keep HYA.out (by repeat (first | (with_reducible exact grown_refl _ none) | (with_reducible refine grown_alloc ?_ _) | (with_reducible refine grown_drew ?_) | (with_reducible refine grown_qN ?_ _)))).kept HBa (by intro q e; cases e; have := HLX.out; have := HLY.out; exact .inl (by omega)); have hv := var_cell HBa (var_keep HVA.out (by repeat (first | (with_reducible exact grown_refl _ none) | (with_reducible refine grown_alloc ?_ _) | (with_reducible refine grown_drew ?_) | (with_reducible refine grown_qN ?_ _)))) (by have := HLX.out; have := HLY.out; have := HNV.out; omega); have o1 := row_cell hv 1 rfl; have o2 := row_cell hv 2 rfl; have o3 := row_cell hv 3 rfl; have HBwa : Hid (Below w.heap.size w wa) := below_grown (by repeat (first | (with_reducible exact HBA.out) | (with_reducible refine Below.drew ?_) | (with_reducible refine below_dN ?_ _))) HBa (by have := HLX.out; have := HLY.out; have := HL1.out; omega) (Nat.le_trans HBA.out.size (grown_size (row := none) (by repeat (first | (with_reducible exact grown_refl _ none) | (with_reducible refine grown_alloc ?_ _) | (with_reducible refine grown_drew ?_) | (with_reducible refine grown_qN ?_ _))))); clear HBa hv)
              | (go_at_call 24; refine (rdtakeU wa hi1 hi2 by' nb p m x y t (by omega) t1 hp HG HYa).mono ?_; rw [HM2.out]; rintro e wz ⟨rfl, HYz, HBz⟩; replace HYz : Hid (RdAt wz hi1 hi2 by' nb p m2) := HYz; have HXz : Hid (SwAt wz lo hi1 bx nb p m2) := HXa.out.kept HBz (by intro q e; cases e; have := HLX.out; have := HLY.out; exact ⟨by omega, .inr (by omega)⟩); have HBwz : Hid (Below w.heap.size w wz) := below_grown HBwa.out HBz (by have := HLX.out; have := HLY.out; have := HL1.out; omega) HBwa.out.size; clear HBz)
              | (first | (go_at_call 18; refine (swleft _ lo hi1 bx nb p m2 (by omega) t2 t3 (SwAt.keep HXz.out (by repeat (first | (with_reducible exact grown_refl _ none) | (with_reducible refine grown_alloc ?_ _) | (with_reducible refine grown_drew ?_) | (with_reducible refine grown_qN ?_ _))))).mono ?_; rintro e w5 ⟨rfl, rfl⟩) | (go_at_call 25; refine (rdleft _ hi1 hi2 by' nb p m2 (by omega) t2 t3 (RdAt.keep HYz.out (by repeat (first | (with_reducible exact grown_refl _ none) | (with_reducible refine grown_alloc ?_ _) | (with_reducible refine grown_drew ?_) | (with_reducible refine grown_qN ?_ _))))).mono ?_; rintro e w5 ⟨rfl, rfl⟩) | (go_at_call 20; refine (swrng _ lo hi1 bx nb p m2 (SwAt.keep HXz.out (by repeat (first | (with_reducible exact grown_refl _ none) | (with_reducible refine grown_alloc ?_ _) | (with_reducible refine grown_drew ?_) | (with_reducible refine grown_qN ?_ _))))).mono ?_; rintro e w5 ⟨rfl, rfl⟩) | (go_at_call 26; refine (rdrng _ hi1 hi2 by' nb p m2 (RdAt.keep HYz.out (by repeat (first | (with_reducible exact grown_refl _ none) | (with_reducible refine grown_alloc ?_ _) | (with_reducible refine grown_drew ?_) | (with_reducible refine grown_qN ?_ _))))).mono ?_; rintro e w5 ⟨rfl, rfl⟩)))
            go_roundw
            case rel => exact ⟨j + 1, m2, by omega, by go_num, HG2, HK.out.1, HK.out.2, SwAt.keep HXz.out (by repeat (first | (with_reducible exact grown_refl _ none) | (with_reducible refine grown_alloc ?_ _) | (with_reducible refine grown_drew ?_) | (with_reducible refine grown_qN ?_ _))), RdAt.keep HYz.out (by repeat (first | (with_reducible exact grown_refl _ none) | (with_reducible refine grown_alloc ?_ _) | (with_reducible refine grown_drew ?_) | (with_reducible refine grown_qN ?_ _))), HBwz.out.drew.drew⟩
            case measure => simp [intOf]; omega
        · have e : j = n := by omega
          subst e
          clear hlt
          go_wp2
          go_roundw
          case rel => exact ⟨a + 1, m, by omega, by go_num, HG, by omega, by omega, HX, HY, HB⟩
          case measure => simp [intOf]; omega
    · have e : a = 3 := by omega
      subst e
      clear halt
      go_wp2
      go_ret
      exact ⟨rfl, HB0.out⟩

end Go.Proofs.YtiejdlapgppbkaaDoor
