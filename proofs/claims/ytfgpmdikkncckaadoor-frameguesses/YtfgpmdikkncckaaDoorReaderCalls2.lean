/-
  What bit and Raw of package reader do to a reader that lies somewhere. Nothing else is turned.
-/
import Derived.Test.YtfgpmdikkncckaaDoorReaderCalls
import Derived.Laws.ShiftsVarLaws
namespace Go.Proofs.YtfgpmdikkncckaaDoor
set_option linter.unusedVariables false
open Go.ChangeShapes Go.WideShapes Go.ChangeAt Go.RowKit

theorem and_one_u8 {x : Int} (h0 : 0 ≤ x) (h1 : x ≤ 255) : bits BinOp.and IntKind.u8 x 1 = x % 2 := by
  have e1 : (BitVec.ofInt 8 1).toNat = 2 ^ 1 - 1 := by decide
  have key : (BitVec.ofInt 8 x &&& BitVec.ofInt 8 1).toNat = (x % ((2 ^ 8 : Nat) : Int)).toNat % 2 ^ 1 := by
    rw [BitVec.toNat_and, BitVec.toNat_ofInt, e1, Nat.and_two_pow_sub_one_eq_mod]
  show IntKind.u8.wrap ((BitVec.ofInt 8 x &&& BitVec.ofInt 8 1).toNat : Nat) = x % 2
  rw [key, wrap_u8 (by omega) (by omega)]
  omega
theorem or_comm_u32 (x y : Int) : bits BinOp.or IntKind.u32 x y = bits BinOp.or IntKind.u32 y x := by
  show IntKind.u32.wrap ((BitVec.ofInt 32 x ||| BitVec.ofInt 32 y).toNat : Nat) = IntKind.u32.wrap ((BitVec.ofInt 32 y ||| BitVec.ofInt 32 x).toNat : Nat)
  rw [BitVec.or_comm]

set_option maxRecDepth 20000 in
theorem rdbit (w : World) (lo hi b n : Nat) (p : Nat → Int) (m : Re) (hn : n ≤ 100000) (hl : m.nb ≤ 800000) (hp : Hid (Bx n p)) (h : Hid (RdAt w lo hi b n p m)) :
    Calls Tryd.prog 75 #[.pointer (some ⟨b, 0, none⟩)] w fun e w' => e = .returned (.int .u8 (rbit n p m.nb)) ∧ RdAt w' lo hi b n p (m.raw 1) ∧ w.grownBy w' (some b) := by
  obtain ⟨v, h⟩ := h
  have h0 := h.c0
  have h4 := h.c4
  have fz := h.fz
  have ni : (n : Int) ≤ 100000 := by omega
  have li : (m.nb : Int) ≤ 800000 := by omega
  obtain ⟨j, hj⟩ : ∃ j : Nat, (m.nb : Int).tdiv 8 = j := ⟨m.nb / 8, by rw [Int.tdiv_eq_ediv_of_nonneg (by omega)]; omega⟩
  obtain ⟨s, hs⟩ : ∃ s : Nat, (m.nb : Int).tmod 8 = s := ⟨m.nb % 8, by rw [Int.tmod_eq_emod_of_nonneg (by omega)]; omega⟩
  have ej : m.nb / 8 = j := by rw [Int.tdiv_eq_ediv_of_nonneg (by omega)] at hj; omega
  have es : m.nb % 8 = s := by rw [Int.tmod_eq_emod_of_nonneg (by omega)] at hs; omega
  have HS : Hid (RCells (w.setCell ⟨b, 4, none⟩ (.int .i64 ((m.nb : Int) + 1))) lo hi b v n p m.rng m.val m.tk (m.nb + 1)) := h.set4 (m.nb + 1)
  have s8 : (s : Int) < 8 := by omega
  have jb : (j : Int) ≤ 100000 := by omega
  have d0 := cell_off (v := .int .i64 ((m.nb : Int) + 1)) (o := 4) h0 (by decide)
  unfold rbit
  rw [ej, es]
  by_cases hlt : j < n
  · rw [if_pos hlt]
    obtain ⟨g, cap, rfl, g0, g1, gc, gm⟩ := h.d.form (by omega)
    obtain ⟨q, hq⟩ : ∃ q : Nat, (n : Int) - 1 - j = q := ⟨n - 1 - j, by omega⟩
    have hq2 : n - 1 - j = q := by omega
    rw [hq2]
    have hb := hp.out.b q
    have cc := HS.out.d.cell (j := q) (by omega)
    have qn : (q : Int) < n := by omega
    have q0 : ¬ ((q : Int) < 0) := by omega
    have hpos : (0 : Int) < 2 ^ s := Int.pow_pos (by decide)
    have y0 : 0 ≤ p q / 2 ^ s := Int.ediv_nonneg hb.1 (by omega)
    have y1 : p q / 2 ^ s ≤ p q := Int.ediv_le_self _ hb.1
    have e1 := and_one_u8 (x := p q / 2 ^ s) y0 (by omega)
    clear h hq2 ej es hlt hpos
    go_enter Tryd.func75, Tryd.ntmps75
    go_wp2
    go_region
    go_wp2
    go_ret
    exact ⟨rfl, ⟨_, HS.out.drew⟩, grown_drew (wgrown_set (grown_refl _ _) _)⟩
  · rw [if_neg hlt]
    obtain ⟨ao, cap, rfl, hc1, hc2, _⟩ := h.d.slice
    have q0 : (n : Int) - 1 - j < 0 := by omega
    clear h ej es
    go_enter Tryd.func75, Tryd.ntmps75
    go_wp2
    go_region
    go_wp2
    go_ret
    exact ⟨rfl, ⟨_, HS.out.drew⟩, grown_drew (wgrown_set (grown_refl _ _) _)⟩

theorem pow16 {j : Nat} (h : j ≤ 16) : (2 : Int) ^ j ≤ 65536 := by
  match j, h with
  | 0, _ | 1, _ | 2, _ | 3, _ | 4, _ | 5, _ | 6, _ | 7, _ | 8, _ | 9, _ | 10, _ | 11, _ | 12, _ | 13, _ | 14, _ | 15, _ | 16, _ => decide
  | j + 17, h => omega

set_option maxHeartbeats 1000000 in
set_option maxRecDepth 20000 in
theorem rdraw (w : World) (lo hi b n : Nat) (p : Nat → Int) (m : Re) (c : Int) (hn : n ≤ 100000) (hl : m.nb ≤ 700000) (hp : Hid (Bx n p)) (h : Hid (RdAt w lo hi b n p m)) :
    Calls Tryd.prog 72 #[.pointer (some ⟨b, 0, none⟩), .int .i64 c] w fun e w' => e = .returned (.int .u32 (rsum n p m.nb (rawK c))) ∧ RdAt w' lo hi b n p (m.raw (rawK c)) ∧ w.grownBy w' (some b) := by
  have hk := rawK_le c
  have hcase : (c ≤ 0 ∧ rawK c = 0) ∨ (0 < c ∧ 16 < c ∧ rawK c = 16) ∨ (0 < c ∧ c ≤ 16 ∧ c = (rawK c : Int)) := by
    unfold rawK
    by_cases z1 : c < 0
    · rw [if_pos z1]; omega
    · rw [if_neg z1]
      by_cases z2 : 16 < c
      · rw [if_pos z2]; omega
      · rw [if_neg z2]; omega
  generalize rawK c = k at *
  go_enter Tryd.func72, Tryd.ntmps72
  rcases hcase with ⟨c1, rfl⟩ | ⟨c1, c2, ck⟩ | ⟨c1, c2, rfl⟩
  · have c3 : c ≤ 16 := by omega
    go_wp2
    refine wp_loop_rounds 1 ?_
    rw [rounds_succ]
    go_wp2
    go_ret
    exact ⟨rfl, h.out, grown_refl _ _⟩
  · have ck' : (k : Int) = 16 := by omega
    go_wp2
    go_loopw [5, 6, 10] (fun x _ i wr => ∃ j : Nat, j ≤ k ∧ i = .int .i64 j ∧ x = .int .u32 (rsum n p m.nb j) ∧ Hid (RdAt wr lo hi b n p (m.raw j)) ∧ Hid (w.grownBy wr (some b))) (fun _ _ i _ => k - (intOf i).toNat)
    case atStart => exact ⟨0, by omega, rfl, rfl, h, grown_refl _ _⟩
    case round =>
      obtain ⟨j, hj, rfl, rfl, HW, HB⟩ := hrel
      by_cases hlt : j < k
      · have hlt' : (j : Int) < 16 := by omega
        have hpos : (0 : Int) < 2 ^ j := Int.pow_pos (by decide)
        have hp16 : (2 : Int) ^ j ≤ 65536 := pow16 (by omega)
        have hb := rbit_bd n p (m.nb + j)
        have hs := rsum_bd n p m.nb j
        have HR : Hid (rsum n p m.nb (j + 1) = rsum n p m.nb j + rbit n p (m.nb + j) * 2 ^ j) := rfl
        have HN : Hid ((m.raw j).raw 1 = m.raw (j + 1)) := rfl
        have n1 : (m.raw j).nb ≤ 800000 := by show m.nb + j ≤ _; omega
        have HE : Hid (rbit n p (m.raw j).nb = rbit n p (m.nb + j)) := rfl
        generalize rbit n p (m.nb + j) = y at *
        generalize rsum n p m.nb j = x at *
        have hy : y * 2 ^ j ≤ 65536 := by
          obtain e | e : y = 0 ∨ y = 1 := by omega
          · rw [e]; omega
          · rw [e]; omega
        have hy0 : 0 ≤ y * 2 ^ j := Int.mul_nonneg hb.1 (by omega)
        have e1 : bits BinOp.or IntKind.u32 x (y * 2 ^ j) = x + y * 2 ^ j := by rw [or_comm_u32, or_u32 hs.1 hs.2 hb.1 (by omega) (by omega), Int.add_comm]
        have e2 := wrap_u32 (x := y) (by omega) (by omega)
        have e3 := wrap_u32 (x := y * 2 ^ j) hy0 (by omega)
        have e4 : y * 2 ^ j % 4294967296 = y * 2 ^ j := Int.emod_eq_of_lt hy0 (by omega)
        have j0 : ¬ ((j : Int) < 0) := by omega
        clear hpos hp16 hs
        go_wp2_with (go_at_call 75; refine (rdbit _ lo hi b n p (m.raw j) hn n1 hp HW).mono ?_; rw [HE.out]; rintro e w1 ⟨rfl, HA, HB1⟩; replace HA : Hid (RdAt w1 lo hi b n p ((m.raw j).raw 1)) := HA; replace HB1 : Hid _ := HB1)
        go_roundw
        case rel => exact ⟨j + 1, by omega, by go_num, by rw [HR.out], HA, grown_trans HB.out HB1.out⟩
        case measure => simp [intOf]; omega
      · have e : j = k := by omega
        subst e
        clear hlt
        go_wp2
        go_ret
        exact ⟨rfl, HW.out, HB.out⟩
  · have ck' : (k : Int) ≤ 16 := by omega
    go_wp2
    go_loopw [5, 6, 10] (fun x _ i wr => ∃ j : Nat, j ≤ k ∧ i = .int .i64 j ∧ x = .int .u32 (rsum n p m.nb j) ∧ Hid (RdAt wr lo hi b n p (m.raw j)) ∧ Hid (w.grownBy wr (some b))) (fun _ _ i _ => k - (intOf i).toNat)
    case atStart => exact ⟨0, by omega, rfl, rfl, h, grown_refl _ _⟩
    case round =>
      obtain ⟨j, hj, rfl, rfl, HW, HB⟩ := hrel
      by_cases hlt : j < k
      · have hlt' : (j : Int) < k := by omega
        have hpos : (0 : Int) < 2 ^ j := Int.pow_pos (by decide)
        have hp16 : (2 : Int) ^ j ≤ 65536 := pow16 (by omega)
        have hb := rbit_bd n p (m.nb + j)
        have hs := rsum_bd n p m.nb j
        have HR : Hid (rsum n p m.nb (j + 1) = rsum n p m.nb j + rbit n p (m.nb + j) * 2 ^ j) := rfl
        have HN : Hid ((m.raw j).raw 1 = m.raw (j + 1)) := rfl
        have n1 : (m.raw j).nb ≤ 800000 := by show m.nb + j ≤ _; omega
        have HE : Hid (rbit n p (m.raw j).nb = rbit n p (m.nb + j)) := rfl
        generalize rbit n p (m.nb + j) = y at *
        generalize rsum n p m.nb j = x at *
        have hy : y * 2 ^ j ≤ 65536 := by
          obtain e | e : y = 0 ∨ y = 1 := by omega
          · rw [e]; omega
          · rw [e]; omega
        have hy0 : 0 ≤ y * 2 ^ j := Int.mul_nonneg hb.1 (by omega)
        have e1 : bits BinOp.or IntKind.u32 x (y * 2 ^ j) = x + y * 2 ^ j := by rw [or_comm_u32, or_u32 hs.1 hs.2 hb.1 (by omega) (by omega), Int.add_comm]
        have e2 := wrap_u32 (x := y) (by omega) (by omega)
        have e3 := wrap_u32 (x := y * 2 ^ j) hy0 (by omega)
        have e4 : y * 2 ^ j % 4294967296 = y * 2 ^ j := Int.emod_eq_of_lt hy0 (by omega)
        have j0 : ¬ ((j : Int) < 0) := by omega
        clear hpos hp16 hs
        go_wp2_with (go_at_call 75; refine (rdbit _ lo hi b n p (m.raw j) hn n1 hp HW).mono ?_; rw [HE.out]; rintro e w1 ⟨rfl, HA, HB1⟩; replace HA : Hid (RdAt w1 lo hi b n p ((m.raw j).raw 1)) := HA; replace HB1 : Hid _ := HB1)
        go_roundw
        case rel => exact ⟨j + 1, by omega, by go_num, by rw [HR.out], HA, grown_trans HB.out HB1.out⟩
        case measure => simp [intOf]; omega
      · have e : j = k := by omega
        subst e
        clear hlt
        go_wp2
        go_ret
        exact ⟨rfl, HW.out, HB.out⟩

end Go.Proofs.YtfgpmdikkncckaaDoor
