/-
  The law SymCosts of layer 9 as a walk: it returns true, and nothing that was there has turned.
-/
import Derived.Test.YtohgbdhackmooaaSymAwake
import Derived.Test.YtohgbdhackmooaaSymOpen
namespace Go.Proofs.Ytohgbdhackmooaa
set_option linter.unusedVariables false
open Go.ChangeShapes Go.WideShapes Go.ChangeAt Go.RowKit

theorem putuint_un (w : World) (b z : Nat) (m : Mo) (v t : Int) (hz : z ≤ 1275) (hn : m.nD ≤ 500000) (hk : m.nR ≤ 500000) (hg : Hid m.Good) (hw : Hid (WrAt w b z m)) :
    Calls Try.prog 6 #[.pointer (some ⟨b, 0, none⟩), .int .i64 v, .int .i64 t] w fun e w' => ∃ (m' : Mo) (c : Int), e = .returned (.int .i64 c) ∧ m'.Good ∧ m'.nD ≤ m.nD + 2 ∧ m'.nR ≤ m.nR + 16 ∧ WrAt w' b z m' ∧ w.grownBy w' (some b) := by
  by_cases h : 1 ≤ t ∧ t ≤ 16777216 ∧ 0 ≤ v ∧ v < t
  · obtain ⟨l, q, s, -, hs, -, -⟩ := sp_ex h.1 h.2.1
    refine (putuint_wr w b z m v t q s hz hn hk h.2.2.1 h.2.2.2 hg hs hw).mono ?_
    rintro e w' ⟨rfl, h1, h2⟩
    have := num_n m v q s
    have := hs.s2
    exact ⟨_, 0, rfl, num_good hg.out hs h.2.2.1 h.2.2.2, by omega, by omega, h1, h2⟩
  · refine (putuint_bad w b v t h).mono ?_
    rintro e w' ⟨rfl, rfl⟩
    exact ⟨m, 1, rfl, hg.out, by omega, by omega, hw.out, grown_refl _ _⟩

/-- What a number costs. -/
theorem num_cost {m : Mo} (hg : m.Good) {t q v : Int} {s l z : Nat} (hs : Sp t q s) (hl : IsLen (t - 1) l) (v0 : 0 ≤ v) (v1 : v < t) : 0 ≤ m.left z - (m.num v q s).left z ∧ m.left z - (m.num v q s).left z ≤ l + 8 := by
  have hn := num_n m v q s
  obtain ⟨hs2, hl2⟩ := sp_of hs.t1 hs.t2 hl
  obtain ⟨-, rfl⟩ := hs.unique hs2
  have hle : l < 8 → (m.num v q (l - 8)).nD ≤ m.nD + 1 := by
    intro h
    have e0 : l - 8 = 0 := by omega
    rw [e0] at hs ⊢
    have hq : q = t := by rw [hs.q]; simp
    have ht : t ≤ 128 := by
      have h1 := hl.up
      have h2 := pow_le' (a := l) (b := 7) (by omega)
      have : (2 : Int) ^ 7 = 128 := by decide
      omega
    have hp : 512 ≤ m.part v (v + 1) q := by
      have hr := hg.r1
      have ht0 : 0 < q := by have := hs.q_bd; omega
      have k1 : 512 ≤ m.rng / q := by rw [Int.le_ediv_iff_mul_le ht0]; omega
      have k2 : m.rng / q * q ≤ m.rng := Int.ediv_mul_le _ (by omega)
      unfold Mo.part
      split
      · rename_i e
        have k3 : v * (m.rng / q) = q * (m.rng / q) - (m.rng / q) := by rw [← e, Int.add_mul, Int.one_mul]; omega
        have k4 : q * (m.rng / q) = m.rng / q * q := Int.mul_comm _ _
        omega
      · rw [show v + 1 - v = 1 by omega, Int.one_mul]; exact k1
    have e1 : v / 2 ^ 0 = v := by simp
    unfold Mo.num Mo.raw Mo.put Mo.wide
    rw [e1]
    have e2 : (m.sym v (v + 1) q).rng = m.part v (v + 1) q := rfl
    rw [e2, if_neg (by omega)]
    split
    · exact Nat.le_refl _
    · exact Nat.le_succ _
  unfold Mo.left
  omega
theorem IsLen.half {x : Int} {n : Nat} (h : IsLen x n) (hx : 0 < x) : 1 ≤ n ∧ IsLen (x / 2) (n - 1) := by
  have hu := h.up
  have hd := h.dn
  have h1 : 1 ≤ n := by
    by_cases e : n = 0
    · subst e; simp at hu; omega
    · omega
  refine ⟨h1, by omega, ?_, ?_⟩
  · have : (2 : Int) ^ n = 2 ^ (n - 1) * 2 := by rw [← Int.pow_succ]; congr 1; omega
    omega
  · by_cases e : n = 1
    · left; omega
    · right
      rcases hd with e2 | e2
      · omega
      · have : (2 : Int) ^ (n - 1) = 2 ^ (n - 1 - 1) * 2 := by rw [← Int.pow_succ]; congr 1; omega
        omega
theorem IsLen.zero {n : Nat} (h : IsLen 0 n) : n = 0 := by
  rcases h.dn with e | e
  · exact e
  · have := pow_pos' (n - 1); omega

theorem costs_long (v t : Int) (ao : Option Addr) (n cap : Nat) (w : World) (hn : 20 < n) :
    Calls Try.prog 3 #[.int .u32 v, .int .u32 t, .slice ao n cap] w fun e w' => e = .returned (.bool true) ∧ Below w.heap.size w w' := by
  have hn' : (20 : Int) < (n : Int) := by omega
  go_enter Try.func3, Try.ntmps3
  go_wp2_with (go_at_call 4; refine (awake_any9 _).mono ?_; rintro e W0 ⟨rfl, hB0⟩)
  go_ret
  exact ⟨rfl, hB0⟩

set_option maxHeartbeats 2000000 in
set_option maxRecDepth 20000 in
theorem costs_any (v u : Int) (v0 : 0 ≤ v) (v1 : v < 4294967296) (u0 : 0 ≤ u) (u1 : u < 4294967296) (ao : Option Addr) (n cap : Nat) (f : Nat → Ask) (w : World) (hn : n ≤ 20) (hf : Hid (AsksAt w ao n f)) :
    Calls Try.prog 3 #[.int .u32 v, .int .u32 u, .slice ao n cap] w fun e w' => e = .returned (.bool true) ∧ Below w.heap.size w w' := by
  have hn' : (n : Int) ≤ 20 := by omega
  have e1 : Int.tmod u 1048576 = u % 1048576 := Int.tmod_eq_emod_of_nonneg u0
  obtain ⟨t, ht⟩ : ∃ t, u % 1048576 + 1 = t := ⟨_, rfl⟩
  have t1 : 1 ≤ t := by omega
  have t2 : t ≤ 1048576 := by omega
  have e2 : Int.tmod v t = v % t := Int.tmod_eq_emod_of_nonneg v0
  obtain ⟨y, hy⟩ : ∃ y, v % t = y := ⟨_, rfl⟩
  have y0 : 0 ≤ y := by have := Int.emod_nonneg v (b := t) (by omega); omega
  have y1 : y < t := by have := Int.emod_lt_of_pos v (b := t) (by omega); omega
  obtain ⟨l, q, s, hl, hs, hls, hl24⟩ := sp_ex (t := t) t1 (by omega)
  have HL : Hid _ := hl
  have HS : Hid _ := hs
  have hs16 := hs.s2
  clear hl hs hls
  rw [hy] at e2
  go_enter Try.func3, Try.ntmps3
  go_wp2_with (first
    | (go_at_call 4; refine (awake_any9 _).mono ?_; rintro e W0 ⟨rfl, HB0⟩; replace HB0 : Hid _ := HB0)
    | (go_at_call 5; refine (new_any _ 1275 (by decide) (by decide)).mono ?_; rintro e w1 ⟨rfl, HW1, HB1⟩; replace HW1 : Hid _ := HW1; replace HB1 : Hid _ := HB1))
  have HSZ : Hid (w.heap.size ≤ W0.heap.size) := HB0.out.size
  go_loopw [37] (fun i wr => ∃ (j : Nat) (m : Mo), j ≤ n ∧ i = .int .i64 j ∧ Hid m.Good ∧ m.nD ≤ 3 + 2 * j ∧ m.nR ≤ 16 * j ∧ Hid (WrAt wr W0.heap.size 1275 m) ∧ Hid (Below w.heap.size w wr)) (fun i _ => n - (intOf i).toNat)
  case atStart => exact ⟨0, Mo.new, by omega, rfl, new_ok, by decide, by decide, HW1.out, HB0.out.trans (HB1.out.mono HB0.out.size)⟩
  case round =>
    obtain ⟨j, m, hj, rfl, HG, n1, n2, HW, HB⟩ := hrel
    by_cases hlt : j < n
    · have hlt' : (j : Int) < n := by omega
      obtain ⟨bo, off, rfl, c0, c1, ho⟩ := (hf.out.below HB.out) j hlt
      generalize f j = o at *
      obtain ⟨at', av⟩ := o
      simp only at c0 c1
      have hsz : w.heap.size ≤ wr.heap.size := HB.out.size
      clear ho
      have nm : m.nD ≤ 500000 := by omega
      have nk : m.nR ≤ 500000 := by omega
      go_wp2_with (go_at_call 6; refine (putuint_un _ W0.heap.size 1275 m av at' (by decide) nm nk HG (show WrAt _ _ _ m from WrAt.kept (row := none) HW.out (by repeat (first | (with_reducible exact grown_refl _ none) | (with_reducible refine grown_alloc ?_ _) | (with_reducible refine grown_drew ?_))) (by simp))).mono ?_; rintro e w2 ⟨m2, c, rfl, HG2, k1, k2, HW2, HB2⟩; replace HW2 : Hid (WrAt w2 W0.heap.size 1275 m2) := HW2; replace HB2 : Hid _ := HB2; replace HG2 : Hid m2.Good := HG2)
      go_roundw
      case rel => exact ⟨j + 1, m2, by omega, by go_num, HG2, by omega, by omega, HW2, below_grown (HB.out.alloc hsz _) HB2.out HSZ.out (Nat.le_trans hsz (grown_size (grown_alloc (grown_refl wr none) _)))⟩
      case measure => simp [intOf]; omega
    · have e : j = n := by omega
      subst e
      clear hlt
      have hsz : w.heap.size ≤ wr.heap.size := HB.out.size
      have nm : m.nD ≤ 500000 := by omega
      have nk : m.nR ≤ 500000 := by omega
      have hnn := num_n m y q s
      have hc := num_cost HG.out (z := 1275) HS.out HL.out y0 y1
      have HLB : Hid (-100000 ≤ m.left 1275 ∧ m.left 1275 ≤ 100000) := by show _ ∧ _; unfold Mo.left; omega
      obtain ⟨m2, hm2⟩ : ∃ m2, m.num y q s = m2 := ⟨_, rfl⟩
      rw [hm2] at hnn hc
      have HM2 : Hid _ := hm2
      clear hm2
      have nm2 : m2.nD ≤ 700000 := by omega
      have nk2 : m2.nR ≤ 700000 := by omega
      have nm3 : m.nD ≤ 700000 := by omega
      have nk3 : m.nR ≤ 700000 := by omega
      obtain ⟨d, hd⟩ : ∃ d, m.left 1275 - m2.left 1275 = d := ⟨_, rfl⟩
      rw [hd] at hc
      have hw64 : IntKind.i64.wrap (m.left 1275 - m2.left 1275) = d := by rw [hd]; simp [IntKind.wrap, IntKind.bits, IntKind.signed]; omega
      clear hnn hd
      go_wp2_with fail
      refine (left_wr _ W0.heap.size 1275 m (by decide) nm3 nk3 HW).mono ?_
      rintro e w3 ⟨rfl, rfl⟩
      go_wp2_with (go_at_call 6; refine (putuint_wr _ W0.heap.size 1275 m y t q s (by decide) nm nk y0 y1 HG HS (show WrAt _ _ _ m from WrAt.kept (row := none) HW.out (by repeat (first | (with_reducible exact grown_refl _ none) | (with_reducible refine grown_alloc ?_ _) | (with_reducible refine grown_drew ?_))) (by simp))).mono ?_; rw [HM2.out]; rintro e w2 ⟨rfl, HW2, HB2⟩; replace HW2 : Hid (WrAt w2 W0.heap.size 1275 m2) := HW2; replace HB2 : Hid _ := HB2)
      have HBZ : Hid (Below w.heap.size w w2) := below_grown (HB.out.drew) HB2.out HSZ.out hsz
      clear HB2
      go_loopw [13, 14] (fun bv xv wr2 => ∃ (k : Nat) (x : Int), k ≤ l ∧ bv = .int .i64 k ∧ xv = .int .i64 x ∧ 0 ≤ x ∧ x < 1048576 ∧ Hid (IsLen x (l - k)) ∧ wr2 = w2) (fun _ xv _ => (intOf xv).toNat)
      case atStart => exact ⟨0, t - 1, by omega, rfl, rfl, by omega, by omega, HL, rfl⟩
      case round =>
        obtain ⟨k, x, hk, rfl, rfl, x0, x1, HI, rfl⟩ := hrel
        by_cases hx : 0 < x
        · have hh := HI.out.half hx
          have e3 : x.tdiv 2 = x / 2 := Int.tdiv_eq_ediv_of_nonneg x0
          go_wp2
          go_roundw
          case rel => exact ⟨k + 1, x / 2, by omega, by go_num, by first | rfl | go_num, by omega, by omega, by rw [show l - (k + 1) = l - k - 1 by omega]; exact hh.2, trivial⟩
          case measure => simp [intOf]; omega
        · obtain rfl : x = 0 := by omega
          have hkl : k = l := by have := HI.out.zero; omega
          subst hkl
          go_wp2_with (go_at_call 7; refine (left_wr _ W0.heap.size 1275 m2 (by decide) nm2 nk2 HW2).mono ?_; rintro e w3 ⟨rfl, rfl⟩)
          go_ret
          have hfin : decide (d ≤ (k : Int) + 1 + 7) = true := by simp; omega
          exact ⟨by show Ending.returned (.bool (decide (d ≤ (k : Int) + 1 + 7))) = _; rw [hfin], HBZ.out.drew⟩

end Go.Proofs.Ytohgbdhackmooaa
