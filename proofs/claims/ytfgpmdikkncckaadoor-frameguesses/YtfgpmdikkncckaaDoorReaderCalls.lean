/-
  What shift, Left, Rng, Get, widen and Take of package reader do to a reader that lies somewhere. Nothing else is turned.
-/
import Derived.Test.YtfgpmdikkncckaaDoorReaderMem
namespace Go.Proofs.YtfgpmdikkncckaaDoor
set_option linter.unusedVariables false
open Go.ChangeShapes Go.WideShapes Go.ChangeAt Go.RowKit

theorem or_u32 {x y : Int} {e : Nat} (hx : 0 ≤ x) (hx1 : x < 2 ^ e) (hy : 0 ≤ y) (h : y * 2 ^ e < 4294967296) (he : x < 4294967296) : bits BinOp.or IntKind.u32 (y * 2 ^ e) x = y * 2 ^ e + x := by
  obtain ⟨a, rfl⟩ : ∃ a : Nat, x = a := ⟨x.toNat, by omega⟩
  obtain ⟨c, rfl⟩ : ∃ c : Nat, y = c := ⟨y.toNat, by omega⟩
  have ha : a < 2 ^ e := by
    have : ((a : Nat) : Int) < ((2 ^ e : Nat) : Int) := by push_cast; exact hx1
    exact Int.ofNat_lt.1 this
  have ec : (c : Int) * 2 ^ e = ((2 ^ e * c : Nat) : Int) := by push_cast; rw [Int.mul_comm]
  have key := Nat.two_pow_add_eq_or_of_lt ha c
  have hlt : 2 ^ e * c < 2 ^ 32 := by rw [ec] at h; omega
  have hlt2 : a < 2 ^ 32 := by omega
  have hor : 2 ^ e * c ||| a < 2 ^ 32 := Nat.or_lt_two_pow hlt hlt2
  rw [ec]
  show IntKind.u32.wrap ((BitVec.ofInt 32 ((2 ^ e * c : Nat) : Int) ||| BitVec.ofInt 32 (a : Int)).toNat : Nat) = _
  rw [BitVec.toNat_or, BitVec.toNat_ofInt, BitVec.toNat_ofInt]
  have m1 : (((2 ^ e * c : Nat) : Int) % ((2 ^ 32 : Nat) : Int)).toNat = 2 ^ e * c := by rw [Int.emod_eq_of_lt (by omega) (by omega), Int.toNat_natCast]
  have m2 : ((a : Int) % ((2 ^ 32 : Nat) : Int)).toNat = a := by rw [Int.emod_eq_of_lt (by omega) (by omega), Int.toNat_natCast]
  rw [m1, m2]
  have hor' : ((2 ^ e * c ||| a : Nat) : Int) < 4294967296 := by omega
  rw [wrap_u32 (by omega) hor', ← key]
  push_cast
  rfl

set_option maxRecDepth 20000 in
theorem shift_any (w : World) (lo hi b : Nat) (v : Value) (n : Nat) (p : Nat → Int) (r x : Int) (k l : Nat) (hn : n ≤ 100000) (hk : k ≤ 900000) (x0 : 0 ≤ x) (x1 : x < 16777216) (hp : Hid (Bx n p)) (h : Hid (RCells w lo hi b v n p r x k l)) :
    Calls Tryd.prog 19 #[.pointer (some ⟨b, 0, none⟩)] w fun e w' => e = .returned (.tuple #[]) ∧ RCells w' lo hi b v n p r (x * 256 + p k) (k + 1) l ∧ w.grownBy w' (some b) := by
  have h2 := h.out.c2
  have fz := h.out.fz
  have ni : (n : Int) ≤ 100000 := by omega
  have ki : (k : Int) ≤ 900000 := by omega
  have e4 := wrap_u32 (x := x * 256) (by omega) (by omega)
  have HS : Hid _ := h.out.set2 (x * 256)
  have d0 := HS.out.c0
  have d2 := HS.out.c2
  have d3 := HS.out.c3
  by_cases hkn : k < n
  · obtain ⟨g, cap, rfl, g0, g1, gc, gm⟩ := h.out.d.form (by omega)
    have hb := hp.out.b k
    have cc := HS.out.d.cell hkn
    have e5 := wrap_u32 (x := p k) (by omega) (by omega)
    have e6 : bits BinOp.or IntKind.u32 (x * 256) (p k) = x * 256 + p k := or_u32 (e := 8) (by omega) (by omega) x0 (by omega) (by omega)
    have kn : (k : Int) < n := by omega
    go_enter Tryd.func19, Tryd.ntmps19
    go_wp2
    go_region
    go_wp2
    go_region
    go_wp2
    go_end0
    exact ⟨rfl, ((HS.out.set2 _).set3 (k + 1)).drew.drew, grown_drew (grown_drew (wgrown_set (wgrown_set (wgrown_set (grown_refl _ _) _) _) _))⟩
  · obtain ⟨ao, cap, rfl, hc1, hc2, _⟩ := h.out.d.slice
    have e7 : p k = 0 := hp.out.z k (by omega)
    rw [e7, Int.add_zero]
    have kn : ¬ ((k : Int) < n) := by omega
    go_enter Tryd.func19, Tryd.ntmps19
    go_wp2
    go_region
    go_wp2
    go_end0
    exact ⟨rfl, (HS.out.set3 (k + 1)).drew, grown_drew (wgrown_set (wgrown_set (grown_refl _ _) _) _)⟩

theorem rdleft (w : World) (lo hi b n : Nat) (p : Nat → Int) (m : Re) (hn : n ≤ 100000) (hk : m.tk ≤ 900000) (hl : m.nb ≤ 900000) (h : Hid (RdAt w lo hi b n p m)) :
    Calls Tryd.prog 14 #[.pointer (some ⟨b, 0, none⟩)] w fun e w' => e = .returned (.int .i64 (m.left n)) ∧ w' = w.drew := by
  obtain ⟨v, h⟩ := h
  obtain ⟨ao, cap, rfl, hc1, hc2, _⟩ := h.d.slice
  have h0 := h.c0
  have h3 := h.c3
  have h4 := h.c4
  have ni : (n : Int) ≤ 100000 := by omega
  have ki : (m.tk : Int) ≤ 900000 := by omega
  have li : (m.nb : Int) ≤ 900000 := by omega
  have el : m.left n = 8 * ((n : Int) - m.tk) - m.nb := by unfold Re.left; omega
  rw [el]
  clear h el
  go_enter Tryd.func14, Tryd.ntmps14
  go_wp2
  go_region
  go_wp2
  go_ret
  exact ⟨rfl, rfl⟩

theorem rdrng (w : World) (lo hi b n : Nat) (p : Nat → Int) (m : Re) (h : Hid (RdAt w lo hi b n p m)) :
    Calls Tryd.prog 73 #[.pointer (some ⟨b, 0, none⟩)] w fun e w' => e = .returned (.int .u32 m.rng) ∧ w' = w := by
  obtain ⟨v, h⟩ := h
  have h1 := h.c1
  clear h
  go_enter Tryd.func73, Tryd.ntmps73
  go_wp2
  go_ret
  exact ⟨rfl, rfl⟩

theorem rdget (w : World) (lo hi b n : Nat) (p : Nat → Int) (m : Re) (t : Int) (hg : Hid m.Good) (h : Hid (RdAt w lo hi b n p m)) :
    Calls Tryd.prog 71 #[.pointer (some ⟨b, 0, none⟩), .int .i64 t] w fun e w' => e = .returned (.int .i64 (m.getU t)) ∧ w' = w := by
  obtain ⟨v, h⟩ := h
  have h1 := h.c1
  have h2 := h.c2
  clear h
  unfold Re.getU
  by_cases ht : 1 ≤ t
  · by_cases ht2 : t ≤ 4096
    · rw [if_pos ⟨ht, ht2⟩]
      obtain ⟨g0, g1, g2⟩ := get_bd hg.out ht ht2
      have r1 := hg.out.r1
      have r2 := hg.out.r2
      have v0 := hg.out.v0
      have v1 := hg.out.v1
      have e1 : m.rng.tdiv t = m.rng / t := Int.tdiv_eq_ediv_of_nonneg (by omega)
      have e2 : m.val.tdiv (m.rng / t) = m.val / (m.rng / t) := Int.tdiv_eq_ediv_of_nonneg v0
      have q0 : 0 ≤ m.val / (m.rng / t) := Int.ediv_nonneg v0 (by omega)
      have q1 : m.val / (m.rng / t) ≤ m.val := Int.ediv_le_self _ v0
      have q2 : m.rng / t ≤ m.rng := Int.ediv_le_self _ (by omega)
      unfold Re.get at *
      generalize m.rng / t = q at *
      generalize m.val / q = s at *
      have w1 := wrap_u32 (x := t) (by omega) (by omega)
      have w2 := wrap_u32 (x := q) (by omega) (by omega)
      have w3 := wrap_u32 (x := s) (by omega) (by omega)
      have n0 : (m.rng == 0) = false := by simp; omega
      have n1 : ¬ (t = 0) := by omega
      have n2 : ¬ (q = 0) := by omega
      by_cases hs : t - 1 < s
      · rw [if_pos hs]
        go_enter Tryd.func71, Tryd.ntmps71
        go_wp2
        go_ret
        exact ⟨rfl, rfl⟩
      · rw [if_neg hs]
        have hs' : s ≤ t - 1 := by omega
        go_enter Tryd.func71, Tryd.ntmps71
        go_wp2
        go_ret
        exact ⟨rfl, rfl⟩
    · rw [if_neg (by omega)]
      have ht3 : 4096 < t := by omega
      go_enter Tryd.func71, Tryd.ntmps71
      go_wp2
      go_ret
      exact ⟨rfl, rfl⟩
  · rw [if_neg (by omega)]
    have ht3 : t < 1 := by omega
    go_enter Tryd.func71, Tryd.ntmps71
    go_wp2
    go_ret
    exact ⟨rfl, rfl⟩

/-- What widen does, said of the reader. -/
theorem rdwiden (w : World) (lo hi b n : Nat) (p : Nat → Int) (m : Re) (hn : n ≤ 100000) (hk : m.tk ≤ 800000) (r0 : 1 < m.rng) (r1 : m.rng ≤ 16777216) (v0 : 0 ≤ m.val) (v1 : m.val < m.rng) (hp : Hid (Bx n p)) (h : Hid (RdAt w lo hi b n p m)) :
    Calls Tryd.prog 76 #[.pointer (some ⟨b, 0, none⟩)] w fun e w' => e = .returned (.tuple #[]) ∧ RdAt w' lo hi b n p (m.wide p) ∧ w.grownBy w' (some b) := by
  obtain ⟨v, h⟩ := h
  have h1 := h.c1
  have fz := h.fz
  unfold Re.wide
  by_cases c1 : m.rng ≤ 256
  · rw [if_pos c1]
    have hb0 := hp.out.b m.tk
    have e1 := wrap_u32 (x := m.rng * 256) (by omega) (by omega)
    have e2 := wrap_u32 (x := m.rng * 256 * 256) (by omega) (by omega)
    have HS1 : Hid (RCells (w.setCell ⟨b, 1, none⟩ (.int .u32 (m.rng * 256))) lo hi b v n p (m.rng * 256) m.val m.tk m.nb) := h.set1 _
    have g1 : ¬ 65536 < m.rng := by omega
    have g2 : ¬ 65536 < m.rng * 256 := by omega
    have H : Hid _ := h
    clear h
    go_enter Tryd.func76, Tryd.ntmps76
    go_wp2
    refine wp_loop_rounds 3 ?_
    rw [rounds_succ]
    go_wp2_with (go_at_call 19; refine (shift_any _ lo hi b v n p (m.rng * 256) m.val m.tk m.nb hn (by omega) v0 (by omega) hp HS1).mono ?_; rintro e w1 ⟨rfl, HW1, HB1⟩; have c1 := HW1.c1; have fz1 := HW1.fz; replace HW1 : Hid (RCells w1 lo hi b v n p (m.rng * 256) (m.val * 256 + p m.tk) (m.tk + 1) m.nb) := HW1; replace HB1 : Hid _ := HB1)
    have HS2 : Hid (RCells (w1.setCell ⟨b, 1, none⟩ (.int .u32 (m.rng * 256 * 256))) lo hi b v n p (m.rng * 256 * 256) (m.val * 256 + p m.tk) (m.tk + 1) m.nb) := HW1.out.set1 _
    rw [rounds_succ]
    go_wp2_with (go_at_call 19; refine (shift_any _ lo hi b v n p (m.rng * 256 * 256) (m.val * 256 + p m.tk) (m.tk + 1) m.nb hn (by omega) (by omega) (by omega) hp HS2).mono ?_; rintro e w2 ⟨rfl, HW2, HB2⟩; have d1 := HW2.c1; replace HW2 : Hid (RCells w2 lo hi b v n p (m.rng * 256 * 256) ((m.val * 256 + p m.tk) * 256 + p (m.tk + 1)) (m.tk + 1 + 1) m.nb) := HW2; replace HB2 : Hid _ := HB2)
    rw [rounds_succ]
    go_wp2
    go_end0
    exact ⟨rfl, ⟨v, HW2.out⟩, grown_trans (wgrown_set (grown_trans (wgrown_set (grown_refl _ _) _) HB1.out) _) HB2.out⟩
  · rw [if_neg c1]
    by_cases c2 : m.rng ≤ 65536
    · rw [if_pos c2]
      have hb0 := hp.out.b m.tk
      have e1 := wrap_u32 (x := m.rng * 256) (by omega) (by omega)
      have HS1 : Hid (RCells (w.setCell ⟨b, 1, none⟩ (.int .u32 (m.rng * 256))) lo hi b v n p (m.rng * 256) m.val m.tk m.nb) := h.set1 _
      have g1 : ¬ 65536 < m.rng := by omega
      have g2 : 65536 < m.rng * 256 := by omega
      have H : Hid _ := h
      clear h
      go_enter Tryd.func76, Tryd.ntmps76
      go_wp2
      refine wp_loop_rounds 3 ?_
      rw [rounds_succ]
      go_wp2_with (go_at_call 19; refine (shift_any _ lo hi b v n p (m.rng * 256) m.val m.tk m.nb hn (by omega) v0 (by omega) hp HS1).mono ?_; rintro e w1 ⟨rfl, HW1, HB1⟩; have c1 := HW1.c1; have fz1 := HW1.fz; replace HW1 : Hid (RCells w1 lo hi b v n p (m.rng * 256) (m.val * 256 + p m.tk) (m.tk + 1) m.nb) := HW1; replace HB1 : Hid _ := HB1)
      rw [rounds_succ]
      go_wp2
      refine bodyPost_ret (results_none rfl _ _ _) rfl ?_
      exact ⟨rfl, ⟨v, HW1.out⟩, grown_trans (wgrown_set (grown_refl _ _) _) HB1.out⟩
    · rw [if_neg c2]
      have g2 : 65536 < m.rng := by omega
      have H : Hid _ := h
      clear h
      go_enter Tryd.func76, Tryd.ntmps76
      go_wp2
      refine wp_loop_rounds 3 ?_
      rw [rounds_succ]
      go_wp2
      refine bodyPost_ret (results_none rfl _ _ _) rfl ?_
      exact ⟨rfl, ⟨v, H.out⟩, grown_refl _ _⟩

theorem rdtake_bad (w : World) (b : Nat) (x y t : Int) (h : ¬ May x y t) :
    Calls Tryd.prog 74 #[.pointer (some ⟨b, 0, none⟩), .int .i64 x, .int .i64 y, .int .i64 t] w fun e w' => e = .returned (.tuple #[]) ∧ w' = w := by
  by_cases h1 : x < 0
  · go_enter Tryd.func74, Tryd.ntmps74
    go_wp2
    refine bodyPost_ret (results_none rfl _ _ _) rfl ?_
    exact ⟨rfl, rfl⟩
  · by_cases h2 : y ≤ x
    · go_enter Tryd.func74, Tryd.ntmps74
      go_wp2
      refine bodyPost_ret (results_none rfl _ _ _) rfl ?_
      exact ⟨rfl, rfl⟩
    · by_cases h3 : t < y
      · go_enter Tryd.func74, Tryd.ntmps74
        go_wp2
        refine bodyPost_ret (results_none rfl _ _ _) rfl ?_
        exact ⟨rfl, rfl⟩
      · have h4 : 4096 < t := by
          unfold May at h; omega
        clear h
        go_enter Tryd.func74, Tryd.ntmps74
        go_wp2
        refine bodyPost_ret (results_none rfl _ _ _) rfl ?_
        exact ⟨rfl, rfl⟩

set_option maxHeartbeats 1000000 in
theorem rdtake (w : World) (lo hi b n : Nat) (p : Nat → Int) (m : Re) (x y t : Int) (hn : n ≤ 100000) (hk : m.tk ≤ 800000) (hp : Hid (Bx n p)) (hg : Hid m.Good) (hm : Hid (May x y t)) (h : Hid (RdAt w lo hi b n p m)) :
    Calls Tryd.prog 74 #[.pointer (some ⟨b, 0, none⟩), .int .i64 x, .int .i64 y, .int .i64 t] w fun e w' => e = .returned (.tuple #[]) ∧ RdAt w' lo hi b n p (m.take p x y t) ∧ w.grownBy w' (some b) := by
  obtain ⟨v, h⟩ := h
  have hb := rpart_bd hg.out.r1 hm.out
  have r2 := hg.out.r2
  have v0 := hg.out.v0
  have v1 := hg.out.v1
  obtain ⟨a0, ab, bt, t1⟩ := hm.out
  have c1 := h.c1
  have c2 := h.c2
  have fz := h.fz
  have eq : m.rng.tdiv t = m.rng / t := Int.tdiv_eq_ediv_of_nonneg (by omega)
  have hc := clampR_bd (x := m.val - x * (m.rng / t)) (r := m.part x y t) (by omega)
  have hgr : (m.sym x y t).rng = m.part x y t := rfl
  have hgv : (m.sym x y t).val = clampR (m.val - x * (m.rng / t)) (m.part x y t) := rfl
  have hgt : (m.sym x y t).tk = m.tk := rfl
  have hgn : (m.sym x y t).nb = m.nb := rfl
  have HP : Hid (m.take p x y t = (m.sym x y t).wide p) := rfl
  rw [HP.out]
  generalize m.sym x y t = s at *
  obtain ⟨sr, sv, st, sn⟩ := s
  simp only at hgr hgv hgt hgn
  subst hgt hgn
  have q0 : ¬ (t = 0) := by omega
  have H : Hid (RCells w lo hi b v n p m.rng m.val m.tk m.nb) := h
  clear h HP
  unfold Re.part at hb hc hgr hgv
  generalize m.rng / t = q at *
  generalize hu : x * q = u at *
  have w1 := wrap_u32 (x := t) (by omega) (by omega)
  have w2 := wrap_u32 (x := x) (by omega) (by omega)
  have w3 := wrap_u32 (x := u) (by omega) (by omega)
  have w4 := wrap_u32 (x := y - x) (by omega) (by omega)
  have w5 := wrap_u32 (x := q) (by omega) (by omega)
  obtain ⟨g, hgg⟩ : ∃ g, (if y = t then m.rng - u else (y - x) * q) = g := ⟨_, rfl⟩
  rw [hgg] at hb hc hgr hgv
  subst hgr
  have w6 := wrap_u32 (x := sr) (by omega) (by omega)
  have hsv : (m.val ≤ u ∧ sv = 0) ∨ (¬ m.val ≤ u ∧ sr - 1 < m.val - u ∧ sv = sr - 1) ∨ (¬ m.val ≤ u ∧ m.val - u ≤ sr - 1 ∧ sv = m.val - u) := by
    rw [hgv]; unfold clampR
    by_cases z1 : m.val ≤ u
    · refine .inl ⟨z1, ?_⟩
      split
      · rfl
      · rw [if_neg (by omega)]; omega
    · rw [if_neg (by omega)]
      by_cases z2 : sr - 1 < m.val - u
      · exact .inr (.inl ⟨z1, z2, if_pos z2⟩)
      · exact .inr (.inr ⟨z1, by omega, if_neg z2⟩)
  rw [← hgv] at hc
  clear hgv
  have HS : Hid (RdAt ((w.setCell ⟨b, 1, none⟩ (.int .u32 sr)).setCell ⟨b, 2, none⟩ (.int .u32 sv)) lo hi b n p ⟨sr, sv, m.tk, m.nb⟩) := ⟨v, (H.out.set1 sr).set2 sv⟩
  have HC : Hid (0 ≤ sv ∧ sv < sr ∧ 1 < sr ∧ sr ≤ 16777216) := by show _ ∧ _; omega
  have w7 := wrap_u32 (x := sv) (by omega) (by omega)
  have u0 : 0 ≤ u := by omega
  have u1 : u ≤ 16777216 := by omega
  have s0 : 16 ≤ sr := by omega
  have s1 : sr ≤ 16777216 := by omega
  clear hb hc hm hg
  by_cases hyt : y = t
  · rw [if_pos hyt] at hgg
    subst hyt
    rcases hsv with ⟨z1, rfl⟩ | ⟨z1, z2, rfl⟩ | ⟨z1, z2, rfl⟩
    · have z2 : m.val - u ≤ sr - 1 := by omega
      have z3 : m.val - u ≤ 0 := by omega
      go_enter Tryd.func74, Tryd.ntmps74
      go_wp2_with (go_at_call 76; refine (rdwiden _ lo hi b n p ⟨sr, 0, m.tk, m.nb⟩ hn hk HC.out.2.2.1 HC.out.2.2.2 HC.out.1 HC.out.2.1 hp HS).mono ?_; rintro e w9 ⟨rfl, HA, HB⟩; replace HA : Hid _ := HA; replace HB : Hid _ := HB)
      go_end0
      exact ⟨rfl, HA.out, grown_trans (wgrown_set (wgrown_set (grown_refl _ _) _) _) HB.out⟩
    · exact absurd z2 (by omega)
    · have z3 : u < m.val := by omega
      go_enter Tryd.func74, Tryd.ntmps74
      go_wp2_with (go_at_call 76; refine (rdwiden _ lo hi b n p ⟨sr, m.val - u, m.tk, m.nb⟩ hn hk HC.out.2.2.1 HC.out.2.2.2 HC.out.1 HC.out.2.1 hp HS).mono ?_; rintro e w9 ⟨rfl, HA, HB⟩; replace HA : Hid _ := HA; replace HB : Hid _ := HB)
      go_end0
      exact ⟨rfl, HA.out, grown_trans (wgrown_set (wgrown_set (grown_refl _ _) _) _) HB.out⟩
  · rw [if_neg hyt] at hgg
    rcases hsv with ⟨z1, rfl⟩ | ⟨z1, z2, rfl⟩ | ⟨z1, z2, rfl⟩
    · have z2 : m.val - u ≤ sr - 1 := by omega
      have z3 : m.val - u ≤ 0 := by omega
      go_enter Tryd.func74, Tryd.ntmps74
      go_wp2_with (go_at_call 76; refine (rdwiden _ lo hi b n p ⟨sr, 0, m.tk, m.nb⟩ hn hk HC.out.2.2.1 HC.out.2.2.2 HC.out.1 HC.out.2.1 hp HS).mono ?_; rintro e w9 ⟨rfl, HA, HB⟩; replace HA : Hid _ := HA; replace HB : Hid _ := HB)
      go_end0
      exact ⟨rfl, HA.out, grown_trans (wgrown_set (wgrown_set (grown_refl _ _) _) _) HB.out⟩
    · have z3 : 0 < sr - 1 := by omega
      have z4 : u < m.val := by omega
      go_enter Tryd.func74, Tryd.ntmps74
      go_wp2_with (go_at_call 76; refine (rdwiden _ lo hi b n p ⟨sr, sr - 1, m.tk, m.nb⟩ hn hk HC.out.2.2.1 HC.out.2.2.2 HC.out.1 HC.out.2.1 hp HS).mono ?_; rintro e w9 ⟨rfl, HA, HB⟩; replace HA : Hid _ := HA; replace HB : Hid _ := HB)
      go_end0
      exact ⟨rfl, HA.out, grown_trans (wgrown_set (wgrown_set (grown_refl _ _) _) _) HB.out⟩
    · have z3 : u < m.val := by omega
      go_enter Tryd.func74, Tryd.ntmps74
      go_wp2_with (go_at_call 76; refine (rdwiden _ lo hi b n p ⟨sr, m.val - u, m.tk, m.nb⟩ hn hk HC.out.2.2.1 HC.out.2.2.2 HC.out.1 HC.out.2.1 hp HS).mono ?_; rintro e w9 ⟨rfl, HA, HB⟩; replace HA : Hid _ := HA; replace HB : Hid _ := HB)
      go_end0
      exact ⟨rfl, HA.out, grown_trans (wgrown_set (wgrown_set (grown_refl _ _) _) _) HB.out⟩

/-- .. whatever is handed in. -/
theorem rdtakeU (w : World) (lo hi b n : Nat) (p : Nat → Int) (m : Re) (x y t : Int) (hn : n ≤ 100000) (hk : m.tk ≤ 800000) (hp : Hid (Bx n p)) (hg : Hid m.Good) (h : Hid (RdAt w lo hi b n p m)) :
    Calls Tryd.prog 74 #[.pointer (some ⟨b, 0, none⟩), .int .i64 x, .int .i64 y, .int .i64 t] w fun e w' => e = .returned (.tuple #[]) ∧ RdAt w' lo hi b n p (m.takeU p x y t) ∧ w.grownBy w' (some b) := by
  unfold Re.takeU
  by_cases hm : 0 ≤ x ∧ x < y ∧ y ≤ t ∧ t ≤ 4096
  · rw [if_pos hm]; exact rdtake w lo hi b n p m x y t hn hk hp hg hm h
  · rw [if_neg hm]
    refine (rdtake_bad w b x y t hm).mono ?_
    rintro e w' ⟨rfl, rfl⟩
    exact ⟨rfl, h.out, grown_refl _ _⟩

end Go.Proofs.YtfgpmdikkncckaaDoor
