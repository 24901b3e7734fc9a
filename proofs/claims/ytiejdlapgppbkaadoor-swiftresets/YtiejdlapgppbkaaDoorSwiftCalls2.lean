/-
  What shift, widen and Take of package swift do to a swift reader that lies somewhere. Nothing else is turned.
-/
import Derived.Test.YtiejdlapgppbkaaDoorSwiftCalls
namespace Go.Proofs.YtiejdlapgppbkaaDoor
set_option linter.unusedVariables false
open Go.ChangeShapes Go.WideShapes Go.ChangeAt Go.RowKit

theorem grown_N (w : World) (n : Nat) (row : Option Nat) : w.grownBy (w.drewN n) row := ⟨rfl, rfl, rfl, Nat.le_refl _, fun _ _ _ => rfl⟩
theorem SCells.drewN {w : World} {lo hi b n k l : Nat} {v : Value} {p : Nat → Int} {r x : Int} (h : SCells w lo hi b v n p r x k l) (q : Nat) : SCells (w.drewN q) lo hi b v n p r x k l := h.kept (grown_N w q none) (by intro q e; cases e)

set_option maxRecDepth 20000 in
/-- One byte is taken. -/
theorem sshift1 (w : World) (lo hi b : Nat) (v : Value) (n : Nat) (p : Nat → Int) (r x : Int) (k l : Nat) (hn : n ≤ 100000) (hk : k ≤ 900000) (x0 : 0 ≤ x) (x1 : x < 16777216) (hp : Hid (Bx n p)) (h : Hid (SCells w lo hi b v n p r x k l)) :
    Calls Tryd.prog 44 #[.pointer (some ⟨b, 0, none⟩), .int .i64 1] w fun e w' => e = .returned (.tuple #[]) ∧ SCells w' lo hi b v n p r (x * 256 + p k) (k + 1) l ∧ w.grownBy w' (some b) := by
  have h2 := h.out.c2
  have h3 := h.out.c3
  have fz := h.out.fz
  have ki : (k : Int) ≤ 900000 := by omega
  have hb0 := hp.out.b k
  have hb1 := hp.out.b (k + 1)
  have e1 : x * 256 % 4294967296 = x * 256 := by omega
  have e2 : (p k * 256 + p (k + 1)) / 256 = p k := by omega
  have e3 : bits BinOp.or IntKind.u32 (x * 256) (p k) = x * 256 + p k := or_u32 (e := 8) (by omega) (by omega) x0 (by omega) (by omega)
  have e4 := wrap_u32 (x := x * 256) (by omega) (by omega)
  have k0 : IntKind.i64.wrap 0 = 0 := rfl
  have k8 : IntKind.i64.wrap 8 = 8 := rfl
  have k16 : IntKind.i64.wrap 16 = 16 := rfl
  go_enter Tryd.func44, Tryd.ntmps44
  go_wp2
  go_region_with (go_at_call 50; refine (spair _ lo hi b n v p r x k l hn hk hp (SCells.drew h.out)).mono ?_; rintro e w1 ⟨rfl, q, rfl⟩)
  all_goals
    have HS : Hid (SCells ((w.drewN (1 + q)).setCell ⟨b, 2, none⟩ (.int .u32 (x * 256 + p k))) lo hi b v n p r (x * 256 + p k) k l) := (h.out.drewN (1 + q)).set2 _
    go_wp2
    go_end0
    exact ⟨rfl, HS.out.set3 (k + 1), grown_set (grown_set (grown_N _ _ _) _) _⟩

set_option maxRecDepth 20000 in
/-- Two bytes are taken. -/
theorem sshift2 (w : World) (lo hi b : Nat) (v : Value) (n : Nat) (p : Nat → Int) (r x : Int) (k l : Nat) (hn : n ≤ 100000) (hk : k ≤ 900000) (x0 : 0 ≤ x) (x1 : x < 65536) (hp : Hid (Bx n p)) (h : Hid (SCells w lo hi b v n p r x k l)) :
    Calls Tryd.prog 44 #[.pointer (some ⟨b, 0, none⟩), .int .i64 2] w fun e w' => e = .returned (.tuple #[]) ∧ SCells w' lo hi b v n p r ((x * 256 + p k) * 256 + p (k + 1)) (k + 1 + 1) l ∧ w.grownBy w' (some b) := by
  have h2 := h.out.c2
  have h3 := h.out.c3
  have fz := h.out.fz
  have ki : (k : Int) ≤ 900000 := by omega
  have hb0 := hp.out.b k
  have hb1 := hp.out.b (k + 1)
  have HE : Hid ((x * 256 + p k) * 256 + p (k + 1) = x * 65536 + (p k * 256 + p (k + 1))) := by show _ = _; omega
  rw [HE.out]
  obtain ⟨y, hy⟩ : ∃ y, y = p k * 256 + p (k + 1) := ⟨_, rfl⟩
  have HY : Hid _ := hy
  have y0 : 0 ≤ y := by omega
  have y1 : y < 65536 := by omega
  rw [← hy]
  have e1 : x * 65536 % 4294967296 = x * 65536 := by omega
  have e3 : bits BinOp.or IntKind.u32 (x * 65536) y = x * 65536 + y := or_u32 (e := 16) (by omega) (by omega) x0 (by omega) (by omega)
  have e4 := wrap_u32 (x := x * 65536) (by omega) (by omega)
  have k0 : IntKind.i64.wrap 0 = 0 := rfl
  have k16 : IntKind.i64.wrap 16 = 16 := rfl
  have e5 : y / 1 = y := by omega
  clear hy hb0 hb1
  go_enter Tryd.func44, Tryd.ntmps44
  go_wp2
  go_region_with (go_at_call 50; refine (spair _ lo hi b n v p r x k l hn hk hp (SCells.drew h.out)).mono ?_; rw [← HY.out]; rintro e w1 ⟨rfl, q, rfl⟩)
  all_goals
    have HS : Hid (SCells ((w.drewN (1 + q)).setCell ⟨b, 2, none⟩ (.int .u32 (x * 65536 + y))) lo hi b v n p r (x * 65536 + y) k l) := (h.out.drewN (1 + q)).set2 _
    go_wp2
    go_end0
    exact ⟨rfl, HS.out.set3 (k + 1 + 1), grown_set (grown_set (grown_N _ _ _) _) _⟩

/-- What widen does, said of the swift reader. -/
theorem swwiden (w : World) (lo hi b n : Nat) (p : Nat → Int) (m : Re) (hn : n ≤ 100000) (hk : m.tk ≤ 800000) (r0 : 1 < m.rng) (r1 : m.rng ≤ 16777216) (v0 : 0 ≤ m.val) (v1 : m.val < m.rng) (hp : Hid (Bx n p)) (h : Hid (SwAt w lo hi b n p m)) :
    Calls Tryd.prog 36 #[.pointer (some ⟨b, 0, none⟩)] w fun e w' => e = .returned (.tuple #[]) ∧ SwAt w' lo hi b n p (m.wide p) ∧ w.grownBy w' (some b) := by
  obtain ⟨v, h⟩ := h
  have h1 := h.c1
  have fz := h.fz
  unfold Re.wide
  by_cases c1 : m.rng ≤ 256
  · rw [if_pos c1]
    have e1 := wrap_u32 (x := m.rng * 65536) (by omega) (by omega)
    have e2 : m.rng * 65536 % 4294967296 = m.rng * 65536 := by omega
    have HS1 : Hid (SCells (w.setCell ⟨b, 1, none⟩ (.int .u32 (m.rng * 65536))) lo hi b v n p (m.rng * 65536) m.val m.tk m.nb) := h.set1 _
    have g1 : ¬ 65536 < m.rng := by omega
    have g2 : ¬ 256 < m.rng := by omega
    clear h
    go_enter Tryd.func36, Tryd.ntmps36
    go_wp2_with (go_at_call 44; refine (sshift2 _ lo hi b v n p (m.rng * 65536) m.val m.tk m.nb hn (by omega) v0 (by omega) hp HS1).mono ?_; rintro e w1 ⟨rfl, HW1, HB1⟩; replace HW1 : Hid (SCells w1 lo hi b v n p (m.rng * 65536) ((m.val * 256 + p m.tk) * 256 + p (m.tk + 1)) (m.tk + 1 + 1) m.nb) := HW1; replace HB1 : Hid _ := HB1)
    go_end0
    refine ⟨rfl, ⟨v, ?_⟩, grown_trans (grown_set (grown_refl _ _) _) HB1.out⟩
    show SCells w1 lo hi b v n p (m.rng * 256 * 256) ((m.val * 256 + p m.tk) * 256 + p (m.tk + 1)) (m.tk + 1 + 1) m.nb
    rw [show m.rng * 256 * 256 = m.rng * 65536 by omega]
    exact HW1.out
  · rw [if_neg c1]
    by_cases c2 : m.rng ≤ 65536
    · rw [if_pos c2]
      have e1 := wrap_u32 (x := m.rng * 256) (by omega) (by omega)
      have e2 : m.rng * 256 % 4294967296 = m.rng * 256 := by omega
      have HS1 : Hid (SCells (w.setCell ⟨b, 1, none⟩ (.int .u32 (m.rng * 256))) lo hi b v n p (m.rng * 256) m.val m.tk m.nb) := h.set1 _
      have g1 : ¬ 65536 < m.rng := by omega
      have g2 : 256 < m.rng := by omega
      clear h
      go_enter Tryd.func36, Tryd.ntmps36
      go_wp2_with (go_at_call 44; refine (sshift1 _ lo hi b v n p (m.rng * 256) m.val m.tk m.nb hn (by omega) v0 (by omega) hp HS1).mono ?_; rintro e w1 ⟨rfl, HW1, HB1⟩; replace HW1 : Hid (SCells w1 lo hi b v n p (m.rng * 256) (m.val * 256 + p m.tk) (m.tk + 1) m.nb) := HW1; replace HB1 : Hid _ := HB1)
      go_end0
      exact ⟨rfl, ⟨v, HW1.out⟩, grown_trans (grown_set (grown_refl _ _) _) HB1.out⟩
    · rw [if_neg c2]
      have g2 : 65536 < m.rng := by omega
      have H : Hid _ := h
      clear h
      go_enter Tryd.func36, Tryd.ntmps36
      go_wp2
      go_end0
      exact ⟨rfl, ⟨v, H.out⟩, grown_refl _ _⟩

theorem swtake_bad (w : World) (b : Nat) (x y t : Int) (h : ¬ May x y t) :
    Calls Tryd.prog 14 #[.pointer (some ⟨b, 0, none⟩), .int .i64 x, .int .i64 y, .int .i64 t] w fun e w' => e = .returned (.tuple #[]) ∧ w' = w := by
  by_cases h1 : x < 0
  · go_enter Tryd.func14, Tryd.ntmps14
    go_wp2
    refine bodyPost_ret (results_none rfl _ _ _) rfl ?_
    exact ⟨rfl, rfl⟩
  · by_cases h2 : y ≤ x
    · go_enter Tryd.func14, Tryd.ntmps14
      go_wp2
      refine bodyPost_ret (results_none rfl _ _ _) rfl ?_
      exact ⟨rfl, rfl⟩
    · by_cases h3 : t < y
      · go_enter Tryd.func14, Tryd.ntmps14
        go_wp2
        refine bodyPost_ret (results_none rfl _ _ _) rfl ?_
        exact ⟨rfl, rfl⟩
      · have h4 : 4096 < t := by
          unfold May at h; omega
        clear h
        go_enter Tryd.func14, Tryd.ntmps14
        go_wp2
        refine bodyPost_ret (results_none rfl _ _ _) rfl ?_
        exact ⟨rfl, rfl⟩

theorem wrap_i32 {x : Int} (h0 : -2147483648 ≤ x) (h1 : x < 2147483648) : IntKind.i32.wrap x = x := by
  simp [IntKind.wrap, IntKind.bits, IntKind.signed]; omega

set_option maxHeartbeats 1000000 in
theorem swtake (w : World) (lo hi b n : Nat) (p : Nat → Int) (m : Re) (x y t : Int) (hn : n ≤ 100000) (hk : m.tk ≤ 800000) (hp : Hid (Bx n p)) (hg : Hid m.Good) (hm : Hid (May x y t)) (h : Hid (SwAt w lo hi b n p m)) :
    Calls Tryd.prog 14 #[.pointer (some ⟨b, 0, none⟩), .int .i64 x, .int .i64 y, .int .i64 t] w fun e w' => e = .returned (.tuple #[]) ∧ SwAt w' lo hi b n p (m.take p x y t) ∧ w.grownBy w' (some b) := by
  obtain ⟨v, h⟩ := h
  have hb := rpart_bd hg.out.r1 hm.out
  have r2 := hg.out.r2
  have v0 := hg.out.v0
  have v1 := hg.out.v1
  obtain ⟨a0, ab, bt, t1⟩ := hm.out
  have c1 := h.c1
  have c2 := h.c2
  have HT : Hid (Tz w) := h.kp.tz
  have fz := h.fz
  have HPA : Hid (Calls Tryd.prog 35 #[.int .u32 m.rng, .int .u32 t] w fun e w' => e = .returned (.int .u32 (m.rng / t)) ∧ w' = w) := parts_any w _ _ (by omega) (by omega) (by omega) (by omega) HT
  have hc := clampR_bd (x := m.val - x * (m.rng / t)) (r := m.part x y t) (by omega)
  have hgr : (m.sym x y t).rng = m.part x y t := rfl
  have hgv : (m.sym x y t).val = clampR (m.val - x * (m.rng / t)) (m.part x y t) := rfl
  have hgt : (m.sym x y t).tk = m.tk := rfl
  have hgn : (m.sym x y t).nb = m.nb := rfl
  have HP : Hid (m.take p x y t = (m.sym x y t).wide p) := rfl
  rw [HP.out]
  generalize m.sym x y t = s at *
  obtain ⟨sr, sv, st, sn⟩ := s
  simp only at hgr hgv hgt hgn
  subst hgt hgn
  have q0 : ¬ (t = 0) := by omega
  have H : Hid (SCells w lo hi b v n p m.rng m.val m.tk m.nb) := h
  clear h HP
  unfold Re.part at hb hc hgr hgv
  generalize m.rng / t = q at *
  generalize hu : x * q = u at *
  have w1 := wrap_u32 (x := t) (by omega) (by omega)
  have w2 := wrap_u32 (x := x) (by omega) (by omega)
  have w3 := wrap_u32 (x := u) (by omega) (by omega)
  have w4 := wrap_u32 (x := y - x) (by omega) (by omega)
  have w5 := wrap_u32 (x := q) (by omega) (by omega)
  obtain ⟨g, hgg⟩ : ∃ g, (if y = t then m.rng - u else (y - x) * q) = g := ⟨_, rfl⟩
  rw [hgg] at hb hc hgr hgv
  subst hgr
  have w6 := wrap_u32 (x := sr) (by omega) (by omega)
  have hsv : (m.val ≤ u ∧ sv = 0) ∨ (¬ m.val ≤ u ∧ sr - 1 < m.val - u ∧ sv = sr - 1) ∨ (¬ m.val ≤ u ∧ m.val - u ≤ sr - 1 ∧ sv = m.val - u) := by
    rw [hgv]; unfold clampR
    by_cases z1 : m.val ≤ u
    · refine .inl ⟨z1, ?_⟩
      split
      · rfl
      · rw [if_neg (by omega)]; omega
    · rw [if_neg (by omega)]
      by_cases z2 : sr - 1 < m.val - u
      · exact .inr (.inl ⟨z1, z2, if_pos z2⟩)
      · exact .inr (.inr ⟨z1, by omega, if_neg z2⟩)
  rw [← hgv] at hc
  clear hgv
  have HS : Hid (SwAt ((w.setCell ⟨b, 1, none⟩ (.int .u32 sr)).setCell ⟨b, 2, none⟩ (.int .u32 sv)) lo hi b n p ⟨sr, sv, m.tk, m.nb⟩) := ⟨v, (H.out.set1 sr).set2 sv⟩
  have HC : Hid (0 ≤ sv ∧ sv < sr ∧ 1 < sr ∧ sr ≤ 16777216) := by show _ ∧ _; omega
  have w7 := wrap_u32 (x := sv) (by omega) (by omega)
  have u0 : 0 ≤ u := by omega
  have u1 : u ≤ 16777216 := by omega
  have s0 : 16 ≤ sr := by omega
  have s1 : sr ≤ 16777216 := by omega
  have i1 := wrap_i32 (x := m.val) (by omega) (by omega)
  have i2 := wrap_i32 (x := u) (by omega) (by omega)
  have i3 := wrap_i32 (x := sr) (by omega) (by omega)
  have i4 := wrap_i32 (x := m.val - u) (by omega) (by omega)
  have i5 := wrap_i32 (x := sr - 1) (by omega) (by omega)
  clear hb hc hm hg
  by_cases hyt : y = t
  · rw [if_pos hyt] at hgg
    subst hyt
    rcases hsv with ⟨z1, rfl⟩ | ⟨z1, z2, rfl⟩ | ⟨z1, z2, rfl⟩
    · have z2 : m.val - u ≤ sr - 1 := by omega
      have z3 : m.val - u ≤ 0 := by omega
      go_enter Tryd.func14, Tryd.ntmps14
      go_wp2_with (first | (go_at_call 35; refine HPA.out.mono ?_; rintro e wq ⟨rfl, rfl⟩) | (go_at_call 36; refine (swwiden _ lo hi b n p ⟨sr, 0, m.tk, m.nb⟩ hn hk HC.out.2.2.1 HC.out.2.2.2 HC.out.1 HC.out.2.1 hp HS).mono ?_; rintro e w9 ⟨rfl, HA, HB⟩; replace HA : Hid _ := HA; replace HB : Hid _ := HB))
      go_end0
      exact ⟨rfl, HA.out, grown_trans (grown_set (grown_set (grown_refl _ _) _) _) HB.out⟩
    · exact absurd z2 (by omega)
    · have z3 : u < m.val := by omega
      go_enter Tryd.func14, Tryd.ntmps14
      go_wp2_with (first | (go_at_call 35; refine HPA.out.mono ?_; rintro e wq ⟨rfl, rfl⟩) | (go_at_call 36; refine (swwiden _ lo hi b n p ⟨sr, m.val - u, m.tk, m.nb⟩ hn hk HC.out.2.2.1 HC.out.2.2.2 HC.out.1 HC.out.2.1 hp HS).mono ?_; rintro e w9 ⟨rfl, HA, HB⟩; replace HA : Hid _ := HA; replace HB : Hid _ := HB))
      go_end0
      exact ⟨rfl, HA.out, grown_trans (grown_set (grown_set (grown_refl _ _) _) _) HB.out⟩
  · rw [if_neg hyt] at hgg
    rcases hsv with ⟨z1, rfl⟩ | ⟨z1, z2, rfl⟩ | ⟨z1, z2, rfl⟩
    · have z2 : m.val - u ≤ sr - 1 := by omega
      have z3 : m.val - u ≤ 0 := by omega
      go_enter Tryd.func14, Tryd.ntmps14
      go_wp2_with (first | (go_at_call 35; refine HPA.out.mono ?_; rintro e wq ⟨rfl, rfl⟩) | (go_at_call 36; refine (swwiden _ lo hi b n p ⟨sr, 0, m.tk, m.nb⟩ hn hk HC.out.2.2.1 HC.out.2.2.2 HC.out.1 HC.out.2.1 hp HS).mono ?_; rintro e w9 ⟨rfl, HA, HB⟩; replace HA : Hid _ := HA; replace HB : Hid _ := HB))
      go_end0
      exact ⟨rfl, HA.out, grown_trans (grown_set (grown_set (grown_refl _ _) _) _) HB.out⟩
    · have z3 : 0 < sr - 1 := by omega
      have z4 : u < m.val := by omega
      go_enter Tryd.func14, Tryd.ntmps14
      go_wp2_with (first | (go_at_call 35; refine HPA.out.mono ?_; rintro e wq ⟨rfl, rfl⟩) | (go_at_call 36; refine (swwiden _ lo hi b n p ⟨sr, sr - 1, m.tk, m.nb⟩ hn hk HC.out.2.2.1 HC.out.2.2.2 HC.out.1 HC.out.2.1 hp HS).mono ?_; rintro e w9 ⟨rfl, HA, HB⟩; replace HA : Hid _ := HA; replace HB : Hid _ := HB))
      go_end0
      exact ⟨rfl, HA.out, grown_trans (grown_set (grown_set (grown_refl _ _) _) _) HB.out⟩
    · have z3 : u < m.val := by omega
      go_enter Tryd.func14, Tryd.ntmps14
      go_wp2_with (first | (go_at_call 35; refine HPA.out.mono ?_; rintro e wq ⟨rfl, rfl⟩) | (go_at_call 36; refine (swwiden _ lo hi b n p ⟨sr, m.val - u, m.tk, m.nb⟩ hn hk HC.out.2.2.1 HC.out.2.2.2 HC.out.1 HC.out.2.1 hp HS).mono ?_; rintro e w9 ⟨rfl, HA, HB⟩; replace HA : Hid _ := HA; replace HB : Hid _ := HB))
      go_end0
      exact ⟨rfl, HA.out, grown_trans (grown_set (grown_set (grown_refl _ _) _) _) HB.out⟩

/-- .. whatever is handed in. -/
theorem swtakeU (w : World) (lo hi b n : Nat) (p : Nat → Int) (m : Re) (x y t : Int) (hn : n ≤ 100000) (hk : m.tk ≤ 800000) (hp : Hid (Bx n p)) (hg : Hid m.Good) (h : Hid (SwAt w lo hi b n p m)) :
    Calls Tryd.prog 14 #[.pointer (some ⟨b, 0, none⟩), .int .i64 x, .int .i64 y, .int .i64 t] w fun e w' => e = .returned (.tuple #[]) ∧ SwAt w' lo hi b n p (m.takeU p x y t) ∧ w.grownBy w' (some b) := by
  unfold Re.takeU
  by_cases hm : 0 ≤ x ∧ x < y ∧ y ≤ t ∧ t ≤ 4096
  · rw [if_pos hm]; exact swtake w lo hi b n p m x y t hn hk hp hg hm h
  · rw [if_neg hm]
    refine (swtake_bad w b x y t hm).mono ?_
    rintro e w' ⟨rfl, rfl⟩
    exact ⟨rfl, h.out, grown_refl _ _⟩

end Go.Proofs.YtiejdlapgppbkaaDoor
