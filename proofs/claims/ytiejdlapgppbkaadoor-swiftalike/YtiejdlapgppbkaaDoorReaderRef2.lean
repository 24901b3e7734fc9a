/-
  What Take of the document's own reader (spinetref07) does. Nothing is turned but its own block.
-/
import Derived.Test.YtiejdlapgppbkaaDoorReaderRef
namespace Go.Proofs.YtiejdlapgppbkaaDoor
set_option linter.unusedVariables false
open Go.ChangeShapes Go.WideShapes Go.ChangeAt Go.RowKit

theorem rftake_bad (w : World) (b : Nat) (x y t : Int) (h : ¬ May x y t) :
    Calls Tryd.prog 15 #[.pointer (some ⟨b, 0, none⟩), .int .i64 x, .int .i64 y, .int .i64 t] w fun e w' => e = .returned (.tuple #[]) ∧ w' = w := by
  by_cases h1 : x < 0
  · go_enter Tryd.func15, Tryd.ntmps15
    go_wp2
    refine bodyPost_ret (results_none rfl _ _ _) rfl ?_
    exact ⟨rfl, rfl⟩
  · by_cases h2 : y ≤ x
    · go_enter Tryd.func15, Tryd.ntmps15
      go_wp2
      refine bodyPost_ret (results_none rfl _ _ _) rfl ?_
      exact ⟨rfl, rfl⟩
    · by_cases h3 : t < y
      · go_enter Tryd.func15, Tryd.ntmps15
        go_wp2
        refine bodyPost_ret (results_none rfl _ _ _) rfl ?_
        exact ⟨rfl, rfl⟩
      · have h4 : 4096 < t := by
          unfold May at h; omega
        clear h
        go_enter Tryd.func15, Tryd.ntmps15
        go_wp2
        refine bodyPost_ret (results_none rfl _ _ _) rfl ?_
        exact ⟨rfl, rfl⟩

set_option maxHeartbeats 4000000 in
set_option maxRecDepth 20000 in
theorem rftake (w : World) (B b : Nat) (ao : Option Addr) (n cap : Nat) (p : Nat → Int) (m : Re) (x y t : Int) (hn : n ≤ 100000) (hk : m.tk ≤ 800000) (hp : Hid (Bx n p)) (hg : Hid m.Good) (hm : Hid (May x y t)) (h : Hid (Rf w B b ao n cap p m)) :
    Calls Tryd.prog 15 #[.pointer (some ⟨b, 0, none⟩), .int .i64 x, .int .i64 y, .int .i64 t] w fun e w' => e = .returned (.tuple #[]) ∧ Rf w' B b ao n cap p (m.take p x y t) ∧ w.grownBy w' (some b) := by
  have hb := rpart_bd hg.out.r1 hm.out
  have r2 := hg.out.r2
  have v0 := hg.out.v0
  have v1 := hg.out.v1
  obtain ⟨a0, ab, bt, t1⟩ := hm.out
  have c3 := h.out.c3
  have c4 := h.out.c4
  have fz := h.out.fz
  have eq : m.rng.tdiv t = m.rng / t := Int.tdiv_eq_ediv_of_nonneg (by omega)
  have hc := clampR_bd (x := m.val - x * (m.rng / t)) (r := m.part x y t) (by omega)
  have hgr : (m.sym x y t).rng = m.part x y t := rfl
  have hgv : (m.sym x y t).val = clampR (m.val - x * (m.rng / t)) (m.part x y t) := rfl
  have hgt : (m.sym x y t).tk = m.tk := rfl
  have hgn : (m.sym x y t).nb = m.nb := rfl
  have HP : Hid (m.take p x y t = (m.sym x y t).wide p) := rfl
  rw [HP.out]
  generalize m.sym x y t = s at *
  obtain ⟨sr, sv, st, sn⟩ := s
  simp only at hgr hgv hgt hgn
  subst hgt hgn
  have q0 : ¬ (t = 0) := by omega
  clear HP
  unfold Re.part at hb hc hgr hgv
  generalize m.rng / t = q at *
  generalize hu : x * q = u at *
  have w1 := wrap_i64 (x := u) (by omega) (by omega)
  obtain ⟨g, hgg⟩ : ∃ g, (if y = t then m.rng - u else (y - x) * q) = g := ⟨_, rfl⟩
  rw [hgg] at hb hc hgr hgv
  subst hgr
  have w6 := wrap_i64 (x := sr) (by omega) (by omega)
  have w7 := wrap_i64 (x := q) (by omega) (by omega)
  have hsv : (m.val - u < 0 ∧ sv = 0) ∨ (0 ≤ m.val - u ∧ sr - 1 < m.val - u ∧ sv = sr - 1) ∨ (0 ≤ m.val - u ∧ m.val - u ≤ sr - 1 ∧ sv = m.val - u) := by
    rw [hgv]; unfold clampR
    by_cases z1 : m.val - u < 0
    · exact .inl ⟨z1, if_pos z1⟩
    · rw [if_neg z1]
      by_cases z2 : sr - 1 < m.val - u
      · exact .inr (.inl ⟨by omega, z2, if_pos z2⟩)
      · exact .inr (.inr ⟨by omega, by omega, if_neg z2⟩)
  rw [← hgv] at hc
  clear hgv
  have HC : Hid (0 ≤ sv ∧ sv < sr ∧ 1 < sr ∧ sr ≤ 16777216) := by show _ ∧ _; omega
  have u0 : 0 ≤ u := by omega
  have u1 : u ≤ 16777216 := by omega
  have s0 : 16 ≤ sr := by omega
  have s1 : sr ≤ 16777216 := by omega
  clear hb hc hm hg
  by_cases hyt : y = t
  · rw [if_pos hyt] at hgg
    subst hyt
    rcases hsv with ⟨z1, rfl⟩ | ⟨z1, z2, rfl⟩ | ⟨z1, z2, rfl⟩
    · have z3 : (0 : Int) ≤ sr - 1 := by omega
      go_enter Tryd.func15, Tryd.ntmps15
      go_wp2
      go_region
      go_wp2
      have HRF : Hid (Rf _ B b ao n cap p ⟨sr, 0, m.tk, m.nb⟩) := (((h.out.set4 (m.val - u)).set4 0).set3 sr).drew
      have HGW : Hid _ := grown_drew (grown_set (grown_set (grown_set (grown_refl w (some b)) (o := 4) (.int .i64 (m.val - u))) (o := 4) (.int .i64 0)) (o := 3) (.int .i64 sr))
      clear z3
      go_loopw [] (fun wr => ∃ s : Re, Hid (s.wide p = Re.wide ⟨sr, 0, m.tk, m.nb⟩ p) ∧ Hid (1 < s.rng ∧ s.rng ≤ 16777216 ∧ 0 ≤ s.val ∧ s.val < s.rng) ∧ Hid ((s.rng ≤ 256 → s.tk ≤ m.tk) ∧ (s.rng ≤ 65536 → s.tk ≤ m.tk + 1)) ∧ Hid (Rf wr B b ao n cap p s) ∧ Hid (w.grownBy wr (some b))) (fun wr => rngOf wr b)
      case atStart => exact ⟨⟨sr, 0, m.tk, m.nb⟩, rfl, ⟨HC.out.2.2.1, HC.out.2.2.2, HC.out.1, HC.out.2.1⟩, ⟨fun _ => Nat.le_refl _, fun _ => Nat.le_succ _⟩, HRF, HGW⟩
      case round =>
        obtain ⟨s, HW, HS, HT, HR, HGr⟩ := hrel
        have r3 := HR.out.c3
        have fzr := HR.out.fz
        by_cases hs : s.rng ≤ 65536
        · obtain ⟨k1, k2, k3, k4⟩ := HS.out
          have htk : s.tk ≤ m.tk + 1 := HT.out.2 hs
          have hb0 := hp.out.b s.tk
          have e1 := wrap_i64 (x := s.rng * 256) (by omega) (by omega)
          have e2 := wrap_i64 (x := s.val * 256) (by omega) (by omega)
          have e3 := wrap_i64 (x := s.val * 256 + p s.tk) (by omega) (by omega)
          have HR1 : Hid (Rf (wr.setCell ⟨b, 3, none⟩ (.int .i64 (s.rng * 256))) B b ao n cap p { s with rng := s.rng * 256 }) := HR.out.set3 _
          have d1 := HR1.out.c1
          have d4 := HR1.out.c4
          have tb : (s.tk : Int) ≤ 800001 := by omega
          have tb' : s.tk ≤ 900000 := by omega
          have HGo : Hid (s.grow p).Good ∨ True := .inr trivial
          clear HGo
          have HN : Hid (Rf (((wr.setCell ⟨b, 3, none⟩ (.int .i64 (s.rng * 256))).setCell ⟨b, 4, none⟩ (.int .i64 (s.val * 256 + p s.tk))).setCell ⟨b, 1, none⟩ (.int .i64 ((s.tk : Int) + 1))) B b ao n cap p (s.grow p)) := ((HR.out.set3 (s.rng * 256)).set4 (s.val * 256 + p s.tk)).set1 (s.tk + 1)
          go_wp2
          go_region_with (go_at_call 37; refine (rbyte _ B b ao n cap p _ s.tk hn tb' hp (by exact Rf.drew HR1.out)).mono ?_; rintro e w5 ⟨rfl, rfl⟩)
          all_goals (
            go_wp2
            go_roundw
            case rel => exact ⟨s.grow p, by rw [wide_grow k1 hs]; exact HW, ⟨by show 1 < s.rng * 256; omega, by show s.rng * 256 ≤ _; omega, by show 0 ≤ s.val * 256 + p s.tk; omega, by show s.val * 256 + p s.tk < s.rng * 256; omega⟩, ⟨fun hh => by have : s.rng * 256 ≤ 256 := hh; omega, fun hh => by have h1 : s.rng * 256 ≤ 65536 := hh; have := HT.out.1 (by omega); show s.tk + 1 ≤ _; omega⟩, HN.out.drew, grown_drew (grown_set (grown_set (grown_set HGr.out _) _) _)⟩
            case measure => rw [rngOf_at HN.out.drew, rngOf_at HR.out]; show (65537 - s.rng * 256).toNat < (65537 - s.rng).toNat; omega)
        · have hs' : 65536 < s.rng := by omega
          go_wp2
          go_end0
          have HE : s = s.wide p := by unfold Re.wide; rw [if_neg (by omega), if_neg (by omega)]
          exact ⟨rfl, by rw [← HW.out, ← HE]; exact HR.out, HGr.out⟩
    · exact absurd z2 (by omega)
    · have z3 : ¬ (m.val - u < 0) := by omega
      have z4 : ¬ (sr - 1 < m.val - u) := by omega
      go_enter Tryd.func15, Tryd.ntmps15
      go_wp2
      go_region
      go_wp2
      have HRF : Hid (Rf _ B b ao n cap p ⟨sr, m.val - u, m.tk, m.nb⟩) := ((h.out.set4 (m.val - u)).set3 sr).drew
      have HGW : Hid _ := grown_drew (grown_set (grown_set (grown_refl w (some b)) (o := 4) (.int .i64 (m.val - u))) (o := 3) (.int .i64 sr))
      go_loopw [] (fun wr => ∃ s : Re, Hid (s.wide p = Re.wide ⟨sr, m.val - u, m.tk, m.nb⟩ p) ∧ Hid (1 < s.rng ∧ s.rng ≤ 16777216 ∧ 0 ≤ s.val ∧ s.val < s.rng) ∧ Hid ((s.rng ≤ 256 → s.tk ≤ m.tk) ∧ (s.rng ≤ 65536 → s.tk ≤ m.tk + 1)) ∧ Hid (Rf wr B b ao n cap p s) ∧ Hid (w.grownBy wr (some b))) (fun wr => rngOf wr b)
      case atStart => exact ⟨⟨sr, m.val - u, m.tk, m.nb⟩, rfl, ⟨HC.out.2.2.1, HC.out.2.2.2, HC.out.1, HC.out.2.1⟩, ⟨fun _ => Nat.le_refl _, fun _ => Nat.le_succ _⟩, HRF, HGW⟩
      case round =>
        obtain ⟨s, HW, HS, HT, HR, HGr⟩ := hrel
        have r3 := HR.out.c3
        have fzr := HR.out.fz
        by_cases hs : s.rng ≤ 65536
        · obtain ⟨k1, k2, k3, k4⟩ := HS.out
          have htk : s.tk ≤ m.tk + 1 := HT.out.2 hs
          have hb0 := hp.out.b s.tk
          have e1 := wrap_i64 (x := s.rng * 256) (by omega) (by omega)
          have e2 := wrap_i64 (x := s.val * 256) (by omega) (by omega)
          have e3 := wrap_i64 (x := s.val * 256 + p s.tk) (by omega) (by omega)
          have HR1 : Hid (Rf (wr.setCell ⟨b, 3, none⟩ (.int .i64 (s.rng * 256))) B b ao n cap p { s with rng := s.rng * 256 }) := HR.out.set3 _
          have d1 := HR1.out.c1
          have d4 := HR1.out.c4
          have tb : (s.tk : Int) ≤ 800001 := by omega
          have tb' : s.tk ≤ 900000 := by omega
          have HGo : Hid (s.grow p).Good ∨ True := .inr trivial
          clear HGo
          have HN : Hid (Rf (((wr.setCell ⟨b, 3, none⟩ (.int .i64 (s.rng * 256))).setCell ⟨b, 4, none⟩ (.int .i64 (s.val * 256 + p s.tk))).setCell ⟨b, 1, none⟩ (.int .i64 ((s.tk : Int) + 1))) B b ao n cap p (s.grow p)) := ((HR.out.set3 (s.rng * 256)).set4 (s.val * 256 + p s.tk)).set1 (s.tk + 1)
          go_wp2
          go_region_with (go_at_call 37; refine (rbyte _ B b ao n cap p _ s.tk hn tb' hp (by exact Rf.drew HR1.out)).mono ?_; rintro e w5 ⟨rfl, rfl⟩)
          all_goals (
            go_wp2
            go_roundw
            case rel => exact ⟨s.grow p, by rw [wide_grow k1 hs]; exact HW, ⟨by show 1 < s.rng * 256; omega, by show s.rng * 256 ≤ _; omega, by show 0 ≤ s.val * 256 + p s.tk; omega, by show s.val * 256 + p s.tk < s.rng * 256; omega⟩, ⟨fun hh => by have : s.rng * 256 ≤ 256 := hh; omega, fun hh => by have h1 : s.rng * 256 ≤ 65536 := hh; have := HT.out.1 (by omega); show s.tk + 1 ≤ _; omega⟩, HN.out.drew, grown_drew (grown_set (grown_set (grown_set HGr.out _) _) _)⟩
            case measure => rw [rngOf_at HN.out.drew, rngOf_at HR.out]; show (65537 - s.rng * 256).toNat < (65537 - s.rng).toNat; omega)
        · have hs' : 65536 < s.rng := by omega
          go_wp2
          go_end0
          have HE : s = s.wide p := by unfold Re.wide; rw [if_neg (by omega), if_neg (by omega)]
          exact ⟨rfl, by rw [← HW.out, ← HE]; exact HR.out, HGr.out⟩
  · rw [if_neg hyt] at hgg
    have hyt2 : (y == t) = false := by simp [hyt]
    rcases hsv with ⟨z1, rfl⟩ | ⟨z1, z2, rfl⟩ | ⟨z1, z2, rfl⟩
    · have z3 : (0 : Int) ≤ sr - 1 := by omega
      go_enter Tryd.func15, Tryd.ntmps15
      go_wp2
      go_region
      go_wp2
      have HRF : Hid (Rf _ B b ao n cap p ⟨sr, 0, m.tk, m.nb⟩) := (((h.out.set4 (m.val - u)).set4 0).set3 sr).drew
      have HGW : Hid _ := grown_drew (grown_set (grown_set (grown_set (grown_refl w (some b)) (o := 4) (.int .i64 (m.val - u))) (o := 4) (.int .i64 0)) (o := 3) (.int .i64 sr))
      clear z3
      go_loopw [] (fun wr => ∃ s : Re, Hid (s.wide p = Re.wide ⟨sr, 0, m.tk, m.nb⟩ p) ∧ Hid (1 < s.rng ∧ s.rng ≤ 16777216 ∧ 0 ≤ s.val ∧ s.val < s.rng) ∧ Hid ((s.rng ≤ 256 → s.tk ≤ m.tk) ∧ (s.rng ≤ 65536 → s.tk ≤ m.tk + 1)) ∧ Hid (Rf wr B b ao n cap p s) ∧ Hid (w.grownBy wr (some b))) (fun wr => rngOf wr b)
      case atStart => exact ⟨⟨sr, 0, m.tk, m.nb⟩, rfl, ⟨HC.out.2.2.1, HC.out.2.2.2, HC.out.1, HC.out.2.1⟩, ⟨fun _ => Nat.le_refl _, fun _ => Nat.le_succ _⟩, HRF, HGW⟩
      case round =>
        obtain ⟨s, HW, HS, HT, HR, HGr⟩ := hrel
        have r3 := HR.out.c3
        have fzr := HR.out.fz
        by_cases hs : s.rng ≤ 65536
        · obtain ⟨k1, k2, k3, k4⟩ := HS.out
          have htk : s.tk ≤ m.tk + 1 := HT.out.2 hs
          have hb0 := hp.out.b s.tk
          have e1 := wrap_i64 (x := s.rng * 256) (by omega) (by omega)
          have e2 := wrap_i64 (x := s.val * 256) (by omega) (by omega)
          have e3 := wrap_i64 (x := s.val * 256 + p s.tk) (by omega) (by omega)
          have HR1 : Hid (Rf (wr.setCell ⟨b, 3, none⟩ (.int .i64 (s.rng * 256))) B b ao n cap p { s with rng := s.rng * 256 }) := HR.out.set3 _
          have d1 := HR1.out.c1
          have d4 := HR1.out.c4
          have tb : (s.tk : Int) ≤ 800001 := by omega
          have tb' : s.tk ≤ 900000 := by omega
          have HGo : Hid (s.grow p).Good ∨ True := .inr trivial
          clear HGo
          have HN : Hid (Rf (((wr.setCell ⟨b, 3, none⟩ (.int .i64 (s.rng * 256))).setCell ⟨b, 4, none⟩ (.int .i64 (s.val * 256 + p s.tk))).setCell ⟨b, 1, none⟩ (.int .i64 ((s.tk : Int) + 1))) B b ao n cap p (s.grow p)) := ((HR.out.set3 (s.rng * 256)).set4 (s.val * 256 + p s.tk)).set1 (s.tk + 1)
          go_wp2
          go_region_with (go_at_call 37; refine (rbyte _ B b ao n cap p _ s.tk hn tb' hp (by exact Rf.drew HR1.out)).mono ?_; rintro e w5 ⟨rfl, rfl⟩)
          all_goals (
            go_wp2
            go_roundw
            case rel => exact ⟨s.grow p, by rw [wide_grow k1 hs]; exact HW, ⟨by show 1 < s.rng * 256; omega, by show s.rng * 256 ≤ _; omega, by show 0 ≤ s.val * 256 + p s.tk; omega, by show s.val * 256 + p s.tk < s.rng * 256; omega⟩, ⟨fun hh => by have : s.rng * 256 ≤ 256 := hh; omega, fun hh => by have h1 : s.rng * 256 ≤ 65536 := hh; have := HT.out.1 (by omega); show s.tk + 1 ≤ _; omega⟩, HN.out.drew, grown_drew (grown_set (grown_set (grown_set HGr.out _) _) _)⟩
            case measure => rw [rngOf_at HN.out.drew, rngOf_at HR.out]; show (65537 - s.rng * 256).toNat < (65537 - s.rng).toNat; omega)
        · have hs' : 65536 < s.rng := by omega
          go_wp2
          go_end0
          have HE : s = s.wide p := by unfold Re.wide; rw [if_neg (by omega), if_neg (by omega)]
          exact ⟨rfl, by rw [← HW.out, ← HE]; exact HR.out, HGr.out⟩
    · have z3 : ¬ (m.val - u < 0) := by omega
      go_enter Tryd.func15, Tryd.ntmps15
      go_wp2
      go_region
      go_wp2
      have HRF : Hid (Rf _ B b ao n cap p ⟨sr, sr - 1, m.tk, m.nb⟩) := (((h.out.set4 (m.val - u)).set3 sr).drew.set4 (sr - 1))
      have HGW : Hid _ := grown_set (grown_drew (grown_set (grown_set (grown_refl w (some b)) (o := 4) (.int .i64 (m.val - u))) (o := 3) (.int .i64 sr))) (o := 4) (.int .i64 (sr - 1))
      go_loopw [] (fun wr => ∃ s : Re, Hid (s.wide p = Re.wide ⟨sr, sr - 1, m.tk, m.nb⟩ p) ∧ Hid (1 < s.rng ∧ s.rng ≤ 16777216 ∧ 0 ≤ s.val ∧ s.val < s.rng) ∧ Hid ((s.rng ≤ 256 → s.tk ≤ m.tk) ∧ (s.rng ≤ 65536 → s.tk ≤ m.tk + 1)) ∧ Hid (Rf wr B b ao n cap p s) ∧ Hid (w.grownBy wr (some b))) (fun wr => rngOf wr b)
      case atStart => exact ⟨⟨sr, sr - 1, m.tk, m.nb⟩, rfl, ⟨HC.out.2.2.1, HC.out.2.2.2, HC.out.1, HC.out.2.1⟩, ⟨fun _ => Nat.le_refl _, fun _ => Nat.le_succ _⟩, HRF, HGW⟩
      case round =>
        obtain ⟨s, HW, HS, HT, HR, HGr⟩ := hrel
        have r3 := HR.out.c3
        have fzr := HR.out.fz
        by_cases hs : s.rng ≤ 65536
        · obtain ⟨k1, k2, k3, k4⟩ := HS.out
          have htk : s.tk ≤ m.tk + 1 := HT.out.2 hs
          have hb0 := hp.out.b s.tk
          have e1 := wrap_i64 (x := s.rng * 256) (by omega) (by omega)
          have e2 := wrap_i64 (x := s.val * 256) (by omega) (by omega)
          have e3 := wrap_i64 (x := s.val * 256 + p s.tk) (by omega) (by omega)
          have HR1 : Hid (Rf (wr.setCell ⟨b, 3, none⟩ (.int .i64 (s.rng * 256))) B b ao n cap p { s with rng := s.rng * 256 }) := HR.out.set3 _
          have d1 := HR1.out.c1
          have d4 := HR1.out.c4
          have tb : (s.tk : Int) ≤ 800001 := by omega
          have tb' : s.tk ≤ 900000 := by omega
          have HGo : Hid (s.grow p).Good ∨ True := .inr trivial
          clear HGo
          have HN : Hid (Rf (((wr.setCell ⟨b, 3, none⟩ (.int .i64 (s.rng * 256))).setCell ⟨b, 4, none⟩ (.int .i64 (s.val * 256 + p s.tk))).setCell ⟨b, 1, none⟩ (.int .i64 ((s.tk : Int) + 1))) B b ao n cap p (s.grow p)) := ((HR.out.set3 (s.rng * 256)).set4 (s.val * 256 + p s.tk)).set1 (s.tk + 1)
          go_wp2
          go_region_with (go_at_call 37; refine (rbyte _ B b ao n cap p _ s.tk hn tb' hp (by exact Rf.drew HR1.out)).mono ?_; rintro e w5 ⟨rfl, rfl⟩)
          all_goals (
            go_wp2
            go_roundw
            case rel => exact ⟨s.grow p, by rw [wide_grow k1 hs]; exact HW, ⟨by show 1 < s.rng * 256; omega, by show s.rng * 256 ≤ _; omega, by show 0 ≤ s.val * 256 + p s.tk; omega, by show s.val * 256 + p s.tk < s.rng * 256; omega⟩, ⟨fun hh => by have : s.rng * 256 ≤ 256 := hh; omega, fun hh => by have h1 : s.rng * 256 ≤ 65536 := hh; have := HT.out.1 (by omega); show s.tk + 1 ≤ _; omega⟩, HN.out.drew, grown_drew (grown_set (grown_set (grown_set HGr.out _) _) _)⟩
            case measure => rw [rngOf_at HN.out.drew, rngOf_at HR.out]; show (65537 - s.rng * 256).toNat < (65537 - s.rng).toNat; omega)
        · have hs' : 65536 < s.rng := by omega
          go_wp2
          go_end0
          have HE : s = s.wide p := by unfold Re.wide; rw [if_neg (by omega), if_neg (by omega)]
          exact ⟨rfl, by rw [← HW.out, ← HE]; exact HR.out, HGr.out⟩
    · have z3 : ¬ (m.val - u < 0) := by omega
      have z4 : ¬ (sr - 1 < m.val - u) := by omega
      go_enter Tryd.func15, Tryd.ntmps15
      go_wp2
      go_region
      go_wp2
      have HRF : Hid (Rf _ B b ao n cap p ⟨sr, m.val - u, m.tk, m.nb⟩) := ((h.out.set4 (m.val - u)).set3 sr).drew
      have HGW : Hid _ := grown_drew (grown_set (grown_set (grown_refl w (some b)) (o := 4) (.int .i64 (m.val - u))) (o := 3) (.int .i64 sr))
      go_loopw [] (fun wr => ∃ s : Re, Hid (s.wide p = Re.wide ⟨sr, m.val - u, m.tk, m.nb⟩ p) ∧ Hid (1 < s.rng ∧ s.rng ≤ 16777216 ∧ 0 ≤ s.val ∧ s.val < s.rng) ∧ Hid ((s.rng ≤ 256 → s.tk ≤ m.tk) ∧ (s.rng ≤ 65536 → s.tk ≤ m.tk + 1)) ∧ Hid (Rf wr B b ao n cap p s) ∧ Hid (w.grownBy wr (some b))) (fun wr => rngOf wr b)
      case atStart => exact ⟨⟨sr, m.val - u, m.tk, m.nb⟩, rfl, ⟨HC.out.2.2.1, HC.out.2.2.2, HC.out.1, HC.out.2.1⟩, ⟨fun _ => Nat.le_refl _, fun _ => Nat.le_succ _⟩, HRF, HGW⟩
      case round =>
        obtain ⟨s, HW, HS, HT, HR, HGr⟩ := hrel
        have r3 := HR.out.c3
        have fzr := HR.out.fz
        by_cases hs : s.rng ≤ 65536
        · obtain ⟨k1, k2, k3, k4⟩ := HS.out
          have htk : s.tk ≤ m.tk + 1 := HT.out.2 hs
          have hb0 := hp.out.b s.tk
          have e1 := wrap_i64 (x := s.rng * 256) (by omega) (by omega)
          have e2 := wrap_i64 (x := s.val * 256) (by omega) (by omega)
          have e3 := wrap_i64 (x := s.val * 256 + p s.tk) (by omega) (by omega)
          have HR1 : Hid (Rf (wr.setCell ⟨b, 3, none⟩ (.int .i64 (s.rng * 256))) B b ao n cap p { s with rng := s.rng * 256 }) := HR.out.set3 _
          have d1 := HR1.out.c1
          have d4 := HR1.out.c4
          have tb : (s.tk : Int) ≤ 800001 := by omega
          have tb' : s.tk ≤ 900000 := by omega
          have HGo : Hid (s.grow p).Good ∨ True := .inr trivial
          clear HGo
          have HN : Hid (Rf (((wr.setCell ⟨b, 3, none⟩ (.int .i64 (s.rng * 256))).setCell ⟨b, 4, none⟩ (.int .i64 (s.val * 256 + p s.tk))).setCell ⟨b, 1, none⟩ (.int .i64 ((s.tk : Int) + 1))) B b ao n cap p (s.grow p)) := ((HR.out.set3 (s.rng * 256)).set4 (s.val * 256 + p s.tk)).set1 (s.tk + 1)
          go_wp2
          go_region_with (go_at_call 37; refine (rbyte _ B b ao n cap p _ s.tk hn tb' hp (by exact Rf.drew HR1.out)).mono ?_; rintro e w5 ⟨rfl, rfl⟩)
          all_goals (
            go_wp2
            go_roundw
            case rel => exact ⟨s.grow p, by rw [wide_grow k1 hs]; exact HW, ⟨by show 1 < s.rng * 256; omega, by show s.rng * 256 ≤ _; omega, by show 0 ≤ s.val * 256 + p s.tk; omega, by show s.val * 256 + p s.tk < s.rng * 256; omega⟩, ⟨fun hh => by have : s.rng * 256 ≤ 256 := hh; omega, fun hh => by have h1 : s.rng * 256 ≤ 65536 := hh; have := HT.out.1 (by omega); show s.tk + 1 ≤ _; omega⟩, HN.out.drew, grown_drew (grown_set (grown_set (grown_set HGr.out _) _) _)⟩
            case measure => rw [rngOf_at HN.out.drew, rngOf_at HR.out]; show (65537 - s.rng * 256).toNat < (65537 - s.rng).toNat; omega)
        · have hs' : 65536 < s.rng := by omega
          go_wp2
          go_end0
          have HE : s = s.wide p := by unfold Re.wide; rw [if_neg (by omega), if_neg (by omega)]
          exact ⟨rfl, by rw [← HW.out, ← HE]; exact HR.out, HGr.out⟩

/-- .. whatever is handed in. -/
theorem rftakeU (w : World) (B b : Nat) (ao : Option Addr) (n cap : Nat) (p : Nat → Int) (m : Re) (x y t : Int) (hn : n ≤ 100000) (hk : m.tk ≤ 800000) (hp : Hid (Bx n p)) (hg : Hid m.Good) (h : Hid (Rf w B b ao n cap p m)) :
    Calls Tryd.prog 15 #[.pointer (some ⟨b, 0, none⟩), .int .i64 x, .int .i64 y, .int .i64 t] w fun e w' => e = .returned (.tuple #[]) ∧ Rf w' B b ao n cap p (m.takeU p x y t) ∧ w.grownBy w' (some b) := by
  unfold Re.takeU
  by_cases hm : 0 ≤ x ∧ x < y ∧ y ≤ t ∧ t ≤ 4096
  · rw [if_pos hm]; exact rftake w B b ao n cap p m x y t hn hk hp hg hm h
  · rw [if_neg hm]
    refine (rftake_bad w b x y t hm).mono ?_
    rintro e w' ⟨rfl, rfl⟩
    exact ⟨rfl, h.out, grown_refl _ _⟩

end Go.Proofs.YtiejdlapgppbkaaDoor
