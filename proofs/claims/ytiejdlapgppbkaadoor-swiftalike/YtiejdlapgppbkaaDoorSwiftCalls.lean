/-
  What TrailingZeros32 of package bits tells of a power of two, and what parts, kept, pair, Left, Rng and Get of package swift tell of a swift reader that lies somewhere. Nothing is turned.
-/
import Derived.Test.YtiejdlapgppbkaaDoorSwiftMem
import Derived.BigQuiet
import Derived.Deep.Draws
namespace Go.Proofs.YtiejdlapgppbkaaDoor
set_option linter.unusedVariables false
open Go.ChangeShapes Go.WideShapes Go.ChangeAt Go.RowKit

theorem tz_core (w : World) (t : Int) (k ix : Nat) (n0 : (t == 0) = false) (key : bits BinOp.and IntKind.u32 t (-t % 4294967296) * 125613361 % 4294967296 / 134217728 = (ix : Int)) (xi : (ix : Int) < 32) (ki : (k : Int) ≤ 24) (hc : w.cell? ⟨0, ix, none⟩ = some (.int .u8 k)) :
    Calls Tryd.prog 48 #[.int .u32 t] w fun e w' => e = .returned (.int .i64 k) ∧ w' = w := by
  go_enter Tryd.func48, Tryd.ntmps48
  go_wp2_with (simp only [key])
  go_ret
  exact ⟨rfl, rfl⟩
theorem tz_any (w : World) (t : Int) (k : Nat) (hk : k ≤ 24) (ht : Hid (t = 2 ^ k)) (t0 : 1 ≤ t) (h : Hid (Tz w)) :
    Calls Tryd.prog 48 #[.int .u32 t] w fun e w' => e = .returned (.int .i64 k) ∧ w' = w := by
  obtain ⟨key, hi, hf⟩ := tz_at hk
  have hc := h.out.cell hi
  rw [hf] at hc
  rw [← ht.out] at key
  exact tz_core w t k (tzIx k) (by simp; omega) key (by omega) (by omega) hc

theorem parts_any (w : World) (x t : Int) (x0 : 0 ≤ x) (x1 : x < 4294967296) (t0 : 1 ≤ t) (t1 : t ≤ 16777216) (h : Hid (Tz w)) :
    Calls Tryd.prog 35 #[.int .u32 x, .int .u32 t] w fun e w' => e = .returned (.int .u32 (x / t)) ∧ w' = w := by
  have w1 := wrap_u32 (x := t - 1) (by omega) (by omega)
  rcases two_or t0 t1 with ⟨k, hk, ht, hb⟩ | hb
  · have HT : Hid _ := ht
    have ki : (k : Int) < 32 := by omega
    have k0 : ¬ ((k : Int) < 0) := by omega
    clear ht
    go_enter Tryd.func35, Tryd.ntmps35
    go_wp2_with (go_at_call 48; refine (tz_any _ t k hk HT t0 h).mono ?_; rintro e w1 ⟨rfl, rfl⟩)
    go_ret
    exact ⟨by rw [HT.out]; rfl, rfl⟩
  · have hb' : (bits BinOp.and IntKind.u32 t (t - 1) == 0) = false := by simp; exact hb
    have e1 : x.tdiv t = x / t := Int.tdiv_eq_ediv_of_nonneg x0
    have q0 : 0 ≤ x / t := Int.ediv_nonneg x0 (by omega)
    have q1 : x / t ≤ x := Int.ediv_le_self _ x0
    have w2 := wrap_u32 (x := x / t) (by omega) (by omega)
    have n0 : ¬ (t = 0) := by omega
    clear hb
    go_enter Tryd.func35, Tryd.ntmps35
    go_wp2
    go_ret
    exact ⟨rfl, rfl⟩

/-- The bytes, as a slice. -/
theorem skept (w : World) (lo hi b n : Nat) (v : Value) (p : Nat → Int) (h : Hid (SKept w lo hi b v n p)) :
    Calls Tryd.prog 49 #[.pointer (some ⟨b, 0, none⟩)] w fun e w' => ∃ ao cap q, e = .returned (.slice ao n cap) ∧ n ≤ cap ∧ cap ≤ maxLen ∧ Hid (IntsAt w ao n .u8 p) ∧ w' = w.drewN q := by
  have h0 := h.out.c0
  have h6 := h.out.c6
  rcases h.out.ints with ⟨hn, hI⟩ | ⟨hn, ao, cap, rfl, hc1, hc2, hI⟩
  · have ni : (n : Int) ≤ 1275 := by omega
    have n1 : ¬ (1275 < (n : Int)) := by omega
    have HI : Hid _ := hI
    clear hI h hn
    go_enter Tryd.func49, Tryd.ntmps49
    go_wp2
    go_region
    go_wp2
    go_ret
    exact ⟨_, _, 1, rfl, by omega, by unfold maxLen; omega, HI, rfl⟩
  · have ni : 1275 < (n : Int) := by omega
    have HI : Hid _ := hI
    clear hI h
    go_enter Tryd.func49, Tryd.ntmps49
    go_wp2
    go_ret
    exact ⟨_, _, 0, rfl, hc1, hc2, HI, rfl⟩

set_option maxRecDepth 20000 in
/-- The next two bytes. -/
theorem spair (w : World) (lo hi b n : Nat) (v : Value) (p : Nat → Int) (r x : Int) (k l : Nat) (hn : n ≤ 100000) (hk : k ≤ 900000) (hp : Hid (Bx n p)) (h : Hid (SCells w lo hi b v n p r x k l)) :
    Calls Tryd.prog 50 #[.pointer (some ⟨b, 0, none⟩)] w fun e w' => e = .returned (.int .u32 (p k * 256 + p (k + 1))) ∧ ∃ q, w' = w.drewN q := by
  have h3 := h.out.c3
  have ni : (n : Int) ≤ 100000 := by omega
  have ki : (k : Int) ≤ 900000 := by omega
  have hb0 := hp.out.b k
  have hb1 := hp.out.b (k + 1)
  have HK : Hid _ := h.out.kp
  by_cases c1 : n ≤ k
  · have e0 : p k = 0 := hp.out.z k c1
    have e1 : p (k + 1) = 0 := hp.out.z (k + 1) (by omega)
    rw [e0, e1]
    have c1' : (n : Int) ≤ k := by omega
    clear h hb0 hb1
    go_enter Tryd.func50, Tryd.ntmps50
    go_wp2_with (go_at_call 49; refine (skept _ lo hi b n v p HK).mono ?_; rintro e w1 ⟨ao, cap, q, rfl, hc1, hc2, HI, rfl⟩)
    go_ret
    exact ⟨rfl, _, rfl⟩
  · have c1' : ¬ ((n : Int) ≤ k) := by omega
    have w1 := wrap_u32 (x := p k) (by omega) (by omega)
    have w2 := wrap_u32 (x := p k * 256) (by omega) (by omega)
    have w3 : p k * 256 % 4294967296 = p k * 256 := by omega
    by_cases c2 : k + 1 = n
    · have e1 : p (k + 1) = 0 := hp.out.z (k + 1) (by omega)
      have c2' : (k : Int) + 1 = n := by omega
      have c3 : (k : Int) < n := by omega
      rw [e1, Int.add_zero]
      go_enter Tryd.func50, Tryd.ntmps50
      go_wp2_with (go_at_call 49; refine (skept _ lo hi b n v p HK).mono ?_; rintro e w1 ⟨ao, cap, q, rfl, hc1, hc2, HI, rfl⟩; obtain ⟨bb, off, rfl, hcl⟩ := HI.out k (by omega))
      go_ret
      exact ⟨rfl, _, rfl⟩
    · have c2' : ((k : Int) + 1 == n) = false := by simp; omega
      have c3 : (k : Int) < n := by omega
      have c4 : (k : Int) + 1 < n := by omega
      have e1 : bits BinOp.or IntKind.u32 (p k * 256) (p (k + 1)) = p k * 256 + p (k + 1) := or_u32 (e := 8) (by omega) (by omega) hb0.1 (by omega) (by omega)
      have w4 := wrap_u32 (x := p (k + 1)) (by omega) (by omega)
      go_enter Tryd.func50, Tryd.ntmps50
      go_wp2_with (go_at_call 49; refine (skept _ lo hi b n v p HK).mono ?_; rintro e w1 ⟨ao, cap, q, rfl, hc1, hc2, HI, rfl⟩; obtain ⟨bb, off, rfl, hcl⟩ := HI.out k (by omega); obtain ⟨bb', off', e', hcl'⟩ := HI.out (k + 1) (by omega); cases e')
      go_ret
      exact ⟨rfl, _, rfl⟩

theorem swleft (w : World) (lo hi b n : Nat) (p : Nat → Int) (m : Re) (hn : n ≤ 100000) (hk : m.tk ≤ 900000) (hl : m.nb ≤ 900000) (h : Hid (SwAt w lo hi b n p m)) :
    Calls Tryd.prog 18 #[.pointer (some ⟨b, 0, none⟩)] w fun e w' => e = .returned (.int .i64 (m.left n)) ∧ w' = w.drew := by
  obtain ⟨v, h⟩ := h
  have h0 := h.kp.c0
  have h3 := h.c3
  have h4 := h.c4
  have ni : (n : Int) ≤ 100000 := by omega
  have ki : (m.tk : Int) ≤ 900000 := by omega
  have li : (m.nb : Int) ≤ 900000 := by omega
  have el : m.left n = 8 * ((n : Int) - m.tk) - m.nb := by unfold Re.left; omega
  rw [el]
  clear h el
  go_enter Tryd.func18, Tryd.ntmps18
  go_wp2
  go_region
  go_wp2
  go_ret
  exact ⟨rfl, rfl⟩

theorem swrng (w : World) (lo hi b n : Nat) (p : Nat → Int) (m : Re) (h : Hid (SwAt w lo hi b n p m)) :
    Calls Tryd.prog 20 #[.pointer (some ⟨b, 0, none⟩)] w fun e w' => e = .returned (.int .u32 m.rng) ∧ w' = w := by
  obtain ⟨v, h⟩ := h
  have h1 := h.c1
  clear h
  go_enter Tryd.func20, Tryd.ntmps20
  go_wp2
  go_ret
  exact ⟨rfl, rfl⟩

theorem swget (w : World) (lo hi b n : Nat) (p : Nat → Int) (m : Re) (t : Int) (hg : Hid m.Good) (h : Hid (SwAt w lo hi b n p m)) :
    Calls Tryd.prog 12 #[.pointer (some ⟨b, 0, none⟩), .int .i64 t] w fun e w' => e = .returned (.int .i64 (m.getU t)) ∧ w' = w := by
  obtain ⟨v, h⟩ := h
  have h1 := h.c1
  have h2 := h.c2
  have HT : Hid (Tz w) := h.kp.tz
  clear h
  unfold Re.getU
  by_cases ht : 1 ≤ t
  · by_cases ht2 : t ≤ 4096
    · rw [if_pos ⟨ht, ht2⟩]
      obtain ⟨g0, g1, g2⟩ := get_bd hg.out ht ht2
      have r1 := hg.out.r1
      have r2 := hg.out.r2
      have v0 := hg.out.v0
      have v1 := hg.out.v1
      have q0 : 0 ≤ m.val / (m.rng / t) := Int.ediv_nonneg v0 (by omega)
      have q1 : m.val / (m.rng / t) ≤ m.val := Int.ediv_le_self _ v0
      have q2 : m.rng / t ≤ m.rng := Int.ediv_le_self _ (by omega)
      unfold Re.get at *
      have c1 : Hid (∀ w, Tz w → Calls Tryd.prog 35 #[.int .u32 m.rng, .int .u32 t] w fun e w' => e = .returned (.int .u32 (m.rng / t)) ∧ w' = w) := fun w hw => parts_any w _ _ (by omega) (by omega) (by omega) (by omega) hw
      have c2 : Hid (∀ w, Tz w → Calls Tryd.prog 35 #[.int .u32 m.val, .int .u32 (m.rng / t)] w fun e w' => e = .returned (.int .u32 (m.val / (m.rng / t))) ∧ w' = w) := fun w hw => parts_any w _ _ (by omega) (by omega) (by omega) (by omega) hw
      generalize m.rng / t = q at *
      generalize m.val / q = s at *
      have w1 := wrap_u32 (x := t) (by omega) (by omega)
      by_cases hs : t - 1 < s
      · rw [if_pos hs]
        go_enter Tryd.func12, Tryd.ntmps12
        go_wp2_with fail
        refine (c1.out _ HT.out).mono ?_
        rintro e w1 ⟨rfl, rfl⟩
        go_wp2_with fail
        refine (c2.out _ HT.out).mono ?_
        rintro e w1 ⟨rfl, rfl⟩
        go_wp2
        go_ret
        exact ⟨rfl, rfl⟩
      · rw [if_neg hs]
        have hs' : s ≤ t - 1 := by omega
        go_enter Tryd.func12, Tryd.ntmps12
        go_wp2_with fail
        refine (c1.out _ HT.out).mono ?_
        rintro e w1 ⟨rfl, rfl⟩
        go_wp2_with fail
        refine (c2.out _ HT.out).mono ?_
        rintro e w1 ⟨rfl, rfl⟩
        go_wp2
        go_ret
        exact ⟨rfl, rfl⟩
    · rw [if_neg (by omega)]
      have ht3 : 4096 < t := by omega
      go_enter Tryd.func12, Tryd.ntmps12
      go_wp2
      go_ret
      exact ⟨rfl, rfl⟩
  · rw [if_neg (by omega)]
    have ht3 : t < 1 := by omega
    go_enter Tryd.func12, Tryd.ntmps12
    go_wp2
    go_ret
    exact ⟨rfl, rfl⟩

end Go.Proofs.YtiejdlapgppbkaaDoor
