/-
  What back and Raw of package swift tell of a swift reader that lies somewhere: raw bits, whatever number of them is asked for. Nothing else is turned.
-/
import Derived.Test.YtiejdlapgppbkaaDoorSwiftCalls2
namespace Go.Proofs.YtiejdlapgppbkaaDoor
set_option linter.unusedVariables false
open Go.ChangeShapes Go.WideShapes Go.ChangeAt Go.RowKit

theorem SKept.drewN {w : World} {lo hi b n : Nat} {v : Value} {p : Nat → Int} (h : SKept w lo hi b v n p) (q : Nat) : SKept (w.drewN q) lo hi b v n p := h.kept (grown_N w q none) (by intro q e; cases e)
theorem drewN_N (w : World) (a q : Nat) : (w.drewN a).drewN q = w.drewN (a + q) := by simp

theorem skept_sm (w : World) (lo hi b n : Nat) (v : Value) (p : Nat → Int) (hn : n ≤ 1275) (h : Hid (SKept w lo hi b v n p)) :
    Calls Tryd.prog 49 #[.pointer (some ⟨b, 0, none⟩)] w fun e w' => e = .returned (.slice (some ⟨b, 5, none⟩) n 1275) ∧ ∃ q, w' = w.drewN q := by
  have h0 := h.out.c0
  have ni : (n : Int) ≤ 1275 := by omega
  have n1 : ¬ (1275 < (n : Int)) := by omega
  clear h hn
  go_enter Tryd.func49, Tryd.ntmps49
  go_wp2
  go_region
  go_wp2
  go_ret
  exact ⟨rfl, 1, rfl⟩
theorem skept_bg (w : World) (lo hi b n : Nat) (v : Value) (p : Nat → Int) (hn : 1275 < n) (h : Hid (SKept w lo hi b v n p)) :
    Calls Tryd.prog 49 #[.pointer (some ⟨b, 0, none⟩)] w fun e w' => e = .returned v ∧ ∃ q, w' = w.drewN q := by
  have h0 := h.out.c0
  have h6 := h.out.c6
  obtain ⟨ao, cap, rfl, _⟩ := (h.out.bg hn).slice
  have n1 : 1275 < (n : Int) := by omega
  clear h hn
  go_enter Tryd.func49, Tryd.ntmps49
  go_wp2
  go_ret
  exact ⟨rfl, 0, rfl⟩
/-- The bytes, as a slice that is told ahead. -/
theorem skept_at {w : World} {lo hi b n : Nat} {v : Value} {p : Nat → Int} (h : SKept w lo hi b v n p) :
    ∃ ao cap, n ≤ cap ∧ cap ≤ maxLen ∧ IntsAt w ao n .u8 p ∧ ∀ a, Calls Tryd.prog 49 #[.pointer (some ⟨b, 0, none⟩)] (w.drewN a) fun e w' => e = .returned (.slice ao n cap) ∧ ∃ q, w' = w.drewN q := by
  rcases h.ints with ⟨hn, hI⟩ | ⟨hn, ao, cap, rfl, hc1, hc2, hI⟩
  · refine ⟨_, _, hn, by unfold maxLen; omega, hI, fun a => (skept_sm _ lo hi b n v p hn (h.drewN a)).mono ?_⟩
    rintro e w' ⟨rfl, q, rfl⟩
    exact ⟨rfl, a + q, drewN_N _ _ _⟩
  · refine ⟨ao, cap, hc1, hc2, hI, fun a => (skept_bg _ lo hi b n _ p hn (h.drewN a)).mono ?_⟩
    rintro e w' ⟨rfl, q, rfl⟩
    exact ⟨rfl, a + q, drewN_N _ _ _⟩

set_option maxRecDepth 20000 in
/-- The byte that stands i ahead of the last one. -/
theorem sback (w : World) (lo hi b n : Nat) (v : Value) (p : Nat → Int) (i : Nat) (hn : n ≤ 100000) (hi9 : (i : Int) ≤ 900000) (hp : Hid (Bx n p)) (h : Hid (SKept w lo hi b v n p)) :
    Calls Tryd.prog 38 #[.pointer (some ⟨b, 0, none⟩), .int .i64 i] w fun e w' => e = .returned (.int .u32 (bq n p i)) ∧ ∃ q, w' = w.drewN q := by
  have h0 := h.out.c0
  have ni : (n : Int) ≤ 100000 := by omega
  unfold bq
  by_cases c : i < n
  · rw [if_pos c]
    obtain ⟨ao, cap, hc1, hc2, hI, HK⟩ := skept_at h.out
    obtain ⟨j, hj⟩ : ∃ j : Nat, (n : Int) - 1 - i = j := ⟨n - 1 - i, by omega⟩
    rw [show n - 1 - i = j by omega]
    obtain ⟨bb, off, rfl, hcl⟩ := hI j (by omega)
    have hb := hp.out.b j
    have w1 := wrap_u32 (x := p j) (by omega) (by omega)
    have c' : ¬ ((n : Int) ≤ i) := by omega
    have jn : (j : Int) < n := by omega
    have j0 : ¬ ((j : Int) < 0) := by omega
    have HKK : Hid _ := HK
    clear hI h c HK
    go_enter Tryd.func38, Tryd.ntmps38
    go_wp2
    go_quiet (first | (go_at_call 49; exact HKK.out _))
    go_wp2
    go_ret
    exact ⟨rfl, _, rfl⟩
  · rw [if_neg c]
    have c' : (n : Int) ≤ i := by omega
    clear h c
    go_enter Tryd.func38, Tryd.ntmps38
    go_wp2
    go_ret
    exact ⟨rfl, 0, rfl⟩

theorem and7_i64 {a : Int} (h1 : 0 ≤ a) (h2 : a ≤ 900000) : bits .and .i64 a 7 = a % 8 :=
  bits_mask .i64 40 (by decide) (fun n h0 hn => IntWalk.i64_in n (by omega)) 3 (by omega) a h1 (by omega)
theorem SKept.keep {w w' : World} {lo hi b n : Nat} {v : Value} {p : Nat → Int} (h : SKept w lo hi b v n p) (hg : w.grownBy w' none) : SKept w' lo hi b v n p := h.kept hg (by intro q e; cases e)
theorem or3 {a b c : Int} (ha : 0 ≤ a ∧ a ≤ 255) (hb : 0 ≤ b ∧ b ≤ 255) (hc : 0 ≤ c ∧ c ≤ 255) : bits BinOp.or IntKind.u32 a (b * 256) = a + b * 256 ∧ bits BinOp.or IntKind.u32 (a + b * 256) (c * 65536) = a + b * 256 + c * 65536 := by
  constructor
  · have h := or_u32 (x := a) (y := b) (e := 8) (by omega) (by omega) (by omega) (by omega) (by omega)
    rw [or_comm_u32]
    exact h.trans (Int.add_comm _ _)
  · have h := or_u32 (x := a + b * 256) (y := c) (e := 16) (by omega) (by omega) (by omega) (by omega) (by omega)
    rw [or_comm_u32]
    exact h.trans (Int.add_comm _ _)

set_option maxHeartbeats 1000000 in
set_option maxRecDepth 20000 in
theorem swraw (w : World) (lo hi b n : Nat) (p : Nat → Int) (m : Re) (c : Int) (hn : n ≤ 100000) (hl : m.nb ≤ 700000) (hp : Hid (Bx n p)) (h : Hid (SwAt w lo hi b n p m)) :
    Calls Tryd.prog 16 #[.pointer (some ⟨b, 0, none⟩), .int .i64 c] w fun e w' => e = .returned (.int .u32 (rsum n p m.nb (rawK c))) ∧ SwAt w' lo hi b n p (m.raw (rawK c)) ∧ w.grownBy w' (some b) := by
  obtain ⟨v, h⟩ := h
  have h4 := h.c4
  have fz := h.fz
  have hk := rawK_le c
  have hcase : (c ≤ 0 ∧ rawK c = 0) ∨ (0 < c ∧ 16 < c ∧ rawK c = 16) ∨ (0 < c ∧ c ≤ 16 ∧ c = (rawK c : Int)) := by
    unfold rawK
    by_cases z1 : c < 0
    · rw [if_pos z1]; omega
    · rw [if_neg z1]
      by_cases z2 : 16 < c
      · rw [if_pos z2]; omega
      · rw [if_neg z2]; omega
  generalize rawK c = k at *
  have HE : Hid (rsum n p m.nb k = three n p (m.nb / 8) / 2 ^ (m.nb % 8) % 2 ^ k) := rsum_three hp.out m.nb k hk
  rw [HE.out]
  have hq0 := bq_bd hp.out (m.nb / 8)
  have hq1 := bq_bd hp.out (m.nb / 8 + 1)
  have hq2 := bq_bd hp.out (m.nb / 8 + 2)
  have h3 := three_bd hp.out (m.nb / 8)
  obtain ⟨o1, o2⟩ := or3 hq0 hq1 hq2
  have B0 : Hid (∀ q, Calls Tryd.prog 38 #[.pointer (some ⟨b, 0, none⟩), .int .i64 ((m.nb / 8 : Nat) : Int)] (w.drewN q) fun e w' => e = .returned (.int .u32 (bq n p (m.nb / 8))) ∧ ∃ q, w' = w.drewN q) := fun q => (sback _ lo hi b n v p (m.nb / 8) hn (by omega) hp (h.kp.drewN q)).mono (by rintro e w' ⟨rfl, q', rfl⟩; exact ⟨rfl, _, drewN_N _ _ _⟩)
  have B1 : Hid (∀ q, Calls Tryd.prog 38 #[.pointer (some ⟨b, 0, none⟩), .int .i64 (((m.nb / 8 : Nat) : Int) + 1)] (w.drewN q) fun e w' => e = .returned (.int .u32 (bq n p (m.nb / 8 + 1))) ∧ ∃ q, w' = w.drewN q) := fun q => (sback _ lo hi b n v p (m.nb / 8 + 1) hn (by omega) hp (h.kp.drewN q)).mono (by rintro e w' ⟨rfl, q', rfl⟩; exact ⟨rfl, _, drewN_N _ _ _⟩)
  have B2 : Hid (∀ q, Calls Tryd.prog 38 #[.pointer (some ⟨b, 0, none⟩), .int .i64 (((m.nb / 8 : Nat) : Int) + 2)] (w.drewN q) fun e w' => e = .returned (.int .u32 (bq n p (m.nb / 8 + 2))) ∧ ∃ q, w' = w.drewN q) := fun q => (sback _ lo hi b n v p (m.nb / 8 + 2) hn (by omega) hp (h.kp.drewN q)).mono (by rintro e w' ⟨rfl, q', rfl⟩; exact ⟨rfl, _, drewN_N _ _ _⟩)
  have ej : (m.nb : Int) / 8 = ((m.nb / 8 : Nat) : Int) := by omega
  have ea : bits .and .i64 (m.nb : Int) 7 = ((m.nb % 8 : Nat) : Int) := by rw [and7_i64 (by omega) (by omega)]; omega
  have jb : ((m.nb / 8 : Nat) : Int) ≤ 100000 := by omega
  have s8 : ((m.nb % 8 : Nat) : Int) < 8 := by omega
  have eT : three n p (m.nb / 8) = bq n p (m.nb / 8) + bq n p (m.nb / 8 + 1) * 256 + bq n p (m.nb / 8 + 2) * 65536 := rfl
  rw [← eT] at o2
  have HH : Hid (SCells w lo hi b v n p m.rng m.val m.tk m.nb) := h
  have bb : (m.nb : Int) ≤ 700000 := by omega
  have hpos : (0 : Int) < 2 ^ (m.nb % 8) := Int.pow_pos (by decide)
  have y0 : 0 ≤ three n p (m.nb / 8) / 2 ^ (m.nb % 8) := Int.ediv_nonneg h3.1 (by omega)
  have y1 : three n p (m.nb / 8) / 2 ^ (m.nb % 8) ≤ three n p (m.nb / 8) := Int.ediv_le_self _ h3.1
  have HM : Hid (bits BinOp.and IntKind.u32 (three n p (m.nb / 8) / 2 ^ (m.nb % 8)) (2 ^ k - 1) = three n p (m.nb / 8) / 2 ^ (m.nb % 8) % 2 ^ k) := mask_u32 y0 (by omega) hk
  have kp : (2 : Int) ^ k ≤ 65536 := pow16 hk
  have kp0 : (0 : Int) < 2 ^ k := Int.pow_pos (by decide)
  generalize m.nb / 8 = j at *
  generalize m.nb % 8 = s at *
  generalize bq n p j = q0 at *
  generalize bq n p (j + 1) = q1 at *
  generalize bq n p (j + 2) = q2 at *
  generalize three n p j = T at *
  have w1 := wrap_u32 (x := q1 * 256) (by omega) (by omega)
  have w2 := wrap_u32 (x := q2 * 65536) (by omega) (by omega)
  have w1' : q1 * 256 % 4294967296 = q1 * 256 := by omega
  have w2' : q2 * 65536 % 4294967296 = q2 * 65536 := by omega
  have w3 : (2 : Int) ^ k % 4294967296 = 2 ^ k := by omega
  have w4 := wrap_u32 (x := (2 : Int) ^ k) (by omega) (by omega)
  have w5 := wrap_u32 (x := (2 : Int) ^ k - 1) (by omega) (by omega)
  have g0 : (w.drewN 1).cell? ⟨b, 4, none⟩ = some (.int .i64 m.nb) := h4
  clear h hpos eT
  go_enter Tryd.func16, Tryd.ntmps16
  rcases hcase with ⟨c1, rfl⟩ | ⟨c1, c2, ck⟩ | ⟨c1, c2, rfl⟩
  · have c3 : c ≤ 16 := by omega
    have e9 : bits BinOp.and IntKind.u32 (T / 2 ^ s) 0 = 0 := by have h := HM.out; rw [show (2 : Int) ^ 0 - 1 = 0 from rfl] at h; rw [h]; simp [Int.emod_one]
    have e8 : T / 2 ^ s % 2 ^ 0 = 0 := by simp [Int.emod_one]
    rw [e8]
    clear HM kp kp0 w3 w4 w5
    go_wp2
    go_region
    go_wp2_with fail
    refine (B0.out 1).mono ?_
    rintro e w1 ⟨rfl, q, rfl⟩
    go_wp2_with fail
    refine (B1.out q).mono ?_
    rintro e w1 ⟨rfl, q', rfl⟩
    go_wp2_with fail
    refine (B2.out q').mono ?_
    rintro e w1 ⟨rfl, q'', rfl⟩
    go_wp2
    go_region
    go_wp2
    go_ret
    exact ⟨rfl, ⟨v, ((HH.out.drewN q'').set4 _).drew⟩, grown_drew (grown_set (grown_N _ _ _) _)⟩
  · have e9 : bits BinOp.and IntKind.u32 (T / 2 ^ s) 65535 = T / 2 ^ s % 2 ^ k := by have := HM.out; rw [ck] at this ⊢; exact this
    have ck' : (k : Int) = 16 := by omega
    subst ck
    clear HM kp kp0 w3 w4 w5
    go_wp2
    go_region
    go_wp2_with fail
    refine (B0.out 1).mono ?_
    rintro e w1 ⟨rfl, q, rfl⟩
    go_wp2_with fail
    refine (B1.out q).mono ?_
    rintro e w1 ⟨rfl, q', rfl⟩
    go_wp2_with fail
    refine (B2.out q').mono ?_
    rintro e w1 ⟨rfl, q'', rfl⟩
    go_wp2
    go_region
    go_wp2
    go_ret
    exact ⟨rfl, ⟨v, ((HH.out.drewN q'').set4 _).drew⟩, grown_drew (grown_set (grown_N _ _ _) _)⟩
  · have e9 := HM.out
    have ck' : (k : Int) < 32 := by omega
    go_wp2
    go_region
    go_wp2_with fail
    refine (B0.out 1).mono ?_
    rintro e w1 ⟨rfl, q, rfl⟩
    go_wp2_with fail
    refine (B1.out q).mono ?_
    rintro e w1 ⟨rfl, q', rfl⟩
    go_wp2_with fail
    refine (B2.out q').mono ?_
    rintro e w1 ⟨rfl, q'', rfl⟩
    go_wp2
    go_region
    go_wp2
    go_ret
    exact ⟨rfl, ⟨v, ((HH.out.drewN q'').set4 _).drew⟩, grown_drew (grown_set (grown_N _ _ _) _)⟩

end Go.Proofs.YtiejdlapgppbkaaDoor
