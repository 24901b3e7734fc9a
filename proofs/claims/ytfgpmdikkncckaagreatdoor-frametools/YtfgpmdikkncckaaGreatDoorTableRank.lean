/-
  What Rank of package table does over a table that lies in memory: a right vector's rank, or none. Nothing is turned.
-/
import Derived.Test.YtfgpmdikkncckaaGreatDoorTableCalls
import Derived.Deep.DeepCutAuto
namespace Go.Proofs.YtfgpmdikkncckaaGreatDoor
set_option linter.unusedVariables false
open Go.ChangeShapes Go.WideShapes Go.ChangeAt Go.RowKit

theorem LAt.one {w : World} {b off q : Nat} {r : List Int} {x : Int} (h : LAt w (some ⟨b, off, none⟩) r) (hx : r[q]? = some x) : LAt w (some ⟨b, off + q, none⟩) [x] := by
  intro i y hy
  match i with
  | 0 =>
    simp at hy
    subst hy
    obtain ⟨b', off', e, c⟩ := h q x hx
    cases e
    exact ⟨b, off + q, rfl, c⟩
  | i + 1 => simp at hy

/-- .. of one number of a right vector. -/
theorem pulsesOf_one (w : World) (b off cap : Nat) (x : Int) (t : Nat) (ht : x.natAbs = t) (ht2 : t ≤ 32) (h : Hid (LAt w (some ⟨b, off, none⟩) [x])) :
    Calls Tryz.prog 165 #[.slice (some ⟨b, off, none⟩) 1 cap] w fun e w' => e = .returned (.int .i64 t) ∧ w' = w := by
  have := pulsesOf_any w (some ⟨b, off, none⟩) 1 cap [x] (by omega) rfl (WfL.pul (by simp only [pul]; omega)) h
  rw [show pulT [x] = t by simp only [pulT, pul]; omega] at this
  exact this

theorem tahead_any (w : World) (b : Nat) (z1 z2 z3 x : Int) (n k j : Nat) (h1 : Hid (z1 = (n : Int) + 1)) (h2 : Hid (z2 = k)) (h3 : Hid (z3 = j)) (hn : n < 16) (hk : k ≤ 32) (hj : Hid (j + x.natAbs = k)) (h : Hid (TabAt w b)) (A : Nat) (hA : Hid (sm n k (place x) = A)) :
    Calls Tryz.prog 166 #[.pointer (some ⟨b, 0, none⟩), .int .i64 z1, .int .i64 z2, .int .i64 z3, .int .i64 x] w fun e w' => e = .returned (.int .u64 A) ∧ ∃ d, w' = w.drewN d := by
  have e1 := h1.out
  have e2 := h2.out
  have e3 := h3.out
  have ej := hj.out
  have eA := hA.out
  subst e1 e2 e3 eA
  rw [show (n : Int) + 1 = ((n + 1 : Nat) : Int) by omega]
  have ej2 : j = k - x.natAbs := by omega
  by_cases hx : x = 0
  · subst hx
    rw [place_zero, sm]
    refine (ahead_zero w b _ _ _).mono ?_
    rintro e w' ⟨rfl, rfl⟩
    exact ⟨rfl, 0, rfl⟩
  · by_cases hneg : x < 0
    · have := ahead_neg hn hk hneg (by omega)
      rw [← ej2] at this
      exact ahead_less w b (n + 1) k j x (by omega) hk (by omega) hneg h _ this.1 this.2
    · have := ahead_pos hn hk (z := x) (by omega) (by omega)
      rw [← ej2] at this
      exact ahead_more w b (n + 1) k j x (by omega) (by omega) hk (by omega) (by omega) h _ this.1 this.2

/-- Rank of what is no right vector. -/
theorem trank_bad (w : World) (b : Nat) (ao : Option Addr) (n cap : Nat) (r : List Int) (hn : n ≤ 60) (hr : Hid (r.length = n)) (hw : Hid (WfL r)) (h : Hid (LAt w ao r)) (hbad : Hid (16 < n ∨ ¬ pul r ≤ 32)) :
    Calls Tryz.prog 163 #[.pointer (some ⟨b, 0, none⟩), .slice ao n cap] w fun e w' => e = .returned (.tuple #[.int .u64 0, .bool false]) ∧ w' = w := by
  by_cases h16 : 16 < n
  · have h16' : (16 : Int) < n := by omega
    go_enter Tryz.func163, Tryz.ntmps163
    go_wp2
    go_returns
    exact ⟨rfl, rfl⟩
  · have h16' : ¬ (16 : Int) < n := by omega
    have HK : Hid (pulT r = 33) := by show pulT r = 33; have := hbad.out; unfold pulT; omega
    go_enter Tryz.func163, Tryz.ntmps163
    go_wp2_with fail
    refine (pulsesOf_any _ ao n cap r hn hr hw h).mono ?_
    rw [HK.out]
    rintro e w1 ⟨rfl, hw1⟩
    obtain rfl := hw1.symm
    clear hw1
    go_wp2
    go_returns
    exact ⟨rfl, rfl⟩

set_option maxHeartbeats 2000000 in
/-- Rank of a right vector. -/
theorem trank_good (w : World) (b : Nat) (ao : Option Addr) (n cap : Nat) (r : List Int) (hn : n ≤ 16) (hc : n ≤ cap) (hc2 : cap ≤ 9223372036854775807) (hr : Hid (r.length = n)) (k : Nat) (hk : k ≤ 32) (hp : Hid (pul r = k)) (h : Hid (LAt w ao r)) (hT : Hid (TabAt w b)) :
    Calls Tryz.prog 163 #[.pointer (some ⟨b, 0, none⟩), .slice ao n cap] w fun e w' => e = .returned (.tuple #[.int .u64 (rk r k : Nat), .bool true]) ∧ ∃ d, w' = w.drewN d := by
  have hn' : ¬ (16 : Int) < n := by omega
  have hk' : ¬ (32 : Int) < k := by omega
  have hkd : decide (32 < k) = false := decide_eq_false (by omega)
  have HK : Hid (pulT r = k) := by show pulT r = k; have := hp.out; unfold pulT; omega
  have HW : Hid (WfL r) := WfL.pul (by have := hp.out; omega)
  have hRb := rk_bd r (by rw [hr.out]; exact hn) k hk hp.out
  obtain ⟨R, hR⟩ : ∃ R, rk r k = R := ⟨_, rfl⟩
  have HR : Hid (rk r k = R) := hR
  rw [hR] at hRb
  rw [hR]
  clear hR
  go_enter Tryz.func163, Tryz.ntmps163
  go_wp2_with fail
  refine (pulsesOf_any _ ao n cap r (by omega) hr HW h).mono ?_
  rw [HK.out]
  rintro e w1 ⟨rfl, hw1⟩
  obtain rfl := hw1.symm
  clear hw1
  go_wp2
  go_loopw [6, 7, 20] (fun kk s i wr => ∃ q j s0 d : Nat, q ≤ n ∧ j ≤ 32 ∧ kk = .int .i64 j ∧ i = .int .i64 q ∧ s = .int .u64 s0 ∧ s0 ≤ R ∧ wr = w.drewN d ∧ Hid (pul (r.drop q) = j) ∧ Hid (s0 + rk (r.drop q) j = R)) (fun _ _ i _ => n - (intOf i).toNat)
  case atStart => exact ⟨0, k, 0, 0, by omega, hk, rfl, rfl, rfl, by omega, rfl, hp, by show 0 + rk (r.drop 0) k = R; rw [List.drop_zero, HR.out]; omega⟩
  case round =>
    obtain ⟨q, j, s0, d, hq, hj, rfl, rfl, rfl, hs0, rfl, HJ, HS⟩ := hrel
    by_cases hlt : q < n
    · have hlt' : (q : Int) < (n : Int) := by omega
      obtain ⟨x, hx⟩ : ∃ x, r[q]? = some x := ⟨_, List.getElem?_eq_getElem (by rw [hr.out]; exact hlt)⟩
      obtain ⟨bl, off, rfl, c0⟩ := h.out q x hx
      have HL1 : Hid (LAt (w.drewN d) (some ⟨bl, off + q, none⟩) [x]) := h.out.one hx
      have HT1 : Hid (TabAt (w.drewN d) b) := hT.out
      have hxj : x.natAbs ≤ j := by have := pul_drop r q x hx; rw [HJ.out] at this; omega
      have HSX : Hid _ := rk_drop hx j
      have HPD : Hid _ := pul_drop r q x hx
      clear hx
      obtain ⟨t, ht⟩ : ∃ t, x.natAbs = t := ⟨_, rfl⟩
      have HXT : Hid (x.natAbs = t) := ht
      have htj : t ≤ j := by omega
      obtain ⟨A, hA⟩ : ∃ A, sm (n - q - 1) j (place x) = A := ⟨_, rfl⟩
      have HA : Hid (sm (n - q - 1) j (place x) = A) := hA
      have HJ2 : Hid (pul (r.drop (q + 1)) = j - t) := by show _ = _; have := HPD.out; rw [HJ.out] at this; omega
      have HS2 : Hid (s0 + A + rk (r.drop (q + 1)) (j - t) = R) := by
        show _ = _
        have := HS.out
        rw [HSX.out, hr.out, hA, ht] at this
        omega
      have hAb : s0 + A ≤ R := by have := HS2.out; omega
      clear ht hA hxj
      have hcq : ¬ cap = q := by omega
      have HQ : Hid ((n : Int) - q = ((n - q - 1 : Nat) : Int) + 1) := by show _ = _; omega
      have HT3 : Hid ((j : Int) - t = ((j - t : Nat) : Int)) := by show _ = _; omega
      go_wp2_with fail
      refine (pulsesOf_one (w.drewN d) bl (off + q) (cap - q) x t HXT.out (by omega) HL1).mono ?_
      rintro e w5 ⟨rfl, rfl⟩
      go_wp2_with fail
      refine (tahead_any (w.drewN d) b _ _ _ x (n - q - 1) j (j - t) HQ rfl HT3 (by omega) hj (by show _ = _; have := HXT.out; omega) HT1 A HA).mono ?_
      rintro e w5 ⟨rfl, d2, rfl⟩
      go_wp2
      go_roundw
      case rel => exact ⟨q + 1, j - t, s0 + A, d + d2, by omega, by omega, by rw [HT3.out], by go_num, by go_num, by omega, rfl, HJ2, HS2⟩
      case measure => simp [intOf]; omega
    · obtain rfl : q = n := by omega
      have HE : Hid (s0 = R) := by
        show s0 = R
        have := HS.out
        rw [List.drop_of_length_le (by rw [hr.out]; exact Nat.le_refl _), rk] at this
        exact this
      go_wp2
      go_returns
      exact ⟨by rw [HE.out]; rfl, d, rfl⟩
end Go.Proofs.YtfgpmdikkncckaaGreatDoor
