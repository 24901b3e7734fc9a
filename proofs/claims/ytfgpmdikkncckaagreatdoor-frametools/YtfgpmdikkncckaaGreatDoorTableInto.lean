/-
  What Into of package table does over a table and a list of the call's own: the vector of a rank that there is is written into the list; else nothing is turned.
-/
import Derived.Test.YtfgpmdikkncckaaGreatDoorTableCalls
namespace Go.Proofs.YtfgpmdikkncckaaGreatDoor
set_option linter.unusedVariables false
open Go.ChangeShapes Go.WideShapes Go.ChangeAt Go.RowKit

theorem grown_drewN' (w : World) (d : Nat) (row : Option Nat) : w.grownBy (w.drewN d) row := ⟨rfl, rfl, rfl, Nat.le_refl _, fun _ _ _ => rfl⟩
theorem set_drop (pre : List Int) (r : List Int) (q : Nat) (x : Int) (hq : pre.length = q) (hn : q < r.length) : (pre ++ r.drop q).set q x = (pre ++ [x]) ++ r.drop (q + 1) := by
  subst hq
  rw [List.set_append_right _ _ (Nat.le_refl _), Nat.sub_self, List.drop_eq_getElem_cons hn, List.set_cons_zero]
  simp

theorem into_bad (w : World) (b : Nat) (ao : Option Addr) (n cap : Nat) (k : Int) (i : Nat) (hn : n ≤ 60) (hi : i ≤ 18446744073709551615) (hT : Hid (TabAt w b)) (hlt : Hid (¬ i < vI n k)) :
    Calls Tryz.prog 162 #[.pointer (some ⟨b, 0, none⟩), .slice ao n cap, .int .i64 k, .int .u64 i] w fun e w' => e = .returned (.bool false) ∧ w' = w := by
  have hb := vI_bd n k
  obtain ⟨v, hv⟩ : ∃ v, vI n k = v := ⟨_, rfl⟩
  have hlt' : (v : Int) ≤ (i : Int) := by have := hlt.out; omega
  have HV : Hid (vI n k = v) := hv
  rw [hv] at hb
  clear hv
  go_enter Tryz.func162, Tryz.ntmps162
  go_wp2_with fail
  refine (tv_any w b n k hT).mono ?_
  rw [HV.out]
  rintro e w1 ⟨rfl, hw1⟩
  obtain rfl := hw1.symm
  clear hw1
  go_wp2
  go_returns
  exact ⟨rfl, rfl⟩

set_option maxHeartbeats 2000000 in
theorem into_good (w : World) (b B : Nat) (v : Value) (r0 : List Int) (n k i : Nat) (hi : Hid (i < vv n k)) (hn : n ≤ 16) (hk : k ≤ 32) (hT : Hid (TabAt w b)) (hO : Hid (OwnL w B v r0)) (hr : Hid (r0.length = n)) :
    Calls Tryz.prog 162 #[.pointer (some ⟨b, 0, none⟩), v, .int .i64 k, .int .u64 i] w fun e w' => e = .returned (.bool true) ∧ ∃ r : List Int, OwnL w' B v r ∧ r.length = n ∧ pul r = k ∧ rk r k = i ∧ w.grownBy w' v.ownBlock := by
  have hib : i ≤ 2460955893981184 := Nat.le_trans (Nat.le_of_lt hi.out) (vv_bd hn hk)
  obtain ⟨ao, cap, hv, hc, hc2, hown⟩ := hO.out.slice
  rw [hr.out] at hv hc
  subst hv
  have hb := vv_bd hn hk
  obtain ⟨u, hu⟩ : ∃ u, vv n k = u := ⟨_, rfl⟩
  have hlt' : (i : Int) < (u : Int) := by have := hi.out; omega
  have HU : Hid (vv n k = u) := hu
  have hdec : decide (u ≤ i) = false := decide_eq_false (by omega)
  rw [hu] at hb
  clear hu hown
  unfold maxLen at hc2
  go_enter Tryz.func162, Tryz.ntmps162
  go_wp2_with fail
  refine (tv_in w b n k hn hk hT).mono ?_
  rw [HU.out]
  rintro e w1 ⟨rfl, hw1⟩
  obtain rfl := hw1.symm
  clear hw1
  go_wp2
  go_loopw [2, 3, 22] (fun kk s a wr => ∃ (q j s0 : Nat) (pre : List Int), q ≤ n ∧ j ≤ 32 ∧ s0 ≤ 2460955893981184 ∧ kk = .int .i64 j ∧ s = .int .u64 s0 ∧ a = .int .i64 q ∧ Hid (pre.length = q) ∧ Hid (pul pre + j = k) ∧ Hid (s0 < vv (n - q) j) ∧ Hid (∀ t, t.length = n - q → rk (pre ++ t) k + s0 = i + rk t j) ∧ Hid (OwnL wr B (.slice ao n cap) (pre ++ r0.drop q)) ∧ Hid (TabAt wr b) ∧ Hid (w.grownBy wr (Value.slice ao n cap).ownBlock)) (fun _ _ a _ => n - (intOf a).toNat)
  case atStart => exact ⟨0, k, i, [], by omega, hk, hib, rfl, rfl, rfl, rfl, by show 0 + k = k; omega, hi, fun t _ => Nat.add_comm _ _, hO, hT, grown_drewN' w 0 _⟩
  case round =>
    obtain ⟨q, j, s0, pre, hq, hj, hs0, rfl, rfl, rfl, HQ, HK, HS, HR, HO, HT, HG⟩ := hrel
    by_cases hlt : q < n
    · have hltz : (q : Int) < (n : Int) := by omega
      obtain ⟨g, cap', hv, _, _, _, _⟩ := HO.out.form (by rw [List.length_append, HQ.out]; have := hr.out; rw [List.length_drop]; omega)
      have hao : ao = some ⟨g, 0, none⟩ := by cases hv; rfl
      clear hv
      subst hao
      have HROW : Hid (RowAt wr b ((n - q - 1) * 33) (n - q - 1)) := HT.out _ (by omega)
      have hz1 : (0 : Int) ≤ (n : Int) - (q : Int) - 1 ∧ (n : Int) - (q : Int) - 1 < 17 := by omega
      have eN : ((n : Int) - (q : Int) - 1).toNat = n - q - 1 := by omega
      have hbg : b ≠ g := by
        obtain ⟨x, hx⟩ : ∃ x, (pre ++ r0.drop q)[q]? = some x := ⟨_, List.getElem?_eq_getElem (by rw [List.length_append, List.length_drop, HQ.out, hr.out]; omega)⟩
        exact HT.out.apart (by omega) (HO.out.cell hx)
      obtain ⟨x, hx⟩ : ∃ x, (pre ++ r0.drop q)[q]? = some x := ⟨_, List.getElem?_eq_getElem (by rw [List.length_append, List.length_drop, HQ.out, hr.out]; omega)⟩
      have c2 := HO.out.cell hx
      have f2 := HO.out.free q
      clear hx
      go_wp2_with fail
      refine (tfirst_any wr b ((n - q - 1) * 33) (n - q - 1) j s0 (by omega) hj (by show s0 < vv (n - q - 1 + 1) j; rw [show n - q - 1 + 1 = n - q by omega]; exact HS.out) HROW).mono ?_
      rintro e w2 ⟨p, a, rfl, hp, ha, ha2, hs2, d, rfl⟩
      have HA : Hid (a = sm (n - q - 1) j p) := ha
      have HS2 : Hid (s0 - a < vv (n - q - 1) (j - (p + 1) / 2)) := hs2
      obtain ⟨t, ht⟩ : ∃ t, (p + 1) / 2 = t := ⟨_, rfl⟩
      have HTT : Hid ((num p).natAbs = t) := by show (num p).natAbs = t; rw [num_abs, ht]
      have htj : t ≤ j := by omega
      rw [ht] at HS2 ⊢
      clear ha hs2 ht
      have htz : (t : Int) ≤ (j : Int) := by omega
      have haz : (a : Int) ≤ (s0 : Int) := by omega
      have hset := HO.out.set q (num p)
      have HO3 : Hid (OwnL ((wr.drewN d).setCell ⟨g, q, none⟩ (.int .i64 (num p))) B (.slice (some ⟨g, 0, none⟩) n cap) ((pre ++ [num p]) ++ r0.drop (q + 1))) := by
        have := hset.1
        rw [set_drop pre r0 q (num p) HQ.out (by rw [hr.out]; exact hlt)] at this
        exact this
      have HG3 : Hid (w.grownBy ((wr.drewN d).setCell ⟨g, q, none⟩ (.int .i64 (num p))) (Value.slice (some ⟨g, 0, none⟩) n cap).ownBlock) := by
        have h1 := HG.out
        have h2 := hset.2
        exact ⟨h2.os.trans h1.os, h2.tape.trans h1.tape, h2.output.trans h1.output, Nat.le_trans h1.size h2.size, fun i hi hne => (h2.block i (Nat.lt_of_lt_of_le hi h1.size) hne).trans (h1.block i hi hne)⟩
      have HT3 : Hid (TabAt ((wr.drewN d).setCell ⟨g, q, none⟩ (.int .i64 (num p))) b) := by
        have h2 := hset.2
        have h3 : wr.grownBy ((wr.drewN d).setCell ⟨g, q, none⟩ (.int .i64 (num p))) (some g) := ⟨h2.os, h2.tape, h2.output, h2.size, h2.block⟩
        exact HT.out.kept h3 (by simpa using hbg)
      clear hset
      go_wp2
      go_roundw
      case rel =>
        refine ⟨q + 1, j - t, s0 - a, pre ++ [num p], by omega, by omega, by omega, by go_num, by go_num, by go_num, ?_, ?_, ?_, ?_, HO3, HT3, HG3⟩
        · show (pre ++ [num p]).length = q + 1
          rw [List.length_append, HQ.out]; rfl
        · show pul (pre ++ [num p]) + (j - t) = k
          rw [pul_app]
          have h1 := HK.out
          have h2 := HTT.out
          simp only [pul]
          omega
        · exact HS2
        · intro u hu
          have h1 := HR.out (num p :: u) (by rw [List.length_cons, hu]; omega)
          rw [rk, hu, place_num, HTT.out, show n - (q + 1) = n - q - 1 by omega] at h1
          rw [List.append_assoc]
          have h2 := HA.out
          show rk (pre ++ num p :: u) k + (s0 - a) = i + rk u (j - t)
          omega
      case measure => simp [intOf]; omega
    · obtain rfl : q = n := by omega
      have hj0 : j = 0 := by
        have h1 := HS.out
        rw [Nat.sub_self] at h1
        by_cases h2 : j = 0
        · exact h2
        · obtain ⟨m, rfl⟩ : ∃ m, j = m + 1 := ⟨j - 1, by omega⟩
          rw [vv_none (by omega)] at h1
          omega
      subst hj0
      have hs00 : s0 = 0 := by
        have h1 := HS.out
        rw [Nat.sub_self, vv_one (by omega)] at h1
        omega
      subst hs00
      have HO3 : Hid (OwnL wr B (.slice ao q cap) pre) := by
        show OwnL _ _ _ _
        have := HO.out
        rw [List.drop_of_length_le (by rw [hr.out]; exact Nat.le_refl _), List.append_nil] at this
        exact this
      have HR3 : Hid (rk pre k = i) := by
        show rk pre k = i
        have := HR.out [] (by simp)
        rw [List.append_nil, rk] at this
        exact this
      have HP3 : Hid (pul pre = k) := by show pul pre = k; have := HK.out; omega
      go_wp2
      go_returns
      exact ⟨rfl, pre, HO3.out, HQ.out, HP3.out, HR3.out, HG.out⟩
end Go.Proofs.YtfgpmdikkncckaaGreatDoor
