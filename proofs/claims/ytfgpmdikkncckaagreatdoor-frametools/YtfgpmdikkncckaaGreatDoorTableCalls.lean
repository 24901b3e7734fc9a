/-
  What V, first, ahead, pulsesOf of package table do over a table that lies in memory: they compute alone. Nothing is turned.
-/
import Derived.Test.YtfgpmdikkncckaaGreatDoorTableMath
import Derived.Test.YtfgpmdikkncckaaGreatDoorMrgK
namespace Go.Proofs.YtfgpmdikkncckaaGreatDoor
set_option linter.unusedVariables false
open Go.ChangeShapes Go.WideShapes Go.ChangeAt Go.RowKit

/-- The row of the vectors of n numbers lies in block b from offset o on. -/
def RowAt (w : World) (b o n : Nat) : Prop := ∀ k, k ≤ 32 → w.cell? ⟨b, o + k, none⟩ = some (.int .u64 (vv n k : Nat))
/-- A table lies at block b. -/
def TabAt (w : World) (b : Nat) : Prop := ∀ n, n ≤ 16 → RowAt w b (n * 33) n

section
variable {w w' : World} {b o n : Nat}
theorem TabAt.cell (h : TabAt w b) {n k : Nat} (hn : n ≤ 16) (hk : k ≤ 32) : w.cell? ⟨b, n * 33 + k, none⟩ = some (.int .u64 (vv n k : Nat)) := h n hn k hk
theorem TabAt.lt (h : TabAt w b) : b < w.heap.size := block_lt_of_cell (h.cell (n := 0) (k := 0) (by omega) (by omega))
theorem TabAt.same (h : TabAt w b) (hb : w'.heap[b]? = w.heap[b]?) : TabAt w' b := by
  intro n hn k hk
  rw [World.cell?_of_block (a := ⟨b, n * 33 + k, none⟩) hb]
  exact h n hn k hk
theorem TabAt.kept {row : Option Nat} (h : TabAt w b) (hg : w.grownBy w' row) (hne : some b ≠ row) : TabAt w' b := h.same (hg.block b h.lt hne)
theorem TabAt.keep (h : TabAt w b) (hg : w.grownBy w' none) : TabAt w' b := h.kept hg (by simp)
theorem TabAt.below (h : TabAt w b) (hb : Below w.heap.size w w') : TabAt w' b := h.same (hb.block b h.lt)
theorem TabAt.alloc (h : TabAt w b) (o : Obj) : TabAt (w.alloc o) b := h.keep (World.grownBy_alloc w o none)
theorem TabAt.drewN (h : TabAt w b) (d : Nat) : TabAt (w.drewN d) b := h
/-- A list's cell lies in another block. -/
theorem TabAt.apart (h : TabAt w b) {g q : Nat} {x : Int} (hq : q ≤ 32) (hc : w.cell? ⟨g, q, none⟩ = some (.int .i64 x)) : b ≠ g := by
  intro e
  subst e
  have := h.cell (n := 0) (k := q) (by omega) hq
  rw [Nat.zero_mul, Nat.zero_add, hc] at this
  cases this
theorem TabAt.gb {b' : Nat} {mo mo' : Option Nat} {S : Int → Int → Bool} (h : TabAt w b) (hB : BkAt w b' mo S) (hG : Gb w w' b' mo mo') : TabAt w' b := by
  intro n hn k hk
  exact cell_gb hB hG (h n hn k hk)
theorem TabAt.bk {b' : Nat} {mo mo' : Option Nat} (h : TabAt w b) (hB : Bk w b' mo) (hG : Gb w w' b' mo mo') : TabAt w' b := by
  obtain ⟨S, _, hB⟩ := hB
  exact h.gb hB hG
end

theorem tv_out (w : World) (b : Nat) (n k : Int) (h : Hid (¬ (0 ≤ n ∧ n ≤ 16 ∧ 0 ≤ k ∧ k ≤ 32))) : Calls Tryz.prog 97 #[.pointer (some ⟨b, 0, none⟩), .int .i64 n, .int .i64 k] w fun e w' => e = .returned (.int .u64 0) ∧ w' = w := by
  by_cases h1 : n < 0
  · go_enter Tryz.func97, Tryz.ntmps97
    go_wp2
    go_returns
    exact ⟨rfl, rfl⟩
  · by_cases h2 : 16 < n
    · go_enter Tryz.func97, Tryz.ntmps97
      go_wp2
      go_returns
      exact ⟨rfl, rfl⟩
    · by_cases h3 : k < 0
      · go_enter Tryz.func97, Tryz.ntmps97
        go_wp2
        go_returns
        exact ⟨rfl, rfl⟩
      · have h4 : 32 < k := by have := h.out; omega
        go_enter Tryz.func97, Tryz.ntmps97
        go_wp2
        go_returns
        exact ⟨rfl, rfl⟩
theorem tv_in (w : World) (b n k : Nat) (hn : n ≤ 16) (hk : k ≤ 32) (h : Hid (TabAt w b)) : Calls Tryz.prog 97 #[.pointer (some ⟨b, 0, none⟩), .int .i64 n, .int .i64 k] w fun e w' => e = .returned (.int .u64 (vv n k : Nat)) ∧ w' = w := by
  have hc := h.out.cell hn hk
  have h1 : ¬ (n : Int) < 0 := by omega
  have h2 : ¬ (16 : Int) < n := by omega
  have h3 : ¬ (k : Int) < 0 := by omega
  have h4 : ¬ (32 : Int) < k := by omega
  go_enter Tryz.func97, Tryz.ntmps97
  go_wp2
  go_returns
  exact ⟨rfl, rfl⟩

theorem tv_any (w : World) (b : Nat) (n k : Int) (h : Hid (TabAt w b)) : Calls Tryz.prog 97 #[.pointer (some ⟨b, 0, none⟩), .int .i64 n, .int .i64 k] w fun e w' => e = .returned (.int .u64 (vI n k : Nat)) ∧ w' = w := by
  by_cases hin : 0 ≤ n ∧ n ≤ 16 ∧ 0 ≤ k ∧ k ≤ 32
  · obtain ⟨a, rfl⟩ : ∃ a : Nat, n = a := ⟨n.toNat, by omega⟩
    obtain ⟨c, rfl⟩ : ∃ c : Nat, k = c := ⟨k.toNat, by omega⟩
    rw [vI_nat (by omega) (by omega)]
    exact tv_in w b a c (by omega) (by omega) h
  · rw [vI_out hin]
    exact tv_out w b n k hin

/-- ahead of a vector's first number. -/
theorem ahead_zero (w : World) (b : Nat) (n k j : Int) : Calls Tryz.prog 166 #[.pointer (some ⟨b, 0, none⟩), .int .i64 n, .int .i64 k, .int .i64 j, .int .i64 0] w fun e w' => e = .returned (.int .u64 0) ∧ w' = w := by
  go_enter Tryz.func166, Tryz.ntmps166
  go_wp2
  go_returns
  exact ⟨rfl, rfl⟩
set_option maxHeartbeats 1000000 in
theorem ahead_less (w : World) (b N k j : Nat) (z : Int) (hN : N ≤ 16) (hk : k ≤ 32) (hj : j ≤ 32) (hz : z < 0) (h : Hid (TabAt w b)) (A : Nat) (hA : Hid (vv N k - vv N j = A)) (hle : Hid (vv N j ≤ vv N k)) :
    Calls Tryz.prog 166 #[.pointer (some ⟨b, 0, none⟩), .int .i64 N, .int .i64 k, .int .i64 j, .int .i64 z] w fun e w' => e = .returned (.int .u64 A) ∧ ∃ d, w' = w.drewN d := by
  have c1 := h.out.cell (n := N) (k := k) (by omega) hk
  have c2 := h.out.cell (n := N) (k := j) (by omega) hj
  have b1 := vv_bd (n := N) (k := k) (by omega) hk
  have hle' := hle.out
  have hA' := hA.out
  clear hA hle
  generalize vv N k = X at *
  generalize vv N j = Y at *
  have HA : Hid ((X : Int) - Y = A) := by show _ = _; omega
  clear hA'
  have hz0 : ¬ z = 0 := by omega
  go_enter Tryz.func166, Tryz.ntmps166
  go_wp2
  go_region
  all_goals go_wp2
  all_goals go_returns
  all_goals exact ⟨by rw [HA.out]; rfl, 1, rfl⟩
set_option maxHeartbeats 1000000 in
theorem ahead_more (w : World) (b N k j : Nat) (z : Int) (hN1 : 1 ≤ N) (hN : N ≤ 16) (hk : k ≤ 32) (hj : j ≤ 32) (hz : 0 < z) (h : Hid (TabAt w b)) (A : Nat) (hA : Hid (vv N k - vv N j - vv (N - 1) j = A)) (hle : Hid (vv N j + vv (N - 1) j ≤ vv N k)) :
    Calls Tryz.prog 166 #[.pointer (some ⟨b, 0, none⟩), .int .i64 N, .int .i64 k, .int .i64 j, .int .i64 z] w fun e w' => e = .returned (.int .u64 A) ∧ ∃ d, w' = w.drewN d := by
  have c1 := h.out.cell (n := N) (k := k) (by omega) hk
  have c2 := h.out.cell (n := N) (k := j) (by omega) hj
  have c3 := h.out.cell (n := N - 1) (k := j) (by omega) hj
  have b1 := vv_bd (n := N) (k := k) (by omega) hk
  have hle' := hle.out
  have hA' := hA.out
  clear hA hle
  generalize vv N k = X at *
  generalize vv N j = Y at *
  generalize vv (N - 1) j = Z at *
  have HA : Hid ((X : Int) - Y - Z = A) := by show _ = _; omega
  clear hA'
  have hz0 : ¬ z = 0 := by omega
  have hz1 : ¬ z < 0 := by omega
  have hNz : (1 : Int) ≤ (N : Int) := by omega
  have eN : ((N : Int) - 1).toNat = N - 1 := by omega
  go_enter Tryz.func166, Tryz.ntmps166
  go_wp2
  go_region
  all_goals go_wp2
  all_goals go_returns
  all_goals exact ⟨by rw [HA.out]; rfl, 1, rfl⟩

set_option maxHeartbeats 1000000 in
/-- pulsesOf. -/
theorem pulsesOf_any (w : World) (ao : Option Addr) (n cap : Nat) (r : List Int) (hn : n ≤ 60) (hr : Hid (r.length = n)) (hw : Hid (WfL r)) (h : Hid (LAt w ao r)) :
    Calls Tryz.prog 165 #[.slice ao n cap] w fun e w' => e = .returned (.int .i64 (pulT r : Nat)) ∧ w' = w := by
  go_enter Tryz.func165, Tryz.ntmps165
  go_wp2
  go_loopw [3, 8] (fun s i wr => w = wr ∧ ∃ q : Nat, q ≤ n ∧ i = .int .i64 q ∧ ∃ s0 : Nat, s0 ≤ 33 ∧ Hid (pulT (r.take q) = s0) ∧ s = .int .i64 s0) (fun _ i _ => n - (intOf i).toNat)
  case atStart => exact ⟨rfl, 0, by omega, rfl, 0, by omega, rfl, rfl⟩
  case round =>
    obtain ⟨rfl, q, hq, rfl, s0, hs0, HS, rfl⟩ := hrel
    by_cases hlt : q < n
    · have hlt' : (q : Int) < (n : Int) := by omega
      obtain ⟨x, hx⟩ : ∃ x, r[q]? = some x := ⟨_, List.getElem?_eq_getElem (by rw [hr.out]; exact hlt)⟩
      obtain ⟨bl, off, rfl, c0⟩ := h.out q x hx
      obtain ⟨x0, x1⟩ := hw.out q x hx
      have HT : Hid _ := pul_take r q x hx
      have HP : Hid (x.natAbs ≤ pul r) := pul_at r q x hx
      clear hx
      by_cases h1 : x < -32
      · go_wp2
        go_returns
        exact ⟨by have := HP.out; rw [show pulT r = 33 by unfold pulT; omega]; rfl, rfl⟩
      · have h1' : decide (x < -32) = false := decide_eq_false h1
        by_cases h2 : 32 < x
        · go_wp2
          go_returns
          exact ⟨by have := HP.out; rw [show pulT r = 33 by unfold pulT; omega]; rfl, rfl⟩
        · obtain ⟨a, ha⟩ : ∃ a : Nat, a = x.natAbs := ⟨_, rfl⟩
          have HA : Hid (a = x.natAbs) := ha
          by_cases h3 : x < 0
          · have e3 : (a : Int) = -x := by omega
            clear ha
            by_cases h4 : s0 + a < 33
            · have h5 : (s0 : Int) + -x < 33 := by omega
              go_wp2
              go_roundw
              case rel => exact ⟨trivial, q + 1, by omega, by go_num, s0 + a, by omega, by show pulT _ = _; have e1 := HT.out; have e2 := HS.out; have e3 := HA.out; unfold pulT at e2 ⊢; omega, by go_num⟩
              case measure => simp [intOf]; omega
            · have h5 : ¬ (s0 : Int) + -x < 33 := by omega
              go_wp2
              go_roundw
              case rel => exact ⟨trivial, q + 1, by omega, by go_num, 33, by omega, by show pulT _ = _; have e1 := HT.out; have e2 := HS.out; have e3 := HA.out; unfold pulT at e2 ⊢; omega, by go_num⟩
              case measure => simp [intOf]; omega
          · have e3 : (a : Int) = x := by omega
            clear ha
            by_cases h4 : s0 + a < 33
            · have h5 : (s0 : Int) + x < 33 := by omega
              go_wp2
              go_roundw
              case rel => exact ⟨trivial, q + 1, by omega, by go_num, s0 + a, by omega, by show pulT _ = _; have e1 := HT.out; have e2 := HS.out; have e3 := HA.out; unfold pulT at e2 ⊢; omega, by go_num⟩
              case measure => simp [intOf]; omega
            · have h5 : ¬ (s0 : Int) + x < 33 := by omega
              go_wp2
              go_roundw
              case rel => exact ⟨trivial, q + 1, by omega, by go_num, 33, by omega, by show pulT _ = _; have e1 := HT.out; have e2 := HS.out; have e3 := HA.out; unfold pulT at e2 ⊢; omega, by go_num⟩
              case measure => simp [intOf]; omega
    · obtain rfl : q = n := by omega
      have HE : Hid (pulT r = s0) := by show _ = _; have := HS.out; rw [List.take_of_length_le (by rw [hr.out]; exact Nat.le_refl _)] at this; exact this
      go_wp2
      go_returns
      exact ⟨by rw [HE.out]; rfl, rfl⟩

set_option maxHeartbeats 1000000 in
/-- first: the first number of a rank's vector. -/
theorem tfirst_any (w : World) (b o n k i : Nat) (hn : n < 16) (hk : k ≤ 32) (hi : Hid (i < vv (n + 1) k)) (h : Hid (RowAt w b o n)) :
    Calls Tryz.prog 164 #[.pointer (some ⟨b, o, none⟩), .int .i64 k, .int .u64 i] w fun e w' => ∃ p a : Nat, e = .returned (.tuple #[.int .i64 (num p), .int .i64 ((p + 1) / 2 : Nat), .int .u64 a]) ∧ p ≤ 2 * k ∧ a = sm n k p ∧ a ≤ i ∧ i - a < vv n (k - (p + 1) / 2) ∧ ∃ d, w' = w.drewN d := by
  have hib : i ≤ 2460955893981184 := Nat.le_trans (Nat.le_of_lt hi.out) (vv_bd (by omega) hk)
  have c0 := h.out k hk
  have hvb := vv_bd (n := n) (k := k) (by omega) hk
  obtain ⟨v, hv⟩ : ∃ v, vv n k = v := ⟨_, rfl⟩
  have HV : Hid (vv n k = v) := hv
  rw [hv] at c0 hvb
  clear hv
  by_cases h0 : i < v
  · have h0' : (i : Int) < (v : Int) := by omega
    go_enter Tryz.func164, Tryz.ntmps164
    go_wp2
    go_returns
    exact ⟨0, 0, rfl, by omega, rfl, by omega, by show i < vv n k; rw [HV.out]; exact h0, 0, rfl⟩
  · have h0' : ¬ (i : Int) < (v : Int) := by omega
    go_enter Tryz.func164, Tryz.ntmps164
    go_wp2
    go_loopw [7, 8] (fun m a wr => w = wr ∧ ∃ m0 a0 : Nat, 1 ≤ m0 ∧ m0 ≤ k ∧ a0 ≤ i ∧ m = .int .i64 m0 ∧ a = .int .u64 a0 ∧ Hid (a0 = sm n k (2 * m0 - 1))) (fun m _ _ => k - (intOf m).toNat)
    case atStart => 
      refine ⟨rfl, 1, v, by omega, ?_, by omega, rfl, rfl, by show v = sm n k 1; rw [sm_one, HV.out]⟩
      have := first_at hn hk hi.out (p := 1) (by rw [sm_one, HV.out]; omega)
      omega
    case round =>
      obtain ⟨rfl, m0, a0, hm1, hmk, ha0, rfl, rfl, HA⟩ := hrel
      have c1 := h.out (k - m0) (by omega)
      have hub := vv_bd (n := n) (k := k - m0) (by omega) (by omega)
      obtain ⟨u, hu⟩ : ∃ u, vv n (k - m0) = u := ⟨_, rfl⟩
      have HU : Hid (vv n (k - m0) = u) := hu
      have H2 : Hid _ := sm_two n k m0 hm1
      rw [hu] at c1 hub
      clear hu
      have em : ((k : Int) - (m0 : Int)).toNat = k - m0 := by omega
      by_cases hgo : 2 * u ≤ i - a0
      · have hgo' : 2 * (u : Int) ≤ (i : Int) - (a0 : Int) := by omega
        have hmk2 : m0 < k := by
          have e1 := H2.out.1
          rw [HU.out, ← HA.out] at e1
          have := first_at hn hk hi.out (p := 2 * m0 + 1) (by omega)
          omega
        go_wp2
        go_roundw
        case rel =>
          have e1 := H2.out.1
          rw [HU.out, ← HA.out] at e1
          exact ⟨trivial, m0 + 1, a0 + 2 * u, by omega, by omega, by omega, by go_num, by go_num, by show a0 + 2 * u = sm n k (2 * (m0 + 1) - 1); rw [show 2 * (m0 + 1) - 1 = 2 * m0 + 1 by omega, e1]⟩
        case measure => simp [intOf]; omega
      · have hgo' : ¬ 2 * (u : Int) ≤ (i : Int) - (a0 : Int) := by omega
        by_cases hs : i - a0 < u
        · have hs' : (i : Int) - (a0 : Int) < (u : Int) := by omega
          go_wp2
          go_returns
          refine ⟨2 * m0 - 1, a0, ?_, by omega, HA.out, ha0, ?_, 0, rfl⟩
          · rw [num_odd m0 hm1, show (((2 * m0 - 1 : Nat) : Int) + 1) / 2 = (m0 : Int) by omega]; rfl
          · rw [show (2 * m0 - 1 + 1) / 2 = m0 by omega, HU.out]; exact hs
        · have hs' : ¬ (i : Int) - (a0 : Int) < (u : Int) := by omega
          go_wp2
          go_region
          all_goals go_wp2
          all_goals go_returns
          refine ⟨2 * m0, a0 + u, ?_, by omega, ?_, by omega, ?_, 1, rfl⟩
          · rw [num_even m0, show (2 * m0 + 1) / 2 = m0 by omega]; rfl
          · have e2 := H2.out.2
            rw [HU.out, ← HA.out] at e2
            exact e2.symm
          · rw [show (2 * m0 + 1) / 2 = m0 by omega, HU.out]; omega
end Go.Proofs.YtfgpmdikkncckaaGreatDoor
