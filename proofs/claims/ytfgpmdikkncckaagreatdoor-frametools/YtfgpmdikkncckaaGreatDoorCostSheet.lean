/-
  What fill and join of package cost do: they work out one row of a sheet. Nothing that was there is turned but the sheet's own block.
-/
import Derived.Test.YtfgpmdikkncckaaGreatDoorCostCalls
import Derived.Test.YtfgpmdikkncckaaGreatDoorTableNew
namespace Go.Proofs.YtfgpmdikkncckaaGreatDoor
set_option linter.unusedVariables false
open Go.ChangeShapes Go.WideShapes Go.ChangeAt Go.RowKit

theorem vI_at' {n k : Nat} (hn : n ≤ 16) (hk : k ≤ 32) : vI n k = vv n k := by unfold vI; rw [if_pos (by omega)]; rfl
set_option maxHeartbeats 1000000 in
/-- greatest, of a table. -/
theorem great_tab (w : World) (b : Nat) (n : Nat) (h1 : 1 ≤ n) (h2 : n ≤ 8) (hT : Hid (TabAt w b)) :
    Calls Tryz.prog 95 #[.iface 90 (.pointer (some ⟨b, 0, none⟩)), .int .i64 n] w fun e w' => e = .returned (.int .i64 (cap n : Nat)) ∧ w' = w := by
  have HC : Hid (gr n 33 = cap n) := gr_is h1 h2
  go_enter Tryz.func95, Tryz.ntmps95
  go_wp2
  go_loopw [5, 7] (fun m i wr => wr = w ∧ ∃ q m0 : Nat, q ≤ 33 ∧ m0 ≤ 33 ∧ i = .int .i64 q ∧ m = .int .i64 m0 ∧ Hid (gr n q = m0)) (fun _ i _ => 33 - (intOf i).toNat)
  case atStart => exact ⟨rfl, 0, 0, by omega, by omega, rfl, rfl, rfl⟩
  case round =>
    obtain ⟨hw, q, m0, hq, hm0, rfl, rfl, HM⟩ := hrel
    obtain rfl := hw.symm
    clear hw
    by_cases hlt : q < 33
    · have hlt' : (q : Int) < 33 := by omega
      have HV : Hid (vI n q = vv n q) := vI_at' (by omega) (by omega)
      have HS : Hid (gr n (q + 1) = if vv n q ≤ 1048576 then q else gr n q) := by show gr n (q + 1) = _; rw [gr]
      obtain ⟨v, hv⟩ : ∃ v, vv n q = v := ⟨_, rfl⟩
      rw [hv] at HV HS
      clear hv
      by_cases hc : v ≤ 1048576
      · have hc' : (v : Int) ≤ 1048576 := by omega
        go_wp2_with (go_at_call 97; refine (tv_any _ b _ _ hT).mono ?_; rw [HV.out]; rintro e w2 ⟨rfl, hw⟩; obtain rfl := hw.symm; clear hw)
        go_roundw
        case rel => exact ⟨trivial, q + 1, q, by omega, by omega, by go_num, rfl, by show _ = _; rw [HS.out, if_pos hc]⟩
        case measure => simp [intOf]; omega
      · have hc' : ¬ (v : Int) ≤ 1048576 := by omega
        go_wp2_with (go_at_call 97; refine (tv_any _ b _ _ hT).mono ?_; rw [HV.out]; rintro e w2 ⟨rfl, hw⟩; obtain rfl := hw.symm; clear hw)
        go_roundw
        case rel => exact ⟨trivial, q + 1, m0, by omega, by omega, by go_num, rfl, by show _ = _; rw [HS.out, if_neg hc]; exact HM.out⟩
        case measure => simp [intOf]; omega
    · obtain rfl : q = 33 := by omega
      go_wp2
      go_returns
      exact ⟨by rw [← HC.out, HM.out]; rfl, rfl⟩

/-- What stands at place j of a sheet, when so many greatest numbers and rows are there, and the next row up to q pulses. -/
def sfA (m j : Nat) : Nat := if j < m then cap j else 0
def sfB (m q n k : Nat) : Nat := if n < m ∨ (n = m ∧ k ≤ q) then bt n k else 0
def sf (m1 m2 q j : Nat) : Nat := if j < 17 then sfA m1 j else sfB m2 q ((j - 17) / 33) ((j - 17) % 33)
theorem sf_cap {m1 m2 q j : Nat} (hj : j < 17) (h : j < m1) : sf m1 m2 q j = cap j := by unfold sf sfA; rw [if_pos hj, if_pos h]
theorem sf_bt {m1 m2 q n k : Nat} (hk : k ≤ 32) (h : n < m2) : sf m1 m2 q (17 + n * 33 + k) = bt n k := by
  have e1 : (17 + n * 33 + k - 17) / 33 = n := by omega
  have e2 : (17 + n * 33 + k - 17) % 33 = k := by omega
  unfold sf sfB
  rw [if_neg (by omega), e1, e2, if_pos (.inl h)]
theorem sf_most {m j : Nat} (hm : m < 17) : sf (m + 1) m 0 j = if j = m then cap m else sf m m 0 j := by
  by_cases e : j = m
  · subst e
    rw [if_pos rfl, sf_cap hm (by omega)]
  · rw [if_neg e]
    unfold sf
    by_cases h : j < 17
    · rw [if_pos h, if_pos h]
      unfold sfA
      by_cases l : j < m
      · rw [if_pos l, if_pos (by omega)]
      · rw [if_neg l, if_neg (by omega)]
    · rw [if_neg h, if_neg h]
theorem sf_row {m q j : Nat} (hq : q < 32) : sf (m + 1) m (q + 1) j = if j = 17 + m * 33 + (q + 1) then bt m (q + 1) else sf (m + 1) m q j := by
  by_cases h : j = 17 + m * 33 + (q + 1)
  · subst h
    rw [if_pos rfl]
    have e1 : (17 + m * 33 + (q + 1) - 17) / 33 = m := by omega
    have e2 : (17 + m * 33 + (q + 1) - 17) % 33 = q + 1 := by omega
    unfold sf sfB
    rw [if_neg (by omega), e1, e2, if_pos (.inr ⟨rfl, Nat.le_refl _⟩)]
  · rw [if_neg h]
    unfold sf
    by_cases h17 : j < 17
    · rw [if_pos h17, if_pos h17]
    · rw [if_neg h17, if_neg h17]
      unfold sfB
      by_cases a : (j - 17) / 33 < m ∨ ((j - 17) / 33 = m ∧ (j - 17) % 33 ≤ q)
      · rw [if_pos a, if_pos (by omega)]
      · rw [if_neg a, if_neg (by omega)]
theorem sf_end {m j : Nat} (hm : m ≤ 15) (hj : j < 578) : sf (m + 1) m (cap m) j = sf (m + 1) (m + 1) 0 j := by
  unfold sf
  by_cases h17 : j < 17
  · rw [if_pos h17, if_pos h17]
  · rw [if_neg h17, if_neg h17]
    have hk : (j - 17) % 33 ≤ 32 := by omega
    generalize (j - 17) / 33 = n
    generalize (j - 17) % 33 = k at *
    by_cases a : n < m
    · rw [sfB, if_pos (.inl a), sfB, if_pos (.inl (by omega))]
    · by_cases b : n = m
      · subst b
        have e : sfB (n + 1) 0 n k = bt n k := if_pos (.inl (by omega))
        rw [e]
        by_cases c : k ≤ cap n
        · exact if_pos (.inr ⟨rfl, c⟩)
        · rw [bt_out (by omega) hk (by omega)]; exact if_neg (by omega)
      · have e : sfB m (cap m) n k = 0 := if_neg (by omega)
        rw [e]
        by_cases c : n = m + 1 ∧ k ≤ 0
        · have e : sfB (m + 1) 0 n k = bt n k := if_pos (.inr c)
          rw [e]
          obtain ⟨rfl, c⟩ := c
          obtain rfl : k = 0 := by omega
          exact (cap_bd (by omega)).2.1.symm
        · exact (if_neg (by omega)).symm
theorem sf_end16 {j : Nat} (hj : j < 578) : sf 17 16 (cap 16) j = sf 17 17 0 j := by
  unfold sf
  by_cases h17 : j < 17
  · rw [if_pos h17, if_pos h17]
  · rw [if_neg h17, if_neg h17]
    have hk : (j - 17) % 33 ≤ 32 := by omega
    have hn : (j - 17) / 33 ≤ 16 := by omega
    generalize (j - 17) / 33 = n at *
    generalize (j - 17) % 33 = k at *
    by_cases a : n < 16
    · rw [sfB, if_pos (.inl a), sfB, if_pos (.inl (by omega))]
    · obtain rfl : n = 16 := by omega
      have e : sfB 17 0 16 k = bt 16 k := if_pos (.inl (by omega))
      rw [e]
      by_cases c : k ≤ cap 16
      · exact if_pos (.inr ⟨rfl, c⟩)
      · rw [bt_out (by omega) hk (by omega)]; exact if_neg (by omega)
theorem chk_noneS : all2 1 578 (fun _ j => Nat.beq (sf 1 1 0 j) 0) = true := by kernel_rfl
theorem sf_none {j : Nat} (hj : j < 578) : sf 1 1 0 j = 0 := Nat.eq_of_beq_eq_true (all2_at chk_noneS (n := 0) (by omega) hj)

/-- A sheet at block b, so far. -/
structure SB (w : World) (b m1 m2 q : Nat) : Prop where
  blk : ∃ L : Array Value, w.heap[b]? = some (.cells L 132 (0, 0)) ∧ L.size = 578
  at_ : ∀ j, j < 578 → w.cell? ⟨b, j, none⟩ = some (.int .i64 (sf m1 m2 q j : Nat))
theorem SB.same {w w' : World} {b m1 m2 q : Nat} (h : SB w b m1 m2 q) (hb : w'.heap[b]? = w.heap[b]?) : SB w' b m1 m2 q := by
  obtain ⟨L, hc, hl⟩ := h.blk
  refine ⟨⟨L, hb.trans hc, hl⟩, fun j hj => ?_⟩
  rw [World.cell?_of_block (a := ⟨b, j, none⟩) hb]
  exact h.at_ j hj
theorem SB.lt {w : World} {b m1 m2 q : Nat} (h : SB w b m1 m2 q) : b < w.heap.size := block_lt_of_cell (h.at_ 0 (by omega))
theorem SB.free {w : World} {b m1 m2 q : Nat} (h : SB w b m1 m2 q) (j : Nat) : w.frozen? ⟨b, j, none⟩ = false := by
  obtain ⟨L, hc, hl⟩ := h.blk
  exact frozen_of_row w b j L _ hc
theorem SB.drewN {w : World} {b m1 m2 q : Nat} (h : SB w b m1 m2 q) (d : Nat) : SB (w.drewN d) b m1 m2 q := h.same rfl
theorem SB.set {w : World} {b m1 m2 q m1' m2' q' i : Nat} (h : SB w b m1 m2 q) (hi : i < 578) (v : Nat) (hs : ∀ j, j < 578 → sf m1' m2' q' j = if j = i then v else sf m1 m2 q j) : SB (w.setCell ⟨b, i, none⟩ (.int .i64 v)) b m1' m2' q' := by
  obtain ⟨L, hc, hl⟩ := h.blk
  have hb := heap_setCell_same w b i L _ (.int .i64 v) hc
  refine ⟨⟨_, hb, by simp [hl]⟩, fun j hj => ?_⟩
  rw [cell_of_row _ _ _ _ _ _ hb, Array.getElem?_setIfInBounds, hs j hj]
  by_cases e : i = j
  · subst e
    rw [if_pos rfl, if_pos (by omega), if_pos rfl]
  · rw [if_neg e, if_neg (fun e' => e e'.symm)]
    have := h.at_ j hj
    rw [cell_of_row _ _ _ _ _ _ hc] at this
    exact this
theorem grown_set {w w' : World} {b : Nat} (h : w.grownBy w' (some b)) (i : Nat) (v : Value) : w.grownBy (w'.setCell ⟨b, i, none⟩ v) (some b) :=
  ⟨h.os, h.tape, h.output, by simpa using h.size, fun k hk hne => (Below.heap_setCell _ _ _ _ (by intro e; exact hne (by rw [e]))).trans (h.block k hk hne)⟩
end Go.Proofs.YtfgpmdikkncckaaGreatDoor
