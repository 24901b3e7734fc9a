/-
  What the document's own answers for layer 13 are: Len, Row, Cap and Bits of package spinetref13. They make lists of their own; nothing that was there is turned.
-/
import Derived.Test.YtfgpmdikkncckaaGreatDoorCostCalls
import Derived.Test.YtfgpmdikkncckaaGreatDoorMrgK
namespace Go.Proofs.YtfgpmdikkncckaaGreatDoor
set_option linter.unusedVariables false
open Go.ChangeShapes Go.WideShapes Go.ChangeAt Go.RowKit

/-- The document's row. -/
def rl (n : Nat) : List Int := (cr n).map (fun x : Nat => (x : Int))
theorem cr_len {n : Nat} (h1 : 1 ≤ n) (h2 : n ≤ 16) : (cr n).length = cap n + 1 := by
  have := (cap_bd (n := n) h2).2.2
  unfold cap at *
  omega
theorem rl_len {n : Nat} (h1 : 1 ≤ n) (h2 : n ≤ 16) : (rl n).length = cap n + 1 := by unfold rl; rw [List.length_map, cr_len h1 h2]
theorem rl_at {n k : Nat} (h1 : 1 ≤ n) (h2 : n ≤ 16) (hk : k ≤ cap n) : (rl n)[k]? = some ((bt n k : Nat) : Int) := by
  have hl := cr_len h1 h2
  unfold rl bt
  rw [List.getElem?_map, List.getD_eq_getElem?_getD, List.getElem?_eq_getElem (by omega)]
  rfl
theorem rl_take {n k : Nat} (h1 : 1 ≤ n) (h2 : n ≤ 16) (hk : k ≤ cap n) : (rl n).take k ++ [((bt n k : Nat) : Int)] = (rl n).take (k + 1) := by rw [List.take_add_one, rl_at h1 h2 hk]; rfl
theorem rl_all {n : Nat} (h1 : 1 ≤ n) (h2 : n ≤ 16) : (rl n).take (cap n + 1) = rl n := List.take_of_length_le (by rw [rl_len h1 h2]; exact Nat.le_refl _)
theorem row_grown {w w1 w2 : World} {row : Option Nat} (h : w.grownBy w1 none) (hg : w1.grownBy w2 row) (hr : ∀ q, row = some q → w.heap.size ≤ q) : w.grownBy w2 none :=
  ⟨hg.os.trans h.os, hg.tape.trans h.tape, hg.output.trans h.output, Nat.le_trans h.size hg.size, fun i hi _ => (hg.block i (Nat.lt_of_lt_of_le hi h.size) (fun e => by have := hr i e.symm; omega)).trans (h.block i hi (by simp))⟩

/-- Len. -/
theorem rlen_any (w : World) (x : Nat) (hx : x < 16777216) : Calls Tryz.prog 98 #[.int .u64 x] w fun e w' => e = .returned (.int .i64 (lenN x : Nat)) ∧ w' = w := by
  obtain ⟨l, hl⟩ : ∃ l, lenN x = l := ⟨_, rfl⟩
  have HL : Hid (lenF 24 x + 0 = l) := hl
  have hl24 := (lenN_spec hx).2.2
  rw [hl] at hl24 ⊢
  clear hl
  go_enter Tryz.func98, Tryz.ntmps98
  go_wp2
  go_loopw [0, 3] (fun y n wr => wr = w ∧ ∃ y0 m f : Nat, y0 ≤ 16777215 ∧ m + f = 24 ∧ Hid (y0 < 2 ^ f) ∧ y = .int .u64 y0 ∧ n = .int .i64 m ∧ Hid (lenF f y0 + m = l)) (fun y _ _ => (intOf y).toNat)
  case atStart => exact ⟨rfl, x, 0, 24, by omega, by omega, by show x < 2 ^ 24; omega, rfl, rfl, HL⟩
  case round =>
    obtain ⟨hw, y0, m, f, hy, hm, HY, rfl, rfl, HE⟩ := hrel
    obtain rfl := hw.symm
    clear hw
    by_cases h0 : y0 = 0
    · subst h0
      have HE2 : Hid (m = l) := by
        show m = l
        have := HE.out
        cases f with
        | zero => rw [lenF] at this; omega
        | succ f => rw [lenF, if_pos rfl] at this; omega
      go_wp2
      go_returns
      exact ⟨by rw [HE2.out]; rfl, rfl⟩
    · have h0' : (0 : Int) < (y0 : Int) := by omega
      obtain ⟨f', rfl⟩ : ∃ f', f = f' + 1 := by
        cases f with
        | zero => have := HY.out; simp at this; omega
        | succ f => exact ⟨f, rfl⟩
      have HE2 : Hid (lenF f' (y0 / 2) + (m + 1) = l) := by show _ = l; have := HE.out; rw [lenF, if_neg h0] at this; omega
      have HY2 : Hid (y0 / 2 < 2 ^ f') := by show _ < _; have := HY.out; rw [Nat.pow_succ] at this; omega
      go_wp2
      go_roundw
      case rel => exact ⟨trivial, y0 / 2, m + 1, f', by omega, by omega, HY2, by go_num, by go_num, HE2⟩
      case measure => simp [intOf]; omega

/-- Row, of no such numbers. -/
theorem rrow_out (w : World) (n : Int) (h : n < 1 ∨ 16 < n) : Calls Tryz.prog 78 #[.int .i64 n] w fun e w' => e = .returned (.slice none 0 0) ∧ w' = w := by
  by_cases h1 : n < 1
  · clear h
    go_enter Tryz.func78, Tryz.ntmps78
    go_wp2
    go_returns
    exact ⟨rfl, rfl⟩
  · have h2 : 16 < n := by omega
    clear h
    go_enter Tryz.func78, Tryz.ntmps78
    go_wp2
    go_returns
    exact ⟨rfl, rfl⟩

set_option maxHeartbeats 1000000 in
/-- Row, of numbers that aren't split. -/
theorem rrow_low (w : World) (n : Nat) (h1 : 1 ≤ n) (h2 : n ≤ 8) : Calls Tryz.prog 78 #[.int .i64 n] w fun e w' => ∃ g c : Nat, e = .returned (.slice (some ⟨g, 0, none⟩) (cap n + 1 : Nat) c) ∧ OwnL w' w.heap.size (.slice (some ⟨g, 0, none⟩) (cap n + 1 : Nat) c) (rl n) ∧ Below w.heap.size w w' := by
  obtain ⟨hc0, hb0, _⟩ := cap_bd (n := n) (by omega)
  have HALL : Hid _ := rl_all (n := n) h1 (by omega)
  have HZ : Hid _ := rl_take (n := n) (k := 0) h1 (by omega) (by omega)
  rw [hb0] at HZ
  obtain ⟨C, hC⟩ : ∃ C, cap n = C := ⟨_, rfl⟩
  have HC : Hid (cap n = C) := hC
  rw [hC] at hc0 HALL ⊢
  clear hC hb0
  have a1 : ¬ (n : Int) < 1 := by omega
  have a2 : ¬ (16 : Int) < (n : Int) := by omega
  go_enter Tryz.func78, Tryz.ntmps78
  go_wp2_with (at_builtin; refine wpList_pushL rfl _ _ rfl w.heap.size (.slice none 0 0) [] rfl (OwnL.nil _ _) w.heap.size 0 rfl (heap_alloc_new _ _) (by decide) (by simp) ?_; intro g0 c0 w1 k1 k2 k3 k4)
  have HO1 : Hid (OwnL w1 w.heap.size (.slice (some ⟨g0, 0, none⟩) 1 c0) ((rl n).take 1)) := by
    have := HZ.out
    rw [List.take_zero, Nat.zero_add] at this
    show OwnL w1 w.heap.size _ _
    rw [← this]
    exact k1
  have HB1 : Hid (Below w.heap.size w w1) := gN_below (row_grown (World.grownBy_alloc w _ none) k2 (fun q e => by cases e))
  clear k1 k2 k3 k4
  go_loopw [3, 4] (fun v i wr => ∃ k c g : Nat, 1 ≤ k ∧ k ≤ C + 1 ∧ i = .int .i64 k ∧ v = .slice (some ⟨g, 0, none⟩) k c ∧ Hid (OwnL wr w.heap.size (.slice (some ⟨g, 0, none⟩) k c) ((rl n).take k)) ∧ Hid (Below w.heap.size w wr)) (fun _ i _ => 34 - (intOf i).toNat)
  case atStart => exact ⟨1, c0, g0, by omega, by omega, rfl, rfl, HO1, HB1⟩
  case round =>
    clear HO1 HB1
    obtain ⟨k, c, g, hk1, hk2, rfl, rfl, HO, HB⟩ := hrel
    by_cases hk : k ≤ 32
    · have hk' : (k : Int) ≤ 32 := by omega
      have HV : Hid (vI n k = vv n k) := by show vI n k = vv n k; unfold vI; rw [if_pos (by omega)]; rfl
      have hm := may_is h1 h2 hk
      have hvb := vv_bd (n := n) (k := k) (by omega) hk
      have hv2 := v_two h1 h2 hk1 hk
      rw [HC.out] at hm
      by_cases hc : k ≤ C
      · have HR : Hid _ := rank_is h1 h2 hk1 (show k ≤ cap n by rw [HC.out]; exact hc)
        have HT : Hid _ := rl_take (n := n) (k := k) h1 (by omega) (show k ≤ cap n by rw [HC.out]; exact hc)
        have HTL : Hid (((rl n).take k).length = k) := by show _ = _; rw [List.length_take, rl_len h1 (by omega), HC.out]; omega
        have hbb := bt_bd (n := n) (k := k) (by omega) hk
        have hv3 := hm.2 hc
        generalize vv n k = v at *
        obtain ⟨y, hy⟩ : ∃ y, lenN (v - 1) = y := ⟨_, rfl⟩
        have HLN : Hid (∀ w, Calls Tryz.prog 98 #[.int .u64 ((v : Int) - 1)] w fun e w' => e = .returned (.int .i64 y) ∧ w' = w) := fun w => by
          have := rlen_any w (v - 1) (by omega)
          rw [hy] at this
          rw [show (v : Int) - 1 = ((v - 1 : Nat) : Int) by omega]
          exact this
        rw [hy] at HR
        have hyb : y ≤ 41 := by have := HR.out; omega
        have hv3' : ¬ (1048576 : Int) < (v : Int) := by omega
        have hv1' : (1 : Int) ≤ (v : Int) := by omega
        have HY : Hid ((((bt n k : Nat) : Int)) = (y : Int) + 1) := by show _ = _; have := HR.out; omega
        clear hy hm
        go_wp2_with (first
          | (go_at_call 56; refine (rv_any _ n k).mono ?_; rw [HV.out]; rintro e w2 ⟨rfl, hw⟩; obtain rfl := hw.symm; clear hw)
          | (go_at_call 98; refine (HLN.out _).mono ?_; rintro e w2 ⟨rfl, hw⟩; obtain rfl := hw.symm; clear hw)
          | (at_builtin; refine wpList_pushL rfl _ _ rfl w.heap.size (.slice (some ⟨g, 0, none⟩) k c) ((rl n).take k) rfl (HO.out.kept (World.grownBy_alloc wr _ none) (by simp [Value.ownBlock])) wr.heap.size ((y : Int) + 1) rfl (heap_alloc_new _ _) (by rw [HTL.out]; omega) (by have := HB.out.size; simp; omega) ?_; intro g2 c2 w2 k1 k2 k3 k4; rw [HTL.out] at k1 ⊢))
        have HO2 : Hid (OwnL w2 w.heap.size (.slice (some ⟨g2, 0, none⟩) ((k + 1 : Nat)) c2) ((rl n).take (k + 1))) := by
          show OwnL _ _ _ _
          rw [← HT.out, HY.out]
          exact k1
        have HB2 : Hid (Below w.heap.size w w2) := (HB.out.alloc HB.out.size _).grown k2 (by have := HB.out.size; simp; omega) (fun q e => by cases e; exact (HO.out.lt rfl).1)
        clear k1 k2 k3 k4
        go_wp2
        go_roundw
        case rel => exact ⟨k + 1, c2, g2, by omega, by omega, by go_num, rfl, HO2, HB2⟩
        case measure => simp [intOf]; omega
      · obtain rfl : k = C + 1 := by omega
        have hv3 : ¬ vv n (C + 1) ≤ 1048576 := fun e => hc (hm.1 e)
        rw [HALL.out] at HO
        generalize vv n (C + 1) = v at *
        have hv3' : (1048576 : Int) < (v : Int) := by omega
        clear hm
        go_wp2_with (go_at_call 56; refine (rv_any _ n (C + 1 : Nat)).mono ?_; rw [HV.out]; rintro e w2 ⟨rfl, hw⟩; obtain rfl := hw.symm; clear hw)
        go_returns
        exact ⟨g, c, rfl, HO.out, HB.out⟩
    · obtain rfl : k = C + 1 := by omega
      have hk' : ¬ ((C + 1 : Nat) : Int) ≤ 32 := by omega
      rw [HALL.out] at HO
      go_wp2
      go_returns
      exact ⟨g, c, rfl, HO.out, HB.out⟩
end Go.Proofs.YtfgpmdikkncckaaGreatDoor
