/-
  What New, V, Has and their helpers of package count do: how many vectors there are is answered, and what was needed is noted in the book. Nothing that was there is turned but the book's own block and its map.
-/
import Derived.Test.YtfgpmdikkncckaaDoorCountMap
import Derived.ProofKit
import Derived.OpenShut
import Derived.WalkSpells
import Derived.Handy
import Derived.WalkLawsBesides
import Derived.Deep.QuietTactic
import Derived.BigQuiet
import Derived.WalkSmall
import Derived.Deep.RegionLaw
import Derived.BigRegion
import Derived.RegionTactic
namespace Go.Proofs.YtfgpmdikkncckaaDoor
set_option linter.unusedVariables false
set_option maxRecDepth 100000
open Go.ChangeShapes Go.WideShapes Go.ChangeAt Go.RowKit

theorem numbers_any (w : World) (n : Int) : Calls Tryd.prog 78 #[.int .i64 n] w fun e w' => e = .returned (.bool (decide (0 ≤ n ∧ n ≤ 16))) ∧ w' = w := by
  by_cases h0 : 0 ≤ n
  · by_cases h1 : n ≤ 16
    · rw [decide_eq_true (show 0 ≤ n ∧ n ≤ 16 from ⟨h0, h1⟩)]
      go_enter Tryd.func78, Tryd.ntmps78
      go_wp2
      go_returns
      exact ⟨rfl, rfl⟩
    · rw [decide_eq_false (show ¬ (0 ≤ n ∧ n ≤ 16) from fun h => h1 h.2)]
      go_enter Tryd.func78, Tryd.ntmps78
      go_wp2
      go_returns
      exact ⟨rfl, rfl⟩
  · rw [decide_eq_false (show ¬ (0 ≤ n ∧ n ≤ 16) from fun h => h0 h.1)]
    go_enter Tryd.func78, Tryd.ntmps78
    go_wp2
    go_returns
    exact ⟨rfl, rfl⟩
theorem pulses_any (w : World) (n : Int) : Calls Tryd.prog 79 #[.int .i64 n] w fun e w' => e = .returned (.bool (decide (0 ≤ n ∧ n ≤ 32))) ∧ w' = w := by
  by_cases h0 : 0 ≤ n
  · by_cases h1 : n ≤ 32
    · rw [decide_eq_true (show 0 ≤ n ∧ n ≤ 32 from ⟨h0, h1⟩)]
      go_enter Tryd.func79, Tryd.ntmps79
      go_wp2
      go_returns
      exact ⟨rfl, rfl⟩
    · rw [decide_eq_false (show ¬ (0 ≤ n ∧ n ≤ 32) from fun h => h1 h.2)]
      go_enter Tryd.func79, Tryd.ntmps79
      go_wp2
      go_returns
      exact ⟨rfl, rfl⟩
  · rw [decide_eq_false (show ¬ (0 ≤ n ∧ n ≤ 32) from fun h => h0 h.1)]
    go_enter Tryd.func79, Tryd.ntmps79
    go_wp2
    go_returns
    exact ⟨rfl, rfl⟩

/-- New: a book in which nothing is noted. -/
theorem new_any (w : World) : Calls Tryd.prog 22 #[] w fun e w' => e = .returned (.pointer (some ⟨w.heap.size, 0, none⟩)) ∧ BkAt w' w.heap.size none noS ∧ Below w.heap.size w w' := by
  go_enter Tryd.func22, Tryd.ntmps22
  go_wp2
  go_returns
  exact ⟨rfl, ⟨by rw [heap_alloc_new], .inl ⟨rfl, rfl⟩⟩, (Below.refl _ _).alloc (Nat.le_refl _) _⟩

/-- Has. -/
theorem has_any (w : World) (b : Nat) (mo : Option Nat) (S : Int → Int → Bool) (n k : Int) (hn : Hid ((Lit.int .i64 n).wf = true)) (hk : Hid ((Lit.int .i64 k).wf = true)) (h : Hid (BkAt w b mo S)) :
    Calls Tryd.prog 95 #[.pointer (some ⟨b, 0, none⟩), (.agg #[.int .i64 (n), .int .i64 (k)])] w fun e w' => e = .returned (.bool (S n k)) ∧ w.grownBy w' none := by
  have hb := h.out.lt
  have c0 := h.out.cell
  have q0 := ((h.out.alloc (.cells #[.int .i64 n, .int .i64 k] 140)).drew).look hn.out hk.out
  obtain ⟨x, hx⟩ : ∃ x : Nat, (if S n k = true then (vI n k : Nat) else 0) = x := ⟨_, rfl⟩
  obtain ⟨y, hy⟩ : ∃ y : Bool, S n k = y := ⟨_, rfl⟩
  rw [hx, hy] at q0
  rw [hy]
  clear hx hy
  go_enter Tryd.func95, Tryd.ntmps95
  go_wp2
  go_region
  all_goals go_wp2
  all_goals go_returns
  all_goals exact ⟨rfl, gN_drew (World.grownBy_alloc w _ none)⟩

theorem nil_no (m : Nat) (w : World) : (binOp .eql 79 (.map (some m)) (.map none)).run Tryd.prog w = .ok (.bool false) w := by kernel_rfl
theorem nil_yes (w : World) : (binOp .eql 79 (.map none) (.map none)).run Tryd.prog w = .ok (.bool true) w := by kernel_rfl
section
attribute [local go_sem] nil_no nil_yes
/-- note. -/
theorem note_any (w : World) (b : Nat) (mo : Option Nat) (S : Int → Int → Bool) (n k : Int) (hin : 1 ≤ n ∧ n ≤ 16 ∧ 1 ≤ k ∧ k ≤ 32) (hs : S n k = false) (h : Hid (BkAt w b mo S)) :
    Calls Tryd.prog 80 #[.pointer (some ⟨b, 0, none⟩), (.agg #[.int .i64 (n), .int .i64 (k)]), .int .u64 (vI n k : Nat)] w fun e w' => e = .returned (.tuple #[]) ∧ ∃ mo', BkAt w' b mo' (put1 S n k) ∧ Gb w w' b mo mo' := by
  have hb := h.out.lt
  have hb1 : b ≠ w.heap.size := by omega
  have hmm := @run_makeMap Tryd.prog
  cases mo with
  | some m =>
    have c0 := h.out.cell
    have HA : Hid (BkAt (w.alloc (.cells #[.int .i64 n, .int .i64 k] 140)).drew b (some m) S) := (h.out.alloc _).drew
    obtain ⟨w2, q0, hB, hG⟩ := HA.out.note hin hs
    have HB : Hid (BkAt w2 b (some m) (put1 S n k)) := hB
    have HG : Hid (Gb w w2 b (some m) (some m)) := (((Gb.refl w b (some m)).alloc _).drew).trans hG
    clear hB hG HA
    go_enter Tryd.func80, Tryd.ntmps80
    go_wp2
    go_region
    all_goals go_wp2
    all_goals go_returns
    all_goals exact ⟨rfl, _, HB.out, HG.out⟩
  | none =>
    have c0 := h.out.cell
    have f0 := h.out.free 0
    have hM := (h.out.alloc (.cells #[.int .i64 n, .int .i64 k] 140)).make
    rw [World.setCell_alloc_past _ _ _ _ (by simp; omega), World.setCell_alloc_past _ _ _ _ hb] at hM
    obtain ⟨w2, q0, hB, hG⟩ := BkAt.note (BkAt.drew hM.1) hin hs
    have HB : Hid (BkAt w2 b (some (w.heap.size + 1)) (put1 S n k)) := by have := hB; simp only [World.size_alloc] at this; exact this
    have HG : Hid (Gb w w2 b none (some (w.heap.size + 1))) := by have := (((Gb.refl w b none).alloc _).trans hM.2.drew).trans hG; simp only [World.size_alloc] at this; exact this
    simp only [World.size_alloc] at q0
    clear hB hG hM
    go_enter Tryd.func80, Tryd.ntmps80
    go_wp2
    go_region
    all_goals go_wp2
    all_goals go_returns
    all_goals exact ⟨rfl, _, HB.out, HG.out⟩
end

theorem pair_keep {w w' : World} {b : Nat} {mo mo' : Option Nat} {S : Int → Int → Bool} {n k : Int} {t : TypeId} (hB : BkAt w b mo S) (hG : Gb (w.alloc (.cells #[.int .i64 n, .int .i64 k] t)).drew w' b mo mo') :
    w'.heap[w.heap.size]? = some (.cells #[.int .i64 n, .int .i64 k] t (0, 0)) := by
  have hb := hB.lt
  refine hG.cells (S := S) ((hB.alloc _).drew) ?_ (by omega)
  show (w.alloc _).heap[w.heap.size]? = _
  rw [heap_alloc_new]

set_option maxHeartbeats 1000000 in
/-- V, where nothing is to be noted. -/
theorem v_out (w : World) (b : Nat) (mo : Option Nat) (n k : Int) (h : ¬ (1 ≤ n ∧ n ≤ 16 ∧ 1 ≤ k ∧ k ≤ 32)) :
    Calls Tryd.prog 77 #[.pointer (some ⟨b, 0, none⟩), .int .i64 n, .int .i64 k] w fun e w' => e = .returned (.int .u64 (vI n k : Nat)) ∧ w' = w := by
  by_cases hn : 0 ≤ n ∧ n ≤ 16
  · have HN : Hid (decide (0 ≤ n ∧ n ≤ 16) = true) := decide_eq_true hn
    by_cases hk : 0 ≤ k ∧ k ≤ 32
    · have HK : Hid (decide (0 ≤ k ∧ k ≤ 32) = true) := decide_eq_true hk
      by_cases k0 : k = 0
      · subst k0
        rw [vI_one hn.1 hn.2]
        go_enter Tryd.func77, Tryd.ntmps77
        go_wp2_with (first | (go_at_call 78; refine (numbers_any _ _).mono ?_; rw [HN.out]; rintro e w1 ⟨rfl, hw⟩; obtain rfl := hw.symm) | (go_at_call 79; refine (pulses_any _ _).mono ?_; rw [HK.out]; rintro e w1 ⟨rfl, hw⟩; obtain rfl := hw.symm))
        go_returns
        exact ⟨rfl, rfl⟩
      · obtain rfl : n = 0 := by omega
        rw [vI_none (by omega)]
        go_enter Tryd.func77, Tryd.ntmps77
        go_wp2_with (first | (go_at_call 78; refine (numbers_any _ _).mono ?_; rw [HN.out]; rintro e w1 ⟨rfl, hw⟩; obtain rfl := hw.symm) | (go_at_call 79; refine (pulses_any _ _).mono ?_; rw [HK.out]; rintro e w1 ⟨rfl, hw⟩; obtain rfl := hw.symm))
        go_returns
        exact ⟨rfl, rfl⟩
    · have HK : Hid (decide (0 ≤ k ∧ k ≤ 32) = false) := decide_eq_false hk
      rw [vI_out (fun e => hk e.2.2)]
      go_enter Tryd.func77, Tryd.ntmps77
      go_wp2_with (first | (go_at_call 78; refine (numbers_any _ _).mono ?_; rw [HN.out]; rintro e w1 ⟨rfl, hw⟩; obtain rfl := hw.symm) | (go_at_call 79; refine (pulses_any _ _).mono ?_; rw [HK.out]; rintro e w1 ⟨rfl, hw⟩; obtain rfl := hw.symm))
      go_returns
      exact ⟨rfl, rfl⟩
  · have HN : Hid (decide (0 ≤ n ∧ n ≤ 16) = false) := decide_eq_false hn
    rw [vI_out (fun e => hn ⟨e.1, e.2.1⟩)]
    go_enter Tryd.func77, Tryd.ntmps77
    go_wp2_with (first | (go_at_call 78; refine (numbers_any _ _).mono ?_; rw [HN.out]; rintro e w1 ⟨rfl, hw⟩; obtain rfl := hw.symm) | (go_at_call 79; refine (pulses_any _ _).mono ?_; rw [HK.out]; rintro e w1 ⟨rfl, hw⟩; obtain rfl := hw.symm))
    go_returns
    exact ⟨rfl, rfl⟩

set_option maxHeartbeats 1000000 in
/-- V: how many there are; behind it just what was needed is noted, besides what was. -/
theorem v_any : ∀ (N : Nat) (w : World) (b : Nat) (mo : Option Nat) (S : Int → Int → Bool) (n k : Int), n.toNat + k.toNat ≤ N → Hid (BkAt w b mo S) → Hid (Ok S) →
    Calls Tryd.prog 77 #[.pointer (some ⟨b, 0, none⟩), .int .i64 n, .int .i64 k] w fun e w' => e = .returned (.int .u64 (vI n k : Nat)) ∧ ∃ mo', BkAt w' b mo' (un S n k) ∧ Gb w w' b mo mo' := by
  intro N
  induction N with
  | zero =>
    intro w b mo S n k hN h hO
    refine (v_out w b mo n k (by omega)).mono ?_
    rintro e w1 ⟨rfl, rfl⟩
    rw [un_out (by omega)]
    exact ⟨rfl, mo, h.out, Gb.refl _ _ _⟩
  | succ N ih =>
    intro w b mo S n k hN h hO
    by_cases hin : 1 ≤ n ∧ n ≤ 16 ∧ 1 ≤ k ∧ k ≤ 32
    · have HN : Hid (decide (0 ≤ n ∧ n ≤ 16) = true) := decide_eq_true (by omega)
      have HK : Hid (decide (0 ≤ k ∧ k ≤ 32) = true) := decide_eq_true (by omega)
      have hb := h.out.lt
      have c0 := h.out.cell
      have hn0 : ¬ n = 0 := by omega
      have hk0 : ¬ k = 0 := by omega
      have q0 := ((h.out.alloc (.cells #[.int .i64 n, .int .i64 k] 140)).drew).look (WalkArith.wf_i64 (by omega)) (WalkArith.wf_i64 (by omega)) (n := n) (k := k)
      have hv := vI_bd n k
      by_cases hs : S n k = true
      · rw [if_pos hs, hs] at q0
        have HU : Hid (un S n k = S) := un_have hO.out hs
        obtain ⟨v, hve⟩ : ∃ v, vI n k = v := ⟨_, rfl⟩
        rw [hve] at hv q0 ⊢
        clear hve
        go_enter Tryd.func77, Tryd.ntmps77
        go_wp2_with (first | (go_at_call 78; refine (numbers_any _ _).mono ?_; rw [HN.out]; rintro e w1 ⟨rfl, hw⟩; obtain rfl := hw.symm) | (go_at_call 79; refine (pulses_any _ _).mono ?_; rw [HK.out]; rintro e w1 ⟨rfl, hw⟩; obtain rfl := hw.symm))
        go_region
        all_goals go_wp2
        all_goals go_returns
        all_goals exact ⟨rfl, mo, by rw [HU.out]; exact (h.out.alloc _).drew, ((Gb.refl _ _ _).alloc _).drew⟩
      · have hs' : S n k = false := by simpa using hs
        rw [if_neg hs, hs'] at q0
        have HP : Hid (BkAt (w.alloc (.cells #[.int .i64 n, .int .i64 k] 140)).drew b mo S) := (h.out.alloc _).drew
        have HO1 : Hid (Ok (un S (n - 1) k)) := hO.out.un _ _
        have HO2 : Hid (Ok (un (un S (n - 1) k) n (k - 1))) := HO1.out.un _ _
        have HU : Hid _ := un_step (S := S) hin
        have HF : Hid _ := un_new hO.out hs' ⟨hin.1, hin.2.2.1⟩
        have HS : Hid _ := vI_sum hin.1 hin.2.1 hin.2.2.1 hin.2.2.2
        have b1 := vI_bd (n - 1) k
        have b2 := vI_bd n (k - 1)
        have b3 := vI_bd (n - 1) (k - 1)
        obtain ⟨h1, h2, h3, h4⟩ := hin
        go_enter Tryd.func77, Tryd.ntmps77
        go_wp2_with (first | (go_at_call 78; refine (numbers_any _ _).mono ?_; rw [HN.out]; rintro e w1 ⟨rfl, hw⟩; obtain rfl := hw.symm) | (go_at_call 79; refine (pulses_any _ _).mono ?_; rw [HK.out]; rintro e w1 ⟨rfl, hw⟩; obtain rfl := hw.symm))
        go_region
        all_goals go_wp2_with fail
        refine (ih _ b mo S (n - 1) k (by omega) HP hO).mono ?_
        rintro e w1 ⟨rfl, mo1, hB1, hG1⟩
        replace hB1 : Hid (BkAt w1 b mo1 (un S (n - 1) k)) := hB1
        replace hG1 : Hid (Gb (w.alloc (.cells #[.int .i64 n, .int .i64 k] 140)).drew w1 b mo mo1) := hG1
        go_wp2_with fail
        refine (ih _ b mo1 (un S (n - 1) k) n (k - 1) (by omega) hB1 HO1).mono ?_
        rintro e w2 ⟨rfl, mo2, hB2, hG2⟩
        replace hB2 : Hid (BkAt w2 b mo2 (un (un S (n - 1) k) n (k - 1))) := hB2
        replace hG2 : Hid (Gb w1 w2 b mo1 mo2) := hG2
        go_wp2_with fail
        refine (ih _ b mo2 (un (un S (n - 1) k) n (k - 1)) (n - 1) (k - 1) (by omega) hB2 HO2).mono ?_
        rintro e w3 ⟨rfl, mo3, hB3, hG3⟩
        replace hB3 : Hid (BkAt w3 b mo3 (un (un (un S (n - 1) k) n (k - 1)) (n - 1) (k - 1))) := hB3
        have HG : Hid (Gb (w.alloc (.cells #[.int .i64 n, .int .i64 k] 140)).drew w3 b mo mo3) := hG1.out.trans (hG2.out.trans hG3)
        clear hG3 hG1 hG2 hB1 hB2
        have hp := pair_keep h.out HG.out
        have p0 := cell_of_row w3 _ 0 _ _ _ hp
        have p1 := cell_of_row w3 _ 1 _ _ _ hp
        simp only [List.getElem?_toArray, List.getElem?_cons_zero, List.getElem?_cons_succ] at p0 p1
        clear hp
        go_wp2_with fail
        have hsum : (vI (n - 1) k : Int) + (vI n (k - 1) : Int) + (vI (n - 1) (k - 1) : Int) = (vI n k : Nat) := by rw [HS.out]; simp
        rw [hsum]
        have HSUM : Hid _ := hsum
        clear hsum
        refine (note_any _ b mo3 _ n k ⟨h1, h2, h3, h4⟩ HF.out hB3).mono ?_
        rw [HU.out]
        rintro e w4 ⟨rfl, mo4, hB4, hG4⟩
        replace hB4 : Hid (BkAt w4 b mo4 (un S n k)) := hB4
        have HG4 : Hid (Gb w w4 b mo mo4) := (((Gb.refl w b mo).alloc _).drew.trans HG.out).trans hG4
        clear hG4 hB3 HG
        go_wp2
        go_returns
        exact ⟨by first | rfl | rw [HSUM.out], mo4, hB4.out, HG4.out⟩
    · refine (v_out w b mo n k hin).mono ?_
      rintro e w1 ⟨rfl, rfl⟩
      rw [un_out hin]
      exact ⟨rfl, mo, h.out, Gb.refl _ _ _⟩
end Go.Proofs.YtfgpmdikkncckaaDoor
