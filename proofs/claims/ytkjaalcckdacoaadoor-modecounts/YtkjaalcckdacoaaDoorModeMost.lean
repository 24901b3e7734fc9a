/-
  What Most of package mode answers, at a list of up to 60 modes that lies somewhere: of the right ones that which is there most often, the first in order of several. Nothing that was there is turned.
-/
import Derived.Test.YtkjaalcckdacoaaDoorModeCount
import Derived.Test.YtkjaalcckdacoaaDoorModeAll
import Derived.BigRegion
namespace Go.Proofs.YtkjaalcckdacoaaDoor
set_option linter.unusedVariables false
open Go.ChangeShapes Go.WideShapes Go.ChangeAt Go.RowKit
open Go.Sort (grow)

/-- Of the first k of all modes that which is there most often. -/
def best (f g : Nat → Int) (n : Nat) : Nat → Int × Int × Bool
  | 0 => (0, 0, false)
  | k + 1 => if cnt f g n (best f g n k).1 (best f g n k).2.1 < cnt f g n (allS k) (allC k) then (allS k, allC k, true) else best f g n k
theorem all_bd (k : Nat) (h : k < 6) : 0 ≤ allS k ∧ allS k ≤ 2 ∧ 1 ≤ allC k ∧ allC k ≤ 2 := by unfold allS allC; omega
theorem best_bd (f g : Nat → Int) (n : Nat) : ∀ k, k ≤ 6 → 0 ≤ (best f g n k).1 ∧ (best f g n k).1 ≤ 2 ∧ 0 ≤ (best f g n k).2.1 ∧ (best f g n k).2.1 ≤ 2
  | 0, _ => by rw [best]; exact ⟨by decide, by decide, by decide, by decide⟩
  | k + 1, h => by
    have ih := best_bd f g n k (by omega)
    have ha := all_bd k (by omega)
    rw [best]
    split
    · exact ⟨ha.1, ha.2.1, Int.le_trans (by decide) ha.2.2.1, ha.2.2.2⟩
    · exact ih

theorem PairsAt.set {w : World} {ao : Option Addr} {n : Nat} {f g : Nat → Int} (h : PairsAt w ao n f g) (p : Addr) (v : Value) (hne : ∀ a, ao = some a → a.block ≠ p.block) : PairsAt (w.setCell p v) ao n f g := by
  intro i hi
  obtain ⟨b, off, e, c0, c1⟩ := h i hi
  have hlt := hne _ e
  have hc : ∀ o, (w.setCell p v).cell? ⟨b, o, none⟩ = w.cell? ⟨b, o, none⟩ := fun o => World.cell?_of_block (Below.heap_setCell w p v b hlt)
  exact ⟨b, off, e, by rw [hc]; exact c0, by rw [hc]; exact c1⟩
theorem PairsAt.alloc {w : World} {ao : Option Addr} {n : Nat} {f g : Nat → Int} (h : PairsAt w ao n f g) (o : Obj) : PairsAt (w.alloc o) ao n f g := h.keep ((Below.refl _ _).alloc (Nat.le_refl _) _)
theorem PairsAt.drew {w : World} {ao : Option Addr} {n : Nat} {f g : Nat → Int} (h : PairsAt w ao n f g) : PairsAt w.drew ao n f g := h

theorem next_best {wr : World} {B : Nat} {a b u v : Value} {t : TypeId} (hblk : wr.heap[B]? = some (.cells #[u, v] t (0, 0))) (hsz : B < wr.heap.size) (o : Obj) :
    ((((wr.setCell ⟨B, 0, none⟩ a).setCell ⟨B, 1, none⟩ b).alloc o).drew).heap[B]? = some (.cells #[a, b] t (0, 0)) := by
  have h0 := heap_setCell_same _ B 0 _ t a hblk
  simp only [List.setIfInBounds_toArray, List.set_cons_zero] at h0
  have h1 := heap_setCell_same _ B 1 _ t b h0
  simp only [List.setIfInBounds_toArray, List.set_cons_zero, List.set_cons_succ] at h1
  show (((wr.setCell ⟨B, 0, none⟩ a).setCell ⟨B, 1, none⟩ b).alloc o).heap[B]? = _
  rw [heap_alloc_old _ _ (by simpa using hsz)]
  exact h1

theorem two_set {wr : World} {B : Nat} {u v : Value} {t : TypeId} (hblk : wr.heap[B]? = some (.cells #[u, v] t (0, 0))) (a b : Value) :
    (wr.setCell ⟨B, 0, none⟩ a).cell? ⟨B, 0, none⟩ = some a ∧ ((wr.setCell ⟨B, 0, none⟩ a).setCell ⟨B, 1, none⟩ b).cell? ⟨B, 1, none⟩ = some b := by
  have h0 := heap_setCell_same _ B 0 _ t a hblk
  simp only [List.setIfInBounds_toArray, List.set_cons_zero] at h0
  have h1 := heap_setCell_same _ B 1 _ t b h0
  simp only [List.setIfInBounds_toArray, List.set_cons_zero, List.set_cons_succ] at h1
  have x0 := cell_of_row _ _ 0 _ _ _ h0
  have x1 := cell_of_row _ _ 1 _ _ _ h1
  exact ⟨x0, x1⟩

set_option maxHeartbeats 1000000 in
theorem most_any (ao : Option Addr) (n cap : Nat) (f g : Nat → Int) (w : World) (hn : n ≤ 60) (hL : Hid (PairsAt w ao n f g)) (hW : Hid (∀ i, i < n → (Lit.int .i64 (f i)).wf = true ∧ (Lit.int .i64 (g i)).wf = true)) :
    Calls Tryd.prog 21 #[.slice ao n cap] w fun e w' => e = .returned (.tuple #[(.agg #[.int .i64 ((best f g n 6).1), .int .i64 ((best f g n 6).2.1)]), .bool (best f g n 6).2.2]) ∧ Below w.heap.size w w' := by
  go_enter Tryd.func21, Tryd.ntmps21
  go_wp2_with (first | (go_at_call 20; refine (count_any _ _ _ f g _ hn (hL.out.alloc _) hW).mono ?_; rintro e w1 ⟨b, D, rfl, hbb, hown, hC, hb1⟩) | (go_at_call 22; refine (all_any _).mono ?_; rintro e w2 ⟨ao', cap', rfl, hl, ha, hb2⟩))
  have hbl := hown.lt
  simp only [World.size_alloc] at hbb hb2 ha hb1
  have h1 : w.heap.size < w1.heap.size := by have := hb1.size; simp at this; omega
  go_loopw [6, 14] (fun v i wr => ∃ k : Nat, k ≤ 6 ∧ i = .int .i64 k ∧ v = .bool (best f g n k).2.2 ∧ wr.heap[w1.heap.size]? = some (.cells #[.int .i64 (best f g n k).1, .int .i64 (best f g n k).2.1] 24 (0, 0)) ∧ Hid (PairsAt wr ao' 6 allS allC) ∧ Hid (Below w1.heap.size w1 wr)) (fun _ i _ => 6 - (intOf i).toNat)
  case atStart => exact ⟨0, by omega, rfl, rfl, by rw [hb2.block _ (by omega), heap_alloc_new]; rfl, hl, ((Below.refl _ _).alloc (Nat.le_refl _) _).trans (hb2.mono (by omega))⟩
  case round =>
    obtain ⟨k, hk, rfl, rfl, hblk, HP, HB⟩ := hrel
    have x0 := cell_of_row wr _ 0 _ _ _ hblk
    have x1 := cell_of_row wr _ 1 _ _ _ hblk
    have xf := fun j => frozen_of_row wr _ j _ _ hblk
    simp only [List.getElem?_toArray, List.getElem?_cons_zero, List.getElem?_cons_succ] at x0 x1
    have hsz : w1.heap.size < wr.heap.size := block_lt_of_cell x0
    have hbd := best_bd f g n k hk
    by_cases hlt : k < 6
    · have hlt' : (k : Int) < 6 := by omega
      obtain ⟨b', off', rfl, y0, y1⟩ := HP.out k hlt
      have hab := all_bd k hlt
      have hb' := ha _ rfl
      have wa : (Lit.int .i64 (allS k)).wf = true := WalkArith.wf_i64 (by omega)
      have wb : (Lit.int .i64 (allC k)).wf = true := WalkArith.wf_i64 (by omega)
      have wc : (Lit.int .i64 (best f g n k).1).wf = true := WalkArith.wf_i64 (by omega)
      have wd : (Lit.int .i64 (best f g n k).2.1).wf = true := WalkArith.wf_i64 (by omega)
      have own2 : (wr.alloc (.cells #[.int .i64 (allS k), .int .i64 (allC k)] 24)).drew.ownsMap Tryd.prog 24 (plainElem Tryd.prog 3) b n D := ((hown.kept (grownBy_below HB.out) (by simp)).alloc _).drew
      have q0 := lookup_at own2 modeKeyed Tryd.underlying38 Tryd.underlying3 zeroInt (key_md wa wb) (hC.1 _ _ wa wb).1
      have q1 := lookup_at own2 modeKeyed Tryd.underlying38 Tryd.underlying3 zeroInt (key_md wc wd) (hC.1 _ _ wc wd).1
      have hstep : best f g n (k + 1) = if cnt f g n (best f g n k).1 (best f g n k).2.1 < cnt f g n (allS k) (allC k) then (allS k, allC k, true) else best f g n k := rfl
      obtain ⟨m1, hm1⟩ : ∃ m : Nat, cnt f g n (best f g n k).1 (best f g n k).2.1 = m := ⟨_, rfl⟩
      obtain ⟨m2, hm2⟩ : ∃ m : Nat, cnt f g n (allS k) (allC k) = m := ⟨_, rfl⟩
      rw [hm1] at q1 hstep
      rw [hm2] at q0 hstep
      have z1 : ¬ w1.heap.size = wr.heap.size := by omega
      have z2 : ¬ wr.heap.size = w1.heap.size := by omega
      have HBLK : Hid _ := hblk
      clear own2 hm1 hm2 hblk
      by_cases hgt : m1 < m2
      · rw [if_pos hgt] at hstep
        have HS : Hid _ := hstep
        clear hstep
        have hgt' : (m1 : Int) < (m2 : Int) := by omega
        go_wp2
        go_region
        all_goals go_wp2
        go_roundw
        case rel =>
          refine ⟨k + 1, by omega, by go_num, by rw [HS.out], by rw [HS.out]; exact next_best HBLK.out hsz _, ?_, ?_⟩
          · exact ((((HP.out.set _ _ (fun a e => by cases e; show b' ≠ w1.heap.size; have := hb'.1; omega)).set _ _ (fun a e => by cases e; show b' ≠ w1.heap.size; have := hb'.1; omega)).alloc _).drew)
          · exact (((HB.out.setCell (Nat.le_refl _) _).setCell (Nat.le_refl _) _).alloc (by simp; omega) _).drew
        case measure => simp [intOf]; omega
      · rw [if_neg hgt] at hstep
        have HS : Hid _ := hstep
        clear hstep
        have hgt' : ¬ (m1 : Int) < (m2 : Int) := by omega
        go_wp2
        go_region
        all_goals go_wp2
        go_roundw
        case rel =>
          refine ⟨k + 1, by omega, by go_num, by rw [HS.out], ?_, (HP.out.alloc _).drew, (HB.out.alloc (by omega) _).drew⟩
          rw [HS.out]
          show (wr.alloc _).heap[w1.heap.size]? = _
          rw [heap_alloc_old _ _ hsz]
          exact HBLK.out
        case measure => simp [intOf]; omega
    · have e : k = 6 := by omega
      subst e
      have hR : wr.heap[w.heap.size]? = some (.cells #[.int .i64 0, .int .i64 0] 24 (0, 0)) := by rw [HB.out.block _ h1, hb1.block _ (by omega), heap_alloc_new]
      have r0 := cell_of_row wr _ 0 _ _ _ hR
      have r1 := cell_of_row wr _ 1 _ _ _ hR
      have rf := fun j => frozen_of_row wr _ j _ _ hR
      simp only [List.getElem?_toArray, List.getElem?_cons_zero, List.getElem?_cons_succ] at r0 r1
      have s0 := two_set hR (.int .i64 (best f g n 6).1) (.int .i64 (best f g n 6).2.1)
      have HR : Hid _ := hR
      clear hR
      have z1 : ¬ w.heap.size = w1.heap.size := by omega
      have z2 : ¬ w1.heap.size = w.heap.size := by omega
      go_wp2
      refine bodyPost_ret (by simp [results, Tryd.results21, go_sem, s0.1, s0.2]; try rfl) rfl ?_
      exact ⟨rfl, Below.setCell (Below.setCell (((Below.refl _ _).alloc (Nat.le_refl _) _).trans ((hb1.mono (by omega)).trans (HB.out.mono (by omega)))) (Nat.le_refl _) _) (Nat.le_refl _) _⟩
end Go.Proofs.YtkjaalcckdacoaaDoor
