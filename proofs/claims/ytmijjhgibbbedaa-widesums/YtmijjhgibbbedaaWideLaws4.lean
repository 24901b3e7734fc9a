/-
  The law WideSums of layer 2 as a walk, for a list of up to 60 numbers that lies somewhere: it returns true, and nothing that was there has turned.
-/
import Derived.Test.YtmijjhgibbbedaaWideSum
import Derived.Test.YtmijjhgibbbedaaRefCalls
import Derived.Test.YtmijjhgibbbedaaRows
import Derived.ProofKit
import Derived.OpenShut
import Derived.WalkSpells
import Derived.Handy
import Derived.WalkLawsBesides
import Derived.Below
import Derived.Deep.QuietTactic
import Derived.BigQuiet
import Derived.WalkSmall
import Derived.Deep.RegionHeld3
import Derived.Deep.AppendLies
import Derived.Deep.DeepCutAuto
import Derived.Test.YtmijjhgibbbedaaMore2
import Derived.Lib.QuietBelow
namespace Go.Proofs.Ytmijjhgibbbedaa
set_option linter.unusedVariables false
open Go.ChangeShapes Go.WideShapes Go.ChangeAt Go.RowKit
open Go.Sort (grow)
attribute [local go_sem] cell?_gr frozen?_gr setCell_gr size_gr drew_gr drewN_gr heap_redrawn redrawn_drew redrawn_drewN redrawn_redrawn gr_gr eql_acc neq_acc equal_big setCell_drewN alloc_drewN World.drewN_drewN Array.size_append
attribute [local go_sem] lt_1 lt_11 lt_2 lt_21 lt_3 lt_31 lt_4 lt_41 lt_5 lt_51 lt_6 lt_61


theorem want_start : (#[.int .i64 0, .int .i64 0, .int .i64 0, .int .i64 0, .int .i64 0, .int .i64 0, .int .i64 0, .int .i64 0] : Array Value) = #[.int .i64 (dg (0) 0), .int .i64 (dg (0) 1), .int .i64 (dg (0) 2), .int .i64 (dg (0) 3), .int .i64 (dg (0) 4), .int .i64 (dg (0) 5), .int .i64 (dg (0) 6), .int .i64 (dg (0) 7)] := by
  obtain ⟨e0, e1, e2, e3, e4, e5, e6, e7⟩ := small_digs (x := 0) (by omega) (by omega)
  rw [← e0, ← e1, ← e2, ← e3, ← e4, ← e5, ← e6, ← e7]
/-- The numbers of a list, from behind, k of them, two words each. -/
def turnC (f : Nat → Int) (n : Nat) : Nat → List Value
  | 0 => []
  | k + 1 => turnC f n k ++ [.int .i64 (hiW (f (n - 1 - k))), .int .u64 (loW (f (n - 1 - k)))]
theorem Lies.below {B : Nat} {W w : World} {ao : Option Addr} {n : Nat} {f : Nat → Int} (h : Lies W ao n f) (hb : Below B W w) (hB : ∀ a, ao = some a → a.block < B) : Lies w ao n f := by
  intro i hi
  obtain ⟨b, off, e, c0, c1⟩ := h i hi
  have hlt := hB _ e
  exact ⟨b, off, e, by rw [hb.cell (by exact hlt)]; exact c0, by rw [hb.cell (by exact hlt)]; exact c1⟩

theorem grownBy_of_below {W w : World} (h : Below W.heap.size W w) : W.grownBy w none := ⟨h.os, h.tape, h.output, h.size, fun k hk _ => h.block k hk⟩
theorem owns_gr {X : World} {base : Nat} {e : TypeId} {size : Nat} {v : Value} {n : Nat} {xs : List Value} (h : X.ownsRow base e size v n xs) (d : Nat) (os : Array Obj) : (grow (redrawn X d) os).ownsRow base e size v n xs :=
  h.kept (grownBy_of_below (below_regrown X d os)) (by by_cases hv : v.ownBlock = none; exact .inl hv; exact .inr hv)
theorem gr_facts {W0 X : World} {B : Nat} {e : TypeId} {v : Value} {n : Nat} {xs : List Value} {o : Obj} (h1 : X.ownsRow (B + 1) e 2 v n xs) (h2 : X.heap[B]? = some o) (h3 : Below B W0 X) (h4 : B < X.heap.size) (d : Nat) (os : Array Obj) :
    (grow (redrawn X d) os).ownsRow (B + 1) e 2 v n xs ∧ (grow (redrawn X d) os).heap[B]? = some o ∧ Below B W0 (grow (redrawn X d) os) ∧ B < (grow (redrawn X d) os).heap.size := by
  refine ⟨owns_gr h1 d os, ?_, below_gr h3 (by omega) d os, by rw [size_gr]; omega⟩
  rw [Sort.heap_grow_old _ _ (show B < (redrawn X d).heap.size from h4)]
  exact h2
theorem next_want {W0 wr : World} {B : Nat} {t e : TypeId} {v : Value} {n : Nat} {xs : List Value} {a0 a1 a2 a3 a4 a5 a6 a7 v0 v1 v2 v3 v4 v5 v6 v7 : Value} (d : Nat) (os : Array Obj) (hown : wr.ownsRow (B + 1) e 2 v n xs) (hwant : wr.heap[B]? = some (.cells #[a0, a1, a2, a3, a4, a5, a6, a7] t (0, 0))) (hBel : Below B W0 wr) (hsz : B < wr.heap.size) :
    (grow (redrawn ((((((((wr.setCell ⟨B, 0, none⟩ v0).setCell ⟨B, 1, none⟩ v1).setCell ⟨B, 2, none⟩ v2).setCell ⟨B, 3, none⟩ v3).setCell ⟨B, 4, none⟩ v4).setCell ⟨B, 5, none⟩ v5).setCell ⟨B, 6, none⟩ v6).setCell ⟨B, 7, none⟩ v7) d) os).ownsRow (B + 1) e 2 v n xs ∧ (grow (redrawn ((((((((wr.setCell ⟨B, 0, none⟩ v0).setCell ⟨B, 1, none⟩ v1).setCell ⟨B, 2, none⟩ v2).setCell ⟨B, 3, none⟩ v3).setCell ⟨B, 4, none⟩ v4).setCell ⟨B, 5, none⟩ v5).setCell ⟨B, 6, none⟩ v6).setCell ⟨B, 7, none⟩ v7) d) os).heap[B]? = some (.cells #[v0, v1, v2, v3, v4, v5, v6, v7] t (0, 0)) ∧ Below B W0 (grow (redrawn ((((((((wr.setCell ⟨B, 0, none⟩ v0).setCell ⟨B, 1, none⟩ v1).setCell ⟨B, 2, none⟩ v2).setCell ⟨B, 3, none⟩ v3).setCell ⟨B, 4, none⟩ v4).setCell ⟨B, 5, none⟩ v5).setCell ⟨B, 6, none⟩ v6).setCell ⟨B, 7, none⟩ v7) d) os) ∧ B < (grow (redrawn ((((((((wr.setCell ⟨B, 0, none⟩ v0).setCell ⟨B, 1, none⟩ v1).setCell ⟨B, 2, none⟩ v2).setCell ⟨B, 3, none⟩ v3).setCell ⟨B, 4, none⟩ v4).setCell ⟨B, 5, none⟩ v5).setCell ⟨B, 6, none⟩ v6).setCell ⟨B, 7, none⟩ v7) d) os).heap.size := by
  have h0 := heap_setCell_same _ B 0 _ t v0 hwant
  simp only [List.setIfInBounds_toArray, List.set_cons_zero] at h0
  have h1 := heap_setCell_same _ B 1 _ t v1 h0
  simp only [List.setIfInBounds_toArray, List.set_cons_zero, List.set_cons_succ] at h1
  have h2 := heap_setCell_same _ B 2 _ t v2 h1
  simp only [List.setIfInBounds_toArray, List.set_cons_zero, List.set_cons_succ] at h2
  have h3 := heap_setCell_same _ B 3 _ t v3 h2
  simp only [List.setIfInBounds_toArray, List.set_cons_zero, List.set_cons_succ] at h3
  have h4 := heap_setCell_same _ B 4 _ t v4 h3
  simp only [List.setIfInBounds_toArray, List.set_cons_zero, List.set_cons_succ] at h4
  have h5 := heap_setCell_same _ B 5 _ t v5 h4
  simp only [List.setIfInBounds_toArray, List.set_cons_zero, List.set_cons_succ] at h5
  have h6 := heap_setCell_same _ B 6 _ t v6 h5
  simp only [List.setIfInBounds_toArray, List.set_cons_zero, List.set_cons_succ] at h6
  have h7 := heap_setCell_same _ B 7 _ t v7 h6
  simp only [List.setIfInBounds_toArray, List.set_cons_zero, List.set_cons_succ] at h7
  have hs : B < ((((((((wr.setCell ⟨B, 0, none⟩ v0).setCell ⟨B, 1, none⟩ v1).setCell ⟨B, 2, none⟩ v2).setCell ⟨B, 3, none⟩ v3).setCell ⟨B, 4, none⟩ v4).setCell ⟨B, 5, none⟩ v5).setCell ⟨B, 6, none⟩ v6).setCell ⟨B, 7, none⟩ v7).heap.size := by simpa using hsz
  exact gr_facts (ownsRow_setCell_below (ownsRow_setCell_below (ownsRow_setCell_below (ownsRow_setCell_below (ownsRow_setCell_below (ownsRow_setCell_below (ownsRow_setCell_below (ownsRow_setCell_below hown (by show B < B + 1; omega) _) (by show B < B + 1; omega) _) (by show B < B + 1; omega) _) (by show B < B + 1; omega) _) (by show B < B + 1; omega) _) (by show B < B + 1; omega) _) (by show B < B + 1; omega) _) (by show B < B + 1; omega) _) h7 (Below.setCell (Below.setCell (Below.setCell (Below.setCell (Below.setCell (Below.setCell (Below.setCell (Below.setCell hBel (Nat.le_refl B) _) (Nat.le_refl B) _) (Nat.le_refl B) _) (Nat.le_refl B) _) (Nat.le_refl B) _) (Nat.le_refl B) _) (Nat.le_refl B) _) (Nat.le_refl B) _) hs d os

theorem Lies.first {w : World} {ao : Option Addr} {n m : Nat} {f : Nat → Int} (h : Lies w ao n f) (hm : m ≤ n) : Lies w ao m f := fun i hi => h i (by omega)
theorem Lies.rest {w : World} {b off n m cap : Nat} {f : Nat → Int} (h : Lies w (some ⟨b, off, none⟩) n f) (hm : m ≤ n) (hc : n ≤ cap) :
    Lies w (if cap = m then some ⟨b, off, none⟩ else some ⟨b, off + m * 2, none⟩) (n - m) (fun i => f (m + i)) := fun i hi => by
  obtain ⟨b', off', e, c0, c1⟩ := h (m + i) (by omega)
  cases e
  rw [if_neg (by omega)]
  exact ⟨b, off + m * 2, rfl, by rw [show off + m * 2 + i * 2 = off + (m + i) * 2 by omega]; exact c0, by rw [show off + m * 2 + i * 2 + 1 = off + (m + i) * 2 + 1 by omega]; exact c1⟩
theorem turnC_at (f : Nat → Int) (n : Nat) : ∀ (k i : Nat), i < k → (turnC f n k)[i * 2]? = some (.int .i64 (hiW (f (n - 1 - i)))) ∧ (turnC f n k)[i * 2 + 1]? = some (.int .u64 (loW (f (n - 1 - i))))
  | 0, i, h => by omega
  | k + 1, i, h => by
    have hl : ∀ k, (turnC f n k).length = k * 2 := by
      intro k
      induction k with
      | zero => rfl
      | succ k ih => rw [turnC, List.length_append, ih]; simp; omega
    rw [turnC]
    by_cases hi : i < k
    · have := turnC_at f n k i hi
      rw [List.getElem?_append_left (by rw [hl]; omega), List.getElem?_append_left (by rw [hl]; omega)]
      exact this
    · have e : i = k := by omega
      subst e
      rw [List.getElem?_append_right (by rw [hl]; omega), List.getElem?_append_right (by rw [hl]; omega), hl]
      simp
theorem turned_lies {wr : World} {base : Nat} {e : TypeId} {v : Value} {k : Nat} {f : Nat → Int} (h : wr.ownsRow base e 2 v k (turnC f k k)) :
    ∃ (ao : Option Addr) (cap : Nat), v = .slice ao k cap ∧ Lies wr ao k (fun j => f (k - 1 - j)) ∧ ∀ a, ao = some a → a.block < wr.heap.size := by
  rcases h.2 with ⟨rfl, rfl⟩ | ⟨g, cap, cur, rfl, hb, hg, hc, _, _, _⟩
  · exact ⟨none, 0, rfl, fun i hi => by omega, fun a ha => by cases ha⟩
  · refine ⟨some ⟨g, 0, none⟩, cap, rfl, fun i hi => ?_, fun a ha => ?_⟩
    · have t := turnC_at f k k i hi
      refine ⟨g, 0, rfl, ?_, ?_⟩
      · rw [Nat.zero_add, h.cellAt _ (by omega)]; exact t.1
      · rw [Nat.zero_add, h.cellAt _ (by omega)]; exact t.2
    · cases ha
      exact (h.lt g rfl).2
theorem sum_rev (ao : Option Addr) (n cap : Nat) (f : Nat → Int) (w : World) (hn : n ≤ 60) (h : Hid (Lies w ao n (fun j => f (n - 1 - j)))) :
    Calls Try.prog 32 #[.slice ao n cap] w fun e w' => e = .returned (.agg #[.int .i64 (hiW (sumF f n)), .int .u64 (loW (sumF f n))]) ∧ Below w.heap.size w w' := by
  have := sum_any ao n cap _ w hn h
  rw [sumF_rev] at this
  exact this
theorem acc_info : (Try.prog.info? 24).map (fun i => (i.zero, i.size, i.bytes)) = some (some (.agg #[.int .i64 0, .int .u64 0]), 2, 16) := by kernel_rfl
theorem turn_next {W0 wc w1 : World} {B k n : Nat} {f : Nat → Int} {e : TypeId} {v v' : Value} {o oo : Obj} (hown : wc.ownsRow (B + 1) e 2 v k (turnC f n k)) (hwant : wc.heap[B]? = some o) (hBel : Below B W0 wc) (hsz : B < wc.heap.size)
    (hown' : w1.ownsRow (B + 1) e 2 v' (k + 1) (turnC f n k ++ [.int .i64 (hiW (f (n - 1 - k))), .int .u64 (loW (f (n - 1 - k)))])) (hgrow : (wc.alloc oo).grownBy w1 v.ownBlock) :
    w1.ownsRow (B + 1) e 2 v' (k + 1) (turnC f n (k + 1)) ∧ w1.heap[B]? = some o ∧ Below B W0 w1 ∧ B < w1.heap.size := by
  have hrow : ∀ q, v.ownBlock = some q → B + 1 ≤ q := fun q hq => (hown.lt q hq).1
  have h1 : (wc.alloc oo).heap.size = wc.heap.size + 1 := by simp
  have hs := hgrow.size
  refine ⟨hown', ?_, (hBel.alloc (by omega) oo).grown hgrow (by omega) (fun q hq => by have := hrow q hq; omega), by omega⟩
  rw [hgrow.block B (by omega) (fun he => by have := hrow B he.symm; omega), heap_alloc_old _ _ hsz]
  exact hwant

set_option maxHeartbeats 1000000 in
theorem sums_main (b off n cap : Nat) (at' : Int) (f : Nat → Int) (w : World) (hn : n ≤ 60) (hcap : n ≤ cap) (hm : cap ≤ 9223372036854775807) (ha1 : 0 ≤ at') (ha2 : at' ≤ 255) (hbw : b < w.heap.size) (hL : Hid (Lies w (some ⟨b, off, none⟩) n f)) :
    Calls Try.prog 8 #[.slice (some ⟨b, off, none⟩) n cap, .int .u8 at'] w fun e w' => e = .returned (.bool true) ∧ Below w.heap.size w w' := by
  go_enter Try.func8, Try.ntmps8
  go_wp2_with (go_at_call 9; refine (awake_w _).mono ?_; rintro e W0 ⟨rfl, hB0⟩)
  go_loopw [6, 16] (fun v i wr => ∃ k : Nat, k ≤ n ∧ i = .int .i64 k ∧ wr.ownsRow (W0.heap.size + 1) 24 2 v k (turnC f n k) ∧ wr.heap[W0.heap.size]? = some (.cells #[.int .i64 (dg (sumF f k) 0), .int .i64 (dg (sumF f k) 1), .int .i64 (dg (sumF f k) 2), .int .i64 (dg (sumF f k) 3), .int .i64 (dg (sumF f k) 4), .int .i64 (dg (sumF f k) 5), .int .i64 (dg (sumF f k) 6), .int .i64 (dg (sumF f k) 7)] 27 (0, 0)) ∧ Below W0.heap.size W0 wr ∧ W0.heap.size < wr.heap.size)
    (fun _ i _ => n - (intOf i).toNat)
  case atStart => exact ⟨0, by omega, rfl, World.ownsRow_nil _ _ _ _, by rw [heap_alloc_new, want_start]; rfl, (Below.refl _ _).alloc (Nat.le_refl _) _, by simp⟩
  case round =>
    obtain ⟨k, hk, rfl, hown, hwant, hBel, hsz⟩ := hrel
    have y0 := cell_of_row wr _ 0 _ _ _ hwant
    have y1 := cell_of_row wr _ 1 _ _ _ hwant
    have y2 := cell_of_row wr _ 2 _ _ _ hwant
    have y3 := cell_of_row wr _ 3 _ _ _ hwant
    have y4 := cell_of_row wr _ 4 _ _ _ hwant
    have y5 := cell_of_row wr _ 5 _ _ _ hwant
    have y6 := cell_of_row wr _ 6 _ _ _ hwant
    have y7 := cell_of_row wr _ 7 _ _ _ hwant
    have yf := fun j => frozen_of_row wr _ j _ _ hwant
    by_cases hlt : k < n
    · have hlies : Lies wr (some ⟨b, off, none⟩) n f := ((hL.out).below hB0 (fun a e => by cases e; exact hbw)).below hBel (fun a e => by cases e; exact Nat.lt_of_lt_of_le hbw hB0.size)
      obtain ⟨b', off', e', c0, c1⟩ := hlies k hlt
      obtain ⟨b'', off'', e'', c2, c3⟩ := hlies (n - 1 - k) (by omega)
      cases e'; cases e''
      have zb : b < wr.heap.size := block_lt_of_cell c0
      have zb1 : b < W0.heap.size := Nat.lt_of_lt_of_le hbw hB0.size
      have hik : (k : Int) < (n : Int) := by omega
      simp only [List.getElem?_toArray, List.getElem?_cons_zero, List.getElem?_cons_succ] at y0 y1 y2 y3 y4 y5 y6 y7
      have HOWN : Hid _ := hown
      have HWANT : Hid _ := hwant
      clear hown hwant hlies
      go_wp2
      go_cut [] (fun wc => wc.ownsRow (W0.heap.size + 1) 24 2 u6 k (turnC f n k) ∧ wc.heap[W0.heap.size]? = some (.cells #[.int .i64 (dg (sumF f (k + 1)) 0), .int .i64 (dg (sumF f (k + 1)) 1), .int .i64 (dg (sumF f (k + 1)) 2), .int .i64 (dg (sumF f (k + 1)) 3), .int .i64 (dg (sumF f (k + 1)) 4), .int .i64 (dg (sumF f (k + 1)) 5), .int .i64 (dg (sumF f (k + 1)) 6), .int .i64 (dg (sumF f (k + 1)) 7)] 27 (0, 0)) ∧ Below W0.heap.size W0 wc ∧ W0.heap.size < wc.heap.size)
      case first =>
        go_region_with
          ((first | (go_at_call 10; refine (big_any _ _).mono ?_; rintro e w1 ⟨rfl, hb⟩; obtain ⟨d1, os1, rfl⟩ := more_of hb) | (go_at_call 12; refine (add_any _ _ _).mono ?_; rintro e w2 ⟨rfl, hb2⟩; obtain ⟨d2, os2, rfl⟩ := more_of hb2)))
        all_goals (try go_wp2)
        all_goals go_meet
        all_goals exact next_want _ _ HOWN.out HWANT.out hBel hsz
      case rest =>
        obtain ⟨hown, hwant, hBel', hsz'⟩ := hcut
        clear c0 c1 c2 c3 y0 y1 y2 y3 y4 y5 y6 y7 yf HOWN HWANT hBel hsz zb
        obtain ⟨b', off', e', c2, c3⟩ := (((hL.out).below hB0 (fun a e => by cases e; exact hbw)).below hBel' (fun a e => by cases e; exact Nat.lt_of_lt_of_le hbw hB0.size)) (n - 1 - k) (by omega)
        cases e'
        obtain ⟨i0, hi, hz0, hz1, hz2⟩ := info_parts acc_info
        go_wp2_with (at_builtin; refine wpList_append_own _ rfl _ _ 49 rfl (W0.heap.size + 1) 24 i0 (.agg #[.int .i64 0, .int .u64 0]) 2 16 Try.underlying49 hi hz0 hz1 hz2 rfl (by decide) _ _ _ rfl (hown.alloc _) ⟨wc.heap.size, 0, none⟩ 1 1 [.int .i64 (hiW (f (n - 1 - k))), .int .u64 (loW (f (n - 1 - k)))] rfl rfl ?c1 ?c2 ?c3 ?c4 ?c5 ?_)
        case c1 => exact World.news_of_block (heap_alloc_new _ _)
        case c2 => intro u hu; simp at hu; rcases hu with rfl | rfl <;> rfl
        case c3 => unfold maxLen; omega
        case c4 => omega
        case c5 => simp; omega
        intro v' w1 hown' hgrow _
        have R := turn_next hown hwant hBel' hsz' hown' hgrow
        clear hown hwant hBel' hsz' hown' hgrow c2 c3
        go_wp2
        go_roundw
        case rel => exact ⟨k + 1, by omega, by go_num, R.1, R.2.1, R.2.2.1, R.2.2.2⟩
        case measure => simp [intOf]; omega
    · have e : k = n := by omega
      subst e
      simp only [List.getElem?_toArray, List.getElem?_cons_zero, List.getElem?_cons_succ] at y0 y1 y2 y3 y4 y5 y6 y7
      have hlies : Hid (Lies wr (some ⟨b, off, none⟩) k f) := ((hL.out).below hB0 (fun a e => by cases e; exact hbw)).below hBel (fun a e => by cases e; exact Nat.lt_of_lt_of_le hbw hB0.size)
      have zb : b < wr.heap.size := Nat.lt_of_lt_of_le (Nat.lt_of_lt_of_le hbw hB0.size) hBel.size
      obtain ⟨ao', cap', rfl, hlies', zt⟩ := turned_lies hown
      have HT : Hid (Lies wr ao' k (fun j => f (k - 1 - j))) := hlies'
      have HZ : Hid (∀ a, ao' = some a → a.block < wr.heap.size) := zt
      clear hown hwant hlies' zt
      go_upto_region 13 with fail
      go_cut [8] (fun q wc => ∃ m : Nat, m ≤ k ∧ q = .int .i64 (m : Int) ∧ wc = wr)
      case first =>
        go_wp2
        all_goals go_meet
        all_goals first | exact ⟨at'.toNat, by omega, by rw [Int.toNat_of_nonneg ha1], rfl⟩ | exact ⟨k, by omega, rfl, rfl⟩
      case rest =>
        obtain ⟨m, hmk, rfl, rfl⟩ := hcut
        have hm0 : (0 : Int) ≤ (m : Int) := by omega
        have hm1 : (m : Int) ≤ (k : Int) := by omega
        have hm2 : (m : Int) ≤ (cap : Int) := by omega
        go_wp2
        refine wp_region_quiet_below (by kernel_rfl) (by kernel_rfl) ?_
        repeat (go_big_quiet_step (fail))
        go_big_quiet_step ((go_at_call 32; refine Calls.regrown_of (sum_any _ _ _ f _ hn (hlies.out.below (below_regrown _ _ _) (fun a e => by cases e; exact zb)))))
        repeat (go_big_quiet_step (fail))
        go_big_quiet_step ((go_at_call 10; refine Calls.regrown_of (big_any _ _)))
        repeat (go_big_quiet_step (fail))
        go_big_quiet_step ((go_at_call 32; refine Calls.regrown_of (sum_rev _ _ _ f _ hn (HT.out.below (below_regrown _ _ _) HZ.out))))
        repeat (go_big_quiet_step (fail))
        go_big_quiet_step ((go_at_call 32; refine Calls.regrown_of (sum_any _ _ _ f _ hn (hlies.out.below (below_regrown _ _ _) (fun a e => by cases e; exact zb)))))
        repeat (go_big_quiet_step (fail))
        go_big_quiet_step ((go_at_call 32; refine Calls.regrown_of (sum_any _ m _ f _ (by omega) ((hlies.out.below (below_regrown _ _ _) (fun a e => by cases e; exact zb)).first hmk))))
        repeat (go_big_quiet_step (fail))
        go_big_quiet_step ((go_at_call 32; refine Calls.regrown_of (sum_any _ _ _ (fun i => f (m + i)) _ (by omega) ((hlies.out.below (below_regrown _ _ _) (fun a e => by cases e; exact zb)).rest hmk hcap))))
        repeat (go_big_quiet_step (fail))
        go_big_quiet_step ((go_at_call 11; refine Calls.regrown_of (plus_as (sumF f m) (sumF (fun i => f (m + i)) (k - m)) (sumF f k) _ (sumF_split f hmk))))
        repeat (go_big_quiet_step (fail))
        go_big_quiet_step ((go_at_call 32; refine Calls.regrown_of (sum_any _ _ _ f _ hn (hlies.out.below (below_regrown _ _ _) (fun a e => by cases e; exact zb)))))
        repeat (go_big_quiet_step (fail))
        refine wpQuiet_nil ?_
        intro _ hw'
        obtain ⟨⟨dq, osq⟩, hw''⟩ := hw'
        subst hw''
        go_wp2
        all_goals go_ret
        all_goals exact ⟨rfl, below_gr (hB0.trans (hBel.mono hB0.size)) (by have h1 := hB0.size; have h2 := hBel.size; omega) _ _⟩
end Go.Proofs.Ytmijjhgibbbedaa
