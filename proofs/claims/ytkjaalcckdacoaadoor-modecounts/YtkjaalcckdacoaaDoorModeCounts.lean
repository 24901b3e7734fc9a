/-
  The law ModeCounts of layer 5 (mode) as a walk: called at any list of pairs, with the tables of package mode as the row lists them, it returns true, and nothing that was there has turned.
-/
import Derived.Test.YtkjaalcckdacoaaDoorModeMost
import Derived.Test.YtkjaalcckdacoaaDoorModeOpen
namespace Go.Proofs.YtkjaalcckdacoaaDoor
set_option linter.unusedVariables false
open Go.ChangeShapes Go.WideShapes Go.ChangeAt Go.RowKit
open Go.Sort (grow)
attribute [local go_sem] eql_md neq_md

def kindsTo (f g : Nat → Int) (n : Nat) : Nat → Nat
  | 0 => 0
  | j + 1 => kindsTo f g n j + one (cnt f g n (allS j) (allC j))
theorem kindsTo_le (f g : Nat → Int) (n : Nat) : ∀ j, kindsTo f g n j ≤ j
  | 0 => Nat.le_refl _
  | j + 1 => by
    have := kindsTo_le f g n j
    have h1 : one (cnt f g n (allS j) (allC j)) ≤ 1 := by unfold one; split <;> omega
    rw [kindsTo]; omega
theorem kindsTo_all (f g : Nat → Int) (n : Nat) : kindsTo f g n 6 = kinds f g n := by
  simp only [kindsTo, Nat.zero_add]
  rfl
def topF (f g : Nat → Int) (n j : Nat) : Nat := cnt f g n (best f g n j).1 (best f g n j).2.1
theorem top_start (f g : Nat → Int) (n : Nat) : topF f g n 0 = 0 := by
  unfold topF cnt
  rw [best, if_neg (by decide)]
theorem best_found (f g : Nat → Int) (n : Nat) : ∀ j, (best f g n j).2.2 = decide (0 < topF f g n j)
  | 0 => by rw [top_start]; rfl
  | j + 1 => by
    have ih := best_found f g n j
    unfold topF at ih ⊢
    rw [best]
    split
    · rename_i h
      exact (decide_eq_true (by show 0 < cnt f g n (allS j) (allC j); omega)).symm
    · exact ih
theorem step_all {s c : Nat} (hs : s < 3) (hc : c < 2) : allS (2 * s + c) = s ∧ allC (2 * s + c) = c + 1 ∧ right s (c + 1) := by
  unfold allS allC right; omega
theorem cnt_is {f g : Nat → Int} {n s c : Nat} (hs : s < 3) (hc : c < 2) : cnt f g n (allS (2 * s + c)) (allC (2 * s + c)) = cntP f g s (c + 1) n := by
  obtain ⟨h1, h2, h3⟩ := step_all hs hc
  rw [h1, h2]
  unfold cnt
  rw [if_pos h3]

theorem best_next {f g : Nat → Int} {n s c m : Nat} (hs : s < 3) (hc : c < 2) (hm : cntP f g s ((c : Int) + 1) n = m) :
    (topF f g n (2 * s + c) < m → best f g n (2 * s + (c + 1)) = ((s : Int), (c : Int) + 1, true) ∧ topF f g n (2 * s + (c + 1)) = m) ∧ (¬ topF f g n (2 * s + c) < m → best f g n (2 * s + (c + 1)) = best f g n (2 * s + c) ∧ topF f g n (2 * s + (c + 1)) = topF f g n (2 * s + c)) ∧
      kindsTo f g n (2 * s + (c + 1)) = kindsTo f g n (2 * s + c) + one m := by
  have h1 := cnt_is (f := f) (g := g) (n := n) hs hc
  obtain ⟨e1, e2, _⟩ := step_all hs hc
  rw [hm] at h1
  have hb : best f g n (2 * s + (c + 1)) = if topF f g n (2 * s + c) < m then ((s : Int), (c : Int) + 1, true) else best f g n (2 * s + c) := by
    show best f g n (2 * s + c + 1) = _
    rw [best, h1, e1, e2]
    rfl
  refine ⟨fun h => ?_, fun h => ?_, ?_⟩
  · rw [if_pos h] at hb
    refine ⟨hb, ?_⟩
    unfold topF
    rw [hb]
    show cnt f g n (s : Int) ((c : Int) + 1) = m
    rw [← e1, ← e2, h1]
  · rw [if_neg h] at hb
    refine ⟨hb, ?_⟩
    unfold topF
    rw [hb]
  · show kindsTo f g n (2 * s + c + 1) = _
    rw [kindsTo, h1]
theorem set_best {wr : World} {B : Nat} {a b u v : Value} {t : TypeId} (hblk : wr.heap[B]? = some (.cells #[u, v] t (0, 0))) :
    ((wr.setCell ⟨B, 0, none⟩ a).setCell ⟨B, 1, none⟩ b).heap[B]? = some (.cells #[a, b] t (0, 0)) := by
  have h0 := heap_setCell_same _ B 0 _ t a hblk
  simp only [List.setIfInBounds_toArray, List.set_cons_zero] at h0
  have h1 := heap_setCell_same _ B 1 _ t b h0
  simp only [List.setIfInBounds_toArray, List.set_cons_zero, List.set_cons_succ] at h1
  exact h1

theorem wpList_lookup_run {P : Program} (w : World) {ops : Array Oper} {rest : List Oper} {o : Oper} {a : Act} {Q : Exit → Act → World → Prop} (hg : o.guard = none) (m x : Operand) (t : TypeId) (hop : o.op = Op.lookup t m x false)
    (mv key v : Value) (hm : a.eval m = mv) (hx : a.eval x = key) (hrun : (Instr.lookup t mv key false).run P w = .ok v w) (hK : wpList P ops Q rest (a.put o.dst v) w) : wpList P ops Q (o :: rest) a w := by
  refine wpList_plain hg fun K' hK' => ?_
  unfold Oper.wp
  simp [execOp, hop, hm, hx, hrun, Result.andThen]
  exact hK' _ _ hK

set_option maxHeartbeats 1000000 in
theorem counts_long (ao : Option Addr) (n cap : Nat) (w : World) (h : Hid (Tabs w)) (hn : 60 < n) :
    Calls Tryd.prog 6 #[.slice ao n cap] w fun e w' => e = .returned (.bool true) ∧ Below w.heap.size w w' := by
  have hn' : (60 : Int) < (n : Int) := by omega
  go_enter Tryd.func6, Tryd.ntmps6
  go_wp2_with (go_at_call 8; refine (awake_m _ h).mono ?_; rintro e w0 ⟨rfl, hb0⟩)
  go_ret
  exact ⟨rfl, hb0⟩

set_option maxRecDepth 20000 in
set_option maxHeartbeats 2000000 in
theorem counts_short (ao : Option Addr) (n cap : Nat) (f g : Nat → Int) (w : World) (h : Hid (Tabs w)) (hn : n ≤ 60) (hL : Hid (PairsAt w ao n f g)) (hW : Hid (∀ i, i < n → (Lit.int .i64 (f i)).wf = true ∧ (Lit.int .i64 (g i)).wf = true)) :
    Calls Tryd.prog 6 #[.slice ao n cap] w fun e w' => e = .returned (.bool true) ∧ Below w.heap.size w w' := by
  obtain ⟨i0, hi, hz0, hz1, hz2⟩ := info_parts mode_info
  have hn' : (n : Int) ≤ 60 := by omega
  go_enter Tryd.func6, Tryd.ntmps6
  go_wp2_with (go_at_call 8; refine (awake_m _ h).mono ?_; rintro e w0 ⟨rfl, hb0⟩)
  go_loopw [3, 24] (fun v i wr => ∃ k : Nat, k ≤ n ∧ i = .int .i64 k ∧ wr.ownsRow w0.heap.size 24 2 v k (rowL f g k) ∧ Hid (Below w0.heap.size w0 wr)) (fun _ i _ => n - (intOf i).toNat)
  case atStart => exact ⟨0, by omega, rfl, World.ownsRow_nil _ _ _ _, Below.refl _ _⟩
  case round =>
    obtain ⟨k, hk, rfl, hown, HB⟩ := hrel
    by_cases hlt : k < n
    · have hlt' : (k : Int) < (n : Int) := by omega
      obtain ⟨b, off, rfl, x0, x1⟩ := ((hL.out.keep hb0).keep HB.out) k hlt
      go_wp2_with (at_builtin; refine wpList_append_own _ rfl _ _ 36 rfl w0.heap.size 24 i0 (.agg #[.int .i64 (0), .int .i64 (0)]) 2 16 Tryd.underlying36 hi hz0 hz1 hz2 rfl (by decide) _ _ _ rfl ((hown.alloc _).alloc _) ⟨wr.heap.size + 1, 0, none⟩ 1 1 [.int .i64 (f k), .int .i64 (g k)] rfl rfl ?c1 ?c2 ?c3 ?c4 ?c5 ?_)
      case c1 => exact World.news_of_block (by have := heap_alloc_new (wr.alloc (.cells #[.int .i64 (f k), .int .i64 (g k)] 37)) (.cells #[.int .i64 (f k), .int .i64 (g k)] 24); simpa using this)
      case c2 => intro u hu; simp at hu; rcases hu with rfl | rfl <;> rfl
      case c3 => unfold maxLen; omega
      case c4 => omega
      case c5 => have := HB.out.size; simp; omega
      intro v' w1 hown' hgrow _
      have HB1 : Hid (Below w0.heap.size w0 w1) := row_next (hown.alloc _) (Nat.le_refl _) (HB.out.alloc HB.out.size _) (by have := HB.out.size; simp; omega) hgrow
      have HO : Hid (w1.ownsRow w0.heap.size 24 2 v' (k + 1) (rowL f g (k + 1))) := hown'
      clear hown hgrow hown' x0 x1
      go_wp2
      go_roundw
      case rel => exact ⟨k + 1, by omega, by go_num, HO.out, HB1⟩
      case measure => simp [intOf]; omega
    · have e : k = n := by omega
      subst e
      obtain ⟨ao', cap', rfl, hl', ha'⟩ := row_lies hown
      have HL2 : Hid (PairsAt wr ao' k f g) := hl'
      have HL1 : Hid (PairsAt wr ao k f g) := (hL.out.keep hb0).keep HB.out
      obtain ⟨w2, rfl⟩ : ∃ x, x = wr := ⟨_, rfl⟩
      clear hown hl' ha' hL
      go_wp2_with (go_at_call 20; refine (count_any _ _ _ f g _ hn HL2 hW).mono ?_; rintro e w1 ⟨b, D, rfl, hbb, hownD, hC, hb1⟩)
      have HL3 : Hid (PairsAt w1 ao k f g) := HL1.out.keep hb1
      have HL4 : Hid (PairsAt w1 ao' k f g) := HL2.out.keep hb1
      have HC : Hid (Counts f g k D) := hC
      have HM : Hid (w1.ownsMap Tryd.prog 24 (plainElem Tryd.prog 3) b k D) := hownD
      have B0 : Hid (Below w.heap.size w w1) := hb0.trans ((HB.out.trans (hb1.mono HB.out.size)).mono hb0.size)
      clear HL1 HL2 hC hownD HB hb1 hbb
      go_loopw [7, 8, 10] (fun a t i wr => ∃ s : Nat, s ≤ 3 ∧ i = .int .i64 s ∧ a = .int .i64 (kindsTo f g k (2 * s + 0) : Nat) ∧ t = .int .i64 (topF f g k (2 * s + 0) : Nat) ∧ wr.heap[w1.heap.size]? = some (.cells #[.int .i64 (best f g k (2 * s + 0)).1, .int .i64 (best f g k (2 * s + 0)).2.1] 24 (0, 0)) ∧ Hid (Below w1.heap.size w1 wr)) (fun _ _ i _ => 3 - (intOf i).toNat)
      case atStart => exact ⟨0, by omega, rfl, rfl, by rw [top_start]; rfl, by rw [heap_alloc_new]; rfl, (Below.refl _ _).alloc (Nat.le_refl _) _⟩
      case round =>
        obtain ⟨s, hs, rfl, rfl, rfl, hblk, HB⟩ := hrel
        obtain ⟨w3, rfl⟩ : ∃ x, x = wr := ⟨_, rfl⟩
        by_cases hs3 : s < 3
        · have hs3' : (s : Int) < 3 := by omega
          have HBLK : Hid (w3.heap[w1.heap.size]? = some (.cells #[.int .i64 (best f g k (2 * s + 0)).1, .int .i64 (best f g k (2 * s + 0)).2.1] 24 (0, 0))) := hblk
          clear hblk
          go_wp2
          go_loopw [7, 8, 11] (fun a t i wr => ∃ c : Nat, c ≤ 2 ∧ i = .int .i64 ((c : Int) + 1) ∧ a = .int .i64 (kindsTo f g k (2 * s + c) : Nat) ∧ t = .int .i64 (topF f g k (2 * s + c) : Nat) ∧ Hid (wr.heap[w1.heap.size]? = some (.cells #[.int .i64 (best f g k (2 * s + c)).1, .int .i64 (best f g k (2 * s + c)).2.1] 24 (0, 0))) ∧ Hid (Below w1.heap.size w1 wr)) (fun _ _ i _ => 3 - (intOf i).toNat)
          case atStart => exact ⟨0, by omega, rfl, rfl, rfl, HBLK, HB⟩
          case round =>
            clear HBLK HB
            obtain ⟨c, hc, rfl, rfl, rfl, HBLK, HB⟩ := hrel
            obtain ⟨w4, rfl⟩ : ∃ x, x = wr := ⟨_, rfl⟩
            by_cases hc2 : c < 2
            · have hc2' : (c : Int) + 1 ≤ 2 := by omega
              go_wp2
              go_loopw [12, 49] (fun m i wr => ∃ q : Nat, q ≤ k ∧ i = .int .i64 q ∧ m = .int .i64 (cntP f g s ((c : Int) + 1) q : Nat) ∧ Hid (Below w4.heap.size w4 wr)) (fun _ i _ => k - (intOf i).toNat)
              case atStart => exact ⟨0, by omega, rfl, rfl, Below.refl _ _⟩
              case round =>
                obtain ⟨q, hq, rfl, rfl, HB5⟩ := hrel
                by_cases hqk : q < k
                · have hqk' : (q : Int) < (k : Int) := by omega
                  obtain ⟨bb, off, rfl, x0, x1⟩ := (HL3.out.keep (HB.out.trans (HB5.out.mono HB.out.size))) q hqk
                  have hcl := cntP_le f g s ((c : Int) + 1) q
                  have hst : cntP f g s ((c : Int) + 1) (q + 1) = cntP f g s ((c : Int) + 1) q + (if f q = s ∧ g q = (c : Int) + 1 then 1 else 0) := rfl
                  obtain ⟨m, hm⟩ : ∃ m, cntP f g s ((c : Int) + 1) q = m := ⟨_, rfl⟩
                  rw [hm] at hcl hst ⊢
                  have HST : Hid _ := hst
                  clear hst hm
                  by_cases a1 : f q = s
                  · by_cases a2 : g q = (c : Int) + 1
                    · have HST' : Hid (cntP f g s ((c : Int) + 1) (q + 1) = m + 1) := by show _ = _; rw [HST.out, if_pos ⟨a1, a2⟩]
                      go_wp2
                      go_roundw
                      case rel => exact ⟨q + 1, by omega, by go_num, by rw [HST'.out]; try go_num, HB5.out.trans (Below.mono (Below.alloc (Below.refl _ _) (Nat.le_refl _) _) HB5.out.size)⟩
                      case measure => simp [intOf]; omega
                    · have HST' : Hid (cntP f g s ((c : Int) + 1) (q + 1) = m) := by show _ = _; rw [HST.out, if_neg (fun h => a2 h.2)]; rfl
                      go_wp2
                      go_roundw
                      case rel => exact ⟨q + 1, by omega, by go_num, by rw [HST'.out]; try go_num, HB5.out.trans (Below.mono (Below.alloc (Below.refl _ _) (Nat.le_refl _) _) HB5.out.size)⟩
                      case measure => simp [intOf]; omega
                  · have HST' : Hid (cntP f g s ((c : Int) + 1) (q + 1) = m) := by show _ = _; rw [HST.out, if_neg (fun h => a1 h.1)]; rfl
                    go_wp2
                    go_roundw
                    case rel => exact ⟨q + 1, by omega, by go_num, by rw [HST'.out]; try go_num, HB5.out.trans (Below.mono (Below.alloc (Below.refl _ _) (Nat.le_refl _) _) HB5.out.size)⟩
                    case measure => simp [intOf]; omega
                · have e : k = q := by omega
                  subst e
                  have HB6 : Hid (Below w1.heap.size w1 wr) := HB.out.trans (HB5.out.mono HB.out.size)
                  have hlt4 : w1.heap.size < w4.heap.size := (Array.getElem?_eq_some_iff.1 HBLK.out).1
                  have hblk : wr.heap[w1.heap.size]? = some (.cells #[.int .i64 (best f g k (2 * s + c)).1, .int .i64 (best f g k (2 * s + c)).2.1] 24 (0, 0)) := (HB5.out.block _ hlt4).trans HBLK.out
                  have x0 := cell_of_row wr _ 0 _ _ _ hblk
                  have x1 := cell_of_row wr _ 1 _ _ _ hblk
                  have xf := fun j => frozen_of_row wr _ j _ _ hblk
                  simp only [List.getElem?_toArray, List.getElem?_cons_zero, List.getElem?_cons_succ] at x0 x1
                  have ws : (Lit.int .i64 (s : Int)).wf = true := WalkArith.wf_i64 (by omega)
                  have wc : (Lit.int .i64 ((c : Int) + 1)).wf = true := WalkArith.wf_i64 (by omega)
                  have hq0 := lookup_at (HM.out.kept (grownBy_below HB6.out) (by simp)) modeKeyed Tryd.underlying38 Tryd.underlying3 zeroInt (key_md ws wc) (HC.out.1 _ _ ws wc).1
                  have hcnt : cnt f g k (s : Int) ((c : Int) + 1) = cntP f g s ((c : Int) + 1) k := by unfold cnt; rw [if_pos (step_all hs3 hc2).2.2]
                  rw [hcnt] at hq0
                  have hcl := cntP_le f g s ((c : Int) + 1) k
                  have hkl := kindsTo_le f g k (2 * s + c)
                  obtain ⟨m, hm⟩ : ∃ m, cntP f g s ((c : Int) + 1) k = m := ⟨_, rfl⟩
                  have hnext := best_next hs3 hc2 hm
                  rw [hm] at hcl hq0 ⊢
                  obtain ⟨K, hK⟩ : ∃ K, kindsTo f g k (2 * s + c) = K := ⟨_, rfl⟩
                  obtain ⟨T, hT⟩ : ∃ T, topF f g k (2 * s + c) = T := ⟨_, rfl⟩
                  rw [hK] at hkl hnext ⊢
                  rw [hT] at hnext ⊢
                  have HX : Hid (wr.heap[w1.heap.size]? = some (.cells #[.int .i64 (best f g k (2 * s + c)).1, .int .i64 (best f g k (2 * s + c)).2.1] 24 (0, 0))) := hblk
                  have HN : Hid _ := hnext
                  have HQ : Hid _ := hq0
                  clear ws wc hq0 hm hcnt hnext hK hT hblk HBLK HB HB5
                  by_cases ht : T < m
                  · have E1 : Hid _ := (HN.out.1 ht).1
                    have E2 : Hid _ := (HN.out.1 ht).2
                    have E3 : Hid (kindsTo f g k (2 * s + (c + 1)) = K + 1) := by show _ = _; rw [HN.out.2.2, one_pos (by omega)]
                    have ht' : (T : Int) < (m : Int) := by omega
                    have hm0 : (0 : Int) < (m : Int) := by omega
                    go_wp2_with (at_lookup; refine wpList_lookup_run _ rfl _ _ 38 rfl _ _ _ rfl rfl HQ.out ?_)
                    go_roundw
                    case rel => exact ⟨c + 1, by omega, by go_num, by rw [E3.out]; go_num, by rw [E2.out], by rw [E1.out]; exact set_best HX.out, (HB6.out.setCell (Nat.le_refl _) _).setCell (Nat.le_refl _) _⟩
                    case measure => simp [intOf]; omega
                  · have E1 : Hid _ := (HN.out.2.1 ht).1
                    have E2 : Hid _ := (HN.out.2.1 ht).2
                    have ht' : ¬ (T : Int) < (m : Int) := by omega
                    by_cases hm0 : m = 0
                    · subst hm0
                      have E3 : Hid (kindsTo f g k (2 * s + (c + 1)) = K) := by show _ = _; rw [HN.out.2.2, one_zero, Nat.add_zero]
                      go_wp2_with (at_lookup; refine wpList_lookup_run _ rfl _ _ 38 rfl _ _ _ rfl rfl HQ.out ?_)
                      go_roundw
                      case rel => exact ⟨c + 1, by omega, by go_num, by rw [E3.out], by rw [E2.out], by rw [E1.out]; exact HX.out, HB6⟩
                      case measure => simp [intOf]; omega
                    · have E3 : Hid (kindsTo f g k (2 * s + (c + 1)) = K + 1) := by show _ = _; rw [HN.out.2.2, one_pos (by omega)]
                      have hm1 : (0 : Int) < (m : Int) := by omega
                      go_wp2_with (at_lookup; refine wpList_lookup_run _ rfl _ _ 38 rfl _ _ _ rfl rfl HQ.out ?_)
                      go_roundw
                      case rel => exact ⟨c + 1, by omega, by go_num, by rw [E3.out]; go_num, by rw [E2.out], by rw [E1.out]; exact HX.out, HB6⟩
                      case measure => simp [intOf]; omega
            · have e : c = 2 := by omega
              subst e
              go_wp2_with (at_lookup; refine wpList_lookup_run _ rfl _ _ 38 rfl _ _ _ rfl rfl HQ.out ?_)
              go_roundw
              case rel => exact ⟨s + 1, by omega, by go_num, rfl, rfl, HBLK.out, HB⟩
              case measure => simp [intOf]; omega
        · have e : s = 3 := by omega
          subst e
          have hlt3 : w1.heap.size < w3.heap.size := (Array.getElem?_eq_some_iff.1 hblk).1
          rw [show 2 * 3 + 0 = 6 from rfl] at hblk ⊢
          have e1 : Maps.size D = kindsTo f g k 6 := by rw [HC.out.2, kindsTo_all]
          have e2 := best_found f g k 6
          have HX : Hid (w3.heap[w1.heap.size]? = some (.cells #[.int .i64 (best f g k 6).1, .int .i64 (best f g k 6).2.1] 24 (0, 0))) := hblk
          clear hblk
          by_cases ht : 0 < topF f g k 6
          · rw [decide_eq_true ht] at e2
            have ht' : (0 : Int) < (topF f g k 6 : Int) := by omega
            go_wp2_with (first | (go_at_call 21; refine (most_any _ _ _ f g _ hn (HL4.out.keep HB.out) hW).mono ?_; rintro e w5 ⟨rfl, hb5⟩; have x0 := cell_of_row w5 _ 0 _ _ _ ((hb5.block _ hlt3).trans HX.out); have x1 := cell_of_row w5 _ 1 _ _ _ ((hb5.block _ hlt3).trans HX.out); simp only [List.getElem?_toArray, List.getElem?_cons_zero, List.getElem?_cons_succ] at x0 x1; have z5 : w1.heap.size < w5.heap.size := block_lt_of_cell x0) | (at_len; refine wpList_len_own _ rfl _ 38 rfl 24 3 Tryd.underlying38 (plainElem (H := Unit) Tryd.prog 3) b k D rfl (((HM.out.kept (grownBy_below HB.out) (by simp)).kept (grownBy_below hb5) (by simp)).alloc _) ?_))
            go_ret
            exact ⟨rfl, B0.out.trans ((HB.out.trans ((hb5.trans (Below.mono (Below.alloc (Below.refl _ _) (Nat.le_refl _) _) hb5.size)).mono HB.out.size)).mono B0.out.size)⟩
          · rw [decide_eq_false ht] at e2
            have ht' : ¬ (0 : Int) < (topF f g k 6 : Int) := by omega
            go_wp2_with (first | (go_at_call 21; refine (most_any _ _ _ f g _ hn (HL4.out.keep HB.out) hW).mono ?_; rintro e w5 ⟨rfl, hb5⟩; have x0 := cell_of_row w5 _ 0 _ _ _ ((hb5.block _ hlt3).trans HX.out); have x1 := cell_of_row w5 _ 1 _ _ _ ((hb5.block _ hlt3).trans HX.out); simp only [List.getElem?_toArray, List.getElem?_cons_zero, List.getElem?_cons_succ] at x0 x1; have z5 : w1.heap.size < w5.heap.size := block_lt_of_cell x0) | (at_len; refine wpList_len_own _ rfl _ 38 rfl 24 3 Tryd.underlying38 (plainElem (H := Unit) Tryd.prog 3) b k D rfl (((HM.out.kept (grownBy_below HB.out) (by simp)).kept (grownBy_below hb5) (by simp)).alloc _) ?_))
            go_ret
            exact ⟨rfl, B0.out.trans ((HB.out.trans ((hb5.trans (Below.mono (Below.alloc (Below.refl _ _) (Nat.le_refl _) _) hb5.size)).mono HB.out.size)).mono B0.out.size)⟩

theorem counts_law {H : Type} {enc : TypeId × Value → H} {base : Nat} (v : Value) (d : DataW H) (p : List MemPlace) (W : World) (h : Hid (Tabs W)) (o : Value.okWide Tryd.prog W .any base 35 v) (k : DataW.Trod enc Tryd.prog W 0 (fun _ => true) true 35 v d p) :
    Calls Tryd.prog 6 #[v] W fun e w' => e = .returned (.bool true) ∧ Below W.heap.size W w' := by
  obtain ⟨ao, n, cap, f, g, rfl, _, _, hL, hW⟩ := open_pairs Tryd.underlying35 Tryd.underlying37 Tryd.underlying3 (by kernel_rfl) (by kernel_rfl) o k
  by_cases hn : n ≤ 60
  · exact counts_short ao n cap f g W h hn hL hW
  · exact counts_long ao n cap W h (by omega)
end Go.Proofs.YtkjaalcckdacoaaDoor
