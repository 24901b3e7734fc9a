/-
  What Most of the document's own answer for logs (spinetref15) answers at a list that lies somewhere: what is there most often, and how often. Nothing that was there is turned.
-/
import Derived.Test.YtkilngogdbjmbaaDoorLogRef
namespace Go.Proofs.YtkilngogdbjmbaaDoor
set_option linter.unusedVariables false
set_option linter.unusedSimpArgs false
set_option maxRecDepth 20000
open Go.ChangeShapes Go.WideShapes Go.ChangeAt Go.RowKit
open Go.Sort (grow)
attribute [local go_sem] cell?_gr frozen?_gr setCell_gr size_gr drew_gr drewN_gr redrawn_drew redrawn_drewN redrawn_redrawn gr_gr

/-- Where Most has its result (noughts so far), and the best so far; the list. -/
structure RX (w wr : World) (ao : Option Addr) (n : Nat) (F : Nat → Nat → Int) (f : Nat → Int) : Prop where
  res : Rw wr w.heap.size (fun _ => 0)
  best : Rw wr (w.heap.size + 1) f
  l : L5At wr ao n F
  low : Below w.heap.size w wr
section
variable {w wr w1 : World} {ao : Option Addr} {n : Nat} {F : Nat → Nat → Int} {f : Nat → Int}
theorem RX.below (h : RX w wr ao n F f) (hb : Below wr.heap.size wr w1) : RX w w1 ao n F f := ⟨h.res.below hb, h.best.below hb, h.l.below hb, h.low.trans (hb.mono h.low.size)⟩
theorem RX.drewN (h : RX w wr ao n F f) (d : Nat) : RX w (wr.drewN d) ao n F f := ⟨h.res, h.best, h.l, low_drewN h.low d⟩
theorem L5At.setRow (h : L5At wr ao n F) (hL : L5At w ao n F) {B : Nat} (hB : w.heap.size ≤ B) (C : Array Value) : L5At (wr.setRow B C) ao n F := by
  intro i hi
  obtain ⟨b, off, e, c⟩ := h i hi
  obtain ⟨b', off', e', c'⟩ := hL i hi
  rw [e] at e'; cases e'
  have hlt : b < w.heap.size := block_lt_of_cell (c' 0 (by omega))
  refine ⟨b, off, e, fun j hj => ?_⟩
  rw [World.cell?_of_block (a := ⟨b, _, none⟩) (setRow_same (by show b ≠ B; omega))]
  exact c j hj
theorem RX.turn (h : RX w wr ao n F f) (hL : L5At w ao n F) (g : Nat → Int) : RX w (wr.setRow (w.heap.size + 1) (row5 g)) ao n F g :=
  ⟨h.res.setRow_other (by omega) _, h.best.setRow g, h.l.setRow hL (by omega) _, below_setRow5 h.low (by omega) _⟩
end
theorem L5At.range {w : World} {b off n k : Nat} {F : Nat → Nat → Int} (h : L5At w (some ⟨b, off, none⟩) n F) (hk : k < n) : w.rangeAt b (off + k * 5) (row5 (F k)).toList := by
  obtain ⟨b', off', e, c⟩ := h k hk
  cases e
  intro j v hv
  have hj : j < 5 := by
    have := (List.getElem?_eq_some_iff.1 hv).1
    simpa [row5] using this
  rw [c j hj]
  have := row5_at (F k) hj
  rw [← Array.getElem?_toList] at this
  rw [hv] at this
  exact this.symm
/-- A whole array of five is read out of a list of them. -/
theorem wl_loadL {ops : Array Oper} {rest : List Oper} {o : Oper} {a : Act} {w : World} {Q : Exit → Act → World → Prop} (hg : o.guard = none) (x : Operand) (ho : o.op = .load 25 x) (b off n k : Nat) (F : Nat → Nat → Int) (hx : a.eval x = .pointer (some ⟨b, off + k * 5, none⟩)) (hL : L5At w (some ⟨b, off, none⟩) n F) (hk : k < n)
    (h : wpList Tryd.prog ops Q rest (a.put o.dst (.agg (row5 (F k)))) w) : wpList Tryd.prog ops Q (o :: rest) a w := by
  refine wl_val hg _ w ?_ h
  unfold execOp
  simp only [ho, hx, Instr.loadAt, Instr.sureAddr, Sem.run_bind, Sem.run_pure, Result.andThen_ok, run_loadVar_mid w b (off + k * 5) 25 (row5 (F k)).toList _ (hL.range hk) t5_under rfl (by rw [Array.length_toList, row5_size]; exact t5_info)]

/-- A kind is done that stands among the first ones. -/
def doneK (F : Nat → Nat → Int) (k i : Nat) : Prop := ∃ j, j < k ∧ same5 (F i) (F j) = true
theorem doneK_step (F : Nat → Nat → Int) (n k : Nat) : ∀ i, i < n → (doneK F (k + 1) i ↔ doneK F k i ∨ same5 (F i) (F k) = true) := by
  intro i _
  constructor
  · rintro ⟨j, hj, hs⟩
    by_cases e : j = k
    · subst e; exact .inr hs
    · exact .inl ⟨j, by omega, hs⟩
  · rintro (⟨j, hj, hs⟩ | hs)
    · exact ⟨j, by omega, hs⟩
    · exact ⟨k, by omega, hs⟩

set_option maxHeartbeats 4000000 in
theorem rmost_any (w : World) (ao : Option Addr) (n cap : Nat) (F : Nat → Nat → Int) (hn : n ≤ 1000) (hL : Hid (L5At w ao n F)) :
    Calls Tryd.prog 17 #[.slice ao n cap] w fun e w' => ∃ (c : Nat) (f : Nat → Int), e = .returned (.tuple #[.agg (row5 f), .int .i64 c]) ∧ Best F n (fun _ => True) c f ∧ Below w.heap.size w w' := by
  obtain ⟨o, ho⟩ : ∃ o : Obj, o = (.cells #[.int .i64 0, .int .i64 0, .int .i64 0, .int .i64 0, .int .i64 0] 25) := ⟨_, rfl⟩
  have hb0 : Below w.heap.size w ((w.alloc o).alloc o) := gN_below (gN_alloc (gN_alloc (gN_refl w) _) _)
  have HX0 : Hid (RX w ((w.alloc o).alloc o) ao n F (fun _ => 0)) := ⟨by show _ = _; rw [heap_one, ho]; rfl, by show _ = _; rw [heap_two, ho]; rfl, hL.out.below hb0, hb0⟩
  have HB0 : Hid (Best F n (doneK F 0) 0 (fun _ => 0)) := Best.none fun i hi hd => by obtain ⟨j, hj, _⟩ := hd; omega
  clear hb0
  subst ho
  go_enter Tryd.func17, Tryd.ntmps17
  go_wp2
  go_loopw [5, 6] (fun v i wr => ∃ (k c : Nat) (f : Nat → Int), k ≤ n ∧ i = .int .i64 k ∧ v = .int .i64 c ∧ Hid (RX w wr ao n F f) ∧ Hid (Best F n (doneK F k) c f)) (fun _ i _ => n - (intOf i).toNat)
  case atStart => exact ⟨0, 0, _, by omega, rfl, rfl, HX0, HB0⟩
  case round =>
    clear HX0 HB0
    obtain ⟨k, c, f, hk, rfl, rfl, HX, HB⟩ := hrel
    by_cases hlt : k < n
    · have hlt' : (k : Int) < (n : Int) := by omega
      have hk0 : (0 : Int) ≤ (k : Int) := by omega
      have hcb := cnt5_le F (F k) n
      have hp : 0 < cnt5 F (F k) n := cnt5_pos (same5_refl _) hlt
      have hcc := HB.out.bd
      obtain ⟨b, off, rfl, _⟩ := HX.out.l k hlt
      have HTK : Hid (Ahead (cnt5 F (F k) n) (F k) c f → Best F n (doneK F (k + 1)) (cnt5 F (F k) n) (F k)) := HB.out.take (doneK_step F n k) hlt (same5_refl _)
      have HLV : Hid (0 < c → ¬ Ahead (cnt5 F (F k) n) (F k) c f → Best F n (doneK F (k + 1)) c f) := HB.out.leave (doneK_step F n k)
      go_upto_region 7 with (first
        | (refine wl_loadL rfl _ rfl b off n k F rfl HX.out.l hlt ?_)
        | (go_at_call 15; refine (many_any _ _ n cap F (F k) hn HX.out.l).mono ?_; rintro e w2 ⟨rfl, hb2⟩; have HX2 : Hid (RX w w2 (some ⟨b, off, none⟩) n F f) := HX.out.below hb2; clear hb2))
      clear HX HB
      generalize cnt5 F (F k) n = d at *
      have hc0 : (0 : Int) ≤ (c : Int) := by omega
      have hd1 : (0 : Int) < (d : Int) := by omega
      have hd2 : (d : Int) ≤ 1000 := by omega
      have hc2 : (c : Int) ≤ 1000 := by omega
      by_cases hgt : c < d
      · have hgt' : (c : Int) < (d : Int) := by omega
        have hd : decide ((c : Int) < (d : Int)) = true := decide_eq_true hgt'
        have HBN : Hid (Best F n (doneK F (k + 1)) d (F k)) := HTK.out (.inl hgt)
        clear HTK HLV
        go_quiet (fail)
        (have hst : ∀ q, Sem.run Tryd.prog (storeCells ⟨w.heap.size + 1, 0, none⟩ (row5 (F k)).toList) (w2.drewN q) = .ok () ((w2.drewN q).setRow (w.heap.size + 1) (row5 (F k))) := fun q => store5 _ _ f (F k) (HX2.out.drewN q).best); (go_wp2_with (refine wl_loadL rfl _ rfl b off n k F rfl (HX2.out.drewN _).l hlt ?_)); go_roundw; (case rel => exact ⟨k + 1, d, F k, by omega, by go_num, rfl, (HX2.out.drewN _).turn hL.out (F k), HBN⟩); (case measure => simp [intOf]; omega)
      · have hgt' : ¬ (c : Int) < (d : Int) := by omega
        have hd : decide ((c : Int) < (d : Int)) = false := decide_eq_false hgt'
        by_cases heq : d = c
        · subst heq
          obtain ⟨x0, x1, x2, x3, x4⟩ := HX2.out.l.cells hlt
          have y0 := HX2.out.best.cell (i := 0) (by omega)
          have y1 := HX2.out.best.cell (i := 1) (by omega)
          have y2 := HX2.out.best.cell (i := 2) (by omega)
          have y3 := HX2.out.best.cell (i := 3) (by omega)
          have y4 := HX2.out.best.cell (i := 4) (by omega)
          have l0 := block_lt_of_cell x0
          have l1 := HX2.out.best.lt
          obtain ⟨v, hv⟩ : ∃ v, gt5 (F k) f = v := ⟨_, rfl⟩
          have HM : Hid (∀ X, Calls Tryd.prog 35 #[.agg (row5 (F k)), .agg (row5 f)] X fun e w' => e = .returned (.bool v) ∧ Below X.heap.size X w') := fun X => by rw [← hv]; exact more_any X (F k) f
          cases v with
          | true =>
            have HBN : Hid (Best F n (doneK F (k + 1)) d (F k)) := HTK.out (.inr ⟨rfl, hv⟩)
            clear HTK HLV hv
            (refine wp_region_quiet_below (by kernel_rfl) (by kernel_rfl) ?_); (repeat (go_big_quiet_step ((go_at_call 35; refine Calls.regrown_of (HM.out _))))); (refine wpQuiet_nil ?_); (intro _ hw'); (obtain ⟨⟨dq, osq⟩, hw''⟩ := hw'); (subst hw'')
            have HX3 : Hid (RX w (grow (redrawn w2 dq) osq) (some ⟨b, off, none⟩) n F f) := HX2.out.below (below_gr (Below.refl _ _) (Nat.le_refl _) _ _)
            clear x0 x1 x2 x3 x4 y0 y1 y2 y3 y4 l0 l1 HM
            simp only []
            generalize grow (redrawn w2 dq) osq = w3 at *
            have hst : Sem.run Tryd.prog (storeCells ⟨w.heap.size + 1, 0, none⟩ (row5 (F k)).toList) w3 = .ok () (w3.setRow (w.heap.size + 1) (row5 (F k))) := store5 _ _ f (F k) HX3.out.best
            go_wp2_with (refine wl_loadL rfl _ rfl b off n k F rfl HX3.out.l hlt ?_)
            go_roundw
            case rel => exact ⟨k + 1, d, F k, by omega, by go_num, rfl, HX3.out.turn hL.out (F k), HBN⟩
            case measure => simp [intOf]; omega
          | false =>
            have HBN : Hid (Best F n (doneK F (k + 1)) d f) := HLV.out (by omega) (fun h => by rcases h with h | ⟨_, h⟩; omega; rw [hv] at h; cases h)
            clear HTK HLV hv
            (refine wp_region_quiet_below (by kernel_rfl) (by kernel_rfl) ?_); (repeat (go_big_quiet_step ((go_at_call 35; refine Calls.regrown_of (HM.out _))))); (refine wpQuiet_nil ?_); (intro _ hw'); (obtain ⟨⟨dq, osq⟩, hw''⟩ := hw'); (subst hw'')
            go_wp2
            go_roundw
            case rel => exact ⟨k + 1, _, f, by omega, by go_num, rfl, HX2.out.below (below_gr (Below.refl _ _) (Nat.le_refl _) _ _), HBN⟩
            case measure => simp [intOf]; omega
        · have heq2 : decide ((d : Int) = (c : Int)) = false := decide_eq_false (by omega)
          have heq' : ((d : Int) == (c : Int)) = false := by simp; omega
          have HBN : Hid (Best F n (doneK F (k + 1)) c f) := HLV.out (by omega) (fun h => by rcases h with h | ⟨h, _⟩ <;> omega)
          clear HTK HLV heq
          go_quiet (fail)
          go_wp2
          go_roundw
          case rel => exact ⟨k + 1, _, f, by omega, by go_num, rfl, HX2.out.drewN _, HBN⟩
          case measure => simp [intOf]; omega
    · obtain rfl : k = n := by omega
      have HBT : Hid (Best F k (fun _ => True) c f) := HB.out.more fun i hi => ⟨fun _ => ⟨i, hi, same5_refl _⟩, fun _ => trivial⟩
      have hst := store5 wr w.heap.size (fun _ => 0) f HX.out.res
      have HR : Hid (Rw (wr.setRow w.heap.size (row5 f)) w.heap.size f) := HX.out.res.setRow _
      have r0 := HR.out.cell (i := 0) (by omega)
      have r1 := HR.out.cell (i := 1) (by omega)
      have r2 := HR.out.cell (i := 2) (by omega)
      have r3 := HR.out.cell (i := 3) (by omega)
      have r4 := HR.out.cell (i := 4) (by omega)
      go_wp2_with (refine wl_load5 rfl _ rfl (w.heap.size + 1) f rfl HX.out.best ?_)
      refine bodyPost_ret (by simp [results, Tryd.results17, go_sem, r0, r1, r2, r3, r4]; try rfl) rfl ?_
      exact ⟨c, f, rfl, HBT.out, below_setRow5 HX.out.low (Nat.le_refl _) _⟩
end Go.Proofs.YtkilngogdbjmbaaDoor
