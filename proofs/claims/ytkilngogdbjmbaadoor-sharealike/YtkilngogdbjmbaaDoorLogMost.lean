/-
  What Most of a log answers, whatever the order of its map: the result that came most often, and how often. Nothing that was there is turned.
-/
import Derived.Test.YtkilngogdbjmbaaDoorLogAdd
namespace Go.Proofs.YtkilngogdbjmbaaDoor
set_option linter.unusedVariables false
set_option linter.unusedSimpArgs false
set_option maxRecDepth 20000
open Go.ChangeShapes Go.WideShapes Go.ChangeAt Go.RowKit

/-- A loop over a log is under way. -/
abbrev LogGo (w : World) (m r N : Nat) (D : DataW Unit) (left : Lit → Bool) (cnt : Nat) : Prop := w.ranges Tryd.prog 25 (plainElem Tryd.prog 3) m r N D left cnt
theorem wpList_next5 {ops : Array Oper} {rest : List Oper} {o : Oper} {a : Act} {w : World} {Q : Exit → Act → World → Prop} (hg : o.guard = none) (it : Operand) (hop : o.op = Op.next it false) (m r N : Nat) (D : DataW Unit) (left : Lit → Bool) (cnt : Nat)
    (hit : a.eval it = .pointer (some ⟨r, 0, none⟩)) (h : LogGo w m r N D left cnt) (T : (Nat → Int) → Nat) (hT : Tal T D)
    (hDone : (∀ kl, left kl = false) → wpList Tryd.prog ops Q rest (a.put o.dst (.tuple #[.bool false])) w)
    (hMore : ∀ (g : Nat → Int) (w' : World) (cnt' : Nat), Wf5 g → left (kl5 g) = true → 0 < T g → LogGo w' m r N D (fun z => left z && !z.sameKey (kl5 g)) cnt' → cnt' < cnt → w.grownBy w' (some r) → w'.heap.size = w.heap.size →
      (Instr.entry (.pointer (some ⟨r, 0, none⟩))).run Tryd.prog w' = .ok (.tuple #[.agg #[.int .i64 (g 0), .int .i64 (g 1), .int .i64 (g 2), .int .i64 (g 3), .int .i64 (g 4)], .int .i64 (T g : Nat)]) w' →
      wpList Tryd.prog ops Q rest (a.put o.dst (.tuple #[.bool true, .agg #[.int .i64 (g 0), .int .i64 (g 1), .int .i64 (g 2), .int .i64 (g 3), .int .i64 (g 4)], .int .i64 (T g : Nat)])) w') :
    wpList Tryd.prog ops Q (o :: rest) a w := by
  refine wpList_next_ranges w hg it hop 25 t5Keyed (plainElem Tryd.prog 3) (fun f : Nat → Int => .agg (row5 f)) (Value.int .i64) (fun key kl hk => by obtain ⟨f, e, _⟩ := key5_inv hk; exact ⟨f, e⟩) (fun v y hv => by obtain ⟨c, e, _⟩ := plainElem_int_inv Tryd.underlying3 hv; exact ⟨c, e⟩) m r N D left cnt hit h (fun _ hl => hDone hl) ?_
  intro x c kl y w' cnt' hkey hlk hv hat hrg hlt hgr hsz hen
  obtain ⟨g, e, hw, rfl⟩ := key5_inv hkey
  obtain ⟨c', ec, rfl, hwc⟩ := plainElem_int_inv Tryd.underlying3 hv
  cases ec
  have hh := Maps.has_true_of_atKey hat
  have ht := hT g hw
  rw [hat] at ht
  have ec : c = ((T g : Nat) : Int) := by
    have := ht.1
    injection this with this
    injection this
  subst ec
  have hp : 0 < T g := by have := ht.2; rw [hh] at this; exact of_decide_eq_true this.symm
  rw [e] at hen ⊢
  exact hMore g w' cnt' hw hlk hp hrg hlt hgr hsz hen

/-- Where Most has its result (noughts so far), and the best so far; the log. -/
structure MX (w wr : World) (m N : Nat) (D : DataW Unit) (left : Lit → Bool) (cnt : Nat) (f : Nat → Int) : Prop where
  res : Rw wr w.heap.size (fun _ => 0)
  best : Rw wr (w.heap.size + 1) f
  go : LogGo wr m (w.heap.size + 2) N D left cnt
  low : Below w.heap.size w wr
section
variable {w wr w1 : World} {m N : Nat} {D : DataW Unit} {left left' : Lit → Bool} {cnt cnt' : Nat} {f : Nat → Int}
theorem MX.below (h : MX w wr m N D left cnt f) (hb : Below wr.heap.size wr w1) : MX w w1 m N D left cnt f :=
  ⟨h.res.below hb, h.best.below hb, h.go.kept (row := none) ⟨hb.os, hb.tape, hb.output, hb.size, fun k hk _ => hb.block k hk⟩ (by simp) (by simp), h.low.trans (hb.mono h.low.size)⟩
theorem MX.drewN (h : MX w wr m N D left cnt f) (d : Nat) : MX w (wr.drewN d) m N D left cnt f := ⟨h.res, h.best, h.go, low_drewN h.low d⟩
theorem MX.next (h : MX w wr m N D left cnt f) (hgo : LogGo w1 m (w.heap.size + 2) N D left' cnt') (hg : wr.grownBy w1 (some (w.heap.size + 2))) : MX w w1 m N D left' cnt' f :=
  ⟨(hg.block _ h.res.lt (by simp)).trans h.res, (hg.block _ h.best.lt (by simp)).trans h.best, hgo, h.low.grown hg h.low.size (fun q e => by cases e; omega)⟩
theorem MX.turn (h : MX w wr m N D left cnt f) (hm : m < w.heap.size) (g : Nat → Int) : MX w (wr.setRow (w.heap.size + 1) (row5 g)) m N D left cnt g :=
  ⟨h.res.setRow_other (by omega) _, h.best.setRow g, h.go.kept (setRow_grown wr _ _) (by simp; omega) (by simp), below_setRow5 h.low (by omega) _⟩
end

set_option maxHeartbeats 4000000 in
theorem lmost_any (w : World) (m N : Nat) (D : DataW Unit) (n : Nat) (F : Nat → Nat → Int) (hn : n ≤ 1000) (hO : Hid (LogIs w m N D)) (hT : Hid (Tal (fun f => cnt5 F f n) D)) (hW : Hid (∀ i, i < n → Wf5 (F i))) :
    Calls Tryd.prog 16 #[.map (some m)] w fun e w' => ∃ (c : Nat) (f : Nat → Int), e = .returned (.tuple #[.agg (row5 f), .int .i64 c]) ∧ Best F n (fun _ => True) c f ∧ Below w.heap.size w w' := by
  have hml := hO.out.lt
  obtain ⟨o, ho⟩ : ∃ o : Obj, o = (.cells #[.int .i64 0, .int .i64 0, .int .i64 0, .int .i64 0, .int .i64 0] 25) := ⟨_, rfl⟩
  have hb0 : Below w.heap.size w ((w.alloc o).alloc o) := gN_below (gN_alloc (gN_alloc (gN_refl w) _) _)
  have HR0 : Hid (Rw ((w.alloc o).alloc o) w.heap.size (fun _ => 0)) := by show _ = _; rw [heap_one, ho]; rfl
  have HR1 : Hid (Rw ((w.alloc o).alloc o) (w.heap.size + 1) (fun _ => 0)) := by show _ = _; rw [heap_two, ho]; rfl
  have HB0 : Hid (Below w.heap.size w ((w.alloc o).alloc o)) := hb0
  have hown : LogIs ((w.alloc o).alloc o) m N D := (hO.out.alloc _).alloc _
  have hs : ((w.alloc o).alloc o).heap.size = w.heap.size + 2 := by simp
  clear hb0
  subst ho
  go_enter Tryd.func16, Tryd.ntmps16
  go_wp2_with (first | (at_range; refine wpList_range_own _ rfl _ 41 rfl 25 3 t5Keyed Tryd.underlying41 _ m N D rfl hown ?_; intro w0 hrg0 hg0 hs0))
  rw [hs] at hrg0 ⊢
  have HM0 : Hid (MX w w0 m N D (Maps.has D) (Maps.size D) (fun _ => 0)) := ⟨(hg0.block _ HR0.out.lt (by simp)).trans HR0.out, (hg0.block _ HR1.out.lt (by simp)).trans HR1.out, hrg0, HB0.out.grown hg0 (by omega) (fun q e => by cases e)⟩
  have HBE : Hid (Best F n (doneL F (Maps.has D)) 0 (fun _ => 0)) := Best.none fun i hi hd => hd (by rw [(hT.out (F i) (hW.out i hi)).2]; exact decide_eq_true (cnt5_pos (same5_refl _) hi))
  clear hrg0 hg0 hs0 HR0 HR1 HB0 hown hs
  go_frame
  go_loopw [5] (fun v wr => ∃ (left : Lit → Bool) (cnt c : Nat) (f : Nat → Int), v = .int .i64 c ∧ Hid (MX w wr m N D left cnt f) ∧ Hid (Best F n (doneL F left) c f)) (fun _ wr => wr.rangeLeft m (w.heap.size + 2))
  case atStart => exact ⟨_, _, 0, _, rfl, HM0, HBE⟩
  case round =>
    clear HM0 HBE
    obtain ⟨left, cnt, c, f, rfl, HM, HB⟩ := hrel
    go_wp2_with (first | (at_next; refine wpList_next5 rfl _ rfl m (w.heap.size + 2) N D left cnt rfl HM.out.go _ hT.out ?_ ?_))
    · intro hl0
      have HBT : Hid (Best F n (fun _ => True) c f) := HB.out.more fun i _ => ⟨fun _ => by unfold doneL; rw [hl0]; simp, fun _ => trivial⟩
      have hst := store5 wr w.heap.size (fun _ => 0) f HM.out.res
      have HR : Hid (Rw (wr.setRow w.heap.size (row5 f)) w.heap.size f) := HM.out.res.setRow _
      have r0 := HR.out.cell (i := 0) (by omega)
      have r1 := HR.out.cell (i := 1) (by omega)
      have r2 := HR.out.cell (i := 2) (by omega)
      have r3 := HR.out.cell (i := 3) (by omega)
      have r4 := HR.out.cell (i := 4) (by omega)
      clear hl0
      go_wp2_with (refine wl_load5 rfl _ rfl (w.heap.size + 1) f rfl HM.out.best ?_)
      refine bodyPost_ret (by simp [results, Tryd.results16, go_sem, r0, r1, r2, r3, r4]; try rfl) rfl ?_
      exact ⟨c, f, rfl, HBT.out, below_setRow5 HM.out.low (Nat.le_refl _) _⟩
    · intro g w1 cnt1 hwg hlg hp hgo hlt hgr hsz hen
      have HM1 : Hid (MX w w1 m N D (fun z => left z && !z.sameKey (kl5 g)) cnt1 f) := HM.out.next hgo hgr
      have hcb := cnt5_le F g n
      have HST : Hid (doneL F (fun z => left z && !z.sameKey (kl5 g)) = doneL F (fun z => left z && !z.sameKey (kl5 g))) := rfl
      obtain ⟨i0, hi0, hs0⟩ := cnt5_has hp
      have HTK : Hid (Ahead (cnt5 F g n) g c f → Best F n (doneL F (fun z => left z && !z.sameKey (kl5 g))) (cnt5 F g n) g) := HB.out.take (doneL_step hwg hW.out) hi0 hs0
      have HLV : Hid (0 < c → ¬ Ahead (cnt5 F g n) g c f → Best F n (doneL F (fun z => left z && !z.sameKey (kl5 g))) c f) := HB.out.leave (doneL_step hwg hW.out)
      have HLE : Hid (cnt1 < cnt ∧ wr.rangeLeft m (w.heap.size + 2) = cnt) := ⟨hlt, HM.out.go.left_eq⟩
      have hcc := HB.out.bd
      clear HST hi0 hs0 hgo hlt hgr hlg HB HM
      generalize (fun z => left z && !z.sameKey (kl5 g)) = left' at *
      generalize cnt5 F g n = d at *
      go_upto_region 6 with fail
      clear hen
      have HM2 : Hid (MX w (w1.alloc (.cells #[.int .i64 (g 0), .int .i64 (g 1), .int .i64 (g 2), .int .i64 (g 3), .int .i64 (g 4)] 25)) m N D left' cnt1 f) := HM1.out.below (gN_below (gN_alloc (gN_refl w1) _))
      have HR2 : Hid (Rw (w1.alloc (.cells #[.int .i64 (g 0), .int .i64 (g 1), .int .i64 (g 2), .int .i64 (g 3), .int .i64 (g 4)] 25)) wr.heap.size g) := by rw [← hsz]; exact Rw.new w1 g
      have hxl : w.heap.size + 2 < wr.heap.size := by have := HM1.out.go.lt; omega
      clear HM1 hsz
      generalize (w1.alloc (.cells #[.int .i64 (g 0), .int .i64 (g 1), .int .i64 (g 2), .int .i64 (g 3), .int .i64 (g 4)] 25)) = w2 at *
      generalize wr.heap.size = x at *
      have hc0 : (0 : Int) ≤ (c : Int) := by omega
      have hd1 : (0 : Int) < (d : Int) := by omega
      have hd2 : (d : Int) ≤ 1000 := by omega
      have hc2 : (c : Int) ≤ 1000 := by omega
      by_cases hgt : c < d
      · have hgt' : (c : Int) < (d : Int) := by omega
        have hd : decide ((c : Int) < (d : Int)) = true := decide_eq_true hgt'
        have HBN : Hid (Best F n (doneL F left') d g) := HTK.out (.inl hgt)
        clear HTK HLV
        go_quiet (fail)
        (have hst : ∀ q, Sem.run Tryd.prog (storeCells ⟨w.heap.size + 1, 0, none⟩ (row5 g).toList) (w2.drewN q) = .ok () ((w2.drewN q).setRow (w.heap.size + 1) (row5 g)) := fun q => store5 _ _ f g (HM2.out.drewN q).best); (go_wp2_with (refine wl_load5 rfl _ rfl x g rfl HR2.out ?_)); go_roundw; (case rel => exact ⟨left', cnt1, d, g, rfl, (HM2.out.drewN _).turn hml g, HBN⟩); (case measure => rw [((HM2.out.drewN _).turn hml g).go.left_eq, HLE.out.2]; exact HLE.out.1)
      · have hgt' : ¬ (c : Int) < (d : Int) := by omega
        have hd : decide ((c : Int) < (d : Int)) = false := decide_eq_false hgt'
        have hc1 : (0 : Int) < (c : Int) := by omega
        have hcd : decide (0 < c) = true := decide_eq_true (by omega)
        by_cases heq : d = c
        · subst heq
          have hCM : ∀ q, Calls Tryd.prog 34 #[.slice (some ⟨x, 0, none⟩) 5 5, .slice (some ⟨w.heap.size + 1, 0, none⟩) 5 5] (w2.drewN q) fun e w' => e = .returned (.int .i64 (cmp5 g f)) ∧ w' = (w2.drewN q) := fun q => scmp_any _ _ _ g f HR2.out HM2.out.best
          have hpos := cmp5_pos g f
          obtain ⟨r, hr⟩ : ∃ r, cmp5 g f = r := ⟨_, rfl⟩
          rw [hr] at hpos
          simp only [hr] at hCM
          have HCM : Hid _ := hCM
          clear hr hCM
          by_cases hg5 : gt5 g f = true
          · have HBN : Hid (Best F n (doneL F left') d g) := HTK.out (.inr ⟨rfl, hg5⟩)
            have hr1 : (0 : Int) < r := of_decide_eq_true (hpos.trans hg5)
            have hr2 : decide ((0 : Int) < r) = true := decide_eq_true hr1
            clear HTK HLV hpos hg5
            go_quiet ((go_at_call 34; refine (HCM.out _).mono ?_; rintro e w5 ⟨rfl, rfl⟩; exact ⟨rfl, _, rfl⟩))
            (have hst : ∀ q, Sem.run Tryd.prog (storeCells ⟨w.heap.size + 1, 0, none⟩ (row5 g).toList) (w2.drewN q) = .ok () ((w2.drewN q).setRow (w.heap.size + 1) (row5 g)) := fun q => store5 _ _ f g (HM2.out.drewN q).best); (go_wp2_with (refine wl_load5 rfl _ rfl x g rfl HR2.out ?_)); go_roundw; (case rel => exact ⟨left', cnt1, d, g, rfl, (HM2.out.drewN _).turn hml g, HBN⟩); (case measure => rw [((HM2.out.drewN _).turn hml g).go.left_eq, HLE.out.2]; exact HLE.out.1)
          · have HBN : Hid (Best F n (doneL F left') d f) := HLV.out (by omega) (fun h => by rcases h with h | ⟨_, h⟩; omega; exact hg5 h)
            have hr1 : ¬ (0 : Int) < r := fun h => hg5 (by rw [← hpos]; exact decide_eq_true h)
            have hr2 : decide ((0 : Int) < r) = false := decide_eq_false hr1
            clear HTK HLV hpos hg5
            go_quiet ((go_at_call 34; refine (HCM.out _).mono ?_; rintro e w5 ⟨rfl, rfl⟩; exact ⟨rfl, _, rfl⟩))
            go_wp2; go_roundw; (case rel => exact ⟨left', cnt1, _, f, rfl, HM2.out.drewN _, HBN⟩); (case measure => rw [(HM2.out.drewN _).go.left_eq, HLE.out.2]; exact HLE.out.1)
        · have heq' : ((d : Int) == (c : Int)) = false := by simp; omega
          have heq2 : decide ((d : Int) = (c : Int)) = false := decide_eq_false (by omega)
          have HBN : Hid (Best F n (doneL F left') c f) := HLV.out (by omega) (fun h => by rcases h with h | ⟨h, _⟩ <;> omega)
          clear HTK HLV heq
          go_quiet (fail)
          go_wp2; go_roundw; (case rel => exact ⟨left', cnt1, _, f, rfl, HM2.out.drewN _, HBN⟩); (case measure => rw [(HM2.out.drewN _).go.left_eq, HLE.out.2]; exact HLE.out.1)
end Go.Proofs.YtkilngogdbjmbaaDoor
