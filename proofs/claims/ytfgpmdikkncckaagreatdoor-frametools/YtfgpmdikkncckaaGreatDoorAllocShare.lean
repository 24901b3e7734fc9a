/-
  What Alloc of package alloc does: what a budget comes to is answered. Nothing that was there is turned but the book's own block and its map.
-/
import Derived.Test.YtfgpmdikkncckaaGreatDoorAllocAlloc
namespace Go.Proofs.YtfgpmdikkncckaaGreatDoor
set_option linter.unusedVariables false
set_option maxRecDepth 100000
open Go.ChangeShapes Go.WideShapes Go.ChangeAt Go.RowKit

/-- All that Alloc has in memory: its mode, its result (noughts so far), the pulses, the greatest numbers of them, the book, the table of widths. -/
structure AL (w wr : World) (b : Nat) (mo : Option Nat) (s c : Int) (g : Nat) (k cp : Nat → Int) : Prop where
  md : Md wr w.heap.size s c
  res : Rw wr (w.heap.size + 1) (fun _ => 0)
  k : Rw wr (w.heap.size + 2) k
  cp : Rw wr g cp
  bt : BT w wr b mo
section
variable {w wr w1 : World} {b g : Nat} {mo : Option Nat} {s c : Int} {k cp : Nat → Int}
theorem AL.below (h : AL w wr b mo s c g k cp) (hb : Below wr.heap.size wr w1) : AL w w1 b mo s c g k cp := ⟨h.md.below hb, h.res.below hb, h.k.below hb, h.cp.below hb, h.bt.below hb⟩
theorem AL.alloc (h : AL w wr b mo s c g k cp) (o : Obj) : AL w (wr.alloc o) b mo s c g k cp := h.below (gN_below (gN_alloc (gN_refl wr) o))
theorem AL.call {mo1 mo2 : Option Nat} (h : AL w wr b mo s c g k cp) (hl : b < w.heap.size) (hg : w.heap.size ≤ g) (hB : Bk wr b mo1) (hG0 : Gb w wr b mo mo1) (hB' : Bk w1 b mo2) (hG : Gb wr w1 b mo1 mo2) : AL w w1 b mo s c g k cp := by
  have hk : Kp wr w1 b := Kp.gb hB hG
  exact ⟨h.md.kp hk (by omega), h.res.kp hk (by omega), h.k.kp hk (by omega), h.cp.kp hk (by omega), BT.call hB hG0 h.bt.tab hB' hG⟩
theorem AL.set {f : Nat → Int} {g' : Nat} (h : AL w wr b mo s c g k cp) (hl : b < w.heap.size) (hT : WTab w) (hR : Rw wr g' f) (h1 : w.heap.size + 2 < g') (h2 : g ≠ g') (i : Nat) (v : Value) : AL w (wr.setCell ⟨g', i, none⟩ v) b mo s c g k cp :=
  ⟨h.md.set_other (by omega) i v, h.res.set_other (by omega) i v, h.k.set_other (by omega) i v, h.cp.set_other h2 i v, h.bt.set hR (by omega) (by omega) hT i v⟩
/-- The pulses are turned. -/
theorem AL.turn (h : AL w wr b mo s c g k cp) (hl : b < w.heap.size) (hT : WTab w) (hg : w.heap.size + 2 < g) (k' : Nat → Int) : AL w (wr.setRow (w.heap.size + 2) (row5 k')) b mo s c g k' cp :=
  ⟨h.md.setRow_other (by omega) _, h.res.setRow_other (by omega) _, h.k.setRow _, h.cp.setRow_other (by omega) _, h.bt.setRow h.k (by omega) (by omega) hT _⟩
theorem AL.drewN (h : AL w wr b mo s c g k cp) (d : Nat) : AL w (wr.drewN d) b mo s c g k cp := by
  obtain ⟨mo', hB, hG⟩ := h.bt.book
  exact ⟨h.md, h.res, h.k, h.cp, ⟨⟨mo', hB.drewN d, ⟨hG.os, hG.tape, hG.output, hG.size, hG.block, hG.map⟩⟩, h.bt.tab⟩⟩
/-- The result is stored. -/
theorem AL.fin (h : AL w wr b mo s c g k cp) (hl : b < w.heap.size) (hT : WTab w) (C : Array Value) : ∃ mo', Bk (wr.setRow (w.heap.size + 1) C) b mo' ∧ Gb w (wr.setRow (w.heap.size + 1) C) b mo mo' :=
  (h.bt.setRow h.res (by omega) (by omega) hT C).book
end
/-- How many pulses there are in the five cells of a block. -/
def cells5 (w : World) (g : Nat) : Int := intOf ((w.cell? ⟨g, 0, none⟩).getD undef) + intOf ((w.cell? ⟨g, 1, none⟩).getD undef) + intOf ((w.cell? ⟨g, 2, none⟩).getD undef) + intOf ((w.cell? ⟨g, 3, none⟩).getD undef) + intOf ((w.cell? ⟨g, 4, none⟩).getD undef)
theorem Rw.sum {w : World} {g : Nat} {f : Nat → Int} (h : Rw w g f) : cells5 w g = f 0 + f 1 + f 2 + f 3 + f 4 := by
  unfold cells5
  rw [h.cell (i := 0) (by omega), h.cell (i := 1) (by omega), h.cell (i := 2) (by omega), h.cell (i := 3) (by omega), h.cell (i := 4) (by omega)]
  rfl
theorem sum_more (k : Nat → Int) {j : Nat} (hj : j < 5) : aMore k j 0 + aMore k j 1 + aMore k j 2 + aMore k j 3 + aMore k j 4 = k 0 + k 1 + k 2 + k 3 + k 4 + 1 := by
  unfold aMore
  match j, hj with
  | 0, _ | 1, _ | 2, _ | 3, _ | 4, _ => simp; omega
theorem fit_32 {B : Nat} (hB : B ≤ 5) {k : Nat → Int} (h : Fit B k) : ∀ i, i < 5 → 0 ≤ k i ∧ k i ≤ 32 := by
  intro i hi
  refine ⟨h.pos i, ?_⟩
  by_cases e : i < B
  · have := h.cap i e
    have := capB_bd hi
    omega
  · rw [h.out i (by omega)]; omega
theorem right_of {s c : Int} {B : Nat} (h : bandsF s c = B) (hB : 0 < B) : right s c := by
  by_cases e : right s c
  · exact e
  · unfold bandsF at h; rw [if_neg e] at h; omega
theorem K_cap {B : Nat} {t : Int} {k : Nat → Int} : aNx t (capF B B) k B = aNx t capB k B := nx_congr fun i hi => if_pos hi

theorem store5_new (w : World) (f : Nat → Int) : Sem.run Tryz.prog (storeCells ⟨w.heap.size, 0, none⟩ (row5 f).toList) (w.alloc (.cells #[.int .i64 0, .int .i64 0, .int .i64 0, .int .i64 0, .int .i64 0] 31)) = .ok () (w.alloc (.cells (row5 f) 31)) := by
  have h := store5 (w.alloc (.cells #[.int .i64 0, .int .i64 0, .int .i64 0, .int .i64 0, .int .i64 0] 31)) w.heap.size (fun _ => 0) f (Rw.new w (fun _ => 0))
  rw [World.setRow_alloc_new] at h
  exact h
theorem out_end {B : Nat} {c t n : Int} {n0 : Nat} (h : n0 = 0 ∨ c * aPr (aK B t n0) B ≤ n) (hx : ∀ i, aNx t capB (aK B t n0) B = some i → n < c * aPr (aMore (aK B t n0) i) B) : Out B c t n (aK B t n0) := ⟨n0, rfl, h, hx⟩

set_option maxHeartbeats 4000000 in
theorem alloc_any (w : World) (b : Nat) (mo : Option Nat) (s c t n : Int) (B : Nat) (hBn : Hid (bandsF s c = B)) (h5 : B ≤ 5) (hB : Hid (Bk w b mo)) (hT : Hid (WTab w)) :
    Calls Tryz.prog 145 #[.pointer (some ⟨b, 0, none⟩), (.agg #[.int .i64 (s), .int .i64 (c)]), .int .i64 t, .int .i64 n] w fun e w' => ∃ R, e = .returned (.agg (row5 R)) ∧ Out B c t n R ∧ Fit B R ∧ ∃ mo', Bk w' b mo' ∧ Gb w w' b mo mo' := by
  have hbl := hB.out.lt
  obtain ⟨o1, ho1⟩ : ∃ o : Obj, o = .cells #[.int .i64 s, .int .i64 c] 29 := ⟨_, rfl⟩
  obtain ⟨o2, ho2⟩ : ∃ o : Obj, o = .cells #[.int .i64 0, .int .i64 0, .int .i64 0, .int .i64 0, .int .i64 0] 31 := ⟨_, rfl⟩
  have HM0 : Hid (Md (((w.alloc o1).alloc o2).alloc o2) w.heap.size s c) := by rw [ho1]; exact ((Md.new w s c).alloc _).alloc _
  have HR0 : Hid (Rw (((w.alloc o1).alloc o2).alloc o2) (w.heap.size + 1) (fun _ => 0)) := by
    have := Rw.alloc (Rw.new (w.alloc o1) (fun _ => 0)) o2
    rw [show (w.alloc o1).heap.size = w.heap.size + 1 from Array.size_push .., row5_zero, ← ho2] at this
    exact this
  have HC0 : Hid (Rw (((w.alloc o1).alloc o2).alloc o2) (w.heap.size + 2) (fun _ => 0)) := by
    have := Rw.new ((w.alloc o1).alloc o2) (fun _ => 0)
    rw [show ((w.alloc o1).alloc o2).heap.size = w.heap.size + 2 by simp, row5_zero, ← ho2] at this
    exact this
  have hg0 : w.grownBy (((w.alloc o1).alloc o2).alloc o2) none := gN_alloc (gN_alloc (gN_alloc (gN_refl w) _) _) _
  have HB0 : Hid (Bk (((w.alloc o1).alloc o2).alloc o2) b mo) := hB.out.keep hg0
  have HG0 : Hid (Gb w (((w.alloc o1).alloc o2).alloc o2) b mo mo) := Gb.grown hg0 _ _
  have HT0 : Hid (WTab (((w.alloc o1).alloc o2).alloc o2)) := hT.out.grown hg0
  have hs0 : (((w.alloc o1).alloc o2).alloc o2).heap.size = w.heap.size + 3 := by simp
  clear hg0
  subst ho1 ho2
  have c1 := HM0.out.cs
  have c2 := HM0.out.cc
  go_enter Tryz.func145, Tryz.ntmps145
  go_wp2_with (go_at_call 148; refine (greatest_any _ b mo s c B hBn h5 HB0 HT0).mono ?_; rintro e w1 ⟨rfl, mo1, hB1, hG1⟩; have hst := store5_new w1 (capF B B))
  have hs1 := hG1.size
  have hkp := Kp.gb (b := b) HB0.out hG1
  have HA1 : Hid (AL w (w1.alloc (.cells (row5 (capF B B)) 31)) b mo s c w1.heap.size (fun _ => 0) (capF B B)) :=
    ⟨(HM0.out.kp hkp (by omega)).alloc _, (HR0.out.kp hkp (by omega)).alloc _, (HC0.out.kp hkp (by omega)).alloc _, Rw.new w1 _, BT.alloc ⟨⟨mo1, hB1, HG0.out.trans hG1⟩, HT0.out.bk HB0.out hG1⟩ _⟩
  have hg1 : w.heap.size + 2 < w1.heap.size := by omega
  clear hst hB1 hG1 hkp HM0 HR0 HC0 HB0 HG0 HT0 hs0 hs1 c1 c2
  obtain ⟨g, hg⟩ : ∃ g, w1.heap.size = g := ⟨_, rfl⟩
  rw [hg] at HA1 hg1 ⊢
  go_loopw [11] (fun a wr => ∃ n0 : Nat, Hid (AL w wr b mo s c g (aK B t n0) (capF B B)) ∧ Hid (n0 = 0 ∨ c * aPr (aK B t n0) B ≤ n)) (fun _ wr => (200 - cells5 wr (w.heap.size + 2)).toNat)
  case atStart => exact ⟨0, HA1, .inl rfl⟩
  case round =>
    clear HA1
    obtain ⟨n0, HA, HN⟩ := hrel
    have HF : Hid (Fit B (aK B t n0)) := fit_K h5 t n0
    have HO : Hid ((∀ i, aNx t capB (aK B t n0) B = some i → n < c * aPr (aMore (aK B t n0) i) B) → Out B c t n (aK B t n0)) := out_end HN.out
    have HNE : Hid (∀ j, aNx t capB (aK B t n0) B = some j → aK B t (n0 + 1) = aMore (aK B t n0) j) := fun j h => K_next h
    have HKS : Hid (∀ i, i < 5 → 0 ≤ aK B t n0 i ∧ aK B t n0 i ≤ 32) := fit_32 h5 HF.out
    generalize aK B t n0 = k at *
    have c1 := HA.out.md.cs
    have c2 := HA.out.md.cc
    cases hx : aNx t capB k B with
    | none =>
      have HX : Hid (aNx t (capF B B) k B = none) := K_cap.trans hx
      have HOO : Hid (Out B c t n k) := HO.out (fun i hi => by rw [hx] at hi; cases hi)
      go_wp2_with (first
        | (refine wl_load5 rfl _ rfl (w.heap.size + 2) k rfl HA2.out.k ?_)
        | (refine wl_load5 rfl _ rfl (w.heap.size + 2) k rfl HA.out.k ?_)
        | (refine wl_load5 rfl _ rfl g (capF B B) rfl HA.out.cp ?_)
        | (go_at_call 149; refine (anext_any _ s c t k (capF B B) B hBn h5 HKS HA.out.bt.tab).mono ?_; rw [HX.out]; rintro e w2 ⟨rfl, hb2⟩; have HA2 : Hid (AL w w2 b mo s c g k (capF B B)) := HA.out.below hb2; have hst1 := store5 w2 (w.heap.size + 1) (fun _ => 0) k HA2.out.res; clear hb2))
      refine bodyPost_ret (results_cell_row rfl _ _ (w.heap.size + 1) 31 (row5 k) (0, 0) _ rfl (HA2.out.res.setRow _) t5_under rfl (by rw [row5_size]; exact t5_info)) rfl ⟨k, rfl, HOO.out, HF.out, ?_⟩
      exact HA2.out.fin hbl hT.out _
    | some j =>
      have hj := (nx_some hx).1
      have hjc := (nx_some hx).2.1
      have hj5 : (j : Int) < 5 := by omega
      have hj0 : (0 : Int) ≤ (j : Int) := by omega
      have HX : Hid (aNx t (capF B B) k B = some j) := K_cap.trans hx
      have hr : right s c := right_of hBn.out (by omega)
      have HKN : Hid (aK B t (n0 + 1) = aMore k j) := HNE.out j hx
      have HOO : Hid (n < c * aPr (aMore k j) B → Out B c t n k) := fun h => HO.out (fun i hi => by rw [hx] at hi; cases hi; exact h)
      have HSM : Hid _ := sum_more k (j := j) (by omega)
      have hkj := HKS.out j (by omega)
      clear hx HO HNE hjc
      go_upto_region 7 with (first
        | (refine wl_load5 rfl _ rfl (w.heap.size + 2) k rfl HA2.out.k ?_)
        | (refine wl_load5 rfl _ rfl (w.heap.size + 2) k rfl HA.out.k ?_)
        | (refine wl_load5 rfl _ rfl g (capF B B) rfl HA.out.cp ?_)
        | (go_at_call 149; refine (anext_any _ s c t k (capF B B) B hBn h5 HKS HA.out.bt.tab).mono ?_; rw [HX.out, show nxI (some j) = (j : Int) from rfl]; rintro e w2 ⟨rfl, hb2⟩; have HA2 : Hid (AL w w2 b mo s c g k (capF B B)) := HA.out.below hb2; have hst2 := store5_new w2 k; clear hb2))
      have HA4 : Hid (AL w (w2.alloc (.cells (row5 k) 31)) b mo s c g k (capF B B)) := HA2.out.alloc _
      have HM4 : Hid (Rw (w2.alloc (.cells (row5 k) 31)) w2.heap.size k) := Rw.new w2 k
      have hg2 : w.heap.size + 2 < w2.heap.size ∧ g ≠ w2.heap.size := by have := HA2.out.k.lt; have := HA2.out.cp.lt; omega
      have HSZ : Hid (cells5 wr (w.heap.size + 2) = k 0 + k 1 + k 2 + k 3 + k 4) := HA.out.k.sum
      clear hst2 c1 c2 HA
      generalize w2.alloc (.cells (row5 k) 31) = w4 at *
      generalize w2.heap.size = g4 at *
      clear HA2
      have c1 := HA4.out.md.cs
      have c2 := HA4.out.md.cc
      have c3 := HM4.out.cell (i := j) (by omega)
      have c4 := HM4.out.fz j
      have HA5 : Hid _ := HA4.out.set hbl hT.out HM4.out hg2.1 hg2.2 j (.int .i64 (k j + 1))
      have HM5 : Hid (Rw (w4.setCell ⟨g4, j, none⟩ (.int .i64 (k j + 1))) g4 (aMore k j)) := by
        show _ = _
        rw [← row5_more k (k := j) (by omega)]
        exact heap_setCell_same w4 g4 j _ _ _ HM4.out
      go_upto_region 8 with fail
      clear c1 c2 c3 c4 HA4 HM4
      generalize w4.setCell ⟨g4, j, none⟩ (.int .i64 (k j + 1)) = w5 at *
      have c1 := HA5.out.md.cs
      have c2 := HA5.out.md.cc
      obtain ⟨mo5, hB5, hG5⟩ := HA5.out.bt.book
      have HB5 : Hid (Bk w5 b mo5) := hB5
      have HG5 : Hid (Gb w w5 b mo mo5) := hG5
      clear hB5 hG5
      obtain ⟨p, hp⟩ : ∃ p, aPr (aMore k j) B * c = p := ⟨_, rfl⟩
      have HP : Hid (aPr (aMore k j) B * c = p) := hp
      have HPC : Hid (c * aPr (aMore k j) B = p) := by show _ = _; rw [Int.mul_comm]; exact hp
      clear hp
      have HNX : Hid (c * aPr (aMore k j) B = p) := HPC
      rw [HPC.out] at HOO
      have HPR : Hid (∀ (w : World) (mo : Option Nat), Hid (Bk w b mo) → Hid (WTab w) → Calls Tryz.prog 150 #[.pointer (some ⟨b, 0, none⟩), (.agg #[.int .i64 (s), .int .i64 (c)]), .agg (row5 (aMore k j))] w fun e w' => e = .returned (.int .i64 p) ∧ ∃ mo', Bk w' b mo' ∧ Gb w w' b mo mo') := fun w mo h h' => by
        have := price_any w b mo s c (aMore k j) B hr hBn h5 h h'
        rw [HP.out] at this
        exact this
      by_cases hnp : n < p
      · have HR : Hid (Out B c t n k) := HOO.out hnp
        go_wp2_with (first
          | (refine wl_load5 rfl _ rfl (w.heap.size + 2) k rfl HA6.out.k ?_)
          | (refine wl_load5 rfl _ rfl g4 (aMore k j) rfl HM5.out ?_)
          | (go_at_call 150; refine (HPR.out _ mo5 HB5 HA5.out.bt.tab).mono ?_; rintro e w6 ⟨rfl, mo6, hB6, hG6⟩; have HA6 : Hid (AL w w6 b mo s c g k (capF B B)) := HA5.out.call hbl (by omega) HB5.out HG5.out hB6 hG6; have hst1 := store5 w6 (w.heap.size + 1) (fun _ => 0) k HA6.out.res; clear hB6 hG6))
        refine bodyPost_ret (results_cell_row rfl _ _ (w.heap.size + 1) 31 (row5 k) (0, 0) _ rfl (HA6.out.res.setRow _) t5_under rfl (by rw [row5_size]; exact t5_info)) rfl ⟨k, rfl, HR.out, HF.out, ?_⟩
        exact HA6.out.fin hbl hT.out _
      · go_wp2_with (first
          | (refine wl_load5 rfl _ rfl g4 (aMore k j) rfl HM6.out ?_)
          | (refine wl_load5 rfl _ rfl g4 (aMore k j) rfl HM5.out ?_)
          | (go_at_call 150; refine (HPR.out _ mo5 HB5 HA5.out.bt.tab).mono ?_; rintro e w6 ⟨rfl, mo6, hB6, hG6⟩; have HM6 : Hid (Rw w6 g4 (aMore k j)) := HM5.out.kp (Kp.gb HB5.out hG6) (by omega); have HA6 : Hid (AL w w6 b mo s c g k (capF B B)) := HA5.out.call hbl (by omega) HB5.out HG5.out hB6 hG6; have hst1 := store5 w6 (w.heap.size + 2) k (aMore k j) HA6.out.k; clear hB6 hG6))
        have HA7 : Hid (AL w (w6.setRow (w.heap.size + 2) (row5 (aMore k j))) b mo s c g (aMore k j) (capF B B)) := HA6.out.turn hbl hT.out hg1 _
        go_roundw
        case rel => exact ⟨n0 + 1, by rw [HKN.out]; exact HA7, by show _ ∨ _; right; rw [HKN.out, HNX.out]; omega⟩
        case measure =>
          have := HA7.out.k.sum
          have h2 := HSZ.out
          have h3 := HSM.out
          have a0 := HKS.out 0 (by omega)
          have a1 := HKS.out 1 (by omega)
          have a2 := HKS.out 2 (by omega)
          have a3 := HKS.out 3 (by omega)
          have a4 := HKS.out 4 (by omega)
          simp only [this, h2, h3]
          omega
end Go.Proofs.YtfgpmdikkncckaaGreatDoor
