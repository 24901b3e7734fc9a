/-
  What upTo and last of package share do: how many pulses of each band stand up to a place, and the place behind which none stands. Nothing that was there is turned.
-/
import Derived.Test.YtfgpmdikkncckaaGreatDoorShareCalls
namespace Go.Proofs.YtfgpmdikkncckaaGreatDoor
set_option linter.unusedVariables false
set_option linter.unusedSimpArgs false
set_option maxRecDepth 100000
open Go.ChangeShapes Go.WideShapes Go.ChangeAt Go.RowKit

/-- Where upTo has its mode, its result (noughts so far) and the pulses so far; the share, the table of widths. -/
structure UX (w wr : World) (b q : Nat) (s c : Int) (f : Nat → Int) : Prop where
  md : Md wr w.heap.size s c
  res : Rw wr (w.heap.size + 1) (fun _ => 0)
  k : Rw wr (w.heap.size + 2) f
  sr : SrAt wr b q
  tab : WTab wr
  low : Below w.heap.size w wr
section
variable {w wr w1 : World} {b q : Nat} {s c : Int} {f : Nat → Int}
theorem UX.below (h : UX w wr b q s c f) (hb : Below wr.heap.size wr w1) : UX w w1 b q s c f :=
  ⟨h.md.below hb, h.res.below hb, h.k.below hb, h.sr.below hb, h.tab.below hb, h.low.trans (hb.mono h.low.size)⟩
theorem UX.drewN (h : UX w wr b q s c f) (d : Nat) : UX w (wr.drewN d) b q s c f := ⟨h.md, h.res, h.k, h.sr.drewN d, h.tab, low_drewN h.low d⟩
theorem SrAt.set {g : Nat} (h : SrAt wr b q) (hb : b ≠ g) (hq : q ≠ g) (i : Nat) (v : Value) : SrAt (wr.setCell ⟨g, i, none⟩ v) b q := by
  have h1 : (wr.setCell ⟨g, i, none⟩ v).heap[b]? = wr.heap[b]? := heap_setCell_other wr ⟨g, i, none⟩ b v (by simpa using hb)
  have h2 : (wr.setCell ⟨g, i, none⟩ v).heap[q]? = wr.heap[q]? := heap_setCell_other wr ⟨g, i, none⟩ q v (by simpa using hq)
  exact ⟨by rw [World.cell?_of_block (a := ⟨b, 0, none⟩) h1]; exact h.ptr, h.sh.same h2⟩
theorem WTab.set {g : Nat} (h : WTab wr) (hg : 0 ≠ g) (i : Nat) (v : Value) : WTab (wr.setCell ⟨g, i, none⟩ v) := by
  intro j hj
  refine ⟨0, 0, rfl, ?_⟩
  rw [Nat.zero_add, World.cell?_of_block (heap_setCell_other wr ⟨g, i, none⟩ 0 v (by simpa using hg))]
  exact h.wid hj
theorem UX.set (h : UX w wr b q s c f) (hS : SrAt w b q) (hT : WTab w) {i : Nat} (hi : i < 5) (v : Int) : UX w (wr.setCell ⟨w.heap.size + 2, i, none⟩ (.int .i64 v)) b q s c (fun j => if j = i then v else f j) :=
  ⟨h.md.set_other (by omega) _ _, h.res.set_other (by omega) _ _, h.k.set hi v, h.sr.set (by have := hS.lt; omega) (by have := hS.sh.lt; omega) _ _, h.tab.set (by have := hT.size; omega) _ _, h.low.setCell (by show w.heap.size ≤ w.heap.size + 2; omega) _⟩
end
theorem to_next (t a : Int) {j : Nat} : (fun i => if i = j then uI t a j else uTo j t a i) = uTo (j + 1) t a := by
  funext i
  unfold uTo
  by_cases e : i = j
  · subst e; rw [if_pos rfl, if_pos (by omega)]
  · rw [if_neg e]
    by_cases h : i < j
    · rw [if_pos h, if_pos (by omega)]
    · rw [if_neg h, if_neg (by omega)]
theorem slI_in {s c t : Int} {B j : Nat} (hB : bandsF s c = B) (h : j < B) : aSlI s c t j = aSl t j := by
  unfold aSlI; rw [if_pos (by unfold hasB; omega)]; rfl
theorem heap_three (w : World) (o1 o2 o3 : Obj) : (((w.alloc o1).alloc o2).alloc o3).heap[w.heap.size]? = some o1 ∧ (((w.alloc o1).alloc o2).alloc o3).heap[w.heap.size + 1]? = some o2 ∧ (((w.alloc o1).alloc o2).alloc o3).heap[w.heap.size + 2]? = some o3 := by
  refine ⟨?_, ?_, ?_⟩
  · rw [heap_alloc_old _ _ (by simp; omega)]; exact heap_one w o1 o2
  · rw [heap_alloc_old _ _ (by simp)]; exact heap_two w o1 o2
  · have := heap_two (w.alloc o1) o2 o3
    rwa [show (w.alloc o1).heap.size + 1 = w.heap.size + 2 by simp] at this
/-- What a band gets: the three ways. -/
theorem u_ways {t : Int} {a j : Nat} (hj : j < 5) : ((a : Int) < (j : Int) ∧ uI t a j = 0) ∨ ((j : Int) ≤ (a : Int) ∧ ∃ Q : Int, ((a : Int) - j).tdiv (5 * aSl t j + 0) = Q ∧ 0 ≤ Q ∧ Q ≤ a ∧ ((capB j < Q ∧ uI t a j = capB j) ∨ (Q ≤ capB j ∧ uI t a j = Q))) := by
  have hs := sl5 t hj
  have hc := capB_bd hj
  by_cases h : a < j
  · refine .inl ⟨by omega, ?_⟩
    unfold uI
    rw [show max ((a : Int) - j) 0 = 0 by omega, Int.zero_ediv]
    omega
  · refine .inr ⟨by omega, _, rfl, ?_⟩
    have e : ((a : Int) - j).tdiv (5 * aSl t j + 0) = ((a : Int) - j) / (5 * aSl t j) := by
      rw [Int.add_zero]; exact Int.tdiv_eq_ediv_of_nonneg (by omega)
    have h0 : 0 ≤ ((a : Int) - j) / (5 * aSl t j) := Int.ediv_nonneg (by omega) (by omega)
    have h1 : ((a : Int) - j) / (5 * aSl t j) ≤ (a : Int) - j := Int.ediv_le_self _ (by omega)
    rw [e]
    unfold uI
    rw [show max ((a : Int) - j) 0 = (a : Int) - j by omega]
    generalize ((a : Int) - j) / (5 * aSl t j) = q at *
    omega

set_option maxHeartbeats 4000000 in
theorem upTo_any (w : World) (b q : Nat) (s c t : Int) (a : Nat) (ha : a ≤ 10000) (B : Nat) (hBn : Hid (bandsF s c = B)) (h5 : B ≤ 5) (hS : Hid (SrAt w b q)) (hT : Hid (WTab w)) :
    Calls Tryz.prog 172 #[.pointer (some ⟨b, 0, none⟩), (.agg #[.int .i64 (s), .int .i64 (c)]), .int .i64 t, .int .i64 a] w fun e w' => e = .returned (.agg (row5 (uTo B t a))) ∧ Below w.heap.size w w' := by
  obtain ⟨o1, ho1⟩ : ∃ o : Obj, o = .cells #[.int .i64 s, .int .i64 c] 29 := ⟨_, rfl⟩
  obtain ⟨o2, ho2⟩ : ∃ o : Obj, o = .cells #[.int .i64 0, .int .i64 0, .int .i64 0, .int .i64 0, .int .i64 0] 31 := ⟨_, rfl⟩
  have hb0 : Below w.heap.size w (((w.alloc o1).alloc o2).alloc o2) := gN_below (gN_alloc (gN_alloc (gN_alloc (gN_refl w) _) _) _)
  have HU0 : Hid (UX w (((w.alloc o1).alloc o2).alloc o2) b q s c (uTo 0 t a)) := by
    obtain ⟨h1, h2, h3⟩ := heap_three w o1 o2 o2
    refine ⟨?_, ?_, ?_, hS.out.below hb0, hT.out.below hb0, hb0⟩
    · show _ = _; rw [h1, ho1]
    · show _ = _; rw [h2, ho2]; rfl
    · show _ = _; rw [h3, ho2]; rfl
  clear hb0
  subst ho1 ho2
  go_enter Tryz.func172, Tryz.ntmps172
  have c1 := HU0.out.md.cs
  have c2 := HU0.out.md.cc
  go_wp2_with (go_at_call 21; refine (bands_any _ _ _).mono ?_; rw [hBn.out]; rintro e w1 ⟨rfl, hb1⟩; have HU1 : Hid (UX w w1 b q s c (uTo 0 t a)) := HU0.out.below hb1; clear hb1)
  clear c1 c2 HU0
  go_loopw [14] (fun i wr => ∃ j : Nat, j ≤ B ∧ i = .int .i64 j ∧ Hid (UX w wr b q s c (uTo j t a))) (fun i _ => B - (intOf i).toNat)
  case atStart => exact ⟨0, by omega, rfl, HU1⟩
  case round =>
    clear HU1
    obtain ⟨j, hj, rfl, HU⟩ := hrel
    have c1 := HU.out.md.cs
    have c2 := HU.out.md.cc
    by_cases hlt : j < B
    · have hlt' : (j : Int) < (B : Int) := by omega
      have j0 : (0 : Int) ≤ (j : Int) := by omega
      have j5 : (j : Int) < 5 := by omega
      have a0 : (0 : Int) ≤ (a : Int) := by omega
      have a1 : (a : Int) ≤ 10000 := by omega
      have HW : Hid (widthF s c j = widF j) := width_in hBn.out hlt
      have HSL : Hid (aSlI s c t j = aSl t j) := slI_in hBn.out hlt
      have HNX : Hid _ := to_next t a (j := j)
      have hsl := sl_bd t (i := j) (by omega)
      have hcp := capB_bd (i := j) (by omega)
      have hwy := u_ways (t := t) (a := a) (j := j) (by omega)
      have hcu : capB j = capI (widF j) := rfl
      have HCU : Hid (capI (widF j) = capB j) := rfl
      clear hcu
      generalize uI t a j = v at *
      generalize capB j = C at *
      generalize aSl t j = A at *
      obtain ⟨D, hD⟩ : ∃ D, 5 * A + 0 = D := ⟨_, rfl⟩
      have HD : Hid (5 * A + 0 = D) := hD
      have hD0 : 5 ≤ D ∧ D ≤ 200 := by omega
      rw [hD] at hwy
      clear hD
      have hDz : ¬ D = 0 := by omega
      have hbl := hS.out.lt
      have nb1 : ¬ b = w.heap.size + 1 + 1 := by omega
      have nb2 : ¬ w.heap.size + 1 + 1 = b := by omega
      go_upto_region 6 with (first
        | (go_at_call 156; refine (slope_any _ s c t j HU.out.tab).mono ?_; rw [HSL.out]; rintro e w2 ⟨rfl, hb2⟩; have HU2 : Hid (UX w w2 b q s c (uTo j t a)) := HU.out.below hb2; clear hb2)
        | (go_at_call 174; refine (splace_any _ A 0 D (by omega) (by omega) HD).mono ?_; rintro e w3 ⟨rfl, hw⟩; obtain rfl := hw.symm; clear hw))
      clear c1 c2 HU HSL HD
      have c1 := HU2.out.md.cs
      have c2 := HU2.out.md.cc
      have c3 := HU2.out.sr.ptr
      have c4 := HU2.out.k.cell (i := j) (by omega)
      have c5 := HU2.out.k.fz j
      rcases hwy with ⟨x1, rfl⟩ | ⟨x1, Q, hQ, x2, x3, x4⟩
      · have y0 : IntKind.i64.wrap ((a : Int) - j) = (a : Int) - j := IntWalk.i64_in _ (by omega)
        have y1 : (0 : Int).tdiv D = 0 := Int.zero_tdiv _
        have y4 : IntKind.i64.wrap 0 = 0 := rfl
        have y2 : ¬ C < 0 := by omega
        have y3 : (a : Int) - j < 0 := by omega
        go_region_held3 (fun w' => w'.cell? ⟨w.heap.size, 0, none⟩ = some (.int .i64 s) ∧ w'.cell? ⟨w.heap.size, 1, none⟩ = some (.int .i64 c) ∧ w'.cell? ⟨b, 0, none⟩ = some (.pointer (some ⟨q, 0, none⟩))) (first | exact ⟨c1, c2, c3⟩ | exact ⟨d1, d2, d3⟩ | (simp [go_sem, d1, d2, d3, nb1, nb2]; done)) ((first | (go_at_call 23; refine (width_any _ _ _ _ ((HU2.out.drewN _).tab : WTab _)).mono ?_; rw [HW.out]; rintro e w4 ⟨rfl, hb4⟩; have HU4 : Hid (UX w w4 b q s c (uTo j t a)) := (HU2.out.drewN _).below hb4; have d1 := HU4.out.md.cs; have d2 := HU4.out.md.cc; have d3 := HU4.out.sr.ptr; have d4 := HU4.out.k.cell (i := j) (by omega); have d5 := HU4.out.k.fz j; clear hb4) | (go_at_call 173; refine (scap_any _ q _ (HU4.out.sr.sh : ShAt _ _)).mono ?_; rw [HCU.out]; rintro e w5 ⟨rfl, hw⟩; obtain rfl := hw.symm; clear hw)))
        all_goals go_wp2
        all_goals go_roundw
        all_goals first
          | exact ⟨j + 1, by omega, by go_num, by have := HU4.out.set hS.out hT.out (i := j) (by omega) 0; rw [HNX.out] at this; exact this⟩
          | (simp [intOf]; omega)
      · have y0 : IntKind.i64.wrap ((a : Int) - j) = (a : Int) - j := IntWalk.i64_in _ (by omega)
        have y1 : IntKind.i64.wrap Q = Q := IntWalk.i64_in _ (by omega)
        have y3 : ¬ (a : Int) - j < 0 := by omega
        have HV : Hid ((if C < Q then C else Q) = v) := by
          rcases x4 with ⟨x4, rfl⟩ | ⟨x4, rfl⟩
          · exact if_pos x4
          · exact if_neg (by omega)
        clear x4
        go_region_held3 (fun w' => w'.cell? ⟨w.heap.size, 0, none⟩ = some (.int .i64 s) ∧ w'.cell? ⟨w.heap.size, 1, none⟩ = some (.int .i64 c) ∧ w'.cell? ⟨b, 0, none⟩ = some (.pointer (some ⟨q, 0, none⟩))) (first | exact ⟨c1, c2, c3⟩ | exact ⟨d1, d2, d3⟩ | (simp [go_sem, d1, d2, d3, nb1, nb2]; done)) ((first | (go_at_call 23; refine (width_any _ _ _ _ ((HU2.out.drewN _).tab : WTab _)).mono ?_; rw [HW.out]; rintro e w4 ⟨rfl, hb4⟩; have HU4 : Hid (UX w w4 b q s c (uTo j t a)) := (HU2.out.drewN _).below hb4; have d1 := HU4.out.md.cs; have d2 := HU4.out.md.cc; have d3 := HU4.out.sr.ptr; have d4 := HU4.out.k.cell (i := j) (by omega); have d5 := HU4.out.k.fz j; clear hb4) | (go_at_call 173; refine (scap_any _ q _ (HU4.out.sr.sh : ShAt _ _)).mono ?_; rw [HCU.out]; rintro e w5 ⟨rfl, hw⟩; obtain rfl := hw.symm; clear hw)))
        all_goals go_wp2
        all_goals go_roundw
        all_goals first
          | exact ⟨j + 1, by omega, by go_num, by rw [HV.out]; have := HU4.out.set hS.out hT.out (i := j) (by omega) v; rw [HNX.out] at this; exact this⟩
          | (simp [intOf]; omega)
    · obtain rfl : j = B := by omega
      have hst := store5 wr (w.heap.size + 1) (fun _ => 0) (uTo j t a) HU.out.res
      go_wp2_with (refine wl_load5 rfl _ rfl (w.heap.size + 2) (uTo j t a) rfl HU.out.k ?_)
      refine bodyPost_ret (results_cell_row rfl _ _ (w.heap.size + 1) 31 (row5 (uTo j t a)) (0, 0) _ rfl (HU.out.res.setRow _) t5_under rfl (by rw [row5_size]; exact t5_info)) rfl ⟨rfl, ?_⟩
      exact below_setRow5 HU.out.low (by omega) _

theorem mul_bd {C A : Int} (h : 1 ≤ C ∧ C ≤ 32) (h' : 1 ≤ A ∧ A ≤ 40) : 1 ≤ C * A ∧ C * A ≤ 1280 := by
  have h1 : C * A ≤ C * 40 := Int.mul_le_mul_of_nonneg_left h'.2 (by omega)
  have h2 : C * 1 ≤ C * A := Int.mul_le_mul_of_nonneg_left h'.1 (by omega)
  omega
/-- Where last has its mode; the share, the table of widths. -/
structure LX (w wr : World) (b q : Nat) (s c : Int) : Prop where
  md : Md wr w.heap.size s c
  sr : SrAt wr b q
  tab : WTab wr
  low : Below w.heap.size w wr
section
variable {w wr w1 : World} {b q : Nat} {s c : Int}
theorem LX.below (h : LX w wr b q s c) (hb : Below wr.heap.size wr w1) : LX w w1 b q s c :=
  ⟨h.md.below hb, h.sr.below hb, h.tab.below hb, h.low.trans (hb.mono h.low.size)⟩
theorem LX.drewN (h : LX w wr b q s c) (d : Nat) : LX w (wr.drewN d) b q s c := ⟨h.md, h.sr.drewN d, h.tab, low_drewN h.low d⟩
end

set_option maxHeartbeats 4000000 in
theorem last_any (w : World) (b q : Nat) (s c t : Int) (B : Nat) (hBn : Hid (bandsF s c = B)) (h5 : B ≤ 5) (hS : Hid (SrAt w b q)) (hT : Hid (WTab w)) :
    Calls Tryz.prog 169 #[.pointer (some ⟨b, 0, none⟩), (.agg #[.int .i64 (s), .int .i64 (c)]), .int .i64 t] w fun e w' => e = .returned (.int .i64 (pLast t B)) ∧ Below w.heap.size w w' := by
  have hb0 : Below w.heap.size w (w.alloc (.cells #[.int .i64 s, .int .i64 c] 29)) := gN_below (gN_alloc (gN_refl w) _)
  have HU0 : Hid (LX w (w.alloc (.cells #[.int .i64 s, .int .i64 c] 29)) b q s c) := ⟨Md.new w s c, hS.out.below hb0, hT.out.below hb0, hb0⟩
  clear hb0
  have c1 := HU0.out.md.cs
  have c2 := HU0.out.md.cc
  go_enter Tryz.func169, Tryz.ntmps169
  go_wp2_with (go_at_call 21; refine (bands_any _ _ _).mono ?_; rw [hBn.out]; rintro e w1 ⟨rfl, hb1⟩; have HU1 : Hid (LX w w1 b q s c) := HU0.out.below hb1; clear hb1)
  clear c1 c2 HU0
  go_loopw [7, 12] (fun v i wr => ∃ j : Nat, j ≤ B ∧ i = .int .i64 j ∧ v = .int .i64 (pLast t j) ∧ Hid (LX w wr b q s c)) (fun _ i _ => B - (intOf i).toNat)
  case atStart => exact ⟨0, by omega, rfl, rfl, HU1⟩
  case round =>
    clear HU1
    obtain ⟨j, hj, rfl, rfl, HU⟩ := hrel
    have c1 := HU.out.md.cs
    have c2 := HU.out.md.cc
    by_cases hlt : j < B
    · have hlt' : (j : Int) < (B : Int) := by omega
      have j0 : (0 : Int) ≤ (j : Int) := by omega
      have j5 : (j : Int) < 5 := by omega
      have c3 := HU.out.sr.ptr
      have HW : Hid (widthF s c j = widF j) := width_in hBn.out hlt
      have HSL : Hid (aSlI s c t j = aSl t j) := slI_in hBn.out hlt
      have hml := mul_bd (capB_bd (i := j) (by omega)) (sl_bd t (i := j) (by omega))
      have HCU : Hid (capI (widF j) = capB j) := rfl
      have HPL : Hid (pLast t (j + 1) = max (pLast t j) (5 * (capB j * aSl t j) + j)) := rfl
      have hp0 := last_bd t (n := j) (by omega)
      obtain ⟨L, hL⟩ : ∃ L, capB j * aSl t j = L := ⟨_, rfl⟩
      have y0 : IntKind.i64.wrap (capB j * aSl t j) = L := by rw [← hL]; exact IntWalk.i64_in _ (by omega)
      rw [hL] at hml HPL
      clear hL
      generalize capB j = C at *
      generalize aSl t j = A at *
      generalize pLast t j = P at *
      obtain ⟨D, hD⟩ : ∃ D, 5 * L + j = D := ⟨_, rfl⟩
      have HD : Hid (5 * L + j = D) := hD
      rw [hD] at HPL
      have hD0 : 0 ≤ D ∧ D ≤ 7000 := by omega
      clear hD
      go_upto_region 5 with fail
      go_region_held3 (fun w' => w'.cell? ⟨w.heap.size, 0, none⟩ = some (.int .i64 s) ∧ w'.cell? ⟨w.heap.size, 1, none⟩ = some (.int .i64 c) ∧ w'.cell? ⟨b, 0, none⟩ = some (.pointer (some ⟨q, 0, none⟩))) (first | exact ⟨c1, c2, c3⟩ | exact ⟨d1, d2, d3⟩ | exact ⟨e1, e2, e3⟩) ((first
        | (go_at_call 173; refine (scap_any _ q _ (by first | exact (HU4.out.sr.sh : ShAt _ _) | exact (HU2.out.sr.sh : ShAt _ _))).mono ?_; rw [HCU.out]; rintro e w5 ⟨rfl, hw⟩; obtain rfl := hw.symm; clear hw)
        | (go_at_call 156; refine (slope_any _ s c t j (by first | exact (HU2.out.tab : WTab _) | exact ((HU2.out.drewN _).tab : WTab _))).mono ?_; rw [HSL.out]; rintro e w4 ⟨rfl, hb4⟩; have HU4 : Hid (LX w w4 b q s c) := HU2.out.below hb4; have e1 := HU4.out.md.cs; have e2 := HU4.out.md.cc; have e3 := HU4.out.sr.ptr; clear hb4)
        | (go_at_call 23; refine (width_any _ _ _ _ ((HU.out.drewN _).tab : WTab _)).mono ?_; rw [HW.out]; rintro e w2 ⟨rfl, hb2⟩; have HU2 : Hid (LX w w2 b q s c) := (HU.out.drewN _).below hb2; have d1 := HU2.out.md.cs; have d2 := HU2.out.md.cc; have d3 := HU2.out.sr.ptr; clear hb2)))
      by_cases hpd : P < D
      · have HM : Hid (max P D = D) := by show _ = _; omega
        have hpd' : ¬ D < P := by omega
        go_wp2_with (go_at_call 174; refine (splace_any _ L j D (by omega) (by omega) HD).mono ?_; rintro e w3 ⟨rfl, hw⟩; obtain rfl := hw.symm; clear hw)
        go_roundw
        case rel => exact ⟨j + 1, by omega, by go_num, by rw [HPL.out, HM.out], HU4⟩
        case measure => simp [intOf]; omega
      · have HM : Hid (max P D = P) := by show _ = _; omega
        go_wp2_with (go_at_call 174; refine (splace_any _ L j D (by omega) (by omega) HD).mono ?_; rintro e w3 ⟨rfl, hw⟩; obtain rfl := hw.symm; clear hw)
        go_roundw
        case rel => exact ⟨j + 1, by omega, by go_num, by rw [HPL.out, HM.out], HU4⟩
        case measure => simp [intOf]; omega
    · obtain rfl : j = B := by omega
      go_wp2
      go_returns
      exact ⟨rfl, HU.out.low⟩
end Go.Proofs.YtfgpmdikkncckaaGreatDoor
