/-
  What the test of share's Alloc, sort.Search over that test, and Alloc of a share do: what a budget comes to is answered. Nothing that was there is turned.
-/
import Derived.Test.YtfgpmdikkncckaaGreatDoorShareUp
namespace Go.Proofs.YtfgpmdikkncckaaGreatDoor
set_option linter.unusedVariables false
set_option linter.unusedSimpArgs false
set_option maxRecDepth 100000
open Go.ChangeShapes Go.WideShapes Go.ChangeAt Go.RowKit

theorem upTo_int (w : World) (b q : Nat) (s c t a : Int) (h0 : 0 ≤ a) (h1 : a ≤ 10000) (B : Nat) (hBn : Hid (bandsF s c = B)) (h5 : B ≤ 5) (hS : Hid (SrAt w b q)) (hT : Hid (WTab w)) :
    Calls Tryz.prog 172 #[.pointer (some ⟨b, 0, none⟩), (.agg #[.int .i64 (s), .int .i64 (c)]), .int .i64 t, .int .i64 a] w fun e w' => e = .returned (.agg (row5 (uTo B t a))) ∧ Below w.heap.size w w' := by
  obtain ⟨x, rfl⟩ : ∃ x : Nat, a = x := ⟨a.toNat, by omega⟩
  exact upTo_any w b q s c t x (by omega) B hBn h5 hS hT

/-- What the test has in memory: its share, its mode, its trim, its budget, each in a block. -/
structure CX (w : World) (q1 q2 q3 q4 : Nat) (b q : Nat) (s c t n : Int) : Prop where
  p1 : w.cell? ⟨q1, 0, none⟩ = some (.pointer (some ⟨b, 0, none⟩))
  md : Md w q2 s c
  p3 : w.cell? ⟨q3, 0, none⟩ = some (.int .i64 t)
  p4 : w.cell? ⟨q4, 0, none⟩ = some (.int .i64 n)
  sr : SrAt w b q
  tab : WTab w
section
variable {w w' : World} {q1 q2 q3 q4 b q : Nat} {s c t n : Int}
theorem CX.below (h : CX w q1 q2 q3 q4 b q s c t n) (hb : Below w.heap.size w w') : CX w' q1 q2 q3 q4 b q s c t n := by
  have k : ∀ {g : Nat} {v : Value}, w.cell? ⟨g, 0, none⟩ = some v → w'.cell? ⟨g, 0, none⟩ = some v := fun {g v} hc => by
    rw [World.cell?_of_block (a := ⟨g, 0, none⟩) (hb.block g (block_lt_of_cell hc))]; exact hc
  exact ⟨k h.p1, h.md.below hb, k h.p3, k h.p4, h.sr.below hb, h.tab.below hb⟩
theorem CX.drewN (h : CX w q1 q2 q3 q4 b q s c t n) (d : Nat) : CX (w.drewN d) q1 q2 q3 q4 b q s c t n := ⟨h.p1, h.md, h.p3, h.p4, h.sr.drewN d, h.tab⟩
end

/-- Is what stands up to the next place more than the budget? -/
def isDear (B : Nat) (c t n : Int) (h : Nat) : Bool := decide (n < aPr (uTo B t (h + 1)) B * c)
def tooDear (B : Nat) (c t n : Int) (h : Nat) : Prop := isDear B c t n h = true
theorem dear_iff {B : Nat} {c t n : Int} {h : Nat} : tooDear B c t n h ↔ n < aPr (uTo B t (h + 1)) B * c := decide_eq_true_iff

set_option maxHeartbeats 4000000 in
theorem test_any (w : World) (q1 q2 q3 q4 b q : Nat) (s c t n : Int) (h : Nat) (hh : h ≤ 9000) (B : Nat) (hBn : Hid (bandsF s c = B)) (h5 : B ≤ 5) (hc : B = 0 ∨ c = 1 ∨ c = 2) (hC : Hid (CX w q1 q2 q3 q4 b q s c t n)) :
    Calls Tryz.prog 170 #[.int .i64 h, .pointer (some ⟨q1, 0, none⟩), .pointer (some ⟨q2, 0, none⟩), .pointer (some ⟨q3, 0, none⟩), .pointer (some ⟨q4, 0, none⟩)] w fun e w' => e = .returned (.bool (isDear B c t n h)) ∧ Below w.heap.size w w' := by
  have HD : Hid (isDear B c t n h = decide (n < aPr (uTo B t (h + 1)) B * c)) := rfl
  rw [HD.out]
  have h0 : (0 : Int) ≤ (h : Int) := by omega
  have h1 : (h : Int) ≤ 9000 := by omega
  have y0 : IntKind.i64.wrap ((h : Int) + 1) = (h : Int) + 1 := IntWalk.i64_in _ (by omega)
  have c1 := hC.out.p1
  have c2 := hC.out.md.cs
  have c3 := hC.out.md.cc
  have c4 := hC.out.p3
  have c5 := hC.out.p4
  obtain ⟨x, hx⟩ : ∃ x, aPr (uTo B t (h + 1)) B * c = x := ⟨_, rfl⟩
  have HX : Hid (aPr (uTo B t (h + 1)) B * c = x) := hx
  rw [hx]
  clear hx HD
  go_enter Tryz.func170, Tryz.ntmps170
  go_upto_region 1 with fail
  go_region_held3 (fun w' => w'.cell? ⟨q1, 0, none⟩ = some (.pointer (some ⟨b, 0, none⟩)) ∧ w'.cell? ⟨q2, 0, none⟩ = some (.int .i64 s) ∧ w'.cell? ⟨q2, 1, none⟩ = some (.int .i64 c) ∧ w'.cell? ⟨q3, 0, none⟩ = some (.int .i64 t) ∧ w'.cell? ⟨q4, 0, none⟩ = some (.int .i64 n)) (first | exact ⟨c1, c2, c3, c4, c5⟩ | exact ⟨d1, d2, d3, d4, d5⟩ | exact ⟨e1, e2, e3, e4, e5⟩) ((first
    | (go_at_call 171; refine (sprice_any _ b q s c _ B hBn h5 hc (HC2.out.sr : SrAt _ _ _) (HC2.out.tab : WTab _)).mono ?_; rw [HX.out]; rintro e w4 ⟨rfl, hb4⟩; have HC4 : Hid (CX w4 q1 q2 q3 q4 b q s c t n) := HC2.out.below hb4; have HL4 : Hid (Below w.heap.size w w4) := HL2.out.trans (hb4.mono HL2.out.size); have e1 := HC4.out.p1; have e2 := HC4.out.md.cs; have e3 := HC4.out.md.cc; have e4 := HC4.out.p3; have e5 := HC4.out.p4; clear hb4)
    | (go_at_call 172; refine (upTo_int _ b q s c t _ (by omega) (by omega) B hBn h5 ((hC.out.drewN _).sr : SrAt _ _ _) ((hC.out.drewN _).tab : WTab _)).mono ?_; rintro e w2 ⟨rfl, hb2⟩; have HC2 : Hid (CX w2 q1 q2 q3 q4 b q s c t n) := (hC.out.drewN _).below hb2; have HL2 : Hid (Below w.heap.size w w2) := (low_drewN (Below.refl _ _) _).trans hb2; have d1 := HC2.out.p1; have d2 := HC2.out.md.cs; have d3 := HC2.out.md.cc; have d4 := HC2.out.p3; have d5 := HC2.out.p4; clear hb2)))
  all_goals go_wp2
  all_goals go_returns
  all_goals exact ⟨rfl, HL4.out⟩

set_option maxHeartbeats 4000000 in
theorem search_any (w : World) (q1 q2 q3 q4 b q : Nat) (s c t n : Int) (M : Nat) (hM : M ≤ 9000) (B : Nat) (hBn : Hid (bandsF s c = B)) (h5 : B ≤ 5) (hc : B = 0 ∨ c = 1 ∨ c = 2) (hC : Hid (CX w q1 q2 q3 q4 b q s c t n)) :
    Calls Tryz.prog 168 #[.int .i64 M, .func (.func 170) #[] #[.pointer (some ⟨q1, 0, none⟩), .pointer (some ⟨q2, 0, none⟩), .pointer (some ⟨q3, 0, none⟩), .pointer (some ⟨q4, 0, none⟩)]] w
      fun e w' => ∃ a : Nat, e = .returned (.int .i64 a) ∧ a ≤ M ∧ (a = 0 ∨ ¬ tooDear B c t n (a - 1)) ∧ (a = M ∨ tooDear B c t n a) ∧ Below w.heap.size w w' := by
  go_enter Tryz.func168, Tryz.ntmps168
  go_wp2
  go_loopw [5, 6] (fun i j wr => ∃ lo hi : Nat, lo ≤ hi ∧ hi ≤ M ∧ i = .int .i64 lo ∧ j = .int .i64 hi ∧ Hid (lo = 0 ∨ ¬ tooDear B c t n (lo - 1)) ∧ Hid (hi = M ∨ tooDear B c t n hi) ∧ Hid (CX wr q1 q2 q3 q4 b q s c t n) ∧ Hid (Below w.heap.size w wr)) (fun i j _ => (intOf j - intOf i).toNat)
  case atStart => exact ⟨0, M, by omega, by omega, rfl, rfl, .inl rfl, .inl rfl, hC, Below.refl _ _⟩
  case round =>
    obtain ⟨lo, hi, h1, h2, rfl, rfl, HLO, HHI, HC, HB⟩ := hrel
    by_cases hlt : lo < hi
    · have hlt' : (lo : Int) < (hi : Int) := by omega
      have h2' : (hi : Int) ≤ 9000 := by omega
      have hlo0 : (0 : Int) ≤ (lo : Int) := by omega
      obtain ⟨m, hm⟩ : ∃ m : Nat, (lo + hi) / 2 = m := ⟨_, rfl⟩
      have hm1 : lo ≤ m ∧ m < hi := by omega
      have hm2 : ((lo : Int) + (hi : Int)) / 2 = (m : Int) := by omega
      go_upto_region 4 with fail
      clear hm hm2
      by_cases hd : tooDear B c t n m
      · have HD : Hid (isDear B c t n m = true) := hd
        have HN : Hid (m = M ∨ tooDear B c t n m) := .inr hd
        clear hd
        go_wp2_with (go_at_call 170; refine (test_any _ q1 q2 q3 q4 b q s c t n m (by omega) B hBn h5 hc HC).mono ?_; rw [HD.out]; rintro e w2 ⟨rfl, hb2⟩; have HC2 : Hid (CX w2 q1 q2 q3 q4 b q s c t n) := HC.out.below hb2; have HB2 : Hid (Below w.heap.size w w2) := HB.out.trans (hb2.mono HB.out.size); clear hb2)
        go_roundw
        case rel => exact ⟨lo, m, by omega, by omega, rfl, rfl, HLO, HN, HC2, HB2⟩
        case measure => simp [intOf]; omega
      · have HD : Hid (isDear B c t n m = false) := by show _ = _; unfold tooDear at hd; simpa using hd
        have HN : Hid (m + 1 = 0 ∨ ¬ tooDear B c t n (m + 1 - 1)) := .inr hd
        clear hd
        go_wp2_with (go_at_call 170; refine (test_any _ q1 q2 q3 q4 b q s c t n m (by omega) B hBn h5 hc HC).mono ?_; rw [HD.out]; rintro e w2 ⟨rfl, hb2⟩; have HC2 : Hid (CX w2 q1 q2 q3 q4 b q s c t n) := HC.out.below hb2; have HB2 : Hid (Below w.heap.size w w2) := HB.out.trans (hb2.mono HB.out.size); clear hb2)
        go_roundw
        case rel => exact ⟨m + 1, hi, by omega, by omega, by go_num, rfl, HN, HHI, HC2, HB2⟩
        case measure => simp [intOf]; omega
    · obtain rfl : lo = hi := by omega
      go_wp2
      go_returns
      exact ⟨lo, rfl, by omega, HLO.out, HHI.out, HB.out⟩

/-- Up to a place that all can be paid for, and no farther: what a budget comes to. -/
theorem found_out {B : Nat} (hB : B ≤ 5) {c t n : Int} (hc : 1 ≤ c) {a : Nat} (h1 : a = 0 ∨ ¬ tooDear B c t n (a - 1)) (h2 : (a : Int) = pLast t B ∨ tooDear B c t n a) : Out B c t n (uTo B t a) := by
  refine share_out hB hc a ?_ ?_
  · rcases h1 with h1 | h1
    · exact .inl h1
    · by_cases ha : a = 0
      · exact .inl ha
      · right
        rw [dear_iff] at h1
        rw [show ((a - 1 : Nat) : Int) + 1 = (a : Int) by omega, Int.mul_comm] at h1
        omega
  · rcases h2 with h2 | h2
    · exact .inl h2
    · right
      rw [dear_iff] at h2
      rwa [Int.mul_comm] at h2

theorem heap_five (w : World) (o1 o2 o3 o4 o5 : Obj) :
    (((((w.alloc o1).alloc o2).alloc o3).alloc o4).alloc o5).heap[w.heap.size]? = some o1 ∧ (((((w.alloc o1).alloc o2).alloc o3).alloc o4).alloc o5).heap[w.heap.size + 1]? = some o2 ∧ (((((w.alloc o1).alloc o2).alloc o3).alloc o4).alloc o5).heap[w.heap.size + 2]? = some o3 ∧
      (((((w.alloc o1).alloc o2).alloc o3).alloc o4).alloc o5).heap[w.heap.size + 3]? = some o4 ∧ (((((w.alloc o1).alloc o2).alloc o3).alloc o4).alloc o5).heap[w.heap.size + 4]? = some o5 := by
  obtain ⟨h1, h2, h3⟩ := heap_three w o1 o2 o3
  have e2 : ((w.alloc o1).alloc o2).heap.size = w.heap.size + 2 := by simp
  have h45 := heap_three ((w.alloc o1).alloc o2) o3 o4 o5
  rw [e2] at h45
  refine ⟨?_, ?_, h45.1, h45.2.1, h45.2.2⟩
  · rw [heap_alloc_old _ _ (by simp; omega), heap_alloc_old _ _ (by simp; omega)]; exact h1
  · rw [heap_alloc_old _ _ (by simp <;> omega), heap_alloc_old _ _ (by simp <;> omega)]; exact h2
/-- Where Alloc has all of this, and its result (noughts so far). -/
structure AX (w wr : World) (b q : Nat) (s c t n : Int) : Prop where
  cx : CX wr w.heap.size (w.heap.size + 1) (w.heap.size + 2) (w.heap.size + 3) b q s c t n
  res : Rw wr (w.heap.size + 4) (fun _ => 0)
  low : Below w.heap.size w wr
section
variable {w wr w1 : World} {b q : Nat} {s c t n : Int}
theorem AX.below (h : AX w wr b q s c t n) (hb : Below wr.heap.size wr w1) : AX w w1 b q s c t n := ⟨h.cx.below hb, h.res.below hb, h.low.trans (hb.mono h.low.size)⟩
theorem AX.start (hS : SrAt w b q) (hT : WTab w) : AX w (((((w.alloc (.cells #[.pointer (some ⟨b, 0, none⟩)] 92)).alloc (.cells #[.int .i64 s, .int .i64 c] 29)).alloc (.cells #[.int .i64 t] 3)).alloc (.cells #[.int .i64 n] 3)).alloc (.cells #[.int .i64 0, .int .i64 0, .int .i64 0, .int .i64 0, .int .i64 0] 31)) b q s c t n := by
  have hb : Below w.heap.size w (((((w.alloc (.cells #[.pointer (some ⟨b, 0, none⟩)] 92)).alloc (.cells #[.int .i64 s, .int .i64 c] 29)).alloc (.cells #[.int .i64 t] 3)).alloc (.cells #[.int .i64 n] 3)).alloc (.cells #[.int .i64 0, .int .i64 0, .int .i64 0, .int .i64 0, .int .i64 0] 31)) := gN_below (gN_alloc (gN_alloc (gN_alloc (gN_alloc (gN_alloc (gN_refl w) _) _) _) _) _)
  obtain ⟨h1, h2, h3, h4, h5⟩ := heap_five w (.cells #[.pointer (some ⟨b, 0, none⟩)] 92) (.cells #[.int .i64 s, .int .i64 c] 29) (.cells #[.int .i64 t] 3) (.cells #[.int .i64 n] 3) (.cells #[.int .i64 0, .int .i64 0, .int .i64 0, .int .i64 0, .int .i64 0] 31)
  exact ⟨⟨cell_of_row _ _ 0 _ _ _ h1, h2, cell_of_row _ _ 0 _ _ _ h3, cell_of_row _ _ 0 _ _ _ h4, hS.below hb, hT.below hb⟩, h5, hb⟩
end

set_option maxHeartbeats 4000000 in
theorem sall_any (w : World) (b q : Nat) (s c t n : Int) (B : Nat) (hBn : Hid (bandsF s c = B)) (h5 : B ≤ 5) (hc : B = 0 ∨ c = 1 ∨ c = 2) (hS : Hid (SrAt w b q)) (hT : Hid (WTab w)) :
    Calls Tryz.prog 167 #[.pointer (some ⟨b, 0, none⟩), (.agg #[.int .i64 (s), .int .i64 (c)]), .int .i64 t, .int .i64 n] w fun e w' => ∃ a : Nat, e = .returned (.agg (row5 (uTo B t a))) ∧ (a : Int) ≤ pLast t B ∧ (a = 0 ∨ ¬ tooDear B c t n (a - 1)) ∧ ((a : Int) = pLast t B ∨ tooDear B c t n a) ∧ Below w.heap.size w w' := by
  obtain ⟨M, hM⟩ : ∃ M : Nat, pLast t B = M := ⟨(pLast t B).toNat, by have := last_bd t (n := B) h5; omega⟩
  have HM : Hid (pLast t B = M) := hM
  have hM9 : M ≤ 9000 := by have := last_bd t (n := B) h5; omega
  rw [hM]
  clear hM
  have HA0 : Hid (AX w _ b q s c t n) := AX.start (s := s) (c := c) (t := t) (n := n) hS.out hT.out
  go_enter Tryz.func167, Tryz.ntmps167
  go_upto_region 1 with fail
  generalize (((((w.alloc (.cells #[.pointer (some ⟨b, 0, none⟩)] 92)).alloc (.cells #[.int .i64 s, .int .i64 c] 29)).alloc (.cells #[.int .i64 t] 3)).alloc (.cells #[.int .i64 n] 3)).alloc (.cells #[.int .i64 0, .int .i64 0, .int .i64 0, .int .i64 0, .int .i64 0] 31)) = w0 at *
  have c1 := HA0.out.cx.p1
  have c2 := HA0.out.cx.md.cs
  have c3 := HA0.out.cx.md.cc
  have c4 := HA0.out.cx.p3
  have hmf : ∀ (fn : Fn) (first cap : Array Value) (w : World), (Instr.makeFunc fn first cap).run Tryz.prog w = .ok (.func fn first cap) w := fun _ _ _ _ => rfl
  go_upto_region 2 with (first
    | (go_at_call 169; refine (last_any _ b q s c t B hBn h5 HA0.out.cx.sr HA0.out.cx.tab).mono ?_; rw [HM.out]; rintro e w1 ⟨rfl, hb1⟩; have HA1 : Hid (AX w w1 b q s c t n) := HA0.out.below hb1; clear hb1)
    | (go_at_call 168; refine (search_any _ w.heap.size (w.heap.size + 1) (w.heap.size + 2) (w.heap.size + 3) b q s c t n M hM9 B hBn h5 hc HA1.out.cx).mono ?_; rintro e w2 ⟨a, rfl, ha1, ha2, ha3, hb2⟩; have HA2 : Hid (AX w w2 b q s c t n) := HA1.out.below hb2; clear hb2))
  clear c1 c2 c3 c4 HA0 HA1
  have c1 := HA2.out.cx.p1
  have c2 := HA2.out.cx.md.cs
  have c3 := HA2.out.cx.md.cc
  have c4 := HA2.out.cx.p3
  go_wp2_with (go_at_call 172; refine (upTo_any _ b q s c t a (by omega) B hBn h5 HA2.out.cx.sr HA2.out.cx.tab).mono ?_; rintro e w3 ⟨rfl, hb3⟩; have HA3 : Hid (AX w w3 b q s c t n) := HA2.out.below hb3; have hst := store5 w3 (w.heap.size + 4) (fun _ => 0) (uTo B t a) HA3.out.res; clear hb3)
  refine bodyPost_ret (results_cell_row rfl _ _ (w.heap.size + 4) 31 (row5 (uTo B t a)) (0, 0) _ rfl (HA3.out.res.setRow _) t5_under rfl (by rw [row5_size]; exact t5_info)) rfl ⟨a, rfl, by omega, ha2, ha3.imp_left (fun h => by omega), ?_⟩
  exact below_setRow5 HA3.out.low (by omega) _
end Go.Proofs.YtfgpmdikkncckaaGreatDoor
