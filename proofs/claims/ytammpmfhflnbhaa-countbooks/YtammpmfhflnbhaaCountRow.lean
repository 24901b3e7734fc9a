/-
  What Row of package count does: a list of how many vectors there are, and what was needed is noted in the book. Nothing that was there is turned but the book's own block and its map.
-/
import Derived.Test.YtammpmfhflnbhaaCountLaws
import Derived.Test.YtammpmfhflnbhaaNums
import Derived.Deep.AppendLies
namespace Go.Proofs.Ytammpmfhflnbhaa
set_option linter.unusedVariables false
open Go.ChangeShapes Go.WideShapes Go.ChangeAt Go.RowKit

theorem u64_info : (Try.prog.info? 23).map (fun i => (i.zero, i.size, i.bytes)) = some (some (.int .u64 0), 1, 8) := by kernel_rfl

theorem wpList_pushU64 {w : World} {ops : Array Oper} {rest : List Oper} {o : Oper} {a : Act} {Q : Exit → Act → World → Prop} (hgd : o.guard = none) (s x : Operand)
    (ho : o.op = .call { callee := .builtin .append, args := #[s, x], argTypes := #[36, 36] }) (B : Nat) (v : Value) (n : Nat) (f : Nat → Int) (hs : a.eval s = v) (hown : OwnN w B 23 .u64 v n f) (g1 : Nat) (y : Int) (hx : a.eval x = .slice (some ⟨g1, 0, none⟩) 1 1)
    (hnew : w.heap[g1]? = some (.cells #[.int .u64 y] 23 (0, 0))) (hn : n ≤ 1000000) (hB : B ≤ w.heap.size)
    (h : ∀ g cap w', w'.ownsRow B 23 1 (.slice (some ⟨g, 0, none⟩) (n + 1) cap) (n + 1) (numL .u64 f n ++ [.int .u64 y]) → w.grownBy w' v.ownBlock → (v.ownBlock = some g ∨ g = w.heap.size) → g < w'.heap.size → wpList Try.prog ops Q rest (a.put o.dst (.slice (some ⟨g, 0, none⟩) (n + 1) cap)) w') : wpList Try.prog ops Q (o :: rest) a w := by
  obtain ⟨i0, hi, hz0, hz1, hz2⟩ := info_parts u64_info
  exact wpList_append_lies w hgd s x 36 ho B 23 i0 (.int .u64 0) 1 8 Try.underlying36 hi hz0 hz1 hz2 rfl (by decide) v n (numL .u64 f n) hs hown ⟨g1, 0, none⟩ 1 1 [.int .u64 y] hx rfl (World.news_of_block hnew) (numL_one _ _) (by decide) (by unfold maxLen; omega) (by omega) hB _ rfl h

/-- A list of the call's own is kept by a call on a book. -/
theorem OwnN.gb {w w' : World} {B : Nat} {e : TypeId} {k : IntKind} {v : Value} {n : Nat} {f : Nat → Int} {b : Nat} {mo mo' : Option Nat} {S : Int → Int → Bool} (h : OwnN w B e k v n f) (hB : BkAt w b mo S) (hG : Gb w w' b mo mo') (hb : b < B) : OwnN w' B e k v n f := by
  refine ⟨h.1, ?_⟩
  rcases h.2 with h0 | ⟨g, cap, cur, h1, h2, h3, h4⟩
  · exact .inl h0
  · exact .inr ⟨g, cap, cur, h1, h2, hG.cells hB h3 (by omega), h4⟩
/-- A book is kept while a list of the call's own is written. -/
theorem BkAt.row {w w' : World} {B : Nat} {e : TypeId} {k : IntKind} {v : Value} {n : Nat} {f : Nat → Int} {b : Nat} {mo : Option Nat} {S : Int → Int → Bool} (hB : BkAt w b mo S) (h : OwnN w B e k v n f) (hb : b < B) (hg : w.grownBy w' v.ownBlock) : BkAt w' b mo S := by
  rcases h.2 with ⟨rfl, _⟩ | ⟨g, cap, cur, rfl, h2, h3, h4⟩
  · exact hB.keep hg
  · have hx := hB.apart h3
    exact hB.kept hg (by simp [Value.ownBlock]; omega) (fun m e => by simp only [Value.ownBlock]; intro e2; exact hx (by rw [← e2, e]))
theorem Gb.row {w w1 w2 : World} {b : Nat} {mo mo' : Option Nat} {row : Option Nat} (h : Gb w w1 b mo mo') (hg : w1.grownBy w2 row) (hr : ∀ g, row = some g → w.heap.size ≤ g) : Gb w w2 b mo mo' :=
  ⟨hg.os.trans h.os, hg.tape.trans h.tape, hg.output.trans h.output, Nat.le_trans h.size hg.size, fun i hi h1 h2 => (hg.block i (Nat.lt_of_lt_of_le hi h.size) (fun e => by have := hr i e.symm; omega)).trans (h.block i hi h1 h2), h.map⟩

theorem row_out (w : World) (b : Nat) (n m : Int) (h : ¬ (0 ≤ n ∧ n ≤ 16)) : Calls Try.prog 14 #[.pointer (some ⟨b, 0, none⟩), .int .i64 n, .int .i64 m] w fun e w' => e = .returned (.slice none 0 0) ∧ w' = w := by
  have HN : Hid (decide (0 ≤ n ∧ n ≤ 16) = false) := decide_eq_false h
  go_enter Try.func14, Try.ntmps14
  go_wp2_with (go_at_call 15; refine (numbers_any _ _).mono ?_; rw [HN.out]; rintro e w1 ⟨rfl, hw⟩; obtain rfl := hw.symm)
  go_returns
  exact ⟨rfl, rfl⟩

/-- How long a row is. -/
def rowN (m : Int) : Nat := (if m < 0 then 0 else if 32 < m then 32 else m.toNat) + 1

set_option maxHeartbeats 1000000 in
theorem row_lo (w : World) (b : Nat) (mo : Option Nat) (S : Int → Int → Bool) (n m : Int) (h0 : 0 ≤ n) (h1 : n ≤ 16) (hm : m ≤ 0) (h : Hid (BkAt w b mo S)) (hO : Hid (Ok S)) :
    Calls Try.prog 14 #[.pointer (some ⟨b, 0, none⟩), .int .i64 n, .int .i64 m] w fun e w' => ∃ (v : Value) (S' : Int → Int → Bool) (mo' : Option Nat), e = .returned v ∧ OwnN w' w.heap.size 23 .u64 v 1 (fun j => vI n j) ∧ Ok S' ∧ BkAt w' b mo' S' ∧ Gb w w' b mo mo' := by
  have hm1 : ¬ 32 < m := by omega
  have hm2 : ¬ 0 < m := by omega
  have HN : Hid (decide (0 ≤ n ∧ n ≤ 16) = true) := decide_eq_true ⟨h0, h1⟩
  have hbw := h.out.lt
  go_enter Try.func14, Try.ntmps14
  go_wp2_with (go_at_call 15; refine (numbers_any _ _).mono ?_; rw [HN.out]; rintro e w1 ⟨rfl, hw⟩; obtain rfl := hw.symm)
  go_loopw [7, 16] (fun v i wr => ∃ q : Nat, q ≤ 1 ∧ i = .int .i64 q ∧ Hid (OwnN wr w.heap.size 23 .u64 v q (fun j => vI n j)) ∧ Hid (∃ (S' : Int → Int → Bool) (mo' : Option Nat), Ok S' ∧ BkAt wr b mo' S' ∧ Gb w wr b mo mo')) (fun _ i _ => 1 - (intOf i).toNat)
  case atStart => exact ⟨0, by omega, rfl, own_nil _ _ _ _ _, S, mo, hO.out, h.out, Gb.refl _ _ _⟩
  case round =>
    obtain ⟨q, hq, rfl, HW, HS⟩ := hrel
    by_cases hlt : q < 1
    · have hlt' : (q : Int) < 1 := by omega
      obtain ⟨S', mo', hO', hB', hG'⟩ := HS.out
      have HO' : Hid (Ok S') := hO'
      have HB' : Hid (BkAt wr b mo' S') := hB'
      have HG' : Hid (Gb w wr b mo mo') := hG'
      clear hO' hB' hG' HS
      go_wp2_with fail
      refine (v_calls _ b mo' S' n q HB' HO').mono ?_
      rintro e w1 ⟨rfl, mo1, hB1, hG1⟩
      have HW1 : Hid (OwnN w1 w.heap.size 23 .u64 u7 q (fun j => vI n j)) := HW.out.gb HB'.out hG1 hbw
      have HB1 : Hid (BkAt w1 b mo1 (un S' n q)) := hB1
      have HG1 : Hid (Gb w w1 b mo mo1) := HG'.out.trans hG1
      have HO1 : Hid (Ok (un S' n q)) := HO'.out.un _ _
      clear hB1 hG1 HW HB' HG' HO'
      go_wp2_with (at_builtin; refine wpList_pushU64 rfl _ _ rfl w.heap.size u7 q (fun j => vI n j) rfl (HW1.out.kept (World.grownBy_alloc w1 _ none) (by cases u7.ownBlock <;> simp)) w1.heap.size (vI n q) rfl (heap_alloc_new _ _) (by omega) (by have := HG1.out.size; simp; omega) ?_; intro g cap w2 hown2 hg2 hat2 hlt2)
      have HW2 : Hid (OwnN w2 w.heap.size 23 .u64 (.slice (some ⟨g, 0, none⟩) (q + 1) cap) (q + 1) (fun j => vI n j)) := OwnN.pushed hown2 (fun _ _ => rfl) rfl
      have HB2 : Hid (BkAt w2 b mo1 (un S' n q)) := (HB1.out.alloc _).row (HW1.out.kept (World.grownBy_alloc w1 _ none) (by cases u7.ownBlock <;> simp)) hbw hg2
      have HG2 : Hid (Gb w w2 b mo mo1) := (HG1.out.alloc _).row hg2 (fun g e => (HW1.out.lt e).1)
      clear hown2 hg2 hat2 hlt2 HB1 HG1 HW1
      go_wp2
      go_roundw
      case rel => exact ⟨q + 1, by omega, by go_num, HW2, _, mo1, HO1.out, HB2.out, HG2.out⟩
      case measure => simp [intOf]; omega
    · obtain rfl : q = 1 := by omega
      obtain ⟨S', mo', hO', hB', hG'⟩ := HS.out
      go_wp2
      go_ret
      exact ⟨_, S', mo', rfl, HW.out, hO', hB', hG'⟩

set_option maxHeartbeats 1000000 in
theorem row_hi (w : World) (b : Nat) (mo : Option Nat) (S : Int → Int → Bool) (n m : Int) (h0 : 0 ≤ n) (h1 : n ≤ 16) (hm : 32 < m) (h : Hid (BkAt w b mo S)) (hO : Hid (Ok S)) :
    Calls Try.prog 14 #[.pointer (some ⟨b, 0, none⟩), .int .i64 n, .int .i64 m] w fun e w' => ∃ (v : Value) (S' : Int → Int → Bool) (mo' : Option Nat), e = .returned v ∧ OwnN w' w.heap.size 23 .u64 v 33 (fun j => vI n j) ∧ Ok S' ∧ BkAt w' b mo' S' ∧ Gb w w' b mo mo' := by
  have HN : Hid (decide (0 ≤ n ∧ n ≤ 16) = true) := decide_eq_true ⟨h0, h1⟩
  have hbw := h.out.lt
  go_enter Try.func14, Try.ntmps14
  go_wp2_with (go_at_call 15; refine (numbers_any _ _).mono ?_; rw [HN.out]; rintro e w1 ⟨rfl, hw⟩; obtain rfl := hw.symm)
  go_loopw [7, 16] (fun v i wr => ∃ q : Nat, q ≤ 33 ∧ i = .int .i64 q ∧ Hid (OwnN wr w.heap.size 23 .u64 v q (fun j => vI n j)) ∧ Hid (∃ (S' : Int → Int → Bool) (mo' : Option Nat), Ok S' ∧ BkAt wr b mo' S' ∧ Gb w wr b mo mo')) (fun _ i _ => 33 - (intOf i).toNat)
  case atStart => exact ⟨0, by omega, rfl, own_nil _ _ _ _ _, S, mo, hO.out, h.out, Gb.refl _ _ _⟩
  case round =>
    obtain ⟨q, hq, rfl, HW, HS⟩ := hrel
    by_cases hlt : q < 33
    · have hlt' : (q : Int) < 33 := by omega
      obtain ⟨S', mo', hO', hB', hG'⟩ := HS.out
      have HO' : Hid (Ok S') := hO'
      have HB' : Hid (BkAt wr b mo' S') := hB'
      have HG' : Hid (Gb w wr b mo mo') := hG'
      clear hO' hB' hG' HS
      go_wp2_with fail
      refine (v_calls _ b mo' S' n q HB' HO').mono ?_
      rintro e w1 ⟨rfl, mo1, hB1, hG1⟩
      have HW1 : Hid (OwnN w1 w.heap.size 23 .u64 u7 q (fun j => vI n j)) := HW.out.gb HB'.out hG1 hbw
      have HB1 : Hid (BkAt w1 b mo1 (un S' n q)) := hB1
      have HG1 : Hid (Gb w w1 b mo mo1) := HG'.out.trans hG1
      have HO1 : Hid (Ok (un S' n q)) := HO'.out.un _ _
      clear hB1 hG1 HW HB' HG' HO'
      go_wp2_with (at_builtin; refine wpList_pushU64 rfl _ _ rfl w.heap.size u7 q (fun j => vI n j) rfl (HW1.out.kept (World.grownBy_alloc w1 _ none) (by cases u7.ownBlock <;> simp)) w1.heap.size (vI n q) rfl (heap_alloc_new _ _) (by omega) (by have := HG1.out.size; simp; omega) ?_; intro g cap w2 hown2 hg2 hat2 hlt2)
      have HW2 : Hid (OwnN w2 w.heap.size 23 .u64 (.slice (some ⟨g, 0, none⟩) (q + 1) cap) (q + 1) (fun j => vI n j)) := OwnN.pushed hown2 (fun _ _ => rfl) rfl
      have HB2 : Hid (BkAt w2 b mo1 (un S' n q)) := (HB1.out.alloc _).row (HW1.out.kept (World.grownBy_alloc w1 _ none) (by cases u7.ownBlock <;> simp)) hbw hg2
      have HG2 : Hid (Gb w w2 b mo mo1) := (HG1.out.alloc _).row hg2 (fun g e => (HW1.out.lt e).1)
      clear hown2 hg2 hat2 hlt2 HB1 HG1 HW1
      go_wp2
      go_roundw
      case rel => exact ⟨q + 1, by omega, by go_num, HW2, _, mo1, HO1.out, HB2.out, HG2.out⟩
      case measure => simp [intOf]; omega
    · obtain rfl : q = 33 := by omega
      obtain ⟨S', mo', hO', hB', hG'⟩ := HS.out
      go_wp2
      go_ret
      exact ⟨_, S', mo', rfl, HW.out, hO', hB', hG'⟩

set_option maxHeartbeats 1000000 in
theorem row_mid (w : World) (b : Nat) (mo : Option Nat) (S : Int → Int → Bool) (n m : Int) (h0 : 0 ≤ n) (h1 : n ≤ 16) (hm : 0 < m ∧ m ≤ 32) (h : Hid (BkAt w b mo S)) (hO : Hid (Ok S)) :
    Calls Try.prog 14 #[.pointer (some ⟨b, 0, none⟩), .int .i64 n, .int .i64 m] w fun e w' => ∃ (v : Value) (S' : Int → Int → Bool) (mo' : Option Nat), e = .returned v ∧ OwnN w' w.heap.size 23 .u64 v (m.toNat + 1) (fun j => vI n j) ∧ Ok S' ∧ BkAt w' b mo' S' ∧ Gb w w' b mo mo' := by
  obtain ⟨k, rfl⟩ : ∃ k : Nat, m = k := ⟨m.toNat, by omega⟩
  obtain ⟨hm1, hm2⟩ := hm
  have hm3 : 0 < k := by omega
  have HN : Hid (decide (0 ≤ n ∧ n ≤ 16) = true) := decide_eq_true ⟨h0, h1⟩
  have hbw := h.out.lt
  go_enter Try.func14, Try.ntmps14
  go_wp2_with (go_at_call 15; refine (numbers_any _ _).mono ?_; rw [HN.out]; rintro e w1 ⟨rfl, hw⟩; obtain rfl := hw.symm)
  go_loopw [7, 16] (fun v i wr => ∃ q : Nat, q ≤ (k + 1) ∧ i = .int .i64 q ∧ Hid (OwnN wr w.heap.size 23 .u64 v q (fun j => vI n j)) ∧ Hid (∃ (S' : Int → Int → Bool) (mo' : Option Nat), Ok S' ∧ BkAt wr b mo' S' ∧ Gb w wr b mo mo')) (fun _ i _ => (k + 1) - (intOf i).toNat)
  case atStart => exact ⟨0, by omega, rfl, own_nil _ _ _ _ _, S, mo, hO.out, h.out, Gb.refl _ _ _⟩
  case round =>
    obtain ⟨q, hq, rfl, HW, HS⟩ := hrel
    by_cases hlt : q < (k + 1)
    · have hlt' : (q : Int) < (k : Int) + 1 := by omega
      obtain ⟨S', mo', hO', hB', hG'⟩ := HS.out
      have HO' : Hid (Ok S') := hO'
      have HB' : Hid (BkAt wr b mo' S') := hB'
      have HG' : Hid (Gb w wr b mo mo') := hG'
      clear hO' hB' hG' HS
      go_wp2_with fail
      refine (v_calls _ b mo' S' n q HB' HO').mono ?_
      rintro e w1 ⟨rfl, mo1, hB1, hG1⟩
      have HW1 : Hid (OwnN w1 w.heap.size 23 .u64 u7 q (fun j => vI n j)) := HW.out.gb HB'.out hG1 hbw
      have HB1 : Hid (BkAt w1 b mo1 (un S' n q)) := hB1
      have HG1 : Hid (Gb w w1 b mo mo1) := HG'.out.trans hG1
      have HO1 : Hid (Ok (un S' n q)) := HO'.out.un _ _
      clear hB1 hG1 HW HB' HG' HO'
      go_wp2_with (at_builtin; refine wpList_pushU64 rfl _ _ rfl w.heap.size u7 q (fun j => vI n j) rfl (HW1.out.kept (World.grownBy_alloc w1 _ none) (by cases u7.ownBlock <;> simp)) w1.heap.size (vI n q) rfl (heap_alloc_new _ _) (by omega) (by have := HG1.out.size; simp; omega) ?_; intro g cap w2 hown2 hg2 hat2 hlt2)
      have HW2 : Hid (OwnN w2 w.heap.size 23 .u64 (.slice (some ⟨g, 0, none⟩) (q + 1) cap) (q + 1) (fun j => vI n j)) := OwnN.pushed hown2 (fun _ _ => rfl) rfl
      have HB2 : Hid (BkAt w2 b mo1 (un S' n q)) := (HB1.out.alloc _).row (HW1.out.kept (World.grownBy_alloc w1 _ none) (by cases u7.ownBlock <;> simp)) hbw hg2
      have HG2 : Hid (Gb w w2 b mo mo1) := (HG1.out.alloc _).row hg2 (fun g e => (HW1.out.lt e).1)
      clear hown2 hg2 hat2 hlt2 HB1 HG1 HW1
      go_wp2
      go_roundw
      case rel => exact ⟨q + 1, by omega, by go_num, HW2, _, mo1, HO1.out, HB2.out, HG2.out⟩
      case measure => simp [intOf]; omega
    · obtain rfl : q = (k + 1) := by omega
      obtain ⟨S', mo', hO', hB', hG'⟩ := HS.out
      go_wp2
      go_ret
      exact ⟨_, S', mo', rfl, HW.out, hO', hB', hG'⟩

theorem row_any (w : World) (b : Nat) (mo : Option Nat) (S : Int → Int → Bool) (n m : Int) (h0 : 0 ≤ n) (h1 : n ≤ 16) (h : Hid (BkAt w b mo S)) (hO : Hid (Ok S)) :
    Calls Try.prog 14 #[.pointer (some ⟨b, 0, none⟩), .int .i64 n, .int .i64 m] w fun e w' => ∃ (v : Value) (S' : Int → Int → Bool) (mo' : Option Nat), e = .returned v ∧ OwnN w' w.heap.size 23 .u64 v (rowN m) (fun j => vI n j) ∧ Ok S' ∧ BkAt w' b mo' S' ∧ Gb w w' b mo mo' := by
  by_cases m0 : m ≤ 0
  · rw [show rowN m = 1 by unfold rowN; split; rfl; rw [if_neg (by omega)]; omega]
    exact row_lo w b mo S n m h0 h1 m0 h hO
  · by_cases m1 : 32 < m
    · rw [show rowN m = 33 by unfold rowN; rw [if_neg (by omega), if_pos m1]]
      exact row_hi w b mo S n m h0 h1 m1 h hO
    · rw [show rowN m = m.toNat + 1 by unfold rowN; rw [if_neg (by omega), if_neg m1]]
      exact row_mid w b mo S n m h0 h1 (by omega) h hO
end Go.Proofs.Ytammpmfhflnbhaa
