/-
  What the document's own writer (spinetref06) does: New, May, add, Put, Raw, Left. Nothing that was there ahead of its blocks is turned.
-/
import Derived.Test.YtohgbdhackmooaaDoorWriterLaws
import Derived.Test.YtohgbdhackmooaaDoorNums
import Derived.Deep.RegionLaw
import Derived.Deep.AppendLies
namespace Go.Proofs.YtohgbdhackmooaaDoor
set_option linter.unusedVariables false
open Go.ChangeShapes Go.WideShapes Go.ChangeAt Go.RowKit

theorem int_info : (Tryd.prog.info? 3).map (fun i => (i.zero, i.size, i.bytes)) = some (some (.int .i64 0), 1, 8) := by kernel_rfl

/-- The document's writer of size z lies at block b, and is m: its digits and its raw bits in blocks of their own. -/
structure RfCells (w : World) (B b : Nat) (z : Int) (g : Int) (vD vR : Value) (n k : Nat) (D R : Nat → Int) : Prop where
  row : w.heap[b]? = some (.cells #[.int .i64 z, .int .i64 g, vD, vR] 84 (0, 0))
  bB : B ≤ b
  d : OwnN w B 3 .i64 vD n D
  r : OwnN w B 3 .i64 vR k R
  nd : vD.ownBlock = none ∨ vD.ownBlock ≠ some b
  nr : vR.ownBlock = none ∨ vR.ownBlock ≠ some b
  ne : vR.ownBlock = none ∨ vR.ownBlock ≠ vD.ownBlock
def RfAt (w : World) (B b z : Nat) (m : Mo) : Prop := ∃ vD vR, RfCells w B b z m.rng vD vR m.nD m.nR m.D m.R

section
variable {w w' : World} {B b n k : Nat} {z g : Int} {vD vR : Value} {D R : Nat → Int}
theorem RfCells.lt (h : RfCells w B b z g vD vR n k D R) : b < w.heap.size := lt_size_of_block h.row
theorem RfCells.c0 (h : RfCells w B b z g vD vR n k D R) : w.cell? ⟨b, 0, none⟩ = some (.int .i64 z) := row_cell h.row 0 rfl
theorem RfCells.c1 (h : RfCells w B b z g vD vR n k D R) : w.cell? ⟨b, 1, none⟩ = some (.int .i64 g) := row_cell h.row 1 rfl
theorem RfCells.c2 (h : RfCells w B b z g vD vR n k D R) : w.cell? ⟨b, 2, none⟩ = some vD := row_cell h.row 2 rfl
theorem RfCells.c3 (h : RfCells w B b z g vD vR n k D R) : w.cell? ⟨b, 3, none⟩ = some vR := row_cell h.row 3 rfl
theorem RfCells.fz (h : RfCells w B b z g vD vR n k D R) (o : Nat) : w.frozen? ⟨b, o, none⟩ = false := frozen_of_row _ _ o _ _ h.row
theorem RfCells.sB (h : RfCells w B b z g vD vR n k D R) : B ≤ w.heap.size := Nat.le_trans h.bB (Nat.le_of_lt h.lt)
theorem RfCells.kept {row : Option Nat} (h : RfCells w B b z g vD vR n k D R) (hg : w.grownBy w' row) (hrow : ∀ q, row = some q → q < B) : RfCells w' B b z g vD vR n k D R := by
  have hne : ∀ q, B ≤ q → some q ≠ row := by
    intro q hq e
    have := hrow q e.symm
    omega
  have hv : ∀ (v : Value) (n : Nat) (D : Nat → Int), OwnN w B 3 .i64 v n D → v.ownBlock = none ∨ v.ownBlock ≠ row := by
    intro v n D hv
    cases hb : v.ownBlock with
    | none => exact .inl rfl
    | some q => right; exact hne q (hv.lt hb).1
  exact ⟨(hg.block b h.lt (hne b h.bB)).trans h.row, h.bB, h.d.kept hg (hv _ _ _ h.d), h.r.kept hg (hv _ _ _ h.r), h.nd, h.nr, h.ne⟩
theorem RfCells.set1 (h : RfCells w B b z g vD vR n k D R) (x : Int) : RfCells (w.setCell ⟨b, 1, none⟩ (.int .i64 x)) B b z x vD vR n k D R :=
  ⟨heap_set_row h.row, h.bB, h.d.kept (grown_setb w b 1 _) h.nd, h.r.kept (grown_setb w b 1 _) h.nr, h.nd, h.nr, h.ne⟩
/-- A digit is written. -/
theorem RfCells.setd {q cap : Nat} (h : RfCells w B b z g (.slice (some ⟨q, 0, none⟩) n cap) vR n k D R) (j : Nat) (x : Int) : RfCells (w.setCell ⟨q, j, none⟩ (.int .i64 x)) B b z g (.slice (some ⟨q, 0, none⟩) n cap) vR n k (setF D j x) R := by
  have hq : b ≠ q := by
    have := h.nd
    simp [Value.ownBlock] at this
    omega
  exact ⟨(grown_setb w q j _).block b h.lt (by simp; exact hq) |>.trans h.row, h.bB, h.d.set j x, h.r.kept (grown_setb w q j _) h.ne, h.nd, h.nr, h.ne⟩
theorem RfCells.brow {v : Value} (h : RfCells w B b z g vD vR n k D R) (hg : w.grownBy w' v.ownBlock) (hn : v.ownBlock = none ∨ v.ownBlock ≠ some b) : w'.heap[b]? = some (.cells #[.int .i64 z, .int .i64 g, vD, vR] 84 (0, 0)) :=
  (hg.block b h.lt (fun e => hn.elim (fun h0 => by rw [h0] at e; cases e) (fun h0 => h0 e.symm))).trans h.row
/-- The digits are appended to, and the field written. -/
theorem RfCells.pushd {q cap : Nat} {D' : Nat → Int} {x : Int} (h : RfCells w B b z g vD vR n k D R) (hown : w'.ownsRow B 3 1 (.slice (some ⟨q, 0, none⟩) (n + 1) cap) (n + 1) (numL .i64 D n ++ [.int .i64 x])) (hg : w.grownBy w' vD.ownBlock) (hat : vD.ownBlock = some q ∨ q = w.heap.size)
    (hD : ∀ i, i < n → D i = D' i) (hx : D' n = x) : RfCells (w'.setCell ⟨b, 2, none⟩ (.slice (some ⟨q, 0, none⟩) (n + 1) cap)) B b z g (.slice (some ⟨q, 0, none⟩) (n + 1) cap) vR (n + 1) k D' R := by
  have hb := h.lt
  have hbv : some b ≠ vD.ownBlock := by
    intro e
    rcases h.nd with h0 | h0
    · rw [h0] at e; cases e
    · exact h0 e.symm
  have hqb : q ≠ b := by
    rcases hat with h1 | h1
    · intro e; subst e; exact hbv h1.symm
    · omega
  have hnq : (Value.slice (some ⟨q, 0, none⟩) (n + 1) cap).ownBlock = none ∨ (Value.slice (some ⟨q, 0, none⟩) (n + 1) cap).ownBlock ≠ some b := by right; simp [Value.ownBlock]; exact hqb
  have hne : vR.ownBlock = none ∨ vR.ownBlock ≠ (Value.slice (some ⟨q, 0, none⟩) (n + 1) cap).ownBlock := by
    cases hv : vR.ownBlock with
    | none => exact .inl rfl
    | some p =>
      right
      intro e
      have e' : p = q := by simpa [Value.ownBlock] using e
      subst e'
      rcases hat with h1 | h1
      · rcases h.ne with h2 | h2
        · rw [hv] at h2; cases h2
        · exact h2 (hv.trans h1.symm)
      · have := (h.r.lt hv).2; omega
  have hr : OwnN w' B 3 .i64 vR k R := h.r.kept hg h.ne
  exact ⟨heap_set_row ((hg.block b hb hbv).trans h.row), h.bB, (OwnN.pushed hown hD hx).kept (grown_setb w' b 2 _) hnq, hr.kept (grown_setb w' b 2 _) h.nr, hnq, h.nr, hne⟩
/-- The raw bits are appended to, and the field written. -/
theorem RfCells.pushr {q cap : Nat} {R' : Nat → Int} {x : Int} (h : RfCells w B b z g vD vR n k D R) (hown : w'.ownsRow B 3 1 (.slice (some ⟨q, 0, none⟩) (k + 1) cap) (k + 1) (numL .i64 R k ++ [.int .i64 x])) (hg : w.grownBy w' vR.ownBlock) (hat : vR.ownBlock = some q ∨ q = w.heap.size)
    (hR : ∀ i, i < k → R i = R' i) (hx : R' k = x) : RfCells (w'.setCell ⟨b, 3, none⟩ (.slice (some ⟨q, 0, none⟩) (k + 1) cap)) B b z g vD (.slice (some ⟨q, 0, none⟩) (k + 1) cap) n (k + 1) D R' := by
  have hb := h.lt
  have hbv : some b ≠ vR.ownBlock := by
    intro e
    rcases h.nr with h0 | h0
    · rw [h0] at e; cases e
    · exact h0 e.symm
  have hqb : q ≠ b := by
    rcases hat with h1 | h1
    · intro e; subst e; exact hbv h1.symm
    · omega
  have hnq : (Value.slice (some ⟨q, 0, none⟩) (k + 1) cap).ownBlock = none ∨ (Value.slice (some ⟨q, 0, none⟩) (k + 1) cap).ownBlock ≠ some b := by right; simp [Value.ownBlock]; exact hqb
  have hdv : vD.ownBlock = none ∨ vD.ownBlock ≠ vR.ownBlock := by
    rcases h.ne with h2 | h2
    · cases hv : vD.ownBlock with
      | none => exact .inl rfl
      | some p => right; rw [h2]; simp
    · right; exact fun e => h2 e.symm
  have hne : (Value.slice (some ⟨q, 0, none⟩) (k + 1) cap).ownBlock = none ∨ (Value.slice (some ⟨q, 0, none⟩) (k + 1) cap).ownBlock ≠ vD.ownBlock := by
    right
    intro e
    have hv : vD.ownBlock = some q := e.symm
    rcases hat with h1 | h1
    · rcases hdv with h2 | h2
      · rw [hv] at h2; cases h2
      · exact h2 (hv.trans h1.symm)
    · have := (h.d.lt hv).2; omega
  have hd : OwnN w' B 3 .i64 vD n D := h.d.kept hg hdv
  exact ⟨heap_set_row ((hg.block b hb hbv).trans h.row), h.bB, hd.kept (grown_setb w' b 3 _) h.nd, (OwnN.pushed hown hR hx).kept (grown_setb w' b 3 _) hnq, h.nd, hnq, hne⟩
end
theorem RfAt.kept {w w' : World} {B b z : Nat} {m : Mo} {row : Option Nat} (h : RfAt w B b z m) (hg : w.grownBy w' row) (hrow : ∀ q, row = some q → q < B) : RfAt w' B b z m := by
  obtain ⟨vD, vR, h⟩ := h
  exact ⟨vD, vR, h.kept hg hrow⟩
theorem RfAt.lt {w : World} {B b z : Nat} {m : Mo} (h : RfAt w B b z m) : b < w.heap.size := by
  obtain ⟨vD, vR, h⟩ := h
  exact h.lt

theorem rleft_any (w : World) (B b z : Nat) (m : Mo) (hz : z ≤ 1275) (hn : m.nD ≤ 700000) (hk : m.nR ≤ 700000) (hw : Hid (RfAt w B b z m)) :
    Calls Tryd.prog 28 #[.pointer (some ⟨b, 0, none⟩)] w fun e w' => e = .returned (.int .i64 (m.left z)) ∧ w' = w.drew := by
  obtain ⟨vD, vR, h⟩ := hw
  obtain ⟨aD, cD, rfl, _, _, _⟩ := h.d.slice
  obtain ⟨aR, cR, rfl, _, _, _⟩ := h.r.slice
  have h0 := h.c0
  have h2 := h.c2
  have h3 := h.c3
  have zi : (z : Int) ≤ 1275 := by omega
  have ni : (m.nD : Int) ≤ 700000 := by omega
  have ki : (m.nR : Int) ≤ 700000 := by omega
  unfold Mo.left
  clear h
  go_enter Tryd.func28, Tryd.ntmps28
  go_wp2
  go_region
  go_wp2
  go_ret
  exact ⟨rfl, rfl⟩

theorem wrap_add {x : Int} (h0 : -9223372036854775808 ≤ x) (h1 : x ≤ 9223372036854775807) : IntKind.i64.wrap x = x := by simp [IntKind.wrap, IntKind.bits, IntKind.signed]; omega

set_option maxRecDepth 20000 in
theorem radd_any (w : World) (B b z : Nat) (g : Int) (vD vR : Value) (n k : Nat) (D R : Nat → Int) (x : Int) (hn : n ≤ 600000) (h3 : 0 < n) (x0 : 0 ≤ x) (x1 : x ≤ 1000000000) (hD : Hid (Byte D)) (hw : Hid (RfCells w B b z g vD vR n k D R)) :
    Calls Tryd.prog 51 #[.pointer (some ⟨b, 0, none⟩), .int .i64 x] w fun e w' => e = .returned (.tuple #[]) ∧ RfCells w' B b z g vD vR n k (addF n x D) R ∧ Below B w w' := by
  obtain ⟨q, cap, rfl, hq1, hq2, hc1, hc2⟩ := hw.out.d.form h3
  have c2 := hw.out.c2
  have ni : (n : Int) ≤ 600000 := by omega
  have hqB : Hid (B ≤ q) := hq1
  go_enter Tryd.func51, Tryd.ntmps51
  go_wp2
  go_loopw [1, 4] (fun v i wr => ∃ (j y : Int) (D' : Nat → Int), v = .int .i64 y ∧ i = .int .i64 j ∧ -1 ≤ j ∧ j < n ∧ 0 ≤ y ∧ y ≤ 1000000000 ∧ Hid (Byte D') ∧ Hid (addF (j + 1).toNat y D' = addF n x D) ∧ Hid (RfCells wr B b z g (.slice (some ⟨q, 0, none⟩) n cap) vR n k D' R) ∧ Hid (Below B w wr)) (fun _ i _ => (intOf i + 1).toNat)
  case atStart => exact ⟨(n : Int) - 1, x, D, rfl, rfl, by omega, by omega, x0, x1, hD, by rw [show ((n : Int) - 1 + 1).toNat = n by omega]; rfl, hw, Below.refl _ _⟩
  case round =>
    obtain ⟨j, y, D', rfl, rfl, j0, j1, y0, y1, HD', HA, HW, HB⟩ := hrel
    clear c2
    have c2 := HW.out.c2
    by_cases hj : 0 ≤ j
    · obtain ⟨l, rfl⟩ : ∃ l : Nat, j = l := ⟨j.toNat, by omega⟩
      have hl : l < n := by omega
      have dl := HD'.out l
      have cl := HW.out.d.cell hl
      have fl := HW.out.d.free l
      have e1 : Int.tmod (y + D' l) 256 = (y + D' l) % 256 := Int.tmod_eq_emod_of_nonneg (by omega)
      have e2 : Int.tdiv (y + D' l) 256 = (y + D' l) / 256 := Int.tdiv_eq_ediv_of_nonneg (by omega)
      have HE : Hid (addF ((l : Int) + 1).toNat y D' = addF l ((y + D' l) / 256) (setF D' l ((y + D' l) % 256))) := by rw [show ((l : Int) + 1).toNat = l + 1 by omega]; rfl
      go_wp2
      go_roundw
      case rel => exact ⟨(l : Int) - 1, (y + D' l) / 256, _, rfl, rfl, by omega, by omega, by omega, by omega, HD'.out.set l (by omega) (by omega), by show addF _ _ _ = _; rw [show ((l : Int) - 1 + 1).toNat = l by omega, ← HE.out]; exact HA.out, HW.out.setd l _, below_row HB.out (grown_setb _ q l _) (by intro g' e; cases e; exact hqB.out) HW.out.sB⟩
      case measure => simp [intOf]
    · have e : j = -1 := by omega
      subst e
      go_wp2
      go_end0
      exact ⟨rfl, by rw [← HA.out]; exact HW.out, HB.out⟩

theorem rnew_any (w : World) (z : Nat) (hz : (z : Int) ≤ 1275) :
    Calls Tryd.prog 22 #[.int .i64 z] w fun e w' => ∃ b, e = .returned (.pointer (some ⟨b, 0, none⟩)) ∧ RfAt w' w.heap.size b z Mo.new ∧ Below w.heap.size w w' := by
  go_enter Tryd.func22, Tryd.ntmps22
  go_wp2
  go_ret
  have hrow := heap_alloc_new (w.alloc (.cells #[.int .i64 0, .int .i64 0, .int .i64 0] 3)) (.cells #[.int .i64 z, .int .i64 16777216, .slice (some ⟨w.heap.size, 0, none⟩) 3 3, .slice none 0 0] 84)
  rw [show (w.alloc (.cells #[.int .i64 0, .int .i64 0, .int .i64 0] 3)).heap.size = w.heap.size + 1 by simp] at hrow
  refine ⟨w.heap.size + 1, rfl, ⟨.slice (some ⟨w.heap.size, 0, none⟩) 3 3, .slice none 0 0, hrow, Nat.le_succ _, ?_, own_nil _ _ _ _ _, .inr (by simp [Value.ownBlock]), .inl rfl, .inl rfl⟩, ((Below.refl _ _).alloc (Nat.le_refl _) _).alloc (by simp) _⟩
  exact (World.ownsRow_lit (e := 3) (size := 1) (base := w.heap.size) w #[.int .i64 0, .int .i64 0, .int .i64 0] 3 (Nat.le_refl _) (by decide) rfl).alloc _

/-- What append makes of a list of numbers of the call's own, by one: at a list of operations. -/
theorem wpList_push {w : World} {ops : Array Oper} {rest : List Oper} {o : Oper} {a : Act} {Q : Exit → Act → World → Prop} (hgd : o.guard = none) (s x : Operand)
    (ho : o.op = .call { callee := .builtin .append, args := #[s, x], argTypes := #[60, 60] }) (B : Nat) (v : Value) (n : Nat) (f : Nat → Int) (hs : a.eval s = v) (hown : OwnN w B 3 .i64 v n f) (g1 : Nat) (y : Int) (hx : a.eval x = .slice (some ⟨g1, 0, none⟩) 1 1)
    (hnew : w.heap[g1]? = some (.cells #[.int .i64 y] 3 (0, 0))) (hn : n ≤ 1000000) (hB : B ≤ w.heap.size)
    (h : ∀ g cap w', w'.ownsRow B 3 1 (.slice (some ⟨g, 0, none⟩) (n + 1) cap) (n + 1) (numL .i64 f n ++ [.int .i64 y]) → w.grownBy w' v.ownBlock → (v.ownBlock = some g ∨ g = w.heap.size) → g < w'.heap.size → wpList Tryd.prog ops Q rest (a.put o.dst (.slice (some ⟨g, 0, none⟩) (n + 1) cap)) w') : wpList Tryd.prog ops Q (o :: rest) a w := by
  obtain ⟨i0, hi, hz0, hz1, hz2⟩ := info_parts int_info
  exact wpList_append_lies w hgd s x 60 ho B 3 i0 (.int .i64 0) 1 8 Tryd.underlying60 hi hz0 hz1 hz2 rfl (by decide) v n (numL .i64 f n) hs hown ⟨g1, 0, none⟩ 1 1 [.int .i64 y] hx rfl (World.news_of_block hnew) (numL_one _ _) (by decide) (by unfold maxLen; omega) (by omega) hB _ rfl h

set_option maxRecDepth 20000 in
theorem rraw_any (w : World) (B b z : Nat) (m : Mo) (x : Int) (l : Nat) (hl : l ≤ 16) (hn : m.nD ≤ 600000) (hk : m.nR ≤ 600000) (x0 : 0 ≤ x) (x1 : x < 4294967296) (hw : Hid (RfAt w B b z m)) :
    Calls Tryd.prog 47 #[.pointer (some ⟨b, 0, none⟩), .int .i64 x, .int .i64 l] w fun e w' => e = .returned (.tuple #[]) ∧ RfAt w' B b z (Mo.raw l x m) ∧ Below B w w' := by
  have li : (l : Int) ≤ 16 := by omega
  go_enter Tryd.func47, Tryd.ntmps47
  go_wp2
  go_loopw [1, 6] (fun v i wr => ∃ (j : Nat) (y : Int) (m' : Mo), v = .int .i64 y ∧ i = .int .i64 j ∧ j ≤ l ∧ 0 ≤ y ∧ y < 4294967296 ∧ Hid (m'.nR = m.nR + j) ∧ Hid (Mo.raw (l - j) y m' = Mo.raw l x m) ∧ Hid (RfAt wr B b z m') ∧ Hid (Below B w wr)) (fun _ i _ => l - (intOf i).toNat)
  case atStart => exact ⟨0, x, m, rfl, rfl, by omega, x0, x1, rfl, rfl, hw, Below.refl _ _⟩
  case round =>
    obtain ⟨j, y, m', rfl, rfl, hj, y0, y1, hk', HM, HW, HB⟩ := hrel
    by_cases hlt : j < l
    · have hlt' : (j : Int) < l := by omega
      obtain ⟨vD, vR, HC⟩ := HW.out
      obtain ⟨aR, cR, hvR, -, -, -⟩ := HC.r.slice
      have c3 := HC.c3
      have fz := HC.fz
      have hb := HC.lt
      have hsB := HC.sB
      have e1 : Int.tmod y 2 = y % 2 := Int.tmod_eq_emod_of_nonneg y0
      have e2 : Int.tdiv y 2 = y / 2 := Int.tdiv_eq_ediv_of_nonneg y0
      have HC' : Hid _ := HC.kept (World.grownBy_alloc wr (.cells #[.int .i64 (y % 2)] 3) none) (by intro q e; cases e)
      clear HC HW
      subst hvR
      go_wp2_with (at_builtin; refine wpList_push rfl _ _ rfl B _ m'.nR m'.R rfl HC'.out.r wr.heap.size (y % 2) rfl ?c1 ?c2 ?c3 ?_)
      case c1 => exact heap_alloc_new _ _
      case c2 => have := hk'.out; omega
      case c3 => exact HC'.out.sB
      intro g cap w1 hown hgrow hat hlt2
      have hD := HC'.out.pushr (R' := setF m'.R m'.nR (y % 2)) hown hgrow (by simpa using hat) (fun i hi => (setF_other _ _ (by omega)).symm) (setF_same _ _ _)
      have hrow := HC'.out.brow hgrow HC'.out.nr
      have c3' := row_cell hrow 3 rfl
      have f3' : ∀ o, w1.frozen? ⟨b, o, none⟩ = false := fun o => frozen_of_row _ _ o _ _ hrow
      have HBn : Hid (Below B w w1) := below_row (HB.out.alloc hsB _) hgrow (fun g' e => (HC'.out.r.lt e).1) HC'.out.sB
      have HD : Hid _ := hD
      have HQ : Hid (B ≤ b) := HC'.out.bB
      have hs1 : B ≤ w1.heap.size := Nat.le_trans HC'.out.sB hgrow.size
      clear hown hgrow hat hrow hD c3
      have hnext : Mo.raw (l - (j + 1)) (y / 2) (m'.bit (y % 2)) = Mo.raw l x m := by
        rw [← HM.out, show l - j = (l - (j + 1)) + 1 by omega]; rfl
      have HN : Hid _ := hnext
      clear hnext
      go_wp2
      go_roundw
      case rel => exact ⟨j + 1, y / 2, m'.bit (y % 2), rfl, by go_num, by omega, by omega, by omega, by show m'.nR + 1 = _; have := hk'.out; omega, HN, ⟨_, _, HD.out⟩, below_row HBn.out (grown_setb _ b 3 _) (by intro g' e; cases e; exact HQ.out) hs1⟩
      case measure => simp [intOf]; omega
    · have e : j = l := by omega
      subst e
      clear hlt
      go_wp2
      go_end0
      have h1 := HM.out
      rw [Nat.sub_self] at h1
      exact ⟨rfl, by rw [← h1]; exact HW.out, HB.out⟩

theorem wide_grow {m : Mo} (h1 : 1 < m.rng) (h2 : m.rng ≤ 65536) : m.wide = m.grow.wide := by
  have e : m.grow.rng = m.rng * 256 := rfl
  unfold Mo.wide
  rw [e]
  by_cases h : m.rng ≤ 256
  · rw [if_pos h, if_neg (by omega), if_pos (by omega)]
  · rw [if_neg h, if_pos h2, if_neg (by omega), if_neg (by omega)]
theorem wide_stay {m : Mo} (h : 65536 < m.rng) : m.wide = m := by
  unfold Mo.wide
  rw [if_neg (by omega), if_neg (by omega)]

set_option maxRecDepth 20000 in
set_option maxHeartbeats 1000000 in
theorem rput_any (w : World) (B b z : Nat) (m : Mo) (x y t : Int) (hn : m.nD ≤ 600000) (hk : m.nR ≤ 600000) (hg : Hid m.Good) (hm : Hid (May x y t)) (hw : Hid (RfAt w B b z m)) :
    Calls Tryd.prog 45 #[.pointer (some ⟨b, 0, none⟩), .int .i64 x, .int .i64 y, .int .i64 t] w fun e w' => e = .returned (.tuple #[]) ∧ RfAt w' B b z (m.put x y t) ∧ Below B w w' := by
  obtain ⟨vD, vR, HC⟩ := hw.out
  obtain ⟨p1, p2, p3, p4, p5, p6, p7⟩ := part_bd hg.out.r1 hm.out
  have r1 := hg.out.r1
  have r2 := hg.out.r2
  have h3 := hg.out.ok.n3
  have c1 := HC.c1
  have fz := HC.fz
  obtain ⟨x0, xy, yt, t1⟩ := hm.out
  have t0 : ¬ t = 0 := by omega
  have e1 : Int.tdiv m.rng t = m.rng / t := Int.tdiv_eq_ediv_of_nonneg (by omega)
  obtain ⟨r, hr⟩ : ∃ r, m.rng / t = r := ⟨_, rfl⟩
  obtain ⟨u, hu⟩ : ∃ u, x * r = u := ⟨_, rfl⟩
  have HS1 : Hid (x * (m.rng / t) = u) := by show _ = _; rw [hr]; exact hu
  obtain ⟨v, hv⟩ : ∃ v, (y - x) * r = v := ⟨_, rfl⟩
  rw [hr] at e1 p1 p2 p3 p4 p5
  rw [hu] at p3 p4
  rw [hv] at p5
  have v0 : 0 ≤ v := by rw [← hv]; exact Int.mul_nonneg (by omega) (by omega)
  have HP : Hid (m.part x y t = if y = t then m.rng - u else v) := by show _ = _; unfold Mo.part; rw [hr, hu, hv]
  have HS : Hid ((m.sym x y t).D = addF m.nD u m.D) := by show addF _ _ _ = _; rw [hr, hu]
  have HC' : Hid _ := HC
  have HDB : Hid _ := hg.out.ok.d
  clear HC hr
  have hcase : (y = t ∧ m.rng - u = m.part x y t) ∨ (¬ y = t ∧ v = m.part x y t) := by
    by_cases hyt : y = t
    · exact .inl ⟨hyt, by rw [HP.out, if_pos hyt]⟩
    · exact .inr ⟨hyt, by rw [HP.out, if_neg hyt]⟩
  have HS2 : Hid (m.sym x y t = ⟨m.part x y t, addF m.nD u m.D, m.nD, m.R, m.nR⟩) := by
    show _ = _
    unfold Mo.sym
    rw [show x * (m.rng / t) = u from HS1.out]
  obtain ⟨p, hp⟩ : ∃ p, m.part x y t = p := ⟨_, rfl⟩
  rw [hp] at hcase p6 p7 HS2
  have HW : Hid (m.put x y t = Mo.wide ⟨p, addF m.nD u m.D, m.nD, m.R, m.nR⟩) := by
    show Mo.wide (m.sym x y t) = _
    rw [HS2.out]
  clear HP HS hp
  go_enter Tryd.func45, Tryd.ntmps45
  rcases hcase with ⟨rfl, hp⟩ | ⟨hyt, rfl⟩
  · go_wp2_with (go_at_call 51; refine (radd_any _ B b z m.rng vD vR m.nD m.nR m.D m.R u hn (by omega) p3 (by omega) HDB HC').mono ?_; rintro e w1 ⟨rfl, HC1, HB1⟩; have d1 := HC1.c1; have fz1 := HC1.fz; replace HC1 : Hid (RfCells w1 B b z m.rng vD vR m.nD m.nR (addF m.nD u m.D) m.R) := HC1; replace HB1 : Hid (Below B w w1) := HB1)
    go_loopw [42] (fun _ wr => ∃ m' : Mo, Hid (RfAt wr B b z m') ∧ Hid (m'.wide = m.put x y y) ∧ 16 ≤ m'.rng ∧ m'.rng ≤ 16777216 ∧ Hid (m'.nD ≤ 600002 ∧ (m'.rng ≤ 65536 → m'.nD ≤ 600001) ∧ (m'.rng ≤ 256 → m'.nD ≤ 600000)) ∧ Hid (∀ i, m'.nD ≤ i → m'.D i = 0) ∧ Hid (Below B w wr)) (fun _ wr => (65537 - ((wr.cell? ⟨b, 1, none⟩).map intOf).getD 0).toNat)
    case atStart => exact ⟨⟨p, addF m.nD u m.D, m.nD, m.R, m.nR⟩, ⟨_, _, HC1.out.set1 p⟩, HW.out.symm, p6, by show p ≤ _; omega, by show m.nD ≤ _ ∧ (_ → m.nD ≤ _) ∧ (_ → m.nD ≤ _); omega, fun i hi => (addF_above m.nD _ _ i hi).trans (hg.out.ok.dz i hi), below_row HB1.out (grown_setb _ b 1 _) (by intro g' e; cases e; exact HC1.out.bB) (HC1.out.sB)⟩
    case round =>
      obtain ⟨m', HWr, HWd, q1, q2, HN, HZ, HB⟩ := hrel
      obtain ⟨wD, wR, HCr⟩ := HWr.out
      have k1 := HCr.c1
      have k2 := HCr.c2
      have kf := HCr.fz
      by_cases hle : m'.rng ≤ 65536
      · have hle' : m'.rng ≤ 65536 := hle
        have HCa : Hid _ := (HCr.set1 (m'.rng * 256)).kept (World.grownBy_alloc _ (.cells #[.int .i64 0] 3) none) (by intro q e; cases e)
        have hsB := HCr.sB
        have hbB := HCr.bB
        have hbl := HCr.lt
        obtain ⟨aD, cD, hvD, -, -, -⟩ := HCr.d.slice
        have HNG : Hid (m'.grow.wide = m'.wide) := (wide_grow (by omega) hle).symm
        clear HCr
        subst hvD
        go_wp2_with (at_builtin; refine wpList_push rfl _ _ rfl B _ m'.nD m'.D rfl HCa.out.d wr.heap.size 0 rfl ?c1 ?c2 ?c3 ?_)
        case c1 => exact (by simpa using heap_alloc_new (wr.setCell ⟨b, 1, none⟩ (.int .i64 (m'.rng * 256))) (.cells #[.int .i64 0] 3))
        case c2 => have := HN.out; omega
        case c3 => exact HCa.out.sB
        intro g cap w2 hown hgrow hat hlt2
        have hD := HCa.out.pushd (D' := m'.D) hown hgrow (by simpa using hat) (fun i hi => rfl) (HZ.out _ (Nat.le_refl _))
        have hrow := HCa.out.brow hgrow HCa.out.nd
        have c2' := row_cell hrow 2 rfl
        have c1' := row_cell hrow 1 rfl
        have f2' : ∀ o, w2.frozen? ⟨b, o, none⟩ = false := fun o => frozen_of_row _ _ o _ _ hrow
        have HBn : Hid (Below B w w2) := below_row ((below_row HB.out (grown_setb _ b 1 _) (by intro g' e; cases e; exact hbB) hsB).alloc (by simpa using hsB) _) hgrow (fun g' e => (HCa.out.d.lt e).1) HCa.out.sB
        have HD : Hid _ := hD
        have hs2 : B ≤ w2.heap.size := Nat.le_trans HCa.out.sB hgrow.size
        clear hown hgrow hat hrow hD k2
        go_wp2
        go_roundw
        case rel => exact ⟨m'.grow, ⟨_, _, HD.out⟩, by rw [show m'.grow.wide = m'.wide from HNG.out]; exact HWd, by show 16 ≤ m'.rng * 256; omega, by show m'.rng * 256 ≤ _; omega, by have := HN.out; show m'.nD + 1 ≤ _ ∧ (m'.rng * 256 ≤ 65536 → m'.nD + 1 ≤ _) ∧ (m'.rng * 256 ≤ 256 → m'.nD + 1 ≤ _); omega, fun i hi => HZ.out i (by have : m'.nD + 1 ≤ i := hi; omega), below_row HBn.out (grown_setb _ b 2 _) (by intro g' e; cases e; exact hbB) hs2⟩
        case measure =>
          rw [show (w2.setCell ⟨b, 2, none⟩ (.slice (some ⟨g, 0, none⟩) (m'.nD + 1) cap)).cell? ⟨b, 1, none⟩ = some (.int .i64 (m'.rng * 256)) from HD.out.c1, k1]
          simp [intOf]; omega
      · have e2 := wide_stay (m := m') (by omega)
        go_wp2
        go_end0
        refine ⟨rfl, ?_, HB.out⟩
        rw [← show m'.wide = _ from HWd.out, e2]
        exact HWr.out
  · go_wp2_with (go_at_call 51; refine (radd_any _ B b z m.rng vD vR m.nD m.nR m.D m.R u hn (by omega) p3 (by omega) HDB HC').mono ?_; rintro e w1 ⟨rfl, HC1, HB1⟩; have d1 := HC1.c1; have fz1 := HC1.fz; replace HC1 : Hid (RfCells w1 B b z m.rng vD vR m.nD m.nR (addF m.nD u m.D) m.R) := HC1; replace HB1 : Hid (Below B w w1) := HB1)
    clear hyt
    rename_i hq
    clear hq
    go_loopw [42] (fun _ wr => ∃ m' : Mo, Hid (RfAt wr B b z m') ∧ Hid (m'.wide = m.put x y t) ∧ 16 ≤ m'.rng ∧ m'.rng ≤ 16777216 ∧ Hid (m'.nD ≤ 600002 ∧ (m'.rng ≤ 65536 → m'.nD ≤ 600001) ∧ (m'.rng ≤ 256 → m'.nD ≤ 600000)) ∧ Hid (∀ i, m'.nD ≤ i → m'.D i = 0) ∧ Hid (Below B w wr)) (fun _ wr => (65537 - ((wr.cell? ⟨b, 1, none⟩).map intOf).getD 0).toNat)
    case atStart => exact ⟨⟨v, addF m.nD u m.D, m.nD, m.R, m.nR⟩, ⟨_, _, HC1.out.set1 v⟩, HW.out.symm, p6, by show v ≤ _; omega, by show m.nD ≤ _ ∧ (_ → m.nD ≤ _) ∧ (_ → m.nD ≤ _); omega, fun i hi => (addF_above m.nD _ _ i hi).trans (hg.out.ok.dz i hi), below_row HB1.out (grown_setb _ b 1 _) (by intro g' e; cases e; exact HC1.out.bB) (HC1.out.sB)⟩
    case round =>
      obtain ⟨m', HWr, HWd, q1, q2, HN, HZ, HB⟩ := hrel
      obtain ⟨wD, wR, HCr⟩ := HWr.out
      have k1 := HCr.c1
      have k2 := HCr.c2
      have kf := HCr.fz
      by_cases hle : m'.rng ≤ 65536
      · have hle' : m'.rng ≤ 65536 := hle
        have HCa : Hid _ := (HCr.set1 (m'.rng * 256)).kept (World.grownBy_alloc _ (.cells #[.int .i64 0] 3) none) (by intro q e; cases e)
        have hsB := HCr.sB
        have hbB := HCr.bB
        have hbl := HCr.lt
        obtain ⟨aD, cD, hvD, -, -, -⟩ := HCr.d.slice
        have HNG : Hid (m'.grow.wide = m'.wide) := (wide_grow (by omega) hle).symm
        clear HCr
        subst hvD
        go_wp2_with (at_builtin; refine wpList_push rfl _ _ rfl B _ m'.nD m'.D rfl HCa.out.d wr.heap.size 0 rfl ?c1 ?c2 ?c3 ?_)
        case c1 => exact (by simpa using heap_alloc_new (wr.setCell ⟨b, 1, none⟩ (.int .i64 (m'.rng * 256))) (.cells #[.int .i64 0] 3))
        case c2 => have := HN.out; omega
        case c3 => exact HCa.out.sB
        intro g cap w2 hown hgrow hat hlt2
        have hD := HCa.out.pushd (D' := m'.D) hown hgrow (by simpa using hat) (fun i hi => rfl) (HZ.out _ (Nat.le_refl _))
        have hrow := HCa.out.brow hgrow HCa.out.nd
        have c2' := row_cell hrow 2 rfl
        have c1' := row_cell hrow 1 rfl
        have f2' : ∀ o, w2.frozen? ⟨b, o, none⟩ = false := fun o => frozen_of_row _ _ o _ _ hrow
        have HBn : Hid (Below B w w2) := below_row ((below_row HB.out (grown_setb _ b 1 _) (by intro g' e; cases e; exact hbB) hsB).alloc (by simpa using hsB) _) hgrow (fun g' e => (HCa.out.d.lt e).1) HCa.out.sB
        have HD : Hid _ := hD
        have hs2 : B ≤ w2.heap.size := Nat.le_trans HCa.out.sB hgrow.size
        clear hown hgrow hat hrow hD k2
        go_wp2
        go_roundw
        case rel => exact ⟨m'.grow, ⟨_, _, HD.out⟩, by rw [show m'.grow.wide = m'.wide from HNG.out]; exact HWd, by show 16 ≤ m'.rng * 256; omega, by show m'.rng * 256 ≤ _; omega, by have := HN.out; show m'.nD + 1 ≤ _ ∧ (m'.rng * 256 ≤ 65536 → m'.nD + 1 ≤ _) ∧ (m'.rng * 256 ≤ 256 → m'.nD + 1 ≤ _); omega, fun i hi => HZ.out i (by have : m'.nD + 1 ≤ i := hi; omega), below_row HBn.out (grown_setb _ b 2 _) (by intro g' e; cases e; exact hbB) hs2⟩
        case measure =>
          rw [show (w2.setCell ⟨b, 2, none⟩ (.slice (some ⟨g, 0, none⟩) (m'.nD + 1) cap)).cell? ⟨b, 1, none⟩ = some (.int .i64 (m'.rng * 256)) from HD.out.c1, k1]
          simp [intOf]; omega
      · have e2 := wide_stay (m := m') (by omega)
        go_wp2
        go_end0
        refine ⟨rfl, ?_, HB.out⟩
        rw [← show m'.wide = _ from HWd.out, e2]
        exact HWr.out

end Go.Proofs.YtohgbdhackmooaaDoor
