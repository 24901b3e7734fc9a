/-
  A book: a struct that holds a map whose keys are pairs of numbers and whose elements are numbers without a sign, or no map yet. The key's law, what a key reads as, what is looked up and what is noted. No condition.
-/
import Derived.Test.YtfgpmdikkncckaaDoorCountMath
import Derived.Test.YtfgpmdikkncckaaDoorRows
import Derived.Maps.OwnOps
import Derived.Maps.OwnSet
import Derived.Maps.Views
import Derived.DeepKeys4
import Derived.WalkArith
import Derived.WalkKit
import Derived.Below
namespace Go.Proofs.YtfgpmdikkncckaaDoor
set_option linter.unusedVariables false
set_option maxRecDepth 100000
open Go.ChangeMaps Go.MapKept Go.RowKit
open Go.WideElems (Fit rd rg pl rd_val elemAt)
open Go.WideMaps (KeyLaw)
open Go.Maps (Keyed)

theorem laidOut : laidOutB Tryd.prog = true := by kernel_rfl
theorem pairRow : (140 : TypeId) < Tryd.prog.types.size := of_decide_eq_true (by kernel_rfl)
theorem pairWide : (match Tryd.prog.underlying 140 with | some (.array _ _) | some (.struct _) => true | _ => false) = true := by rw [Tryd.underlying140]
theorem pairLaw : KeyLaw Tryd.prog 140 := deep_law_laid laidOut (m := 2) (by omega) pairRow (by kernel_rfl) pairWide
theorem pairKeyed : Keyed Tryd.prog 140 := Keyed.of_law pairLaw
theorem zeroU (w : World) : (zeroValue 82).run Tryd.prog w = .ok (.int .u64 0) w := by kernel_rfl

/-- What a pair reads as, as a key. -/
def kl (s c : Int) : Lit := .string (keyBytes [.int .i64 s, .int .i64 c])
theorem key_md {s c : Int} (hs : (Lit.int .i64 s).wf = true) (hc : (Lit.int .i64 c).wf = true) : keyOf Tryd.prog 140 (.agg #[.int .i64 (s), .int .i64 (c)]) = some (kl s c) := by
  have hk : Tryd.prog.keyType 140 = true := by kernel_rfl
  have hf : (Value.agg #[Value.int .i64 s, .int .i64 c]).formed Tryd.prog 140 = true := by kernel_rfl
  obtain ⟨m, hm⟩ : ∃ m, Tryd.prog.types.size = m + 1 := ⟨Tryd.prog.types.size - 1, (Nat.sub_add_cancel (Nat.lt_of_le_of_lt (Nat.zero_le 140) pairRow)).symm⟩
  have c1 : Tryd.prog.cellsOf 3 = 1 := by kernel_rfl
  have c2 : Tryd.prog.cellsOf 140 = 2 := by kernel_rfl
  unfold keyOf
  simp only [Tryd.underlying140]
  rw [if_pos (by simp [hk, hf]), hm]
  simp [Program.keyLits, Tryd.underlying140, Tryd.underlying3, Value.cells, c1, c2, hs, hc, kl, List.mapM_cons]
theorem kl_inj {s c s' c' : Int} (hs : (Lit.int .i64 s).wf = true) (hc : (Lit.int .i64 c).wf = true) (hs' : (Lit.int .i64 s').wf = true) (hc' : (Lit.int .i64 c').wf = true) (h : kl s c = kl s' c') : s = s' ∧ c = c' := by
  have := pairLaw.inj (key_md hs hc) (h ▸ key_md hs' hc')
  simpa using this
theorem kl_key (s c : Int) : WideAt.IsKeyLit (kl s c) := trivial

/-- What the map of a book reads as. -/
def Notes (S : Int → Int → Bool) (D : DataW Unit) : Prop :=
  ∀ i j : Int, (Lit.int .i64 i).wf = true → (Lit.int .i64 j).wf = true → Maps.has D (kl i j) = S i j ∧ (S i j = true → D.atKey (kl i j) (.lit (.int .u64 0)) = .lit (.int .u64 (vI i j : Nat)))
theorem Notes.no : Notes noS (.map []) := fun i j _ _ => ⟨rfl, fun h => by cases h⟩
theorem Notes.put {S : Int → Int → Bool} {D : DataW Unit} (h : Notes S D) (hT : Maps.IsMap D) {n k : Int} (hn : (Lit.int .i64 n).wf = true) (hk : (Lit.int .i64 k).wf = true) : Notes (put1 S n k) (D.put (kl n k) (.lit (.int .u64 (vI n k : Nat)))) := by
  intro i j hi hj
  by_cases e : i = n ∧ j = k
  · obtain ⟨rfl, rfl⟩ := e
    rw [Maps.has_put_same hT (kl_key _ _), Maps.atKey_put_same hT (kl_key _ _)]
    exact ⟨by unfold put1; simp, fun _ => rfl⟩
  · have hne : kl i j ≠ kl n k := fun h' => e (kl_inj hi hj hn hk h')
    rw [Maps.has_put_other hne, Maps.atKey_put_other hne]
    have : put1 S n k i j = S i j := by unfold put1; rw [decide_eq_false e, Bool.or_false]
    rw [this]
    exact h i j hi hj

/-- A book lies at block b, with its map at mo (where there is one), and just S is noted in it. -/
def BkAt (w : World) (b : Nat) (mo : Option Nat) (S : Int → Int → Bool) : Prop :=
  w.heap[b]? = some (.cells #[.map mo] 81 (0, 0)) ∧ ((mo = none ∧ S = noS) ∨ ∃ (m : Nat) (D : DataW Unit), mo = some m ∧ w.ownsMap Tryd.prog 140 (plainElem Tryd.prog 82) m (card S) D ∧ Notes S D)
/-- What a call on a book does to the world: it writes its block and its map, and makes new blocks. -/
structure Gb (w w' : World) (b : Nat) (mo mo' : Option Nat) : Prop where
  os : w'.os = w.os
  tape : w'.tape = w.tape
  output : w'.output = w.output
  size : w.heap.size ≤ w'.heap.size
  block : ∀ i, i < w.heap.size → i ≠ b → some i ≠ mo → w'.heap[i]? = w.heap[i]?
  map : mo' = mo ∨ ∃ m, mo' = some m ∧ w.heap.size ≤ m

section
variable {w w' w'' : World} {b : Nat} {mo mo' mo'' : Option Nat} {S : Int → Int → Bool}
theorem gN_refl (w : World) : w.grownBy w none := ⟨rfl, rfl, rfl, Nat.le_refl _, fun _ _ _ => rfl⟩
theorem gN_drew (h : w.grownBy w' none) : w.grownBy w'.drew none := ⟨h.os, h.tape, h.output, h.size, h.block⟩
theorem gN_trans (h : w.grownBy w' none) (h' : w'.grownBy w'' none) : w.grownBy w'' none := ⟨h'.os.trans h.os, h'.tape.trans h.tape, h'.output.trans h.output, Nat.le_trans h.size h'.size, fun i hi hn => (h'.block i (Nat.lt_of_lt_of_le hi h.size) hn).trans (h.block i hi hn)⟩
theorem gN_alloc (h : w.grownBy w' none) (o : Obj) : w.grownBy (w'.alloc o) none := gN_trans h (World.grownBy_alloc w' o none)
theorem gN_below (h : w.grownBy w' none) : Below w.heap.size w w' := ⟨h.os, h.tape, h.output, h.size, fun i hi => h.block i hi (by simp)⟩
theorem BkAt.lt (h : BkAt w b mo S) : b < w.heap.size := (Array.getElem?_eq_some_iff.1 h.1).1
theorem BkAt.mlt (h : BkAt w b mo S) {m : Nat} (e : mo = some m) : m < w.heap.size := by
  rcases h.2 with ⟨rfl, _⟩ | ⟨m', D, rfl, ho, _⟩
  · cases e
  · cases e; exact ho.lt
theorem BkAt.ne (h : BkAt w b mo S) : mo ≠ some b := by
  intro e
  rcases h.2 with ⟨rfl, _⟩ | ⟨m', D, rfl, ho, _⟩
  · cases e
  · cases e
    obtain ⟨es, c, hb, _⟩ := ho
    rw [h.1] at hb
    cases hb
theorem BkAt.cell (h : BkAt w b mo S) : w.cell? ⟨b, 0, none⟩ = some (.map mo) := cell_of_row _ _ 0 _ _ _ h.1
theorem BkAt.free (h : BkAt w b mo S) (o : Nat) : w.frozen? ⟨b, o, none⟩ = false := frozen_of_row _ _ o _ _ h.1
theorem BkAt.apart (h : BkAt w b mo S) {i : Nat} {c : Array Value} {t : TypeId} {z : Nat × Nat} (hi : w.heap[i]? = some (.cells c t z)) : some i ≠ mo := by
  intro e
  rcases h.2 with ⟨rfl, _⟩ | ⟨m', D, rfl, ho, _⟩
  · cases e
  · cases e
    obtain ⟨es, c, hb, _⟩ := ho
    rw [hi] at hb
    cases hb
theorem BkAt.kept {row : Option Nat} (h : BkAt w b mo S) (hg : w.grownBy w' row) (h1 : some b ≠ row) (h2 : ∀ m, mo = some m → some m ≠ row) : BkAt w' b mo S := by
  refine ⟨(hg.block b h.lt h1).trans h.1, ?_⟩
  rcases h.2 with h0 | ⟨m', D, rfl, ho, hN⟩
  · exact .inl h0
  · exact .inr ⟨m', D, rfl, ho.kept hg (h2 m' rfl), hN⟩
theorem BkAt.keep (h : BkAt w b mo S) (hg : w.grownBy w' none) : BkAt w' b mo S := h.kept hg (by simp) (by simp)
theorem BkAt.alloc (h : BkAt w b mo S) (o : Obj) : BkAt (w.alloc o) b mo S := h.keep (World.grownBy_alloc w o none)
theorem BkAt.drew (h : BkAt w b mo S) : BkAt w.drew b mo S := h
theorem BkAt.below (h : BkAt w b mo S) (hb : Below w.heap.size w w') : BkAt w' b mo S := h.keep ⟨hb.os, hb.tape, hb.output, hb.size, fun k hk _ => hb.block k hk⟩
theorem BkAt.set (h : BkAt w b mo S) {c : Array Value} {t : TypeId} {z : Nat × Nat} {i : Nat} (hi : w.heap[i]? = some (.cells c t z)) (hne : i ≠ b) (o : Nat) (v : Value) : BkAt (w.setCell ⟨i, o, none⟩ v) b mo S := by
  have hx := h.apart hi
  have hq : ∀ j, j ≠ i → (w.setCell ⟨i, o, none⟩ v).heap[j]? = w.heap[j]? := fun j hj => Below.heap_setCell _ _ _ _ (by exact hj)
  refine ⟨(hq b (fun e => hne e.symm)).trans h.1, ?_⟩
  rcases h.2 with h0 | ⟨m', D, rfl, ho, hN⟩
  · exact .inl h0
  · exact .inr ⟨m', D, rfl, ho.setCell (by intro e; exact hx (by rw [e])) v, hN⟩

theorem Gb.refl (w : World) (b : Nat) (mo : Option Nat) : Gb w w b mo mo := ⟨rfl, rfl, rfl, Nat.le_refl _, fun _ _ _ _ => rfl, .inl rfl⟩
theorem Gb.trans (h : Gb w w' b mo mo') (h' : Gb w' w'' b mo' mo'') : Gb w w'' b mo mo'' := by
  have hs := h.size
  refine ⟨h'.os.trans h.os, h'.tape.trans h.tape, h'.output.trans h.output, Nat.le_trans h.size h'.size, fun i hi hb hm => ?_, ?_⟩
  · have hm' : some i ≠ mo' := by
      rcases h.map with e | ⟨m, e, hle⟩
      · rw [e]; exact hm
      · rw [e]; intro e2; cases e2; omega
    exact (h'.block i (by omega) hb hm').trans (h.block i hi hb hm)
  · rcases h'.map with e | ⟨m, e, hle⟩
    · rw [e]; exact h.map
    · exact .inr ⟨m, e, by omega⟩
theorem Gb.grown (hg : w.grownBy w' none) (b : Nat) (mo : Option Nat) : Gb w w' b mo mo := ⟨hg.os, hg.tape, hg.output, hg.size, fun i hi _ _ => hg.block i hi (by simp), .inl rfl⟩
theorem Gb.alloc (h : Gb w w' b mo mo') (o : Obj) : Gb w (w'.alloc o) b mo mo' := h.trans (Gb.grown (World.grownBy_alloc w' o none) b mo')
theorem Gb.drew (h : Gb w w' b mo mo') : Gb w w'.drew b mo mo' := ⟨h.os, h.tape, h.output, h.size, h.block, h.map⟩
theorem Gb.below (h : Gb w w' b mo mo') {lo : Nat} (hb : lo ≤ b) (hs : lo ≤ w.heap.size) (hm : ∀ m, mo = some m → lo ≤ m) : Below lo w w' :=
  ⟨h.os, h.tape, h.output, h.size, fun i hi => h.block i (by omega) (by omega) (fun e => by have := hm i e.symm; omega)⟩
theorem Gb.lo (h : Gb w w' b mo mo') {lo : Nat} (hs : lo ≤ w.heap.size) (hm : ∀ m, mo = some m → lo ≤ m) : ∀ m, mo' = some m → lo ≤ m := by
  intro m e
  rcases h.map with e1 | ⟨m1, e1, hle⟩
  · exact hm m (e1 ▸ e)
  · rw [e1] at e; cases e; omega
/-- What lies in cells is kept by a call on a book. -/
theorem Gb.cells (h : Gb w w' b mo mo') (hB : BkAt w b mo S) {i : Nat} {c : Array Value} {t : TypeId} {z : Nat × Nat} (hi : w.heap[i]? = some (.cells c t z)) (hne : i ≠ b) : w'.heap[i]? = some (.cells c t z) :=
  (h.block i (Array.getElem?_eq_some_iff.1 hi).1 hne (hB.apart hi)).trans hi

/-- What is looked up. -/
theorem BkAt.look (h : BkAt w b mo S) {n k : Int} (hn : (Lit.int .i64 n).wf = true) (hk : (Lit.int .i64 k).wf = true) :
    (Instr.lookup 79 (.map mo) (.agg #[.int .i64 (n), .int .i64 (k)]) true).run Tryd.prog w = .ok (.tuple #[.int .u64 (if S n k = true then (vI n k : Nat) else 0 : Nat), .bool (S n k)]) w := by
  rcases h.2 with ⟨rfl, rfl⟩ | ⟨m, D, rfl, ho, hN⟩
  · have := Maps.look_nil (w := w) true pairKeyed Tryd.underlying79 (zeroU w) (key_md hn hk)
    rw [this]
    rfl
  · obtain ⟨v, ps, hrun, hv⟩ := ho.look_ok pairKeyed Tryd.underlying79 (zeroU w) (plainElem_int Tryd.underlying82 (by decide)) (key_md hn hk)
    obtain ⟨c, rfl, hc, _⟩ := plainElem_int_inv Tryd.underlying82 hv
    obtain ⟨h1, h2⟩ := hN n k hn hk
    rw [hrun, h1]
    have hc1 := congrArg Prod.fst hc
    simp only at hc1
    by_cases hs : S n k = true
    · rw [h2 hs] at hc1
      injection hc1 with e
      injection e with _ e
      rw [if_pos hs, ← e]
    · have hs' : S n k = false := by simpa using hs
      rw [Maps.atKey_of_not_has (h1.trans hs')] at hc1
      injection hc1 with e
      injection e with _ e
      rw [if_neg hs, ← e]
      rfl
/-- What is noted, where there is a map. -/
theorem BkAt.note {m : Nat} (h : BkAt w b (some m) S) {n k : Int} (hin : 1 ≤ n ∧ n ≤ 16 ∧ 1 ≤ k ∧ k ≤ 32) (hs : S n k = false) :
    ∃ w', (Instr.mapUpdate 79 (.map (some m)) (.agg #[.int .i64 (n), .int .i64 (k)]) (.int .u64 (vI n k : Nat))).run Tryd.prog w = .ok () w' ∧ BkAt w' b (some m) (put1 S n k) ∧ Gb w w' b (some m) (some m) := by
  have hn : (Lit.int .i64 n).wf = true := WalkArith.wf_i64 (by omega)
  have hk : (Lit.int .i64 k).wf = true := WalkArith.wf_i64 (by omega)
  have hbd := vI_bd n k
  have hne := h.ne
  have hb := h.lt
  rcases h.2 with ⟨e, _⟩ | ⟨m', D, e, ho, hN⟩
  · cases e
  · cases e
    have hc := card_le S
    obtain ⟨w', hrun, own', grow'⟩ := ho.update pairKeyed Tryd.underlying79 (by unfold maxLen; omega) (key_md hn hk) (plainElem_int (H := Unit) Tryd.underlying82 (a := (vI n k : Nat)) (WalkArith.wf_u64 (by omega)))
    refine ⟨w', hrun, ⟨(grow'.block b hb (fun e => hne e.symm)).trans h.1, .inr ⟨m, _, rfl, own'.mono (card_put hin hs), hN.put ho.isMap hn hk⟩⟩, ⟨grow'.os, grow'.tape, grow'.output, grow'.size, fun i hi _ hm => grow'.block i hi hm, .inl rfl⟩⟩
/-- A map is made. -/
theorem BkAt.make (h : BkAt w b none S) : BkAt ((w.alloc (.map #[] 0)).setCell ⟨b, 0, none⟩ (.map (some w.heap.size))) b (some w.heap.size) S ∧ Gb w ((w.alloc (.map #[] 0)).setCell ⟨b, 0, none⟩ (.map (some w.heap.size))) b none (some w.heap.size) := by
  have hb := h.lt
  rcases h.2 with ⟨_, rfl⟩ | ⟨m', D, e, _⟩
  · refine ⟨⟨?_, .inr ⟨_, .map [], rfl, ?_, Notes.no⟩⟩, ?_⟩
    · have h0 : (w.alloc (.map #[] 0)).heap[b]? = some (.cells #[.map none] 81 (0, 0)) := by rw [heap_alloc_old _ _ hb]; exact h.1
      have h1 := heap_setCell_same _ b 0 _ 81 (.map (some w.heap.size)) h0
      simpa using h1
    · rw [card_no]
      exact (World.ownsMap_made w Tryd.prog 140 _).setCell (by show w.heap.size ≠ b; omega) _
    · refine ⟨rfl, rfl, rfl, by simp, fun i hi hne _ => ?_, .inr ⟨_, rfl, Nat.le_refl _⟩⟩
      rw [Below.heap_setCell _ _ _ _ (by exact hne), heap_alloc_old _ _ hi]
  · cases e
end
end Go.Proofs.YtfgpmdikkncckaaDoor
