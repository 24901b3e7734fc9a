/-
  The beginning that two laws of layer 15 (share) share: what a share tells of a budget, a law's ask with its share. Nothing that was there has turned.
-/
import Derived.Test.YtkilngogdbjmbaaDoorShareAwake
import Derived.Test.YtkilngogdbjmbaaDoorAllocBegin
namespace Go.Proofs.YtkilngogdbjmbaaDoor
set_option linter.unusedVariables false
set_option linter.unusedSimpArgs false
set_option maxRecDepth 20000
open Go.ChangeShapes Go.WideShapes Go.ChangeAt Go.RowKit
open Go.Sort (grow)
theorem eql5xx (a b c d e a' b' c' d' e' : Int) (w : World) : (binOp .eql 25 (.agg #[.int .i64 a, .int .i64 b, .int .i64 c, .int .i64 d, .int .i64 e]) (.agg #[.int .i64 a', .int .i64 b', .int .i64 c', .int .i64 d', .int .i64 e'])).run Tryd.prog w = .ok (.bool (a == a' && b == b' && c == c' && d == d' && e == e')) w :=
  eql5x (fun i => [a, b, c, d, e].getD i 0) a' b' c' d' e' w
theorem equal5xx (a b c d e a' b' c' d' e' : Int) (w : World) : (Op.equalIn 10000 25 (.agg #[.int .i64 a, .int .i64 b, .int .i64 c, .int .i64 d, .int .i64 e]) (.agg #[.int .i64 a', .int .i64 b', .int .i64 c', .int .i64 d', .int .i64 e'])).run Tryd.prog w = .ok (a == a' && b == b' && c == c' && d == d' && e == e') w :=
  equal5x (fun i => [a, b, c, d, e].getD i 0) a' b' c' d' e' w
attribute [local go_sem] eql5 eql5x equal5 equal5x eql5xx equal5xx

/-- What a share tells of a budget. -/
def SOut (B : Nat) (c t n : Int) (R : Nat → Int) : Prop := ∃ a : Nat, R = uTo B t a ∧ (a = 0 ∨ ¬ tooDear B c t n (a - 1)) ∧ ((a : Int) = pLast t B ∨ tooDear B c t n a)
theorem SOut.out {B : Nat} {c t n : Int} {R : Nat → Int} (h : SOut B c t n R) (hB : B ≤ 5) (hc : 1 ≤ c) : Out B c t n R := by
  obtain ⟨a, rfl, h1, h2⟩ := h
  exact found_out hB hc h1 h2
theorem SOut.none {c t n : Int} {R : Nat → Int} (h : SOut 0 c t n R) : R = fun _ => 0 := by
  obtain ⟨a, rfl, _, _⟩ := h
  funext i
  exact to_out t a (by omega)

/-- A law's ask, and its share. -/
structure TS (w X : World) (s c t n : Int) (b q : Nat) : Prop where
  ini : Ini w X s c t n
  sr : SrAt X b q
section
variable {w X X' : World} {s c t n : Int} {b q g : Nat}
theorem TS.below (h : TS w X s c t n b q) (hb : Below X.heap.size X X') : TS w X' s c t n b q := ⟨h.ini.below hb, h.sr.below hb⟩
theorem TS.alloc (h : TS w X s c t n b q) (o : Obj) : TS w (X.alloc o) s c t n b q := h.below (gN_below (gN_alloc (gN_refl X) o))
theorem TS.drew (h : TS w X s c t n b q) : TS w X.drew s c t n b q := ⟨h.ini.drew, h.sr.drewN 1⟩
theorem Ini.set (h : Ini w X s c t n) (hT : WTab w) (hg : w.heap.size < g) (i : Nat) (v : Value) : Ini w (X.setCell ⟨g, i, none⟩ v) s c t n :=
  ⟨h.ask.set_other (by omega) i v, h.low.setCell (p := ⟨g, i, none⟩) (by show w.heap.size ≤ g; omega) v, h.tab.set (by have := hT.size; omega) i v⟩
theorem Ini.put5 (h : Ini w X s c t n) (hT : WTab w) (hg : w.heap.size < g) (R : Nat → Int) : Ini w (((((X.setCell ⟨g, 0, none⟩ (.int .i64 (R 0))).setCell ⟨g, 1, none⟩ (.int .i64 (R 1))).setCell ⟨g, 2, none⟩ (.int .i64 (R 2))).setCell ⟨g, 3, none⟩ (.int .i64 (R 3))).setCell ⟨g, 4, none⟩ (.int .i64 (R 4))) s c t n :=
  ((((h.set hT hg 0 _).set hT hg 1 _).set hT hg 2 _).set hT hg 3 _).set hT hg 4 _
theorem Rw.put {f : Nat → Int} (h : Rw X g f) (R : Nat → Int) : Rw (((((X.setCell ⟨g, 0, none⟩ (.int .i64 (R 0))).setCell ⟨g, 1, none⟩ (.int .i64 (R 1))).setCell ⟨g, 2, none⟩ (.int .i64 (R 2))).setCell ⟨g, 3, none⟩ (.int .i64 (R 3))).setCell ⟨g, 4, none⟩ (.int .i64 (R 4))) g R := by
  have h1 := heap_setCell_same X g 0 _ _ (.int .i64 (R 0)) h
  have h2 := heap_setCell_same _ g 1 _ _ (.int .i64 (R 1)) h1
  have h3 := heap_setCell_same _ g 2 _ _ (.int .i64 (R 2)) h2
  have h4 := heap_setCell_same _ g 3 _ _ (.int .i64 (R 3)) h3
  exact heap_setCell_same _ g 4 _ _ (.int .i64 (R 4)) h4
end
theorem ts_new {w X : World} {s c t n : Int} (h : Ini w X s c t n) : Calls Tryd.prog 8 #[] X fun e w' => ∃ b q, e = .returned (.pointer (some ⟨b, 0, none⟩)) ∧ TS w w' s c t n b q ∧ Kq X w' := by
  refine (fresh_any X).mono ?_
  rintro e w' ⟨b, q, rfl, hS, _, _, hb⟩
  exact ⟨b, q, rfl, ⟨h.below hb, hS⟩, Kq.below hb⟩
theorem bands_chan {s c : Int} {B : Nat} (h : bandsF s c = B) : B = 0 ∨ c = 1 ∨ c = 2 := by
  by_cases hr : right s c
  · unfold right at hr; omega
  · unfold bandsF at h; rw [if_neg hr] at h; omega
theorem ts_all {w X : World} {s c t n : Int} {b q : Nat} (B : Nat) (hBn : Hid (bandsF s c = B)) (h5 : B ≤ 5) (h : TS w X s c t n b q) :
    Calls Tryd.prog 9 #[.pointer (some ⟨b, 0, none⟩), (.agg #[.int .i64 (s), .int .i64 (c)]), .int .i64 t, .int .i64 n] X fun e w' => ∃ R, e = .returned (.agg #[.int .i64 (R 0), .int .i64 (R 1), .int .i64 (R 2), .int .i64 (R 3), .int .i64 (R 4)]) ∧ SOut B c t n R ∧ TS w w' s c t n b q ∧ Kq X w' := by
  refine (sall_any X b q s c t n B hBn h5 (bands_chan hBn.out) h.sr h.ini.tab).mono ?_
  rintro e w' ⟨a, rfl, _, h1, h2, hb⟩
  exact ⟨_, rfl, ⟨a, rfl, h1, h2⟩, h.below hb, Kq.below hb⟩
end Go.Proofs.YtkilngogdbjmbaaDoor
