/-
  What slices.Clone (of bytes) and New of package reader make: bytes of their own, a reader of its own. Nothing that was there is turned.
-/
import Derived.Test.YtfgpmdikkncckaaDoorReaderCalls2
import Derived.Test.YtfgpmdikkncckaaDoorCat
import Derived.Lib.SliceRun
namespace Go.Proofs.YtfgpmdikkncckaaDoor
set_option linter.unusedVariables false
open Go.ChangeShapes Go.WideShapes Go.ChangeAt Go.RowKit

theorem IntsAt.alloc {w : World} {ao : Option Addr} {n : Nat} {k : IntKind} {f : Nat → Int} (h : IntsAt w ao n k f) (o : Obj) : IntsAt (w.alloc o) ao n k f := h.below ((Below.refl _ _).alloc (Nat.le_refl _) _)

set_option maxRecDepth 20000 in
theorem clone_any (w : World) (ao : Option Addr) (n cap : Nat) (p : Nat → Int) (hn : n ≤ 100000) (h : Hid (IntsAt w ao n .u8 p)) :
    Calls Tryd.prog 18 #[.slice ao n cap] w fun e w' => ∃ ao' cap', e = .returned (.slice ao' n cap') ∧ OwnN w' w.heap.size 5 .u8 (.slice ao' n cap') n p ∧ Below w.heap.size w w' := by
  have qT : ∀ (w : World) (a : Option Addr) (n c n' c' : Nat), (binOp .eql 22 (.slice a n c) (.slice none n' c')).run Tryd.prog w = .ok (.bool a.isNone) w := fun w a n c n' c' => Lib.run_eql_slice_nil w _ _ a n c n' c' Tryd.underlying22
  cases ao with
  | none =>
    obtain rfl : n = 0 := by
      cases n with
      | zero => rfl
      | succ m => obtain ⟨b, off, e, _⟩ := h.out 0 (by omega); cases e
    go_enter Tryd.func18, Tryd.ntmps18
    go_wp2
    go_ret
    exact ⟨none, 0, rfl, own_nil _ _ _ _ _, Below.refl _ _⟩
  | some ad =>
    obtain ⟨v', w', hr, h2, h3, h4⟩ := run_cat (w.alloc (.cells #[] 5)) 22 w.heap.size (.slice (some ⟨w.heap.size, 0, none⟩) 0 0) 0 (fun _ => 0) (World.ownsRow_made w #[] 0 (Nat.le_refl _) (by decide) rfl) (some ad) n cap p (h.out.alloc _) (by omega) (by omega) (by simp)
    rw [Nat.zero_add] at h2
    have HO : Hid (OwnN w' w.heap.size 5 .u8 v' n p) := h2.congr (fun i hi => by rw [catF_ge _ _ (Nat.zero_le _)]; rfl)
    have HB : Hid (Below w.heap.size w w') := below_grown (b := w.heap.size) ((Below.refl _ _).alloc (Nat.le_refl _) _) h3 (Nat.le_refl _) (by simp)
    clear h2 h3 h4
    obtain ⟨ao', cap', rfl, _, _, _⟩ := HO.out.slice
    go_enter Tryd.func18, Tryd.ntmps18
    go_wp2_with (at_builtin; refine Lib.wpList_append_run _ rfl _ _ 22 22 rfl _ _ rfl rfl _ w' hr ?_)
    go_ret
    exact ⟨_, _, rfl, HO.out, HB.out⟩

set_option maxRecDepth 20000 in
theorem rdnew (w : World) (ao : Option Addr) (n cap : Nat) (p : Nat → Int) (hn : n ≤ 100000) (hp : Hid (Bx n p)) (h : Hid (IntsAt w ao n .u8 p)) :
    Calls Tryd.prog 13 #[.slice ao n cap] w fun e w' => ∃ b, e = .returned (.pointer (some ⟨b, 0, none⟩)) ∧ RdAt w' w.heap.size w'.heap.size b n p (Re.new p) ∧ Below w.heap.size w w' := by
  have p0 := hp.out.b 0
  have p1 := hp.out.b 1
  go_enter Tryd.func13, Tryd.ntmps13
  go_wp2_with (go_at_call 18; refine (clone_any _ ao n cap p hn h).mono ?_; rintro e w1 ⟨ao', cap', rfl, HO, HB⟩; replace HO : Hid (OwnN w1 w.heap.size 5 .u8 (.slice ao' n cap') n p) := HO; replace HB : Hid (Below w.heap.size w w1) := HB)
  have HC : Hid (RCells (w1.alloc (.cells #[.slice ao' n cap', .int .u32 16777216, .int .u32 0, .int .i64 0, .int .i64 0] 57)) w.heap.size (w1.heap.size + 1) w1.heap.size (.slice ao' n cap') n p 16777216 0 0 0) :=
    ⟨heap_alloc_new w1 _, HO.out.kept (World.grownBy_alloc w1 _ none) (by cases hv : Value.ownBlock (.slice ao' n cap') <;> simp), HB.out.size, Nat.lt_succ_self _, fun g hg => ⟨Nat.lt_succ_of_lt (HO.out.lt hg).2, Nat.ne_of_lt (HO.out.lt hg).2⟩⟩
  refine wp_loop_rounds 4 ?_
  rw [rounds_succ]
  go_wp2_with (go_at_call 19; refine (shift_any _ w.heap.size (w1.heap.size + 1) w1.heap.size (.slice ao' n cap') n p 16777216 0 0 0 hn (by decide) (by decide) (by decide) hp HC).mono ?_; rintro e w2 ⟨rfl, HC2, HB2⟩; rw [show (0 : Int) * 256 + p 0 = p 0 by omega] at HC2; replace HC2 : Hid (RCells w2 w.heap.size (w1.heap.size + 1) w1.heap.size (.slice ao' n cap') n p 16777216 (p 0) 1 0) := HC2; replace HB2 : Hid _ := HB2)
  rw [rounds_succ]
  go_wp2_with (go_at_call 19; refine (shift_any _ w.heap.size (w1.heap.size + 1) w1.heap.size (.slice ao' n cap') n p 16777216 (p 0) 1 0 hn (by decide) (by omega) (by omega) hp HC2).mono ?_; rintro e w3 ⟨rfl, HC3, HB3⟩; replace HC3 : Hid (RCells w3 w.heap.size (w1.heap.size + 1) w1.heap.size (.slice ao' n cap') n p 16777216 (p 0 * 256 + p 1) 2 0) := HC3; replace HB3 : Hid _ := HB3)
  rw [rounds_succ]
  go_wp2_with (go_at_call 19; refine (shift_any _ w.heap.size (w1.heap.size + 1) w1.heap.size (.slice ao' n cap') n p 16777216 (p 0 * 256 + p 1) 2 0 hn (by decide) (by omega) (by omega) hp HC3).mono ?_; rintro e w4 ⟨rfl, HC4, HB4⟩; replace HC4 : Hid (RCells w4 w.heap.size (w1.heap.size + 1) w1.heap.size (.slice ao' n cap') n p 16777216 ((p 0 * 256 + p 1) * 256 + p 2) 3 0) := HC4; replace HB4 : Hid _ := HB4)
  rw [rounds_succ]
  go_wp2
  go_ret
  have g2 : (w1.alloc (.cells #[.slice ao' n cap', .int .u32 16777216, .int .u32 0, .int .i64 0, .int .i64 0] 57)).grownBy w4 (some w1.heap.size) := grown_trans (grown_trans HB2.out HB3.out) HB4.out
  have hsz : w1.heap.size + 1 ≤ w4.heap.size := by have := g2.size; simpa using this
  refine ⟨_, rfl, ⟨.slice ao' n cap', ?_⟩, below_grown (HB.out.alloc HB.out.size _) g2 HB.out.size (Nat.le_trans HB.out.size (by simp))⟩
  have e : (Re.new p).val = (p 0 * 256 + p 1) * 256 + p 2 := by show p 0 * 65536 + p 1 * 256 + p 2 = _; omega
  rw [e]
  exact ⟨HC4.out.row, HC4.out.d, HC4.out.b0, Nat.lt_of_lt_of_le HC4.out.b1 hsz, fun g hg => ⟨Nat.lt_of_lt_of_le (HC4.out.vh g hg).1 hsz, (HC4.out.vh g hg).2⟩⟩
end Go.Proofs.YtfgpmdikkncckaaDoor
