/-
  What Left, Rng and push of package writer do to a writer that lies somewhere. Nothing else is turned.
-/
import Derived.Test.YtohgbdhackmooaaDoorWriterMem
import Derived.Test.YtohgbdhackmooaaDoorRows
import Derived.ProofKit
import Derived.OpenShut
import Derived.WalkSpells
import Derived.Handy
import Derived.WalkLawsBesides
import Derived.Deep.QuietTactic
import Derived.BigQuiet
import Derived.WalkSmall
import Derived.BigRegion
namespace Go.Proofs.YtohgbdhackmooaaDoor
set_option linter.unusedVariables false
open Go.ChangeShapes Go.WideShapes Go.ChangeAt Go.RowKit

def leftF (z n k : Nat) : Int := 8 * ((z : Int) - 3 - n) - k

theorem left_any (w : World) (b z n k : Nat) (r l : Int) (f : Nat → Int) (hz : z ≤ 1275) (hn : n ≤ 1000000) (hk : k ≤ 1000000) (h : Hid (WCells w b z r l n k f)) :
    Calls Tryd.prog 27 #[.pointer (some ⟨b, 0, none⟩)] w fun e w' => e = .returned (.int .i64 (leftF z n k)) ∧ w' = w.drew := by
  have h0 := h.out.c0
  have h3 := h.out.c3
  have h4 := h.out.c4
  have zi : (z : Int) ≤ 1275 := by omega
  have ni : (n : Int) ≤ 1000000 := by omega
  have ki : (k : Int) ≤ 1000000 := by omega
  go_enter Tryd.func27, Tryd.ntmps27
  go_wp2
  go_region
  go_wp2
  go_ret
  exact ⟨rfl, rfl⟩

set_option maxRecDepth 20000 in
theorem push_any (w : World) (b z n k : Nat) (r l v : Int) (f : Nat → Int) (hz : z ≤ 1275) (hn : n ≤ 900000) (hk : k ≤ 900000) (h : Hid (WCells w b z r l n k f)) :
    Calls Tryd.prog 89 #[.pointer (some ⟨b, 0, none⟩), .int .u8 v] w fun e w' => e = .returned (.tuple #[]) ∧ WCells w' b z r l (n + 1) k (if 0 ≤ leftF z (n + 1) k then setF f n v else f) ∧ w.grownBy w' (some b) := by
  have h3 := h.out.c3
  have zi : (z : Int) ≤ 1275 := by omega
  have ni : (n : Int) ≤ 900000 := by omega
  have ki : (k : Int) ≤ 900000 := by omega
  have fz := h.out.fz
  have hset : Hid (WCells (w.setCell ⟨b, 3, none⟩ (.int .i64 ((n : Int) + 1))) b z r l (n + 1) k f) := h.out.set3 (n + 1)
  by_cases hl : 0 ≤ leftF z (n + 1) k
  · have hl' : ¬ (leftF z (n + 1) k < 0) := by omega
    have hnz : n < 1275 := by unfold leftF at hl; omega
    have hni : (n : Int) < 1275 := by omega
    have kk := cell_off (v := .int .i64 ((n : Int) + 1)) (o := 3) (h.out.ck n hnz) (by omega)
    clear hnz
    go_enter Tryd.func89, Tryd.ntmps89
    go_wp2_with (go_at_call 27; refine (left_any _ b z (n + 1) k r l f hz (by omega) (by omega) hset).mono ?_; rintro e w1 ⟨rfl, rfl⟩)
    go_end0
    exact ⟨rfl, (hset.out.setk n v).drew, grown_drew (grown_set (grown_set (grown_refl _ _) _) _)⟩
  · have hl' : leftF z (n + 1) k < 0 := by omega
    go_enter Tryd.func89, Tryd.ntmps89
    go_wp2_with (go_at_call 27; refine (left_any _ b z (n + 1) k r l f hz (by omega) (by omega) hset).mono ?_; rintro e w1 ⟨rfl, rfl⟩)
    go_end0
    exact ⟨rfl, (hset.out).drew, grown_drew (grown_set (grown_refl _ _) _)⟩

set_option maxRecDepth 20000 in
theorem carry_any (w : World) (b z n k : Nat) (r l : Int) (f : Nat → Int) (hz : z ≤ 1275) (hn : n ≤ 900000) (hk : k ≤ 900000) (hf : Hid (Byte f)) (hw : Hid (WCells w b z r l n k f)) :
    Calls Tryd.prog 86 #[.pointer (some ⟨b, 0, none⟩)] w fun e w' => e = .returned (.tuple #[]) ∧ WCells w' b z r l n k (if 0 ≤ leftF z n k then carryF n f else f) ∧ w.grownBy w' (some b) := by
  have h3 := hw.out.c3
  have zi : (z : Int) ≤ 1275 := by omega
  have ni : (n : Int) ≤ 900000 := by omega
  have ki : (k : Int) ≤ 900000 := by omega
  by_cases hl : 0 ≤ leftF z n k
  · have hl' : ¬ (leftF z n k < 0) := by omega
    have hnz : Hid (n ≤ 1275) := by unfold leftF at hl; show n ≤ 1275; omega
    go_enter Tryd.func86, Tryd.ntmps86
    go_wp2_with (go_at_call 27; refine (left_any _ b z n k r l f hz (by omega) (by omega) hw).mono ?_; rintro e w1 ⟨rfl, rfl⟩)
    go_loopw [2] (fun i wr => ∃ (x : Int) (g : Nat → Int), i = .int .i64 x ∧ -1 ≤ x ∧ x < n ∧ Hid (carryF (x + 1).toNat g = carryF n f) ∧ Hid (Byte g) ∧ Hid (WCells wr b z r l n k g) ∧ w.grownBy wr (some b)) (fun i _ => (intOf i + 1).toNat)
    case atStart => exact ⟨_, f, rfl, by omega, by omega, by rw [Int.sub_add_cancel]; rfl, hf, hw.out.drew, grown_drew (grown_refl _ _)⟩
    case round =>
      obtain ⟨x, g, rfl, x1, x2, HC, HG, HW, HB⟩ := hrel
      by_cases hx : 0 ≤ x
      · obtain ⟨q, rfl⟩ : ∃ q : Nat, x = q := ⟨x.toNat, by omega⟩
        have hq : q < 1275 := by have := hnz.out; omega
        have hqi : (q : Int) < 1275 := by omega
        have kk := HW.out.ck q hq
        have fz := HW.out.fz
        have bg := HG.out q
        clear hq
        by_cases hv : g q = 255
        · have ev : IntKind.u8.wrap (g q + 1) = 0 := by rw [hv]; rfl
          have e0 : carryF ((q : Int) + 1).toNat g = carryF q (setF g q 0) := by rw [show ((q : Int) + 1).toNat = q + 1 by omega, carryF, if_pos (by rw [hv]; rfl)]
          have HE : Hid _ := e0
          clear e0
          go_wp2
          go_region
          go_wp2
          go_roundw
          case rel => exact ⟨_, setF g q 0, rfl, by omega, by omega, by show carryF _ _ = _; rw [show ((q : Int) - 1 + 1).toNat = q by omega, ← HE.out]; exact HC.out, HG.out.set q (by decide) (by decide), (HW.out.setk q 0).drew, grown_drew (grown_set HB _)⟩
          case measure => simp [intOf]
        · have ev : IntKind.u8.wrap (g q + 1) = g q + 1 := by simp [IntKind.wrap, IntKind.bits, IntKind.signed]; omega
          have e0 : carryF ((q : Int) + 1).toNat g = setF g q (g q + 1) := by rw [show ((q : Int) + 1).toNat = q + 1 by omega, carryF, if_neg (by omega), show (g q + 1) % 256 = g q + 1 by omega]
          have HE : Hid _ := e0
          clear e0
          have hne : ¬ (g q + 1 = 0) := by omega
          go_wp2
          go_region
          go_wp2
          refine bodyPost_ret (results_none rfl _ _ _) rfl ?_
          exact ⟨rfl, by rw [← HC.out, HE.out]; exact (HW.out.setk q _).drew, grown_drew (grown_set HB _)⟩
      · have e : x = -1 := by omega
        subst e
        go_wp2
        go_end0
        exact ⟨rfl, by rw [← HC.out]; exact HW.out, HB⟩
  · have hl' : leftF z n k < 0 := by omega
    go_enter Tryd.func86, Tryd.ntmps86
    go_wp2_with (go_at_call 27; refine (left_any _ b z n k r l f hz (by omega) (by omega) hw).mono ?_; rintro e w1 ⟨rfl, rfl⟩)
    refine bodyPost_ret (results_none rfl _ _ _) rfl ?_
    exact ⟨rfl, hw.out.drew, grown_drew (grown_refl _ _)⟩

end Go.Proofs.YtohgbdhackmooaaDoor
