/-
  What Uint of package sym does with a reader: a number below a total is read, or there is no such total. Nothing that was there has turned but the reader's own block.
-/
import Derived.Test.YtfgpmdikkncckaaDoorSymCalls
import Derived.Test.YtfgpmdikkncckaaDoorReaderCalls2
import Derived.Deep.RegionLaw
namespace Go.Proofs.YtfgpmdikkncckaaDoor
set_option linter.unusedVariables false
open Go.ChangeShapes Go.WideShapes Go.ChangeAt Go.RowKit

theorem uint_bad (w : World) (b : Nat) (t : Int) (h : ¬ (1 ≤ t ∧ t ≤ 16777216)) :
    Calls Tryd.prog 36 #[.pointer (some ⟨b, 0, none⟩), .int .i64 t] w fun e w' => e = .returned (.tuple #[.int .i64 0, .bool false]) ∧ w' = w := by
  go_enter Tryd.func36, Tryd.ntmps36
  go_wp2_with (go_at_call 48; refine (sright_no _ _ h).mono ?_; rintro e w1 ⟨rfl, rfl⟩)
  go_returns
  exact ⟨rfl, rfl⟩

/-- What is answered where v was read. -/
def uintA (v t : Int) : Value := .tuple #[.int .i64 (if t ≤ v then t - 1 else v), .bool (decide (v < t))]

set_option maxHeartbeats 2000000 in
set_option maxRecDepth 20000 in
theorem uint_rd (w : World) (lo hi b n : Nat) (p : Nat → Int) (m : Re) (t q : Int) (s : Nat) (hn : n ≤ 100000) (hk : m.tk ≤ 800000) (hl : m.nb ≤ 700000) (hp : Hid (Bx n p)) (hg : Hid m.Good) (hs : Hid (Sp t q s)) (h : Hid (RdAt w lo hi b n p m)) :
    Calls Tryd.prog 36 #[.pointer (some ⟨b, 0, none⟩), .int .i64 t] w fun e w' => e = .returned (uintA (m.numV n p q s) t) ∧ RdAt w' lo hi b n p (m.num p q s) ∧ w.grownBy w' (some b) := by
  have t1 := hs.out.t1
  have t2 := hs.out.t2
  have s2 := hs.out.s2
  have qb := hs.out.q_bd
  obtain ⟨g0, g1, hM⟩ := hs.out.got hg.out
  have HM : Hid (May (m.get q) (m.get q + 1) q) := hM
  have HGU : Hid (m.getU q = m.get q) := if_pos ⟨by omega, by omega⟩
  have hV := numV_bd (n := n) (p := p) hg.out hs.out
  have HE : Hid (m.num p q s = (m.take p (m.get q) (m.get q + 1) q).raw s) := rfl
  have HVe : Hid (m.numV n p q s = m.get q * 2 ^ s + rsum n p m.nb s) := rfl
  have hnb : (m.take p (m.get q) (m.get q + 1) q).nb = m.nb := (take_n m p _ _ q).2.2
  obtain ⟨g, hge⟩ : ∃ g, m.get q = g := ⟨_, rfl⟩
  rw [hge] at g0 g1 HM HGU HE HVe hnb
  obtain ⟨m1, hm1⟩ : ∃ m1, m.take p g (g + 1) q = m1 := ⟨_, rfl⟩
  have HT : Hid _ := hm1
  rw [hm1] at HE hnb
  clear hM hge hm1
  have t1' : ¬ t ≤ 0 := by omega
  by_cases h0 : s = 0
  · subst h0
    have hq : q = t := by have := hs.out.q; rw [this]; simp
    subst hq
    have HV0 : Hid (m.numV n p q 0 = g) := by show _ = _; rw [HVe.out]; simp [rsum]
    have HR0 : Hid (m.num p q 0 = m1) := by show _ = _; rw [HE.out]; rfl
    rw [HV0.out] at hV ⊢
    have hA : uintA g q = .tuple #[.int .i64 g, .bool true] := by unfold uintA; rw [if_neg (by omega)]; simp [g1]
    have HA : Hid _ := hA
    clear hA
    by_cases gp : 0 < g
    · have g1' : ¬ q ≤ g := by omega
      go_enter Tryd.func36, Tryd.ntmps36
      go_wp2_with (first
        | (go_at_call 48; refine (sright_yes _ _ t1 t2).mono ?_; rintro e w1 ⟨rfl, rfl⟩)
        | (go_at_call 49; refine (split_any _ q 0 _ hs).mono ?_; rintro e w1 ⟨rfl, rfl⟩)
        | (go_at_call 71; refine (rdget _ lo hi b n p m q hg h).mono ?_; rw [HGU.out]; rintro e w1 ⟨rfl, rfl⟩)
        | (go_at_call 74; refine (rdtake _ lo hi b n p m g (g + 1) q hn hk hp hg HM h).mono ?_; rw [HT.out]; rintro e w2 ⟨rfl, HW2, HB2⟩; replace HW2 : Hid (RdAt w2 lo hi b n p m1) := HW2; replace HB2 : Hid _ := HB2))
      go_returns
      exact ⟨by rw [HA.out]; rfl, by rw [HR0.out]; exact HW2.out, HB2.out⟩
    · obtain rfl : g = 0 := by omega
      go_enter Tryd.func36, Tryd.ntmps36
      go_wp2_with (first
        | (go_at_call 48; refine (sright_yes _ _ t1 t2).mono ?_; rintro e w1 ⟨rfl, rfl⟩)
        | (go_at_call 49; refine (split_any _ q 0 _ hs).mono ?_; rintro e w1 ⟨rfl, rfl⟩)
        | (go_at_call 71; refine (rdget _ lo hi b n p m q hg h).mono ?_; rw [HGU.out]; rintro e w1 ⟨rfl, rfl⟩)
        | (go_at_call 74; refine (rdtake _ lo hi b n p m 0 1 q hn hk hp hg HM h).mono ?_; rw [show m.take p 0 1 q = m1 from HT.out]; rintro e w2 ⟨rfl, HW2, HB2⟩; replace HW2 : Hid (RdAt w2 lo hi b n p m1) := HW2; replace HB2 : Hid _ := HB2))
      go_returns
      exact ⟨by rw [HA.out]; rfl, by rw [HR0.out]; exact HW2.out, HB2.out⟩
  · have hs0 : (0 : Int) < s := by omega
    have hs1 : (s : Int) < 64 := by omega
    have hrk : rawK s = s := by unfold rawK; rw [if_neg (by omega), if_neg (by omega), Int.toNat_natCast]
    have HRK : Hid _ := hrk
    have hnb1 : m1.nb ≤ 700000 := by omega
    have HNB : Hid _ := hnb
    have hr := rsum_bd n p m.nb s
    have p1 := pow_pos' s
    have p2 : (2 : Int) ^ s ≤ 65536 := by
      have := pow_le' s2
      have : (2 : Int) ^ 16 = 65536 := by decide
      omega
    have a1 : 0 ≤ g * 2 ^ s := Int.mul_nonneg g0 (by omega)
    have a2 : g * 2 ^ s ≤ 255 * 2 ^ s := Int.mul_le_mul_of_nonneg_right (by omega) (by omega)
    obtain ⟨x, hx⟩ : ∃ x, rsum n p m.nb s = x := ⟨_, rfl⟩
    have HX : Hid _ := hx
    rw [hx] at hr HVe
    obtain ⟨y, hy⟩ : ∃ y, g * 2 ^ s = y := ⟨_, rfl⟩
    have hy2 : IntKind.i64.wrap (g * 2 ^ s) = y := by rw [hy]; simp [IntKind.wrap, IntKind.bits, IntKind.signed]; omega
    have HY : Hid _ := hy
    rw [hy] at a1 a2 HVe
    have hx64 : IntKind.i64.wrap x = x := by simp [IntKind.wrap, IntKind.bits, IntKind.signed]; omega
    have hyx : IntKind.i64.wrap (y + x) = y + x := by simp [IntKind.wrap, IntKind.bits, IntKind.signed]; omega
    rw [HVe.out] at hV ⊢
    clear hx hy hrk hnb hr p1 p2 a1 a2
    obtain ⟨V, hVe⟩ : ∃ V, y + x = V := ⟨_, rfl⟩
    rw [hVe] at hV hyx ⊢
    have hA : (t ≤ V ∧ uintA V t = .tuple #[.int .i64 (t - 1), .bool false]) ∨ (¬ t ≤ V ∧ uintA V t = .tuple #[.int .i64 V, .bool true]) := by
      by_cases e : t ≤ V
      · left; refine ⟨e, ?_⟩; unfold uintA; rw [if_pos e]; simp; omega
      · right; refine ⟨e, ?_⟩; unfold uintA; rw [if_neg e]; simp; omega
    by_cases gp : 0 < g
    · rcases hA with ⟨ht, hA⟩ | ⟨ht, hA⟩
      all_goals (
        have HA : Hid _ := hA
        clear hA
        go_enter Tryd.func36, Tryd.ntmps36
        go_wp2_with (first
          | (go_at_call 48; refine (sright_yes _ _ t1 t2).mono ?_; rintro e w1 ⟨rfl, rfl⟩)
          | (go_at_call 49; refine (split_any _ q s _ hs).mono ?_; rintro e w1 ⟨rfl, rfl⟩)
          | (go_at_call 71; refine (rdget _ lo hi b n p m q hg h).mono ?_; rw [HGU.out]; rintro e w1 ⟨rfl, rfl⟩)
          | (go_at_call 74; refine (rdtake _ lo hi b n p m g (g + 1) q hn hk hp hg HM h).mono ?_; rw [HT.out]; rintro e w2 ⟨rfl, HW2, HB2⟩; replace HW2 : Hid (RdAt w2 lo hi b n p m1) := HW2; replace HB2 : Hid _ := HB2))
        go_region_with (go_at_call 72; refine (rdraw _ lo hi b n p m1 s hn hnb1 hp (RdAt.keep HW2.out (by repeat (first | (with_reducible exact grown_refl _ none) | (with_reducible refine grown_alloc ?_ _) | (with_reducible refine grown_drew ?_))))).mono ?_; rw [HNB.out, HRK.out, HX.out]; rintro e w3 ⟨rfl, HW3, HB3⟩; replace HW3 : Hid (RdAt w3 lo hi b n p (m1.raw s)) := HW3; replace HB3 : Hid _ := HB3)
        all_goals (
          go_wp2
          go_returns
          exact ⟨by rw [HA.out]; rfl, by rw [HE.out]; exact HW3.out, grown_trans HB2.out (grown_trans (grown_drew (grown_refl _ _)) HB3.out)⟩))
    · obtain rfl : g = 0 := by omega
      obtain rfl : y = 0 := by have := HY.out; rw [Int.zero_mul] at this; exact this.symm
      obtain rfl : x = V := by rw [← hVe, Int.zero_add]
      clear hy2 hyx hVe
      rcases hA with ⟨ht, hA⟩ | ⟨ht, hA⟩
      all_goals (
        have HA : Hid _ := hA
        clear hA
        go_enter Tryd.func36, Tryd.ntmps36
        go_wp2_with (first
          | (go_at_call 48; refine (sright_yes _ _ t1 t2).mono ?_; rintro e w1 ⟨rfl, rfl⟩)
          | (go_at_call 49; refine (split_any _ q s _ hs).mono ?_; rintro e w1 ⟨rfl, rfl⟩)
          | (go_at_call 71; refine (rdget _ lo hi b n p m q hg h).mono ?_; rw [HGU.out]; rintro e w1 ⟨rfl, rfl⟩)
          | (go_at_call 74; refine (rdtake _ lo hi b n p m 0 1 q hn hk hp hg HM h).mono ?_; rw [show m.take p 0 1 q = m1 from HT.out]; rintro e w2 ⟨rfl, HW2, HB2⟩; replace HW2 : Hid (RdAt w2 lo hi b n p m1) := HW2; replace HB2 : Hid _ := HB2))
        go_region_with (go_at_call 72; refine (rdraw _ lo hi b n p m1 s hn hnb1 hp (RdAt.keep HW2.out (by repeat (first | (with_reducible exact grown_refl _ none) | (with_reducible refine grown_alloc ?_ _) | (with_reducible refine grown_drew ?_))))).mono ?_; rw [HNB.out, HRK.out, HX.out]; rintro e w3 ⟨rfl, HW3, HB3⟩; replace HW3 : Hid (RdAt w3 lo hi b n p (m1.raw s)) := HW3; replace HB3 : Hid _ := HB3)
        all_goals (
          go_wp2
          go_returns
          exact ⟨by rw [HA.out]; first | rfl | (show Ending.returned (.tuple #[.int .i64 (0 + x), .bool true]) = _; rw [Int.zero_add]), by rw [HE.out]; exact HW3.out, grown_trans HB2.out (grown_trans (grown_drew (grown_refl _ _)) HB3.out)⟩))

end Go.Proofs.YtfgpmdikkncckaaDoor
