/-
  What pushBit and Raw of package writer do to a writer that lies somewhere. Nothing else is turned.
-/
import Derived.Test.YtohgbdhackmooaaDoorWriterCalls2
import Derived.Laws.ShiftsVarLaws
namespace Go.Proofs.YtohgbdhackmooaaDoor
set_option linter.unusedVariables false
open Go.ChangeShapes Go.WideShapes Go.ChangeAt Go.RowKit

theorem or_all : ∀ e : Fin 8, ∀ x : Fin 128, ∀ v : Fin 2, x.val < 2 ^ e.val → bits BinOp.or IntKind.u8 (x.val : Int) ((v.val : Int) * 2 ^ e.val % 256) = (x.val : Int) + (v.val : Int) * 2 ^ e.val := by decide +kernel
theorem or_bit {x v : Int} {e : Nat} (he : e < 8) (h0 : 0 ≤ x) (h1 : x < 2 ^ e) (v0 : 0 ≤ v) (v1 : v ≤ 1) : bits BinOp.or IntKind.u8 x (v * 2 ^ e % 256) = x + v * 2 ^ e := by
  have h7 : (2 : Int) ^ e ≤ 128 := by
    match e, he with
    | 0, _ | 1, _ | 2, _ | 3, _ | 4, _ | 5, _ | 6, _ | 7, _ => decide
  have := or_all ⟨e, he⟩ ⟨x.toNat, by omega⟩ ⟨v.toNat, by omega⟩ (by
    show x.toNat < 2 ^ e
    have h2 : ((x.toNat : Nat) : Int) < ((2 ^ e : Nat) : Int) := by rw [Int.toNat_of_nonneg h0]; push_cast; exact h1
    exact Int.ofNat_lt.1 h2)
  simp only [Int.toNat_of_nonneg h0, Int.toNat_of_nonneg v0] at this
  exact this

set_option maxRecDepth 20000 in
theorem bit_no (w : World) (b z n k : Nat) (r l v : Int) (f : Nat → Int) (hz : z ≤ 1275) (hn : n ≤ 800000) (hk : k ≤ 800000) (hl : ¬ 0 ≤ leftF z n (k + 1)) (hw : Hid (WCells w b z r l n k f)) :
    Calls Tryd.prog 88 #[.pointer (some ⟨b, 0, none⟩), .int .u8 v] w fun e w' => e = .returned (.tuple #[]) ∧ WCells w' b z r l n (k + 1) f ∧ w.grownBy w' (some b) := by
  have h4 := hw.out.c4
  have fz := hw.out.fz
  have hset : Hid (WCells (w.setCell ⟨b, 4, none⟩ (.int .i64 ((k : Int) + 1))) b z r l n (k + 1) f) := hw.out.set4 (k + 1)
  have hl' : leftF z n (k + 1) < 0 := by omega
  go_enter Tryd.func88, Tryd.ntmps88
  go_wp2_with (go_at_call 27; refine (left_any _ b z n (k + 1) r l f hz (by omega) (by omega) hset).mono ?_; rintro e w1 ⟨rfl, rfl⟩)
  go_end0
  exact ⟨rfl, hset.out.drew, grown_drew (grown_set (grown_refl _ _) _)⟩

set_option maxRecDepth 20000 in
theorem bit_yes (w : World) (b z n k p j e : Nat) (r l v : Int) (f : Nat → Int) (hz : z ≤ 1275) (hn : n ≤ 800000) (hk : k ≤ 800000) (hl : 0 ≤ leftF z n (k + 1)) (hw : Hid (WCells w b z r l n k f))
    (hj : (k : Int).tdiv 8 = j) (he : (k : Int).tmod 8 = e) (he8 : (e : Int) < 8) (hp : (z : Int) - 1 - j = p) (hp1 : (p : Int) < 1275) (hj0 : (j : Int) ≤ 100000) :
    Calls Tryd.prog 88 #[.pointer (some ⟨b, 0, none⟩), .int .u8 v] w fun en w' => en = .returned (.tuple #[]) ∧ WCells w' b z r l n (k + 1) (setF f p (bits BinOp.or IntKind.u8 (f p) (v * 2 ^ e % 256))) ∧ w.grownBy w' (some b) := by
  have h4 := hw.out.c4
  have h0 := cell_off (v := .int .i64 ((k : Int) + 1)) (o := 4) hw.out.c0 (by decide)
  have fz := hw.out.fz
  have hset : Hid (WCells (w.setCell ⟨b, 4, none⟩ (.int .i64 ((k : Int) + 1))) b z r l n (k + 1) f) := hw.out.set4 (k + 1)
  have kk := cell_off (v := .int .i64 ((k : Int) + 1)) (o := 4) (hw.out.ck p (by omega)) (by omega)
  go_enter Tryd.func88, Tryd.ntmps88
  go_wp2_with (go_at_call 27; refine (left_any _ b z n (k + 1) r l f hz (by omega) (by omega) hset).mono ?_; rintro e w1 ⟨rfl, rfl⟩)
  go_region
  go_end0
  exact ⟨rfl, (hset.out.setk p _).drew.drew, grown_drew (grown_drew (grown_set (grown_set (grown_refl _ _) _) _))⟩

theorem bit_wr (w : World) (b z : Nat) (m : Mo) (v : Int) (hz : z ≤ 1275) (hn : m.nD ≤ 700000) (hk : m.nR ≤ 700000) (h0 : 0 ≤ v) (h1 : v ≤ 1) (hw : Hid (WrAt w b z m)) :
    Calls Tryd.prog 88 #[.pointer (some ⟨b, 0, none⟩), .int .u8 v] w fun e w' => e = .returned (.tuple #[]) ∧ WrAt w' b z (m.bit v) ∧ w.grownBy w' (some b) := by
  obtain ⟨low, f, HI, HW⟩ := hw
  obtain ⟨hI, hlt⟩ := inv_bit (v := v) HI h0 h1
  have h3 := HI.ok.n3
  have el : leftF z (m.nD - 3) (m.nR + 1) = (m.bit v).left z := by
    unfold leftF Mo.left
    show 8 * ((z : Int) - 3 - ((m.nD - 3 : Nat) : Int)) - ((m.nR + 1 : Nat) : Int) = 8 * (z : Int) - 8 * (m.nD : Int) - ((m.nR + 1 : Nat) : Int)
    omega
  by_cases hl : 0 ≤ (m.bit v).left z
  · obtain ⟨l1, l2⟩ := hlt hl
    rw [if_pos hl] at hI
    have hb := HI.byte (z - 1 - m.nR / 8)
    rw [← or_bit (Nat.mod_lt _ (by decide)) hb.1 l2 h0 h1] at hI
    refine (bit_yes w b z (m.nD - 3) m.nR (z - 1 - m.nR / 8) (m.nR / 8) (m.nR % 8) m.rng low v f hz (by omega) (by omega) (by rw [el]; exact hl) HW ?_ ?_ ?_ ?_ ?_ ?_).mono ?_
    · rw [Int.tdiv_eq_ediv_of_nonneg (by omega)]; omega
    · rw [Int.tmod_eq_emod_of_nonneg (by omega)]; omega
    · omega
    · omega
    · omega
    · omega
    · rintro e w' ⟨rfl, hW, hB⟩
      exact ⟨rfl, ⟨_, _, hI, hW⟩, hB⟩
  · rw [if_neg hl] at hI
    refine (bit_no w b z (m.nD - 3) m.nR m.rng low v f hz (by omega) (by omega) (by rw [el]; exact hl) HW).mono ?_
    rintro e w' ⟨rfl, hW, hB⟩
    exact ⟨rfl, ⟨_, _, hI, hW⟩, hB⟩

/-- May raw bits be put? -/
def MayRaw (x n : Int) : Prop := 0 ≤ n ∧ n ≤ 16 ∧ x < 2 ^ n.toNat

theorem raw_bad (w : World) (b : Nat) (x n : Int) (x0 : 0 ≤ x) (x1 : x < 4294967296) (h : ¬ MayRaw x n) :
    Calls Tryd.prog 85 #[.pointer (some ⟨b, 0, none⟩), .int .u32 x, .int .i64 n] w fun e w' => e = .returned (.int .i64 1) ∧ w' = w := by
  by_cases h1 : n < 0
  · go_enter Tryd.func85, Tryd.ntmps85
    go_wp2
    go_ret
    exact ⟨rfl, rfl⟩
  · by_cases h2 : 16 < n
    · go_enter Tryd.func85, Tryd.ntmps85
      go_wp2
      go_ret
      exact ⟨rfl, rfl⟩
    · obtain ⟨k, rfl⟩ : ∃ k : Nat, n = k := ⟨n.toNat, by omega⟩
      have hx : ¬ (x / 2 ^ k = 0) := by
        intro e
        apply h
        refine ⟨by omega, by omega, ?_⟩
        rw [Int.toNat_natCast]
        have hpos : (0 : Int) < 2 ^ k := Int.pow_pos (by decide)
        have := Int.lt_mul_ediv_self_add (x := x) (k := 2 ^ k) hpos
        rw [e] at this
        omega
      clear h
      go_enter Tryd.func85, Tryd.ntmps85
      go_wp2
      go_ret
      exact ⟨rfl, rfl⟩


theorem and_one {x : Int} (h0 : 0 ≤ x) (h1 : x < 4294967296) : bits BinOp.and IntKind.u32 x 1 = x % 2 := by
  have e1 : (BitVec.ofInt 32 1).toNat = 2 ^ 1 - 1 := by decide
  have key : (BitVec.ofInt 32 x &&& BitVec.ofInt 32 1).toNat = (x % ((2 ^ 32 : Nat) : Int)).toNat % 2 ^ 1 := by
    rw [BitVec.toNat_and, BitVec.toNat_ofInt, e1, Nat.and_two_pow_sub_one_eq_mod]
  show IntKind.u32.wrap ((BitVec.ofInt 32 x &&& BitVec.ofInt 32 1).toNat : Nat) = x % 2
  rw [key, wrap_u32 (by omega) (by omega)]
  omega

theorem raw_wr (w : World) (b z : Nat) (m : Mo) (x : Int) (k : Nat) (hz : z ≤ 1275) (hn : m.nD ≤ 600000) (hk : m.nR ≤ 600000) (x0 : 0 ≤ x) (x1 : x < 4294967296) (hm : Hid (MayRaw x k)) (hw : Hid (WrAt w b z m)) :
    Calls Tryd.prog 85 #[.pointer (some ⟨b, 0, none⟩), .int .u32 x, .int .i64 k] w fun e w' => e = .returned (.int .i64 0) ∧ WrAt w' b z (Mo.raw k x m) ∧ w.grownBy w' (some b) := by
  obtain ⟨_, h16, hxk⟩ := hm.out
  have hx : x / 2 ^ k = 0 := Int.ediv_eq_zero_of_lt x0 (by simpa using hxk)
  clear hxk
  go_enter Tryd.func85, Tryd.ntmps85
  go_wp2
  go_loopw [7, 21] (fun _ i wr => ∃ j : Nat, j ≤ k ∧ i = .int .i64 j ∧ Hid (WrAt wr b z (Mo.raw j x m)) ∧ Hid (w.grownBy wr (some b))) (fun _ i _ => k - (intOf i).toNat)
  case atStart => exact ⟨0, by omega, rfl, hw, grown_refl _ _⟩
  case round =>
    obtain ⟨j, hj, rfl, HW, HB⟩ := hrel
    by_cases hlt : j < k
    · have hlt' : (j : Int) < k := by omega
      have hpos : (0 : Int) < 2 ^ j := Int.pow_pos (by decide)
      have q0 : 0 ≤ x / 2 ^ j := Int.ediv_nonneg x0 (by omega)
      have q1 : x / 2 ^ j ≤ x := Int.ediv_le_self _ x0
      have e1 := and_one (x := x / 2 ^ j) q0 (by omega)
      have e2 := wrap_u8 (x := x / 2 ^ j % 2) (by omega) (by omega)
      have HN := raw_nR j x m
      have n1 : (Mo.raw j x m).nD ≤ 700000 := by omega
      have n2 : (Mo.raw j x m).nR ≤ 700000 := by omega
      clear hx HN
      go_wp2_with (go_at_call 88; refine (bit_wr _ b z _ (x / 2 ^ j % 2) hz n1 n2 (by omega) (by omega) HW).mono ?_; rintro e w1 ⟨rfl, HA, HB1⟩; replace HA : Hid _ := HA; replace HB1 : Hid _ := HB1)
      go_roundw
      case rel => exact ⟨j + 1, by omega, by go_num, by rw [raw_succ]; exact HA, grown_trans HB.out HB1.out⟩
      case measure => simp [intOf]; omega
    · have e : j = k := by omega
      subst e
      clear hlt
      go_wp2
      go_ret
      exact ⟨rfl, HW.out, HB.out⟩

end Go.Proofs.YtohgbdhackmooaaDoor
