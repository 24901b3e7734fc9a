/-
  Plain mathematics of layer 8 (swift): a power of two is told by its bits, where its one bit stands is told by a table; sixteen raw bits lie in three bytes. No condition; no program.
-/
import Derived.Test.YtiejdlapgppbkaaDoorReaderMath
import Derived.Test.YtiejdlapgppbkaaDoorReaderCalls
namespace Go.Proofs.YtiejdlapgppbkaaDoor
set_option linter.unusedVariables false
open Go.RowKit

/-- The table of package bits, as the row lists it. -/
def tzT : List Int := [0, 1, 28, 2, 29, 14, 24, 3, 30, 22, 20, 15, 25, 17, 4, 8, 31, 27, 13, 23, 21, 19, 16, 7, 26, 12, 18, 6, 11, 5, 10, 9]
def tzF (i : Nat) : Int := tzT.getD i 0
def tzIx (k : Nat) : Nat := 2 ^ k * 125613361 % 4294967296 / 134217728

theorem tz_key : ∀ k : Fin 25, bits BinOp.and IntKind.u32 (2 ^ k.val) (-(2 ^ k.val) % 4294967296) * 125613361 % 4294967296 / 134217728 = (tzIx k.val : Int) ∧ tzIx k.val < 32 ∧ tzF (tzIx k.val) = (k.val : Int) := by
  decide +kernel
theorem tz_at {k : Nat} (h : k ≤ 24) : bits BinOp.and IntKind.u32 (2 ^ k) (-(2 ^ k) % 4294967296) * 125613361 % 4294967296 / 134217728 = (tzIx k : Int) ∧ tzIx k < 32 ∧ tzF (tzIx k) = (k : Int) := tz_key ⟨k, Nat.lt_succ_of_le h⟩

theorem and_u32 {a c : Nat} (ha : a < 4294967296) (hc : c < 4294967296) : bits BinOp.and IntKind.u32 (a : Int) (c : Int) = ((a &&& c : Nat) : Int) := by
  show IntKind.u32.wrap ((BitVec.ofInt 32 (a : Int) &&& BitVec.ofInt 32 (c : Int)).toNat : Nat) = _
  rw [BitVec.toNat_and, BitVec.toNat_ofInt, BitVec.toNat_ofInt]
  have m1 : ((a : Int) % ((2 ^ 32 : Nat) : Int)).toNat = a := by rw [Int.emod_eq_of_lt (by omega) (by omega), Int.toNat_natCast]
  have m2 : ((c : Int) % ((2 ^ 32 : Nat) : Int)).toNat = c := by rw [Int.emod_eq_of_lt (by omega) (by omega), Int.toNat_natCast]
  rw [m1, m2]
  have hl : a &&& c ≤ a := Nat.and_le_left
  exact wrap_u32 (by omega) (by omega)

/-- A number is a power of two, or its bits tell that it is none. -/
theorem two_or {t : Int} (h1 : 1 ≤ t) (h2 : t ≤ 16777216) : (∃ k : Nat, k ≤ 24 ∧ t = 2 ^ k ∧ bits BinOp.and IntKind.u32 t (t - 1) = 0) ∨ ¬ bits BinOp.and IntKind.u32 t (t - 1) = 0 := by
  obtain ⟨a, rfl⟩ : ∃ a : Nat, t = a := ⟨t.toNat, by omega⟩
  have e : bits BinOp.and IntKind.u32 (a : Int) ((a : Int) - 1) = ((a &&& (a - 1) : Nat) : Int) := by
    rw [show (a : Int) - 1 = ((a - 1 : Nat) : Int) by omega]
    exact and_u32 (by omega) (by omega)
  rw [e]
  by_cases h : a &&& (a - 1) = 0
  · left
    obtain ⟨k, hk⟩ := (Nat.and_sub_one_eq_zero_iff_isPowerOfTwo (by omega)).1 h
    refine ⟨k, ?_, by rw [hk]; push_cast; rfl, by rw [h]; rfl⟩
    by_cases hk24 : k ≤ 24
    · exact hk24
    · have : 2 ^ 25 ≤ 2 ^ k := Nat.pow_le_pow_right (by decide) (by omega)
      omega
  · right; omega

/-- The byte that stands j ahead of the last one. -/
def bq (n : Nat) (p : Nat → Int) (j : Nat) : Int := if j < n then p (n - 1 - j) else 0
theorem bq_bd {n : Nat} {p : Nat → Int} (h : Bx n p) (j : Nat) : 0 ≤ bq n p j ∧ bq n p j ≤ 255 := by
  unfold bq; split
  · exact h.b _
  · omega
theorem rbit_bq (n : Nat) (p : Nat → Int) (i : Nat) : rbit n p i = bq n p (i / 8) / 2 ^ (i % 8) % 2 := by
  unfold rbit bq; split
  · rfl
  · simp
def three (n : Nat) (p : Nat → Int) (j : Nat) : Int := bq n p j + bq n p (j + 1) * 256 + bq n p (j + 2) * 65536
theorem three_bd {n : Nat} {p : Nat → Int} (h : Bx n p) (j : Nat) : 0 ≤ three n p j ∧ three n p j < 16777216 := by
  have h0 := bq_bd h j
  have h1 := bq_bd h (j + 1)
  have h2 := bq_bd h (j + 2)
  unfold three; omega

theorem three_bit {a b c : Int} (ha : 0 ≤ a ∧ a ≤ 255) (hb : 0 ≤ b ∧ b ≤ 255) (hc : 0 ≤ c ∧ c ≤ 255) : ∀ t : Nat, t < 24 → (a + b * 256 + c * 65536) / 2 ^ t % 2 = (if t / 8 = 0 then a else if t / 8 = 1 then b else c) / 2 ^ (t % 8) % 2
  | 0, _ | 1, _ | 2, _ | 3, _ | 4, _ | 5, _ | 6, _ | 7, _ | 8, _ | 9, _ | 10, _ | 11, _ | 12, _ | 13, _ | 14, _ | 15, _ | 16, _ | 17, _ | 18, _ | 19, _ | 20, _ | 21, _ | 22, _ | 23, _ => by
    first | omega | (simp; omega)
  | t + 24, h => by omega

theorem rsum_three {n : Nat} {p : Nat → Int} (h : Bx n p) (i k : Nat) (hk : k ≤ 16) : rsum n p i k = three n p (i / 8) / 2 ^ (i % 8) % 2 ^ k := by
  have h3 := three_bd h (i / 8)
  refine rsum_of (Int.ediv_nonneg h3.1 (Int.le_of_lt (Int.pow_pos (by decide)))) k fun j hj => ?_
  rw [rbit_bq, Int.ediv_ediv_of_nonneg (Int.le_of_lt (Int.pow_pos (by decide))), ← Int.pow_add]
  have hs := Nat.mod_lt i (show 0 < 8 by decide)
  have e0 := Nat.div_add_mod i 8
  unfold three
  rw [three_bit (bq_bd h _) (bq_bd h _) (bq_bd h _) (i % 8 + j) (by omega)]
  have e1 : (i + j) % 8 = (i % 8 + j) % 8 := by omega
  rw [e1]
  by_cases c0 : (i % 8 + j) / 8 = 0
  · rw [if_pos c0, show (i + j) / 8 = i / 8 by omega]
  · rw [if_neg c0]
    by_cases c1 : (i % 8 + j) / 8 = 1
    · rw [if_pos c1, show (i + j) / 8 = i / 8 + 1 by omega]
    · rw [if_neg c1, show (i + j) / 8 = i / 8 + 2 by omega]

theorem mask_u32 {x : Int} {k : Nat} (h0 : 0 ≤ x) (h1 : x < 4294967296) (hk : k ≤ 16) : bits BinOp.and IntKind.u32 x (2 ^ k - 1) = x % 2 ^ k := by
  obtain ⟨a, rfl⟩ : ∃ a : Nat, x = a := ⟨x.toNat, by omega⟩
  have hp : 2 ^ k ≤ 2 ^ 16 := Nat.pow_le_pow_right (by decide) hk
  have hp1 : 1 ≤ 2 ^ k := Nat.one_le_two_pow
  have e : ((2 : Int) ^ k - 1) = ((2 ^ k - 1 : Nat) : Int) := by
    rw [Int.ofNat_sub hp1]; push_cast; rfl
  rw [e, and_u32 (by omega) (by omega), Nat.and_two_pow_sub_one_eq_mod]
  push_cast; rfl
end Go.Proofs.YtiejdlapgppbkaaDoor
