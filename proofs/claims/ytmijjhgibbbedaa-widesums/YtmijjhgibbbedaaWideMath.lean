/-
  Mathematics of wide numbers (layer 2), no program in it: a whole number's two words (hiW, loW), its eight digits to the base 65536 (dg), and how sums, products and quotients go by words and by digits, modulo 2 to the 128th.
-/
import Derived.Test.YtmijjhgibbbedaaFixMath
import Derived.Laws.BitsAllLaws
namespace Go.Proofs.Ytmijjhgibbbedaa
set_option linter.unusedVariables false
open Go.RowKit

def hiW (n : Int) : Int := (n / 18446744073709551616 + 9223372036854775808) % 18446744073709551616 - 9223372036854775808
def loW (n : Int) : Int := n % 18446744073709551616
def dg (n : Int) (j : Nat) : Int := n / p2 (16 * j) % 65536

def cmpF (a b : Int) : Int := if a < b then -1 else if a = b then 0 else 1
theorem wrap64_bd (x : Int) : -9223372036854775808 ≤ wrap64 x ∧ wrap64 x ≤ 9223372036854775807 := by unfold wrap64; omega
theorem hiW_bd (n : Int) : -9223372036854775808 ≤ hiW n ∧ hiW n ≤ 9223372036854775807 := by unfold hiW; omega
theorem loW_bd (n : Int) : 0 ≤ loW n ∧ loW n ≤ 18446744073709551615 := by unfold loW; omega
theorem dg_bd (n : Int) (j : Nat) : 0 ≤ dg n j ∧ dg n j ≤ 65535 := by unfold dg; omega
theorem hiW_of {h l : Int} (h1 : -9223372036854775808 ≤ h) (h2 : h ≤ 9223372036854775807) (h3 : 0 ≤ l) (h4 : l ≤ 18446744073709551615) : hiW (h * 18446744073709551616 + l) = h := by unfold hiW; omega
theorem loW_of {h l : Int} (h3 : 0 ≤ l) (h4 : l ≤ 18446744073709551615) : loW (h * 18446744073709551616 + l) = l := by unfold loW; omega
theorem words_of (a : Int) : ∃ k, hiW a * 18446744073709551616 + loW a = a + 340282366920938463463374607431768211456 * k :=
  ⟨(hiW a - a / 18446744073709551616) / 18446744073709551616, by unfold hiW loW; omega⟩
theorem hiW_same (a k : Int) : hiW (a + 340282366920938463463374607431768211456 * k) = hiW a := by unfold hiW; omega
theorem loW_same (a k : Int) : loW (a + 340282366920938463463374607431768211456 * k) = loW a := by unfold loW; omega
theorem words_in {a : Int} (h1 : -170141183460469231731687303715884105728 ≤ a) (h2 : a < 170141183460469231731687303715884105728) : hiW a * 18446744073709551616 + loW a = a := by unfold hiW loW; omega

/-- Sums. -/
theorem nat_top (x : Nat) (h : x < 18446744073709551616) : x / 9223372036854775808 = (x.testBit 63).toNat := by
  rw [Nat.testBit_eq_decide_div_mod_eq]
  have : x / 2 ^ 63 % 2 = x / 9223372036854775808 := by omega
  rw [this]
  by_cases e : x / 9223372036854775808 = 1
  · simp [e]
  · have : x / 9223372036854775808 = 0 := by omega
    simp [this]
theorem carry_nat (x y : Nat) (hx : x < 18446744073709551616) (hy : y < 18446744073709551616) :
    ((x &&& y) ||| ((x ||| y) &&& (18446744073709551615 - (x + y) % 18446744073709551616))) / 9223372036854775808 = (x + y) / 18446744073709551616 := by
  have h1 : x &&& y < 18446744073709551616 := Nat.lt_of_le_of_lt Nat.and_le_left hx
  have h2 : (x ||| y) &&& (18446744073709551615 - (x + y) % 18446744073709551616) < 18446744073709551616 := Nat.lt_of_le_of_lt Nat.and_le_right (by omega)
  have h3 : (x &&& y) ||| ((x ||| y) &&& (18446744073709551615 - (x + y) % 18446744073709551616)) < 18446744073709551616 := Nat.or_lt_two_pow (n := 64) h1 h2
  rw [nat_top _ h3, Nat.testBit_or, Nat.testBit_and, Nat.testBit_and, Nat.testBit_or]
  have b1 := nat_top x hx
  have b2 := nat_top y hy
  have b3 := nat_top (18446744073709551615 - (x + y) % 18446744073709551616) (by omega)
  generalize x.testBit 63 = p at *
  generalize y.testBit 63 = q at *
  generalize (18446744073709551615 - (x + y) % 18446744073709551616).testBit 63 = r at *
  cases p <;> cases q <;> cases r <;> simp at * <;> omega
theorem carry_is {l m : Int} (h1 : 0 ≤ l) (h2 : l ≤ 18446744073709551615) (h3 : 0 ≤ m) (h4 : m ≤ 18446744073709551615) :
    bits BinOp.or IntKind.u64 (bits BinOp.and IntKind.u64 l m) (bits BinOp.andNot IntKind.u64 (bits BinOp.or IntKind.u64 l m) (IntKind.u64.wrap (l + m))) / 9223372036854775808 = (l + m) / 18446744073709551616 := by
  obtain ⟨x, rfl⟩ := Int.eq_ofNat_of_zero_le h1
  obtain ⟨y, rfl⟩ := Int.eq_ofNat_of_zero_le h3
  have e1 : IntKind.u64.wrap ((x : Int) + (y : Int)) = (((x + y) % 18446744073709551616 : Nat) : Int) := by rw [IntKind.wrap_u64]; omega
  have h1' : x &&& y < 18446744073709551616 := Nat.lt_of_le_of_lt Nat.and_le_left (by omega)
  have h2' : x ||| y < 18446744073709551616 := Nat.or_lt_two_pow (n := 64) (by omega) (by omega)
  have h3' : (x ||| y) &&& (18446744073709551615 - (x + y) % 18446744073709551616) < 18446744073709551616 := Nat.lt_of_le_of_lt Nat.and_le_right (by omega)
  rw [e1, u64_and_nat x y (by omega) (by omega), u64_or_nat x y (by omega) (by omega), u64_andNot_nat _ _ h2' (by omega), u64_or_nat _ _ h1' h3']
  have := carry_nat x y (by omega) (by omega)
  omega
theorem plus_hi {h l h' l' : Int} (h1 : -9223372036854775808 ≤ h) (h2 : h ≤ 9223372036854775807) (h3 : 0 ≤ l) (h4 : l ≤ 18446744073709551615) (h5 : -9223372036854775808 ≤ h') (h6 : h' ≤ 9223372036854775807) (h7 : 0 ≤ l') (h8 : l' ≤ 18446744073709551615) :
    wrap64 (wrap64 (h + h') + wrap64 (bits BinOp.or IntKind.u64 (bits BinOp.and IntKind.u64 l l') (bits BinOp.andNot IntKind.u64 (bits BinOp.or IntKind.u64 l l') (IntKind.u64.wrap (l + l'))) / 9223372036854775808))
      = hiW (h * 18446744073709551616 + l + (h' * 18446744073709551616 + l')) := by
  rw [carry_is h3 h4 h7 h8]
  simp only [wrap64, hiW]
  omega
theorem plus_lo {h l h' l' : Int} : IntKind.u64.wrap (l + l') = loW (h * 18446744073709551616 + l + (h' * 18446744073709551616 + l')) := by
  rw [IntKind.wrap_u64]; unfold loW; omega
theorem of_hi {x : Int} (h1 : -9223372036854775808 ≤ x) (h2 : x ≤ 9223372036854775807) : x / 9223372036854775808 = hiW x := by unfold hiW; omega
theorem of_lo (x : Int) : IntKind.u64.wrap x = loW x := by rw [IntKind.wrap_u64]; rfl

/-- What is put into two words and taken out of them is the same, modulo 2 to the 128th. -/
theorem sum_same (a b : Int) : ∃ k, hiW a * 18446744073709551616 + loW a + (hiW b * 18446744073709551616 + loW b) = a + b + 340282366920938463463374607431768211456 * k := by
  obtain ⟨k, hk⟩ := words_of a
  obtain ⟨m, hm⟩ := words_of b
  exact ⟨k + m, by omega⟩
theorem hiW_sum (a b : Int) : hiW (hiW a * 18446744073709551616 + loW a + (hiW b * 18446744073709551616 + loW b)) = hiW (a + b) := by
  obtain ⟨k, hk⟩ := sum_same a b; rw [hk, hiW_same]
theorem loW_sum (a b : Int) : loW (hiW a * 18446744073709551616 + loW a + (hiW b * 18446744073709551616 + loW b)) = loW (a + b) := by
  obtain ⟨k, hk⟩ := sum_same a b; rw [hk, loW_same]

/-- Opposites, products. -/
theorem xorL_i64 {a : Int} (h1 : -9223372036854775808 ≤ a) (h2 : a ≤ 9223372036854775807) : bits .xor .i64 (-1) a = -1 - a := by
  have e : bits .xor .i64 (-1) a = bits .xor .i64 a (-1) := by
    show IntKind.i64.wrap ((BitVec.ofInt 64 (-1) ^^^ BitVec.ofInt 64 a).toNat : Nat) = IntKind.i64.wrap ((BitVec.ofInt 64 a ^^^ BitVec.ofInt 64 (-1)).toNat : Nat)
    rw [BitVec.xor_comm]
  rw [e, xorAll_i64 h1 h2]; omega
theorem xorL_u64 {a : Int} (h1 : 0 ≤ a) (h2 : a ≤ 18446744073709551615) : bits .xor .u64 IntKind.u64.max a = 18446744073709551615 - a := by
  have e : bits .xor .u64 IntKind.u64.max a = bits .xor .u64 a 18446744073709551615 := by
    show IntKind.u64.wrap ((BitVec.ofInt 64 18446744073709551615 ^^^ BitVec.ofInt 64 a).toNat : Nat) = IntKind.u64.wrap ((BitVec.ofInt 64 a ^^^ BitVec.ofInt 64 18446744073709551615).toNat : Nat)
    rw [BitVec.xor_comm]
  rw [e, xorAll_u64 h1 h2]
theorem neg_words {a : Int} : hiW ((-1 - hiW a) * 18446744073709551616 + (18446744073709551615 - loW a) + (hiW 1 * 18446744073709551616 + loW 1)) = hiW (-a) ∧ loW ((-1 - hiW a) * 18446744073709551616 + (18446744073709551615 - loW a) + (hiW 1 * 18446744073709551616 + loW 1)) = loW (-a) := by
  obtain ⟨k, hk⟩ := words_of a
  have e : (-1 - hiW a) * 18446744073709551616 + (18446744073709551615 - loW a) + (hiW 1 * 18446744073709551616 + loW 1) = -a + 340282366920938463463374607431768211456 * (-k) := by
    have h1 : hiW 1 = 0 := by unfold hiW; omega
    have h2 : loW 1 = 1 := by unfold loW; omega
    rw [h1, h2]; omega
  rw [e, hiW_same, loW_same]; exact ⟨rfl, rfl⟩
theorem mul_parts (x1 x0 y1 y0 : Int) : (4294967296 * x1 + x0) * (4294967296 * y1 + y0) = 18446744073709551616 * (x1 * y1) + 4294967296 * (x1 * y0) + 4294967296 * (x0 * y1) + x0 * y0 := by
  have e1 : 4294967296 * x1 * (4294967296 * y1) = 18446744073709551616 * (x1 * y1) := by
    rw [Int.mul_assoc, Int.mul_left_comm x1 4294967296 y1, ← Int.mul_assoc 4294967296 4294967296]; omega
  have e2 : 4294967296 * x1 * y0 = 4294967296 * (x1 * y0) := Int.mul_assoc _ _ _
  have e3 : x0 * (4294967296 * y1) = 4294967296 * (x0 * y1) := Int.mul_left_comm _ _ _
  rw [Int.add_mul, Int.mul_add, Int.mul_add, e1, e2, e3]; omega
theorem mul_bd {x y : Int} (h1 : 0 ≤ x) (h2 : x ≤ 4294967295) (h3 : 0 ≤ y) (h4 : y ≤ 4294967295) : 0 ≤ x * y ∧ x * y ≤ 18446744065119617025 := by
  constructor
  · exact Int.mul_nonneg h1 h3
  · have := Int.mul_le_mul h2 h4 h3 (by omega); omega
theorem prod_hi {x y : Int} (h1 : 0 ≤ x) (h2 : x ≤ 18446744073709551615) (h3 : 0 ≤ y) (h4 : y ≤ 18446744073709551615) :
    IntKind.u64.wrap (IntKind.u64.wrap (IntKind.u64.wrap (IntKind.u64.wrap (x / 4294967296 * (y / 4294967296)) + IntKind.u64.wrap (x / 4294967296 * (y % 4294967296)) / 4294967296) + IntKind.u64.wrap (x % 4294967296 * (y / 4294967296)) / 4294967296) +
      IntKind.u64.wrap (IntKind.u64.wrap (IntKind.u64.wrap (x % 4294967296 * (y % 4294967296)) / 4294967296 + IntKind.u64.wrap (x / 4294967296 * (y % 4294967296)) % 4294967296) + IntKind.u64.wrap (x % 4294967296 * (y / 4294967296)) % 4294967296) / 4294967296)
      = x * y / 18446744073709551616 := by
  have hx : x = 4294967296 * (x / 4294967296) + x % 4294967296 := by omega
  have hy : y = 4294967296 * (y / 4294967296) + y % 4294967296 := by omega
  have hp := mul_parts (x / 4294967296) (x % 4294967296) (y / 4294967296) (y % 4294967296)
  rw [← hx, ← hy] at hp
  have b1 := mul_bd (x := x / 4294967296) (y := y / 4294967296) (by omega) (by omega) (by omega) (by omega)
  have b2 := mul_bd (x := x / 4294967296) (y := y % 4294967296) (by omega) (by omega) (by omega) (by omega)
  have b3 := mul_bd (x := x % 4294967296) (y := y / 4294967296) (by omega) (by omega) (by omega) (by omega)
  have b4 := mul_bd (x := x % 4294967296) (y := y % 4294967296) (by omega) (by omega) (by omega) (by omega)
  rw [hp]
  generalize x / 4294967296 * (y / 4294967296) = A at *
  generalize x / 4294967296 * (y % 4294967296) = B at *
  generalize x % 4294967296 * (y / 4294967296) = C at *
  generalize x % 4294967296 * (y % 4294967296) = D at *
  clear hp hx hy
  simp only [IntKind.wrap_u64]
  omega
theorem times_core {h l n : Int} (h5 : -9223372036854775808 ≤ n) (h6 : n ≤ 9223372036854775807) :
    ∃ Q : Int, l * IntKind.u64.wrap n = Q ∧ (h * 18446744073709551616 + l) * n = 18446744073709551616 * (h * n) + Q + 18446744073709551616 * (l * (n / 9223372036854775808)) := by
  refine ⟨_, rfl, ?_⟩
  have e : (h * 18446744073709551616 + l) * n = 18446744073709551616 * (h * n) + l * n := by
    rw [Int.add_mul, Int.mul_comm h, Int.mul_assoc]
  by_cases hn : n < 0
  · have e1 : n / 9223372036854775808 = -1 := by omega
    have e2 : IntKind.u64.wrap n = n + 18446744073709551616 := by rw [IntKind.wrap_u64]; omega
    rw [e, e1, e2, Int.mul_add]; omega
  · have e1 : n / 9223372036854775808 = 0 := by omega
    have e2 : IntKind.u64.wrap n = n := by rw [IntKind.wrap_u64]; omega
    rw [e, e1, e2, Int.mul_zero]; omega
theorem times_hi {h l n : Int} (h3 : 0 ≤ l) (h4 : l ≤ 18446744073709551615) (h5 : -9223372036854775808 ≤ n) (h6 : n ≤ 9223372036854775807) :
    wrap64 (wrap64 (wrap64 (l * IntKind.u64.wrap n / 18446744073709551616) + wrap64 (h * n)) + wrap64 (wrap64 l * (n / 9223372036854775808))) = hiW ((h * 18446744073709551616 + l) * n) := by
  obtain ⟨Q, hQ, e⟩ := times_core (h := h) (l := l) h5 h6
  rw [hQ, e]
  by_cases hn : n < 0
  · have e1 : n / 9223372036854775808 = -1 := by omega
    rw [e1]
    simp only [wrap64, hiW]
    omega
  · have e1 : n / 9223372036854775808 = 0 := by omega
    rw [e1]
    simp only [wrap64, hiW]
    omega
theorem times_lo {h l n : Int} (h5 : -9223372036854775808 ≤ n) (h6 : n ≤ 9223372036854775807) : loW (l * IntKind.u64.wrap n) = loW ((h * 18446744073709551616 + l) * n) := by
  obtain ⟨Q, hQ, e⟩ := times_core (h := h) (l := l) h5 h6
  rw [hQ, e]; unfold loW; omega
theorem mul_same (a n : Int) : ∃ k, (hiW a * 18446744073709551616 + loW a) * n = a * n + 340282366920938463463374607431768211456 * k := by
  obtain ⟨k, hk⟩ := words_of a
  exact ⟨k * n, by rw [hk, Int.add_mul, Int.mul_assoc]⟩
theorem hiW_mul (a n : Int) : hiW ((hiW a * 18446744073709551616 + loW a) * n) = hiW (a * n) := by
  obtain ⟨k, hk⟩ := mul_same a n; rw [hk, hiW_same]
theorem loW_mul (a n : Int) : loW ((hiW a * 18446744073709551616 + loW a) * n) = loW (a * n) := by
  obtain ⟨k, hk⟩ := mul_same a n; rw [hk, loW_same]

/-- Quotients by powers of two. -/
theorem div_div (a : Int) {p q : Int} (hp : 0 ≤ p) : a / (p * q) = a / p / q := (Int.ediv_ediv_of_nonneg hp).symm
theorem p2_at64 : p2 64 = 18446744073709551616 := by simp [p2]
theorem shr_big {h l : Int} {k : Nat} (h3 : 0 ≤ l) (h4 : l ≤ 18446744073709551615) (hk : 64 ≤ k) : (h * 18446744073709551616 + l) / p2 k = h / p2 (k - 64) := by
  have e : p2 k = 18446744073709551616 * p2 (k - 64) := by
    rw [← p2_at64, ← p2_add, show 64 + (k - 64) = k by omega]
  have e2 : (h * 18446744073709551616 + l) / 18446744073709551616 = h := by omega
  rw [e, div_div _ (by omega), e2]
theorem shr_hi {h l : Int} {k : Nat} (h1 : -9223372036854775808 ≤ h) (h2 : h ≤ 9223372036854775807) (h3 : 0 ≤ l) (h4 : l ≤ 18446744073709551615) : h / p2 k = hiW ((h * 18446744073709551616 + l) / p2 k) := by
  have hp := p2_pos k
  have hb := div_bd h (p2 k) hp h1 h2
  have e2 : (h * 18446744073709551616 + l) / 18446744073709551616 = h := by omega
  have e : (h * 18446744073709551616 + l) / p2 k / 18446744073709551616 = h / p2 k := by
    rw [← div_div _ (show 0 ≤ p2 k by omega), Int.mul_comm (p2 k) 18446744073709551616, div_div _ (by omega), e2]
  unfold hiW
  rw [e]; omega
theorem shr_lo {h l : Int} {k : Nat} (h1 : -9223372036854775808 ≤ h) (h2 : h ≤ 9223372036854775807) (h3 : 0 ≤ l) (h4 : l ≤ 18446744073709551615) (hk : k < 64) :
    bits BinOp.or IntKind.u64 (l / p2 k) (IntKind.u64.wrap (IntKind.u64.wrap h * p2 (64 - k))) = loW ((h * 18446744073709551616 + l) / p2 k) := by
  have hp := p2_pos k
  have hq := p2_pos (64 - k)
  have hM : p2 k * p2 (64 - k) = 18446744073709551616 := by
    rw [← p2_add, show k + (64 - k) = 64 by omega, p2_at64]
  have hqn : p2 (64 - k) = ((2 ^ (64 - k) : Nat) : Int) := by unfold p2; simp
  generalize p2 k = p at *
  generalize p2 (64 - k) = q at *
  have hr0 : 0 ≤ h % p := Int.emod_nonneg _ (by omega)
  have hr1 : h % p < p := Int.emod_lt_of_pos _ (by omega)
  have hx0 : 0 ≤ h % p * q := Int.mul_nonneg hr0 (by omega)
  have hx1 : h % p * q + q ≤ 18446744073709551616 := by
    have : (h % p + 1) * q ≤ p * q := Int.mul_le_mul_of_nonneg_right (by omega) (by omega)
    rw [Int.add_mul, Int.one_mul, hM] at this; exact this
  have hy0 : 0 ≤ l / p := Int.ediv_nonneg h3 (by omega)
  have hy1 : l / p < q := Int.ediv_lt_of_lt_mul (by omega) (by rw [Int.mul_comm]; omega)
  have e1 : IntKind.u64.wrap (IntKind.u64.wrap h * q) = h % p * q := by
    have a1 : h % 18446744073709551616 = h - 18446744073709551616 * (h / 18446744073709551616) := by omega
    have a2 : h * q = 18446744073709551616 * (h / p) + h % p * q := by
      have : h = p * (h / p) + h % p := (Int.mul_ediv_add_emod h p).symm
      conv => lhs; rw [this]
      rw [Int.add_mul, Int.mul_assoc, Int.mul_comm (h / p) q, ← Int.mul_assoc, hM]
    rw [IntKind.wrap_u64, IntKind.wrap_u64, a1, Int.sub_mul, a2, Int.mul_assoc]
    generalize h / 18446744073709551616 * q = z
    omega
  have e2 : (h * 18446744073709551616 + l) / p = h * q + l / p := by
    have : h * 18446744073709551616 + l = l + p * (h * q) := by rw [← hM, Int.mul_left_comm]; omega
    rw [this, Int.add_mul_ediv_left _ _ (by omega)]; omega
  have e3 : loW (h * q + l / p) = h % p * q + l / p := by
    have a2 : h * q = 18446744073709551616 * (h / p) + h % p * q := by
      have : h = p * (h / p) + h % p := (Int.mul_ediv_add_emod h p).symm
      conv => lhs; rw [this]
      rw [Int.add_mul, Int.mul_assoc, Int.mul_comm (h / p) q, ← Int.mul_assoc, hM]
    unfold loW; rw [a2]; omega
  rw [e1, e2, e3]
  obtain ⟨y, hy⟩ := Int.eq_ofNat_of_zero_le hy0
  obtain ⟨r, hr⟩ := Int.eq_ofNat_of_zero_le hr0
  have hxn : h % p * q = ((r * 2 ^ (64 - k) : Nat) : Int) := by rw [hr, hqn]; simp
  rw [hxn, hqn] at hx1
  rw [hy, hqn] at hy1
  rw [hxn, hy]
  generalize hz : r * 2 ^ (64 - k) = z at *
  generalize ht : 2 ^ (64 - k) = t at *
  rw [u64_or_nat y z (by omega) (by omega), Nat.or_comm, nat_join (64 - k) z y (by rw [← hz, ← ht]; simp) (by omega)]
  omega

/-- What fits into one word, and what is held within bounds. -/
theorem int_lo (a : Int) : loW (wrap64 (loW a)) = loW a := by unfold loW wrap64; omega
theorem int_hi {a : Int} (h1 : -9223372036854775808 ≤ a) (h2 : a ≤ 9223372036854775807) : hiW (wrap64 (loW a)) = hiW a ∧ wrap64 (loW a) = a := by unfold hiW loW wrap64; omega
theorem int_no {a : Int} (h1 : -170141183460469231731687303715884105728 ≤ a) (h2 : a < 170141183460469231731687303715884105728) (h : ¬ (-9223372036854775808 ≤ a ∧ a ≤ 9223372036854775807)) : (hiW a == hiW (wrap64 (loW a))) = false := by
  rw [beq_eq_false_iff_ne]; unfold hiW loW wrap64; omega
theorem sat_side {a n : Int} (h : ¬ (-9223372036854775808 ≤ a ∧ a ≤ 9223372036854775807)) : satF a n = if a < 0 then satF (-9223372036854775808) n else satF 9223372036854775807 n := by
  have hb := clamp_bd n 1 63 (by omega)
  have hp1 := p2_pos ((clamp n 1 63).toNat - 1)
  have hp2 := p2_62 (n := (clamp n 1 63).toNat - 1) (by omega)
  unfold satF
  generalize p2 ((clamp n 1 63).toNat - 1) = p at *
  unfold clamp
  repeat' split
  all_goals omega
theorem sign_hi {a : Int} (h1 : -170141183460469231731687303715884105728 ≤ a) (h2 : a < 170141183460469231731687303715884105728) : hiW a < 0 ↔ a < 0 := by unfold hiW; omega
def rndW (a s : Int) : Int := if clamp s 0 127 = 0 then a else a / p2 (clamp s 0 127).toNat + a / p2 ((clamp s 0 127).toNat - 1) % 2
theorem div_in {a : Int} (h1 : -170141183460469231731687303715884105728 ≤ a) (h2 : a < 170141183460469231731687303715884105728) (k : Nat) : -170141183460469231731687303715884105728 ≤ a / p2 k ∧ a / p2 k < 170141183460469231731687303715884105728 := by
  have hp := p2_pos k
  constructor
  · apply Int.le_ediv_of_mul_le (by omega)
    have : -170141183460469231731687303715884105728 * p2 k ≤ -170141183460469231731687303715884105728 * 1 := Int.mul_le_mul_of_nonpos_left (by omega) hp
    omega
  · apply Int.ediv_lt_of_lt_mul (by omega)
    have : 170141183460469231731687303715884105728 * 1 ≤ 170141183460469231731687303715884105728 * p2 k := Int.mul_le_mul_of_nonneg_left hp (by omega)
    omega
theorem half_of (s : Int) (h : clamp s 0 127 ≠ 0) : (clamp (clamp s 0 127 - 1) 0 127).toNat = (clamp s 0 127).toNat - 1 ∧ (clamp (clamp s 0 127) 0 127).toNat = (clamp s 0 127).toNat := by
  have hb := clamp_bd s 0 127 (by omega)
  generalize clamp s 0 127 = k at *
  rw [clamp_in _ _ _ (by omega) (by omega), clamp_in _ _ _ (by omega) (by omega)]
  omega
theorem half_sum {y x : Int} : hiW (hiW y * 18446744073709551616 + loW y + (0 * 18446744073709551616 + x % 2)) = hiW (y + x % 2) ∧ loW (hiW y * 18446744073709551616 + loW y + (0 * 18446744073709551616 + x % 2)) = loW (y + x % 2) := by
  obtain ⟨k, hk⟩ := words_of y
  have e : hiW y * 18446744073709551616 + loW y + (0 * 18446744073709551616 + x % 2) = y + x % 2 + 340282366920938463463374607431768211456 * k := by omega
  rw [e, hiW_same, loW_same]; exact ⟨rfl, rfl⟩
theorem half_bit (x : Int) : bits .and .u64 (loW x) 1 = x % 2 := by
  have h := loW_bd x
  rw [u64_and1 h.1 h.2]; unfold loW; omega
theorem lo_mod2 (a : Int) : loW a % 2 = a % 2 := by unfold loW; omega
theorem half_words {x : Int} (h1 : 0 ≤ x) (h2 : x ≤ 1) : hiW x = 0 ∧ loW x = x := by unfold hiW loW; omega
end Go.Proofs.Ytmijjhgibbbedaa
