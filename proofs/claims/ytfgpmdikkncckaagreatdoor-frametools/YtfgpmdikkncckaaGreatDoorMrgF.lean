/-
  Plain mathematics of layer 1 (fix): held within, in so many bits, rounded, low bits, signs, zig and zag, as functions on whole numbers, and what the machine's shifts come to. No condition; no program.
  What each function of package fix answers, as a function on whole numbers: contracts for every input of its types (integer arguments within their kinds).
-/
import Derived.WalkKit
import Derived.Laws.Bits128
import Derived.Laws.ShiftsVarLaws
import Derived.Test.YtfgpmdikkncckaaGreatDoorRows
import Derived.ProofKit
import Derived.OpenShut
import Derived.WalkSpells
import Derived.Handy
import Derived.WalkLawsBesides
namespace Go.Proofs.YtfgpmdikkncckaaGreatDoor
set_option linter.unusedVariables false
open Go.RowKit

def clamp (x lo hi : Int) : Int := if x < lo then lo else if hi < x then hi else x
def p2 (n : Nat) : Int := 2 ^ n
def satF (x n : Int) : Int := clamp x (-(p2 ((clamp n 1 63).toNat - 1))) (p2 ((clamp n 1 63).toNat - 1) - 1)
def rndF (x s : Int) : Int := (2 * x + p2 (clamp s 0 62).toNat) / (2 * p2 (clamp s 0 62).toNat)
def mulF (a b : Int) : Int := satF (rndF (a * b) 15) 32
def lowF (x n : Int) : Int := x % p2 (clamp n 0 64).toNat
def sgnF (x n : Int) : Int :=
  if x % p2 (clamp n 1 64).toNat < p2 ((clamp n 1 64).toNat - 1) then x % p2 (clamp n 1 64).toNat else x % p2 (clamp n 1 64).toNat - p2 (clamp n 1 64).toNat
def zigF (x : Int) : Int := if x < 0 then -2 * x - 1 else 2 * x
def zagF (x : Int) : Int := if x % 2 = 0 then x / 2 else -(x / 2) - 1
def lcgF (x : Int) : Int := (1664525 * x + 1013904223) % 4294967296

theorem clamp_bd (x lo hi : Int) (h : lo ≤ hi) : lo ≤ clamp x lo hi ∧ clamp x lo hi ≤ hi := by
  unfold clamp; split
  · omega
  · split <;> omega

theorem clamp_in (x lo hi : Int) (h1 : lo ≤ x) (h2 : x ≤ hi) : clamp x lo hi = x := by
  unfold clamp; rw [if_neg (by omega), if_neg (by omega)]

theorem p2_pos (n : Nat) : 1 ≤ p2 n := by
  unfold p2
  have : 0 < (2 : Int) ^ n := Int.pow_pos (by decide)
  omega
theorem p2_succ (n : Nat) : p2 (n + 1) = 2 * p2 n := by unfold p2; rw [Int.pow_succ]; omega
theorem p2_add (m n : Nat) : p2 (m + n) = p2 m * p2 n := by unfold p2; exact Int.pow_add 2 m n
theorem p2_mono {m n : Nat} (h : m ≤ n) : p2 m ≤ p2 n := by
  obtain ⟨d, rfl⟩ := Nat.exists_eq_add_of_le h
  rw [p2_add]
  have h1 := p2_pos m
  have h2 := p2_pos d
  have : p2 m * 1 ≤ p2 m * p2 d := Int.mul_le_mul_of_nonneg_left h2 (by omega)
  omega
theorem p2_62 {n : Nat} (h : n ≤ 62) : p2 n ≤ 4611686018427387904 := by
  have := p2_mono h
  have e : p2 62 = 4611686018427387904 := by decide
  omega
theorem p2_63 {n : Nat} (h : n ≤ 63) : p2 n ≤ 9223372036854775808 := by
  have := p2_mono h
  have e : p2 63 = 9223372036854775808 := by decide
  omega
theorem p2_64 {n : Nat} (h : n ≤ 64) : p2 n ≤ 18446744073709551616 := by
  have := p2_mono h
  have e : p2 64 = 18446744073709551616 := by decide
  omega
theorem pow_is (n : Nat) : (2 : Int) ^ n = p2 n := rfl

/-- What Sat's way through the machine comes to. -/
theorem sat_lo {a n : Int} (h : a < -(p2 ((clamp n 1 63).toNat - 1))) : satF a n = -(p2 ((clamp n 1 63).toNat - 1)) := by
  unfold satF; generalize p2 ((clamp n 1 63).toNat - 1) = p at *
  unfold clamp; rw [if_pos h]
theorem sat_hi {a n : Int} (h0 : -(p2 ((clamp n 1 63).toNat - 1)) ≤ a) (h : p2 ((clamp n 1 63).toNat - 1) - 1 < a) : satF a n = p2 ((clamp n 1 63).toNat - 1) - 1 := by
  unfold satF; generalize p2 ((clamp n 1 63).toNat - 1) = p at *
  unfold clamp; rw [if_neg (by omega), if_pos h]
theorem sat_in {a n : Int} (h0 : -(p2 ((clamp n 1 63).toNat - 1)) ≤ a) (h : a ≤ p2 ((clamp n 1 63).toNat - 1) - 1) : satF a n = a := by
  unfold satF; exact clamp_in _ _ _ h0 h
theorem satF_bd (a n : Int) : -4611686018427387904 ≤ satF a n ∧ satF a n ≤ 4611686018427387903 := by
  have hc := clamp_bd n 1 63 (by omega)
  have h1 := p2_pos ((clamp n 1 63).toNat - 1)
  have h2 := p2_62 (n := (clamp n 1 63).toNat - 1) (by omega)
  unfold satF
  have := clamp_bd a (-(p2 ((clamp n 1 63).toNat - 1))) (p2 ((clamp n 1 63).toNat - 1) - 1) (by omega)
  omega
theorem satF_16 (a : Int) : satF a 16 = clamp a (-32768) 32767 := by
  have e : (clamp 16 1 63).toNat - 1 = 15 := by decide
  unfold satF; rw [e]; rfl
theorem satF_32 (a : Int) : satF a 32 = clamp a (-2147483648) 2147483647 := by
  have e : (clamp 32 1 63).toNat - 1 = 31 := by decide
  unfold satF; rw [e]; rfl
theorem satF_52 (a : Int) : satF a 52 = clamp a (-2251799813685248) 2251799813685247 := by
  have e : (clamp 52 1 63).toNat - 1 = 51 := by decide
  unfold satF; rw [e]; rfl
theorem satF_twice (a n : Int) : satF (satF a n) n = satF a n := by
  have hc := clamp_bd n 1 63 (by omega)
  have h1 := p2_pos ((clamp n 1 63).toNat - 1)
  unfold satF
  exact clamp_in _ _ _ (clamp_bd _ _ _ (by omega)).1 (clamp_bd _ _ _ (by omega)).2

/-- Halving a quotient rounded down. -/
theorem div_two_mul (a p : Int) (hp : 0 < p) : a / (2 * p) = (a / p) / 2 := by
  rw [Int.mul_comm, Int.ediv_ediv_of_nonneg (by omega)]
theorem rnd_core (a p : Int) (hp : 0 < p) : (2 * a + 2 * p) / (2 * (2 * p)) = a / (2 * p) + a / p % 2 := by
  have e1 : 2 * a + 2 * p = 2 * (a + p) := by omega
  rw [e1, Int.mul_ediv_mul_of_pos _ _ (by decide : (0 : Int) < 2), div_two_mul _ _ hp, div_two_mul _ _ hp]
  have e2 : (a + p) / p = a / p + 1 := by
    have := Int.add_mul_ediv_right a 1 (c := p) (by omega)
    rw [Int.one_mul] at this; exact this
  rw [e2]; omega
theorem i64_and1 (n : Int) : bits .and .i64 n 1 = n % 2 := by
  have h1 : (BitVec.ofInt 64 1).toNat = 2 ^ 1 - 1 := by decide
  have key : (BitVec.ofInt 64 n &&& BitVec.ofInt 64 1).toNat = (n % ((2 ^ 64 : Nat) : Int)).toNat % 2 ^ 1 := by
    rw [BitVec.toNat_and, BitVec.toNat_ofInt, h1, Nat.and_two_pow_sub_one_eq_mod]
  show IntKind.i64.wrap ((BitVec.ofInt 64 n &&& BitVec.ofInt 64 1).toNat : Nat) = n % 2
  rw [key, IntKind.wrap_i64]
  omega
theorem div_bd (a p : Int) (hp : 1 ≤ p) (h1 : -9223372036854775808 ≤ a) (h2 : a ≤ 9223372036854775807) : -9223372036854775808 ≤ a / p ∧ a / p ≤ 9223372036854775807 := by
  constructor
  · apply Int.le_ediv_of_mul_le (by omega)
    have : -9223372036854775808 * p ≤ -9223372036854775808 * 1 := Int.mul_le_mul_of_nonpos_left (by omega) hp
    omega
  · have h0 : a / p < 9223372036854775808 := Int.ediv_lt_of_lt_mul (by omega) (by
      have : 9223372036854775808 * 1 ≤ 9223372036854775808 * p := Int.mul_le_mul_of_nonneg_left hp (by omega)
      omega)
    omega
theorem rnd_zero {a s : Int} (h : clamp s 0 62 = 0) : rndF a s = a := by
  unfold rndF; rw [h]; show (2 * a + 1) / (2 * 1) = a; omega
theorem rnd_some {a s : Int} (h1 : -9223372036854775808 ≤ a) (h2 : a ≤ 9223372036854775807) (h : (clamp s 0 62 == 0) = false) :
    wrap64 (a / 2 ^ (clamp s 0 62).toNat + bits BinOp.and IntKind.i64 (a / 2 ^ min (IntKind.u64.wrap (clamp s 0 62 - 1)).toNat 64) 1) = rndF a s := by
  have hb := clamp_bd s 0 62 (by omega)
  have hk : clamp s 0 62 ≠ 0 := by simpa using h
  unfold rndF
  generalize clamp s 0 62 = k at *
  obtain ⟨m, hm⟩ : ∃ m : Nat, k = (m : Int) + 1 := ⟨(k - 1).toNat, by omega⟩
  subst hm
  have e0 : IntKind.u64.wrap ((m : Int) + 1 - 1) = (m : Int) := by rw [Int.add_sub_cancel]; exact IntWalk.u64_in _ (by omega)
  have e1 : ((m : Int) + 1).toNat = m + 1 := by omega
  have e2 : min ((m : Int)).toNat 64 = m := by omega
  rw [e0, e1, e2, pow_is, pow_is, i64_and1, p2_succ]
  have hp := p2_pos m
  have hp2 := p2_62 (n := m) (by omega)
  rw [rnd_core a (p2 m) (by omega)]
  have hq := div_bd a (p2 m) hp h1 h2
  have hd := div_two_mul a (p2 m) (by omega)
  rw [hd]
  generalize a / p2 m = q at *
  exact IntWalk.wrap64_in _ (by omega)
theorem rndF_bd {a s : Int} (h1 : -9223372036854775808 ≤ a) (h2 : a ≤ 9223372036854775807) : -9223372036854775808 ≤ rndF a s ∧ rndF a s ≤ 9223372036854775807 := by
  by_cases h : clamp s 0 62 = 0
  · rw [rnd_zero h]; exact ⟨h1, h2⟩
  · have hb := clamp_bd s 0 62 (by omega)
    rw [← rnd_some h1 h2 (by simpa using h)]
    unfold wrap64; omega

/-- Low bits. -/
theorem low_is {a n : Int} (h1 : 0 ≤ a) (h2 : a ≤ 18446744073709551615) :
    bits BinOp.and IntKind.u64 a (IntKind.u64.wrap (IntKind.u64.wrap (2 ^ (clamp n 0 64).toNat) - 1)) = lowF a n := by
  have hb := clamp_bd n 0 64 (by omega)
  unfold lowF
  generalize clamp n 0 64 = k at *
  obtain ⟨m, rfl⟩ := Int.eq_ofNat_of_zero_le hb.1
  rw [Int.toNat_natCast, pow_is]
  have hp := p2_pos m
  have hp2 := p2_64 (n := m) (by omega)
  have e : IntKind.u64.wrap (IntKind.u64.wrap (p2 m) - 1) = p2 m - 1 := by
    rw [IntKind.wrap_u64, IntKind.wrap_u64]; omega
  rw [e]
  exact bits_mask .u64 64 (by decide) (fun n h0 hn => IntWalk.u64_in n (by omega)) m (by omega) a h1 (by omega)
theorem lowF_bd {a n : Int} (h1 : 0 ≤ a) : 0 ≤ lowF a n ∧ lowF a n ≤ a := by
  unfold lowF
  have hp := p2_pos (clamp n 0 64).toNat
  refine ⟨Int.emod_nonneg _ (by omega), ?_⟩
  by_cases h : a < p2 (clamp n 0 64).toNat
  · rw [Int.emod_eq_of_lt h1 h]; omega
  · have := Int.emod_lt_of_pos a (b := p2 (clamp n 0 64).toNat) (by omega)
    omega

/-- Signs out of high bits. -/
theorem sgn_core (a : Int) (k s : Nat) (hks : k + s = 64) (hk : 1 ≤ k) :
    wrap64 (IntKind.u64.wrap (a * p2 s)) / p2 s = if a % p2 k < p2 (k - 1) then a % p2 k else a % p2 k - p2 k := by
  have hs := p2_pos s
  have hkp := p2_pos k
  have hK : p2 k = 2 * p2 (k - 1) := by rw [← p2_succ]; congr 1; omega
  have h64 : p2 k * p2 s = 18446744073709551616 := by rw [← p2_add, hks]; decide
  have h63 : p2 (k - 1) * p2 s = 9223372036854775808 := by rw [← p2_add, show k - 1 + s = 63 by omega]; decide
  have e1 : IntKind.u64.wrap (a * p2 s) = (a % p2 k) * p2 s := by
    rw [IntKind.wrap_u64, ← h64, Int.mul_comm a, Int.mul_comm (p2 k), Int.mul_emod_mul_of_pos _ _ (by omega), Int.mul_comm]
  rw [e1]
  have hv0 : 0 ≤ a % p2 k := Int.emod_nonneg _ (by omega)
  have hv1 : a % p2 k < p2 k := Int.emod_lt_of_pos _ (by omega)
  generalize a % p2 k = v at *
  have hvs0 : 0 ≤ v * p2 s := Int.mul_nonneg hv0 (by omega)
  have hvs1 : v * p2 s < 18446744073709551616 := by rw [← h64]; exact Int.mul_lt_mul_of_pos_right hv1 (by omega)
  split
  · rename_i h
    have h' : v * p2 s < 9223372036854775808 := by rw [← h63]; exact Int.mul_lt_mul_of_pos_right h (by omega)
    rw [IntWalk.wrap64_in _ (by omega), Int.mul_ediv_cancel _ (by omega)]
  · rename_i h
    have h' : 9223372036854775808 ≤ v * p2 s := by rw [← h63]; exact Int.mul_le_mul_of_nonneg_right (by omega) (by omega)
    have e2 : wrap64 (v * p2 s) = (v - p2 k) * p2 s := by
      rw [Int.sub_mul, h64]; unfold wrap64; omega
    rw [e2, Int.mul_ediv_cancel _ (by omega)]
theorem sgn_is (a n : Int) : wrap64 (IntKind.u64.wrap (a * 2 ^ (64 - clamp n 1 64).toNat)) / 2 ^ (64 - clamp n 1 64).toNat = sgnF a n := by
  have hb := clamp_bd n 1 64 (by omega)
  unfold sgnF
  rw [pow_is]
  exact sgn_core a (clamp n 1 64).toNat (64 - clamp n 1 64).toNat (by omega) (by omega)
theorem sgnF_bd (a n : Int) : -(p2 ((clamp n 1 64).toNat - 1)) ≤ sgnF a n ∧ sgnF a n < p2 ((clamp n 1 64).toNat - 1) := by
  have hb := clamp_bd n 1 64 (by omega)
  have hkp := p2_pos (clamp n 1 64).toNat
  have hK : p2 (clamp n 1 64).toNat = 2 * p2 ((clamp n 1 64).toNat - 1) := by rw [← p2_succ]; congr 1; omega
  have hv0 : 0 ≤ a % p2 (clamp n 1 64).toNat := Int.emod_nonneg _ (by omega)
  have hv1 : a % p2 (clamp n 1 64).toNat < p2 (clamp n 1 64).toNat := Int.emod_lt_of_pos _ (by omega)
  unfold sgnF
  split <;> omega
theorem sgnF_bd64 (a n : Int) : -9223372036854775808 ≤ sgnF a n ∧ sgnF a n ≤ 9223372036854775807 := by
  have hb := clamp_bd n 1 64 (by omega)
  have h := sgnF_bd a n
  have h2 := p2_63 (n := (clamp n 1 64).toNat - 1) (by omega)
  omega

/-- Zig and zag. -/
theorem xor0_u64 {a : Int} (h1 : 0 ≤ a) (h2 : a ≤ 18446744073709551615) : bits .xor .u64 a 0 = a := by
  obtain ⟨A, rfl⟩ := Int.eq_ofNat_of_zero_le h1
  have := bits_xor_u64_nat A 0 (by omega) (by omega)
  simpa using this
theorem xorAll_u64 {a : Int} (h1 : 0 ≤ a) (h2 : a ≤ 18446744073709551615) : bits .xor .u64 a 18446744073709551615 = 18446744073709551615 - a := by
  obtain ⟨A, rfl⟩ := Int.eq_ofNat_of_zero_le h1
  have e := bits_xor_u64_nat A 18446744073709551615 (by omega) (by omega)
  have hx : A ^^^ 18446744073709551615 = 18446744073709551615 - A := by
    have h : (BitVec.ofNat 64 A ^^^ BitVec.allOnes 64).toNat = (~~~ (BitVec.ofNat 64 A)).toNat := by rw [BitVec.xor_allOnes]
    rw [BitVec.toNat_xor, BitVec.toNat_not, BitVec.toNat_ofNat, BitVec.toNat_allOnes, Nat.mod_eq_of_lt (by omega)] at h
    exact h
  rw [hx] at e
  rw [show (18446744073709551615 : Int) = ((18446744073709551615 : Nat) : Int) from rfl, e]
  omega
theorem zig_is {x : Int} (h1 : -9223372036854775808 ≤ x) (h2 : x ≤ 9223372036854775807) :
    bits BinOp.xor IntKind.u64 (IntKind.u64.wrap (IntKind.u64.wrap x * 2)) (IntKind.u64.wrap (x / 9223372036854775808)) = zigF x := by
  unfold zigF
  split
  · rename_i h
    have e1 : IntKind.u64.wrap (x / 9223372036854775808) = 18446744073709551615 := by
      rw [show x / 9223372036854775808 = -1 by omega]; decide
    have e2 : IntKind.u64.wrap (IntKind.u64.wrap x * 2) = 18446744073709551616 + 2 * x := by
      rw [IntKind.wrap_u64, IntKind.wrap_u64]; omega
    rw [e1, e2, xorAll_u64 (by omega) (by omega)]; omega
  · rename_i h
    have e1 : IntKind.u64.wrap (x / 9223372036854775808) = 0 := by
      rw [show x / 9223372036854775808 = 0 by omega]; decide
    have e2 : IntKind.u64.wrap (IntKind.u64.wrap x * 2) = 2 * x := by
      rw [IntKind.wrap_u64, IntKind.wrap_u64]; omega
    rw [e1, e2, xor0_u64 (by omega) (by omega)]
theorem xor0_i64 {a : Int} (h1 : -9223372036854775808 ≤ a) (h2 : a ≤ 9223372036854775807) : bits .xor .i64 a 0 = a := by
  show IntKind.i64.wrap ((BitVec.ofInt 64 a ^^^ BitVec.ofInt 64 0).toNat : Nat) = a
  have e : BitVec.ofInt 64 a ^^^ BitVec.ofInt 64 0 = BitVec.ofInt 64 a := by
    rw [show BitVec.ofInt 64 0 = 0#64 from rfl, BitVec.xor_zero]
  rw [e, BitVec.toNat_ofInt, IntKind.wrap_i64]; omega
theorem xorAll_i64 {a : Int} (h1 : -9223372036854775808 ≤ a) (h2 : a ≤ 9223372036854775807) : bits .xor .i64 a (-1) = -a - 1 := by
  show IntKind.i64.wrap ((BitVec.ofInt 64 a ^^^ BitVec.ofInt 64 (-1)).toNat : Nat) = -a - 1
  have e : BitVec.ofInt 64 a ^^^ BitVec.ofInt 64 (-1) = ~~~ (BitVec.ofInt 64 a) := by
    rw [show BitVec.ofInt 64 (-1) = BitVec.allOnes 64 from rfl, BitVec.xor_allOnes]
  rw [e, BitVec.toNat_not, BitVec.toNat_ofInt, IntKind.wrap_i64]; omega
theorem u64_and1 {a : Int} (h1 : 0 ≤ a) (h2 : a ≤ 18446744073709551615) : bits .and .u64 a 1 = a % 2 :=
  bits_mask .u64 64 (by decide) (fun n h0 hn => IntWalk.u64_in n (by omega)) 1 (by omega) a h1 (by omega)
theorem zag_is {x : Int} (h1 : 0 ≤ x) (h2 : x ≤ 18446744073709551615) :
    bits BinOp.xor IntKind.i64 (x / 2) (wrap64 (-wrap64 (bits BinOp.and IntKind.u64 x 1))) = zagF x := by
  rw [u64_and1 h1 h2, IntWalk.wrap64_in (x % 2) (by omega), IntWalk.wrap64_in (-(x % 2)) (by omega)]
  unfold zagF
  split
  · rename_i h; rw [h]; exact xor0_i64 (by omega) (by omega)
  · rename_i h
    have e : x % 2 = 1 := by omega
    rw [e]; exact xorAll_i64 (by omega) (by omega)
theorem zigF_bd {x : Int} (h1 : -9223372036854775808 ≤ x) (h2 : x ≤ 9223372036854775807) : 0 ≤ zigF x ∧ zigF x ≤ 18446744073709551615 := by
  unfold zigF; split <;> omega
theorem zagF_bd {x : Int} (h1 : 0 ≤ x) (h2 : x ≤ 18446744073709551615) : -9223372036854775808 ≤ zagF x ∧ zagF x ≤ 9223372036854775807 := by
  unfold zagF; split <;> omega
theorem zag_zig (x : Int) : zagF (zigF x) = x := by
  unfold zigF; split <;> (unfold zagF; split <;> omega)
theorem zig_zag {x : Int} (h : 0 ≤ x) : zigF (zagF x) = x := by
  unfold zagF; split <;> (unfold zigF; split <;> omega)
/-- Go's quotient and remainder, and the quotient rounded down. -/
theorem floor_neg {x p : Int} (hp : 1 ≤ p) (h : x.tmod p < 0) : x.tdiv p - 1 = x / p := by
  have e := Int.mul_tdiv_add_tmod x p
  have l := Int.lt_tmod_of_pos x (b := p) (by omega)
  have u := ((Int.ediv_emod_unique (a := x) (b := p) (r := x.tmod p + p) (q := x.tdiv p - 1) (by omega)).2 ⟨by rw [Int.mul_sub]; omega, by omega, by omega⟩).1
  exact u.symm
theorem floor_pos {x p : Int} (hp : 1 ≤ p) (h : 0 ≤ x.tmod p) : x.tdiv p = x / p := by
  have e := Int.mul_tdiv_add_tmod x p
  have l := Int.tmod_lt_of_pos x (b := p) (by omega)
  have u := ((Int.ediv_emod_unique (a := x) (b := p) (r := x.tmod p) (q := x.tdiv p) (by omega)).2 ⟨by omega, h, l⟩).1
  exact u.symm
/-- Rounding by the quotient rounded down. -/
theorem rnd_by_floor {x s : Int} (h : (clamp s 0 62 == 0) = false) :
    rndF x s = if p2 (clamp s 0 62).toNat / 2 ≤ x - x / p2 (clamp s 0 62).toNat * p2 (clamp s 0 62).toNat then x / p2 (clamp s 0 62).toNat + 1 else x / p2 (clamp s 0 62).toNat := by
  have hb := clamp_bd s 0 62 (by omega)
  have hk : clamp s 0 62 ≠ 0 := by simpa using h
  unfold rndF
  obtain ⟨m, hm⟩ : ∃ m : Nat, (clamp s 0 62).toNat = m + 1 := ⟨(clamp s 0 62).toNat - 1, by omega⟩
  rw [hm, p2_succ]
  have hp := p2_pos m
  rw [rnd_core x (p2 m) (by omega), div_two_mul x _ (by omega), Int.mul_ediv_cancel_left _ (by decide)]
  have e := Int.mul_ediv_add_emod x (p2 m)
  have h0 := Int.emod_nonneg x (b := p2 m) (by omega)
  have h1 := Int.emod_lt_of_pos x (b := p2 m) (by omega)
  generalize x / p2 m = q at *
  generalize x % p2 m = r at *
  generalize p2 m = p at *
  have e2 : q / 2 * (2 * p) = p * (q - q % 2) := by
    rw [show q - q % 2 = q / 2 * 2 by omega, Int.mul_comm p, Int.mul_assoc]
  rw [e2, Int.mul_sub]
  by_cases hq : q % 2 = 0
  · rw [hq, if_neg (by omega)]; omega
  · have hq1 : q % 2 = 1 := by omega
    rw [hq1, if_pos (by omega)]
theorem rest_is {x p : Int} (hp1 : 1 ≤ p) (hp2 : p ≤ 4611686018427387904) : wrap64 (x - wrap64 (x / p * p)) = x - x / p * p := by
  have e := Int.mul_ediv_add_emod x p
  have m0 := Int.emod_nonneg x (b := p) (by omega)
  have m1 := Int.emod_lt_of_pos x (b := p) (by omega)
  rw [Int.mul_comm] at e
  generalize x / p * p = z at *
  unfold wrap64; omega
theorem rnd_up {x s : Int} (h1 : -9223372036854775808 ≤ x) (h2 : x ≤ 9223372036854775807) (h : (clamp s 0 62 == 0) = false)
    (ht : p2 (clamp s 0 62).toNat / 2 ≤ wrap64 (x - wrap64 (x / p2 (clamp s 0 62).toNat * p2 (clamp s 0 62).toNat))) : wrap64 (x / p2 (clamp s 0 62).toNat + 1) = rndF x s := by
  have hb := clamp_bd s 0 62 (by omega)
  have hp1 := p2_pos ((clamp s 0 62).toNat)
  have hp2 := p2_62 (n := (clamp s 0 62).toNat) (by omega)
  have hr := rndF_bd (a := x) (s := s) h1 h2
  rw [rest_is hp1 hp2] at ht
  have F := rnd_by_floor (x := x) h
  rw [if_pos ht] at F
  rw [← F]; exact IntWalk.wrap64_in _ hr
theorem rnd_down {x s : Int} (h : (clamp s 0 62 == 0) = false)
    (ht : wrap64 (x - wrap64 (x / p2 (clamp s 0 62).toNat * p2 (clamp s 0 62).toNat)) < p2 (clamp s 0 62).toNat / 2) : x / p2 (clamp s 0 62).toNat = rndF x s := by
  have hb := clamp_bd s 0 62 (by omega)
  have hp1 := p2_pos ((clamp s 0 62).toNat)
  have hp2 := p2_62 (n := (clamp s 0 62).toNat) (by omega)
  rw [rest_is hp1 hp2] at ht
  have F := rnd_by_floor (x := x) h
  rw [if_neg (by omega)] at F
  exact F.symm
/-- The document's signs. -/
theorem fhalf_is {k : Nat} (h1 : 1 ≤ k) (h2 : k ≤ 64) : lowF 18446744073709551615 ((k : Int) - 1) + 1 = p2 (k - 1) := by
  unfold lowF
  rw [clamp_in _ _ _ (by omega) (by omega), show ((k : Int) - 1).toNat = k - 1 by omega]
  have h64 : p2 (k - 1) * p2 (64 - (k - 1)) = 18446744073709551616 := by
    rw [← p2_add, show k - 1 + (64 - (k - 1)) = 64 by omega]; decide
  have hp := p2_pos (k - 1)
  have u := ((Int.ediv_emod_unique (a := 18446744073709551615) (b := p2 (k - 1)) (r := p2 (k - 1) - 1) (q := p2 (64 - (k - 1)) - 1) (by omega)).2 ⟨by rw [Int.mul_sub, h64]; omega, by omega, by omega⟩).2
  rw [u]; omega
theorem sgn_low {x n : Int} {k : Nat} (hk : (k : Int) = clamp n 1 64) (h : x % p2 k < p2 (k - 1)) : sgnF x n = x % p2 k := by
  unfold sgnF; rw [← hk, Int.toNat_natCast, if_pos h]
theorem sgn_high {x n : Int} {k : Nat} (hk : (k : Int) = clamp n 1 64) (h : p2 (k - 1) ≤ x % p2 k) : sgnF x n = x % p2 k - p2 k := by
  unfold sgnF; rw [← hk, Int.toNat_natCast, if_neg (by omega)]
theorem lowF_k (x : Int) {k : Nat} (h2 : k ≤ 64) : lowF x (k : Int) = x % p2 k := by
  unfold lowF
  rw [clamp_in _ _ _ (by omega) (by omega), Int.toNat_natCast]

theorem low_all {x n : Int} (h1 : 0 ≤ x) (h2 : x ≤ 18446744073709551615) (h : 64 ≤ n) : lowF x n = x := by
  unfold lowF
  have e : clamp n 0 64 = 64 := by unfold clamp; rw [if_neg (by omega)]; split <;> omega
  rw [e]
  rw [show p2 (64 : Int).toNat = 18446744073709551616 by decide]
  omega

theorem low_some {x n : Int} {k : Nat} (h0 : (k : Int) ≤ max n 0) (h1 : n ≤ k) (h2 : n < 64) : lowF x n = x % p2 k := by
  unfold lowF
  have e : (clamp n 0 64).toNat = k := by
    unfold clamp; split
    · omega
    · rw [if_neg (by omega)]; omega
  rw [e]

/-- Unlike numbers by chance have unlike next ones. -/
theorem lcg_one {a b : Int} (h1 : 0 ≤ a) (h2 : a ≤ 4294967295) (h3 : 0 ≤ b) (h4 : b ≤ 4294967295) : ((lcgF a == lcgF b) == (a == b)) = true := by
  have key : lcgF a = lcgF b → a = b := by
    unfold lcgF
    intro h
    -- 4276115653 is the inverse of 1664525 modulo 2^32
    have e : (1664525 * (a - b)) % 4294967296 = 0 := by omega
    have e2 : (4276115653 * (1664525 * (a - b))) % 4294967296 = 0 := by
      rw [Int.mul_emod, e]; decide
    have e3 : (4276115653 * (1664525 * (a - b))) % 4294967296 = (a - b) % 4294967296 := by omega
    omega
  by_cases h : a = b
  · subst h; simp
  · have h' : ¬ lcgF a = lcgF b := fun e => h (key e)
    rw [beq_eq_false_iff_ne.2 h, beq_eq_false_iff_ne.2 h']; rfl

/-- Low bits and signs of one another. -/
theorem sgn_emod (x n : Int) : sgnF x n % p2 (clamp n 1 64).toNat = x % p2 (clamp n 1 64).toNat := by
  have hp := p2_pos (clamp n 1 64).toNat
  unfold sgnF
  split
  · exact Int.emod_emod_of_dvd _ (Int.dvd_refl _)
  · rw [Int.sub_emod_right]; exact Int.emod_emod_of_dvd _ (Int.dvd_refl _)
theorem clamp_same {n : Int} (h1 : 1 ≤ n) (h2 : n ≤ 64) : clamp n 0 64 = n ∧ clamp n 1 64 = n := ⟨clamp_in _ _ _ (by omega) h2, clamp_in _ _ _ h1 h2⟩
theorem wrap_emod (y : Int) {k : Nat} (h : k ≤ 64) : IntKind.u64.wrap y % p2 k = y % p2 k := by
  have h64 : p2 k * p2 (64 - k) = 18446744073709551616 := by rw [← p2_add, show k + (64 - k) = 64 by omega]; decide
  rw [IntKind.wrap_u64, ← h64]
  exact Int.emod_emod_of_dvd _ (Int.dvd_mul_right _ _)
theorem low_sgn (x : Int) {n : Int} (h1 : 1 ≤ n) (h2 : n ≤ 64) : lowF (IntKind.u64.wrap (sgnF x n)) n = lowF x n := by
  have e := sgn_emod x n
  unfold lowF
  rw [(clamp_same h1 h2).1, wrap_emod _ (by omega)]
  rw [(clamp_same h1 h2).2] at e
  exact e
theorem sgn_low_same (x : Int) {n : Int} (h1 : 1 ≤ n) (h2 : n ≤ 64) : sgnF (lowF x n) n = sgnF x n := by
  have e : lowF x n % p2 (clamp n 1 64).toNat = x % p2 (clamp n 1 64).toNat := by
    unfold lowF
    rw [(clamp_same h1 h2).1, (clamp_same h1 h2).2]
    exact Int.emod_emod_of_dvd _ (Int.dvd_refl _)
  unfold sgnF
  rw [e]
theorem sat_sgn (x : Int) {n : Int} (h1 : 1 ≤ n) (h2 : n ≤ 63) : satF (sgnF x n) n = sgnF x n := by
  have h := sgnF_bd x n
  rw [(clamp_same h1 (by omega)).2] at h
  have e : clamp n 1 63 = n := clamp_in _ _ _ h1 h2
  apply sat_in
  · rw [e]; exact h.1
  · rw [e]; omega
theorem sgn_64 {x : Int} (h1 : 0 ≤ x) (h2 : x ≤ 18446744073709551615) : sgnF x (63 + 1) = wrap64 x := by
  have e : (clamp (63 + 1) 1 64).toNat = 64 := by decide
  unfold sgnF
  rw [e, show p2 64 = 18446744073709551616 by decide, show p2 (64 - 1) = 9223372036854775808 by decide]
  unfold wrap64
  split <;> omega

/-- A rounded number is near. -/
theorem near_core (x p : Int) (hp : 1 ≤ p) : (2 * x + p) / (2 * p) * (2 * p) - 2 * x ≤ p ∧ -p < (2 * x + p) / (2 * p) * (2 * p) - 2 * x := by
  have e := Int.mul_ediv_add_emod (2 * x + p) (2 * p)
  have m0 := Int.emod_nonneg (2 * x + p) (b := 2 * p) (by omega)
  have m1 := Int.emod_lt_of_pos (2 * x + p) (b := 2 * p) (by omega)
  rw [Int.mul_comm] at e
  omega
theorem near_form {x s : Int} (h3 : 0 ≤ s) (hx1 : x ≤ 1125899906842624) (hx2 : -1125899906842624 ≤ x) :
    wrap64 (wrap64 (rndF x (s % 12 + 1) * 2 ^ (s % 12 + 1 + 1).toNat) - x * 2) = rndF x (s % 12 + 1) * (2 * p2 (s % 12 + 1).toNat) - 2 * x ∧ 1 ≤ p2 (s % 12 + 1).toNat ∧ p2 (s % 12 + 1).toNat ≤ 4096 ∧
    rndF x (s % 12 + 1) = (2 * x + p2 (s % 12 + 1).toNat) / (2 * p2 (s % 12 + 1).toNat) := by
  have e1 : clamp (s % 12 + 1) 0 62 = s % 12 + 1 := clamp_in _ _ _ (by omega) (by omega)
  have e2 : (s % 12 + 1 + 1).toNat = (s % 12 + 1).toNat + 1 := by omega
  have hp1 := p2_pos (s % 12 + 1).toNat
  have hp2 : p2 (s % 12 + 1).toNat ≤ p2 12 := p2_mono (by omega)
  rw [show p2 12 = 4096 by decide] at hp2
  have er : rndF x (s % 12 + 1) = (2 * x + p2 (s % 12 + 1).toNat) / (2 * p2 (s % 12 + 1).toNat) := by unfold rndF; rw [e1]
  have hc := near_core x (p2 (s % 12 + 1).toNat) hp1
  rw [pow_is, e2, p2_succ]
  rw [← er] at hc
  generalize rndF x (s % 12 + 1) * (2 * p2 (s % 12 + 1).toNat) = z at *
  refine ⟨?_, hp1, hp2, er⟩
  unfold wrap64; omega
theorem near_hi {x s : Int} (h3 : 0 ≤ s) (hx1 : x ≤ 1125899906842624) (hx2 : -1125899906842624 ≤ x) :
    wrap64 (wrap64 (rndF x (s % 12 + 1) * 2 ^ (s % 12 + 1 + 1).toNat) - x * 2) ≤ wrap64 (2 ^ (s % 12 + 1).toNat) := by
  obtain ⟨e, hp1, hp2, er⟩ := near_form h3 hx1 hx2
  have hc := near_core x (p2 (s % 12 + 1).toNat) hp1
  rw [← er] at hc
  rw [e, pow_is, IntWalk.wrap64_in (p2 _) (by omega)]; exact hc.1
theorem near_lo {x s : Int} (h3 : 0 ≤ s) (hx1 : x ≤ 1125899906842624) (hx2 : -1125899906842624 ≤ x) :
    wrap64 (-2 ^ (s % 12 + 1).toNat) < wrap64 (wrap64 (rndF x (s % 12 + 1) * 2 ^ (s % 12 + 1 + 1).toNat) - x * 2) := by
  obtain ⟨e, hp1, hp2, er⟩ := near_form h3 hx1 hx2
  have hc := near_core x (p2 (s % 12 + 1).toNat) hp1
  rw [← er] at hc
  rw [e, pow_is, IntWalk.wrap64_in (-p2 _) (by omega)]; exact hc.2
theorem rnd_mono (x s : Int) : rndF x s ≤ rndF (x + 1) s := by
  have hp := p2_pos (clamp s 0 62).toNat
  unfold rndF
  exact Int.ediv_le_ediv (by omega) (by omega)

/-- A product of two 32-bit numbers. -/
theorem mul_bd32 {a b : Int} (h1 : -2147483648 ≤ a) (h2 : a ≤ 2147483647) (h3 : -2147483648 ≤ b) (h4 : b ≤ 2147483647) : -4611686018427387904 ≤ a * b ∧ a * b ≤ 4611686018427387904 := by
  have hn : (a * b).natAbs ≤ 2147483648 * 2147483648 := by
    rw [Int.natAbs_mul]; exact Nat.mul_le_mul (by omega) (by omega)
  omega
end Go.Proofs.YtfgpmdikkncckaaGreatDoor
namespace Go.Proofs.YtfgpmdikkncckaaGreatDoor
set_option linter.unusedVariables false
open Go.ChangeShapes Go.WideShapes Go.ChangeAt Go.RowKit

theorem fret_int {k : IntKind} {a b : Int} (h : a = b) : Ending.returned (.int k a) = .returned (.int k b) := by rw [h]

set_option maxHeartbeats 400000 in
theorem zag_any (x : Int) (w : World) (h1 : 0 ≤ x) (h2 : x ≤ 18446744073709551615) :
    Calls Tryz.prog 102 #[.int .u64 x] w fun e w' => e = .returned (.int .i64 (zagF x)) ∧ w' = w := by
  have F := zag_is h1 h2
  have FH : Hid _ := F
  clear F
  go_enter Tryz.func102, Tryz.ntmps102
  go_wp2
  go_ret
  exact ⟨fret_int FH.out, rfl⟩
end Go.Proofs.YtfgpmdikkncckaaGreatDoor
