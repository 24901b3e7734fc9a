/-
  What pushBit and Raw of package writer do to a writer that lies somewhere. Nothing else is turned.
-/
import Derived.Test.YtfgpmdikkncckaaDoorWriterCalls2
import Derived.Laws.ShiftsVarLaws
namespace Go.Proofs.YtfgpmdikkncckaaDoor
set_option linter.unusedVariables false
open Go.ChangeShapes Go.WideShapes Go.ChangeAt Go.RowKit

theorem or_all : ∀ e : Fin 8, ∀ x : Fin 128, ∀ v : Fin 2, x.val < 2 ^ e.val → bits BinOp.or IntKind.u8 (x.val : Int) ((v.val : Int) * 2 ^ e.val % 256) = (x.val : Int) + (v.val : Int) * 2 ^ e.val := by decide +kernel
theorem or_bit {x v : Int} {e : Nat} (he : e < 8) (h0 : 0 ≤ x) (h1 : x < 2 ^ e) (v0 : 0 ≤ v) (v1 : v ≤ 1) : bits BinOp.or IntKind.u8 x (v * 2 ^ e % 256) = x + v * 2 ^ e := by
  have h7 : (2 : Int) ^ e ≤ 128 := by
    match e, he with
    | 0, _ | 1, _ | 2, _ | 3, _ | 4, _ | 5, _ | 6, _ | 7, _ => decide
  have := or_all ⟨e, he⟩ ⟨x.toNat, by omega⟩ ⟨v.toNat, by omega⟩ (by
    show x.toNat < 2 ^ e
    have h2 : ((x.toNat : Nat) : Int) < ((2 ^ e : Nat) : Int) := by rw [Int.toNat_of_nonneg h0]; push_cast; exact h1
    exact Int.ofNat_lt.1 h2)
  simp only [Int.toNat_of_nonneg h0, Int.toNat_of_nonneg v0] at this
  exact this

/-- May raw bits be put? -/
def MayRaw (x n : Int) : Prop := 0 ≤ n ∧ n ≤ 16 ∧ x < 2 ^ n.toNat


theorem and_one {x : Int} (h0 : 0 ≤ x) (h1 : x < 4294967296) : bits BinOp.and IntKind.u32 x 1 = x % 2 := by
  have e1 : (BitVec.ofInt 32 1).toNat = 2 ^ 1 - 1 := by decide
  have key : (BitVec.ofInt 32 x &&& BitVec.ofInt 32 1).toNat = (x % ((2 ^ 32 : Nat) : Int)).toNat % 2 ^ 1 := by
    rw [BitVec.toNat_and, BitVec.toNat_ofInt, e1, Nat.and_two_pow_sub_one_eq_mod]
  show IntKind.u32.wrap ((BitVec.ofInt 32 x &&& BitVec.ofInt 32 1).toNat : Nat) = x % 2
  rw [key, wrap_u32 (by omega) (by omega)]
  omega
end Go.Proofs.YtfgpmdikkncckaaDoor
