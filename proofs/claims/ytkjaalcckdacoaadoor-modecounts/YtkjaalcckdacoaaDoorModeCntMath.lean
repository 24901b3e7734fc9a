/-
  How often a mode is among the first k of a list, how many kinds there are, and which is there most often; what a map of counts reads as. No condition; no program but the key's law.
-/
import Derived.Test.YtkjaalcckdacoaaDoorModeMap
import Derived.Test.YtkjaalcckdacoaaDoorModeRows
namespace Go.Proofs.YtkjaalcckdacoaaDoor
set_option linter.unusedVariables false
open Go.RowKit

/-- How often a pair is among the first k. -/
def cntP (f g : Nat → Int) (s c : Int) : Nat → Nat
  | 0 => 0
  | k + 1 => cntP f g s c k + (if f k = s ∧ g k = c then 1 else 0)
theorem cntP_le (f g : Nat → Int) (s c : Int) : ∀ k, cntP f g s c k ≤ k
  | 0 => Nat.le_refl _
  | k + 1 => by have := cntP_le f g s c k; rw [cntP]; split <;> omega
/-- .. of right modes alone. -/
def cnt (f g : Nat → Int) (k : Nat) (s c : Int) : Nat := if right s c then cntP f g s c k else 0
theorem cnt_le (f g : Nat → Int) (k : Nat) (s c : Int) : cnt f g k s c ≤ k := by unfold cnt; split; exact cntP_le _ _ _ _ _; omega

def one (b : Nat) : Nat := if 0 < b then 1 else 0
def kinds (f g : Nat → Int) (k : Nat) : Nat := one (cnt f g k 0 1) + one (cnt f g k 0 2) + one (cnt f g k 1 1) + one (cnt f g k 1 2) + one (cnt f g k 2 1) + one (cnt f g k 2 2)

theorem cnt_wrong (f g : Nat → Int) (k : Nat) (h : ¬ right (f k) (g k)) (s c : Int) : cnt f g (k + 1) s c = cnt f g k s c := by
  unfold cnt
  split
  · rename_i hr
    rw [cntP, if_neg (fun e => h (by rw [e.1, e.2]; exact hr))]
    rfl
  · rfl
theorem cnt_same (f g : Nat → Int) (k : Nat) (h : right (f k) (g k)) : cnt f g (k + 1) (f k) (g k) = cnt f g k (f k) (g k) + 1 := by
  unfold cnt
  rw [if_pos h, if_pos h, cntP, if_pos ⟨rfl, rfl⟩]
theorem cnt_other (f g : Nat → Int) (k : Nat) {s c : Int} (h : ¬ (f k = s ∧ g k = c)) : cnt f g (k + 1) s c = cnt f g k s c := by
  unfold cnt
  split
  · rw [cntP, if_neg h]; rfl
  · rfl
theorem kinds_wrong (f g : Nat → Int) (k : Nat) (h : ¬ right (f k) (g k)) : kinds f g (k + 1) = kinds f g k := by
  unfold kinds
  simp only [cnt_wrong f g k h]
theorem one_pos {n : Nat} (h : 0 < n) : one n = 1 := if_pos h
theorem one_zero : one 0 = 0 := rfl
theorem cnt_step (f g : Nat → Int) (k : Nat) {s c : Int} (h : right s c) : cnt f g (k + 1) s c = cnt f g k s c + (if f k = s ∧ g k = c then 1 else 0) := by
  unfold cnt
  rw [if_pos h, if_pos h, cntP]
theorem one_succ (n : Nat) : one (n + 1) = 1 := if_pos (by omega)
theorem kinds_right (f g : Nat → Int) (k : Nat) (h : right (f k) (g k)) : kinds f g (k + 1) = if 0 < cnt f g k (f k) (g k) then kinds f g k else kinds f g k + 1 := by
  obtain ⟨h1, h2⟩ := right_cases h
  unfold kinds
  rw [cnt_step f g k (show right 0 1 by decide), cnt_step f g k (show right 0 2 by decide), cnt_step f g k (show right 1 1 by decide), cnt_step f g k (show right 1 2 by decide), cnt_step f g k (show right 2 1 by decide), cnt_step f g k (show right 2 2 by decide)]
  rcases h1 with e1 | e1 | e1 <;> rcases h2 with e2 | e2 <;> rw [e1, e2] <;> simp only [and_true, if_true, if_false, and_false, Nat.add_zero, one_succ, Int.reduceEq] <;> split <;> rename_i hp <;> first | (rw [one_pos hp]; done) | (rw [Nat.eq_zero_of_not_pos hp, one_zero]; done) | (rw [Nat.eq_zero_of_not_pos hp, one_zero]; omega)

/-- What a map of counts reads as, behind the first k of a list. -/
def Counts (f g : Nat → Int) (k : Nat) (D : DataW Unit) : Prop :=
  (∀ s c : Int, (Lit.int .i64 s).wf = true → (Lit.int .i64 c).wf = true → D.atKey (kl s c) (.lit (.int .i64 0)) = .lit (.int .i64 (cnt f g k s c : Nat)) ∧ Maps.has D (kl s c) = decide (0 < cnt f g k s c)) ∧ Maps.size D = kinds f g k

theorem counts_start (f g : Nat → Int) : Counts f g 0 (.map []) := by
  have h0 : ∀ s c, cnt f g 0 s c = 0 := fun s c => by have := cnt_le f g 0 s c; omega
  refine ⟨fun s c _ _ => ?_, ?_⟩
  · rw [h0]; exact ⟨rfl, rfl⟩
  · unfold kinds; simp only [h0]; rfl
theorem counts_wrong {f g : Nat → Int} {k : Nat} {D : DataW Unit} (h : Counts f g k D) (hr : ¬ right (f k) (g k)) : Counts f g (k + 1) D := by
  refine ⟨fun s c hs hc => ?_, ?_⟩
  · rw [cnt_wrong f g k hr]; exact h.1 s c hs hc
  · rw [kinds_wrong f g k hr]; exact h.2
theorem counts_right {f g : Nat → Int} {k : Nat} {D : DataW Unit} (h : Counts f g k D) (hT : Maps.Tidy D) (hr : right (f k) (g k)) (hf : (Lit.int .i64 (f k)).wf = true) (hg : (Lit.int .i64 (g k)).wf = true) :
    Counts f g (k + 1) (D.put (kl (f k) (g k)) (.lit (.int .i64 ((cnt f g k (f k) (g k) : Nat) + 1)))) := by
  refine ⟨fun s c hs hc => ?_, ?_⟩
  · by_cases e : f k = s ∧ g k = c
    · obtain ⟨rfl, rfl⟩ := e
      rw [Maps.atKey_put_same hT.isMap (kl_key _ _), Maps.has_put_same hT.isMap (kl_key _ _), cnt_same f g k hr]
      exact ⟨by simp, by simp⟩
    · have hne : kl s c ≠ kl (f k) (g k) := fun h' => e (by have := kl_inj hs hc hf hg h'; exact ⟨this.1.symm, this.2.symm⟩)
      rw [Maps.atKey_put_other hne, Maps.has_put_other hne, cnt_other f g k e]
      exact h.1 s c hs hc
  · rw [Maps.size_put hT, (h.1 _ _ hf hg).2, kinds_right f g k hr, h.2]
    simp
end Go.Proofs.YtkjaalcckdacoaaDoor
