/-
  What wide.Sum answers, for a list of up to 60 wide numbers wherever it lies: the sum of all; and the mathematics of such sums. Nothing that was there is turned.
-/
import Derived.Test.YtmijjhgibbbedaaWideLaws3
import Derived.Test.YtmijjhgibbbedaaRefCalls
import Derived.Test.YtmijjhgibbbedaaRows
import Derived.ProofKit
import Derived.OpenShut
import Derived.WalkSpells
import Derived.Handy
import Derived.WalkLawsBesides
import Derived.Below
import Derived.Deep.QuietTactic
import Derived.BigQuiet
import Derived.WalkSmall
import Derived.Deep.RegionHeld3
import Derived.Deep.DeepCutAuto
import Derived.Test.YtmijjhgibbbedaaMore2
import Derived.Lib.QuietBelow
namespace Go.Proofs.Ytmijjhgibbbedaa
set_option linter.unusedVariables false
open Go.ChangeShapes Go.WideShapes Go.ChangeAt Go.RowKit
open Go.Sort (grow)
attribute [local go_sem] cell?_gr frozen?_gr setCell_gr size_gr drew_gr drewN_gr heap_redrawn redrawn_drew redrawn_drewN redrawn_redrawn gr_gr eql_acc neq_acc equal_big setCell_drewN alloc_drewN World.drewN_drewN Array.size_append
attribute [local go_sem] lt_1 lt_11 lt_2 lt_21 lt_3 lt_31 lt_4 lt_41 lt_5 lt_51 lt_6 lt_61


/-- The sum of the first n numbers of a family. -/
def sumF (f : Nat → Int) : Nat → Int
  | 0 => 0
  | n + 1 => sumF f n + f n
/-- A list of n wide numbers lies at this address (where there is one of them at all). -/
def Lies (w : World) (ao : Option Addr) (n : Nat) (f : Nat → Int) : Prop :=
  ∀ i, i < n → ∃ b off, ao = some ⟨b, off, none⟩ ∧ w.cell? ⟨b, off + i * 2, none⟩ = some (.int .i64 (hiW (f i))) ∧ w.cell? ⟨b, off + i * 2 + 1, none⟩ = some (.int .u64 (loW (f i)))
theorem hiW_0 : hiW 0 = 0 := by unfold hiW; omega
theorem loW_0 : loW 0 = 0 := by unfold loW; omega
theorem alloc_gr (X : World) (d : Nat) (os : Array Obj) (o : Obj) : (grow (redrawn X d) os).alloc o = grow (redrawn X d) (os.push o) := by
  simp only [World.alloc, grow, redrawn, Array.push_append]

set_option maxHeartbeats 1000000 in
theorem sum_any (ao : Option Addr) (n cap : Nat) (f : Nat → Int) (w : World) (hn : n ≤ 60) (h : Hid (Lies w ao n f)) :
    Calls Try.prog 32 #[.slice ao n cap] w fun e w' => e = .returned (.agg #[.int .i64 (hiW (sumF f n)), .int .u64 (loW (sumF f n))]) ∧ Below w.heap.size w w' := by
  go_enter Try.func32, Try.ntmps32
  go_wp2
  go_loopw [8] (fun i wr => ∃ (k d : Nat) (os : Array Obj), k ≤ n ∧ i = .int .i64 k ∧ wr = grow (redrawn ((w.alloc (.cells #[.int .i64 0, .int .u64 0] 24)).alloc (.cells #[.int .i64 (hiW (sumF f k)), .int .u64 (loW (sumF f k))] 24)) d) os)
    (fun i _ => n - (intOf i).toNat)
  case atStart => exact ⟨0, w.drawn, #[], by omega, rfl, by rw [sumF, hiW_0, loW_0]; exact (Sort.grow_empty _).symm⟩
  case round =>
    obtain ⟨k, d, os, hk, rfl, rfl⟩ := hrel
    by_cases hlt : k < n
    · obtain ⟨b, off, rfl, c0, c1⟩ := h.out k hlt
      have z0 : b < w.heap.size := block_lt_of_cell c0
      have z1 : b < w.heap.size + 1 := by omega
      have z2 : b < w.heap.size + 1 + 1 := by omega
      have z3 : ∀ m, b < w.heap.size + 1 + 1 + m := by omega
      clear h
      go_wp2_with (go_at_call 11; refine (plus_any _ _ _).mono ?_; rintro e w1 ⟨rfl, hb⟩; obtain ⟨d1, os1, rfl⟩ := more_of hb)
      go_roundw
      case rel => exact ⟨k + 1, _, _, by omega, by go_num, by rw [alloc_gr, gr_gr]; rfl⟩
      case measure => simp [intOf]; omega
    · have e : k = n := by omega
      subst e
      clear h
      go_wp2
      go_returns
      exact ⟨rfl, below_gr (by go_grown) (by go_size) _ _⟩

theorem sumF_add (f : Nat → Int) (m n : Nat) : sumF f (m + n) = sumF f m + sumF (fun i => f (m + i)) n := by
  induction n with
  | zero => simp [sumF]
  | succ n ih => rw [← Nat.add_assoc, sumF, sumF, ih]; omega
theorem sumF_same {f g : Nat → Int} {n : Nat} (h : ∀ i, i < n → f i = g i) : sumF f n = sumF g n := by
  induction n with
  | zero => rfl
  | succ n ih => rw [sumF, sumF, ih (fun i hi => h i (by omega)), h n (by omega)]
theorem sumF_one (f : Nat → Int) (n : Nat) : sumF f (n + 1) = f 0 + sumF (fun i => f (i + 1)) n := by
  induction n with
  | zero => simp [sumF]
  | succ n ih => rw [sumF, ih, sumF]; omega
theorem sumF_rev (f : Nat → Int) (n : Nat) : sumF (fun j => f (n - 1 - j)) n = sumF f n := by
  induction n generalizing f with
  | zero => rfl
  | succ n ih =>
    rw [sumF_one f n, ← ih (fun i => f (i + 1)), sumF]
    have e : sumF (fun j => f (n + 1 - 1 - j)) n = sumF (fun j => f (n - 1 - j + 1)) n := sumF_same fun i hi => by
      show f _ = f _; congr 1; omega
    have e2 : f (n + 1 - 1 - n) = f 0 := by congr 1; omega
    rw [e, e2]; omega
theorem sumF_split (f : Nat → Int) {k n : Nat} (h : k ≤ n) : sumF f k + sumF (fun i => f (k + i)) (n - k) = sumF f n := by
  rw [← sumF_add, show k + (n - k) = n by omega]
end Go.Proofs.Ytmijjhgibbbedaa
