/-
  '==' on arrays of five numbers; the document's examples of layer 14 (alloc). Nothing that was there has turned.
-/
import Derived.Test.YtfgpmdikkncckaaGreatDoorAllocShare
import Derived.ChangeKeysEq
import Derived.Laws.StructEq
namespace Go.Proofs.YtfgpmdikkncckaaGreatDoor
set_option linter.unusedVariables false
set_option maxRecDepth 100000
open Go.ChangeShapes Go.WideShapes Go.ChangeAt Go.RowKit

theorem run_eqItems_ints {P : Program} (d : Nat) {e : TypeId} {k : IntKind} (he : P.underlying e = some (.int k)) (hp : P.plainKey e = true) (xs ys : Array Value) (us vs : List Int) (w : World) :
    ∀ is : List Nat, (∀ i ∈ is, xs[i]? = some (.int k (us.getD i 0)) ∧ ys[i]? = some (.int k (vs.getD i 0))) →
      (Op.eqItems (d + 1) e 1 xs ys is).run P w = .ok (is.all fun i => us.getD i 0 == vs.getD i 0) w
  | [], _ => by simp [Op.eqItems]
  | i :: is, h => by
    obtain ⟨h1, h2⟩ := h i (by simp)
    have ih := run_eqItems_ints d he hp xs ys us vs w is (fun j hj => h j (by simp [hj]))
    simp only [Op.eqItems, Sem.run_bind, Nat.mul_one, run_part_plain w hp h1, run_part_plain w hp h2, Result.andThen_ok, run_equalIn_int w d e k k _ _ he, List.all_cons]
    cases us.getD i 0 == vs.getD i 0
    · simp
    · simpa using ih
def same5 (f g : Nat → Int) : Bool := f 0 == g 0 && f 1 == g 1 && f 2 == g 2 && f 3 == g 3 && f 4 == g 4
theorem same5_refl (f : Nat → Int) : same5 f f = true := by simp [same5]
theorem equal5 (f g : Nat → Int) (w : World) : (Op.equalIn 10000 31 (.agg (row5 f)) (.agg (row5 g))).run Tryz.prog w = .ok (same5 f g) w := by
  obtain ⟨i0, hi⟩ : ∃ i, Tryz.prog.info? 3 = some i := ⟨_, rfl⟩
  rw [run_equalIn_array w 9999 _ _ Tryz.underlying31 hi, show Tryz.prog.cellsOf 3 = 1 by kernel_rfl,
    run_eqItems_ints 9998 Tryz.underlying3 (by kernel_rfl) _ _ [f 0, f 1, f 2, f 3, f 4] [g 0, g 1, g 2, g 3, g 4] w (List.range 5) (fun i hi => by
      have : i < 5 := List.mem_range.1 hi
      match i, this with
      | 0, _ | 1, _ | 2, _ | 3, _ | 4, _ => exact ⟨rfl, rfl⟩)]
  congr 1
  simp [List.range, List.range.loop, Bool.and_assoc, same5]
theorem eql5 (f g : Nat → Int) (w : World) : (binOp .eql 31 (.agg (row5 f)) (.agg (row5 g))).run Tryz.prog w = .ok (.bool (same5 f g)) w := by
  rw [run_eql_struct, equal5]; rfl
theorem eql5x (f : Nat → Int) (a b c d e : Int) (w : World) : (binOp .eql 31 (.agg (row5 f)) (.agg #[.int .i64 a, .int .i64 b, .int .i64 c, .int .i64 d, .int .i64 e])).run Tryz.prog w = .ok (.bool (f 0 == a && f 1 == b && f 2 == c && f 3 == d && f 4 == e)) w :=
  eql5 f (fun i => [a, b, c, d, e].getD i 0) w
theorem equal5x (f : Nat → Int) (a b c d e : Int) (w : World) : (Op.equalIn 10000 31 (.agg (row5 f)) (.agg #[.int .i64 a, .int .i64 b, .int .i64 c, .int .i64 d, .int .i64 e])).run Tryz.prog w = .ok (f 0 == a && f 1 == b && f 2 == c && f 3 == d && f 4 == e) w :=
  equal5 f (fun i => [a, b, c, d, e].getD i 0) w
attribute [local go_sem] eql5 eql5x equal5 equal5x

theorem ex_next : aNx 7 capB (fun _ => 0) 3 = some 2 := by decide +kernel
theorem ex_out3 : Out 3 1 7 3 (fun _ => 0) := ⟨0, rfl, .inl rfl, fun i hi => by
  rw [ex_next] at hi; cases hi
  decide +kernel⟩
theorem ex_next2 : aNx 7 capB (aMore (fun _ => 0) 2) 3 = some 0 := by decide +kernel
theorem ex_out4 : Out 3 1 7 4 (aMore (fun _ => 0) 2) := ⟨1, (K_next (n := 0) ex_next).symm, .inr (by decide +kernel), fun i hi => by
  rw [ex_next2] at hi; cases hi
  decide +kernel⟩
theorem ex_bands : bandsF 0 1 = ((3 : Nat) : Int) := by decide
theorem ex_slope : aSlI 0 1 7 2 = 18 := by decide +kernel
end Go.Proofs.YtfgpmdikkncckaaGreatDoor
