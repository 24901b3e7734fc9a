/-
  '==' on arrays of five numbers; the document's examples of layer 14 (alloc). Nothing that was there has turned.
-/
import Derived.Test.YthlbilfdeneajaaDoorAllocShare
import Derived.ChangeKeysEq
import Derived.Laws.StructEq
namespace Go.Proofs.YthlbilfdeneajaaDoor
set_option linter.unusedVariables false
open Go.ChangeShapes Go.WideShapes Go.ChangeAt Go.RowKit

theorem run_eqItems_ints {P : Program} (d : Nat) {e : TypeId} {k : IntKind} (he : P.underlying e = some (.int k)) (hp : P.plainKey e = true) (xs ys : Array Value) (us vs : List Int) (w : World) :
    ∀ is : List Nat, (∀ i ∈ is, xs[i]? = some (.int k (us.getD i 0)) ∧ ys[i]? = some (.int k (vs.getD i 0))) →
      (Op.eqItems (d + 1) e 1 xs ys is).run P w = .ok (is.all fun i => us.getD i 0 == vs.getD i 0) w
  | [], _ => by simp [Op.eqItems]
  | i :: is, h => by
    obtain ⟨h1, h2⟩ := h i (by simp)
    have ih := run_eqItems_ints d he hp xs ys us vs w is (fun j hj => h j (by simp [hj]))
    simp only [Op.eqItems, Sem.run_bind, Nat.mul_one, run_part_plain w hp h1, run_part_plain w hp h2, Result.andThen_ok, run_equalIn_int w d e k k _ _ he, List.all_cons]
    cases us.getD i 0 == vs.getD i 0
    · simp
    · simpa using ih
def same5 (f g : Nat → Int) : Bool := f 0 == g 0 && f 1 == g 1 && f 2 == g 2 && f 3 == g 3 && f 4 == g 4
theorem same5_refl (f : Nat → Int) : same5 f f = true := by simp [same5]
theorem equal5 (f g : Nat → Int) (w : World) : (Op.equalIn 10000 25 (.agg (row5 f)) (.agg (row5 g))).run Tryd.prog w = .ok (same5 f g) w := by
  obtain ⟨i0, hi⟩ : ∃ i, Tryd.prog.info? 3 = some i := ⟨_, rfl⟩
  rw [run_equalIn_array w 9999 _ _ Tryd.underlying25 hi, show Tryd.prog.cellsOf 3 = 1 by kernel_rfl,
    run_eqItems_ints 9998 Tryd.underlying3 (by kernel_rfl) _ _ [f 0, f 1, f 2, f 3, f 4] [g 0, g 1, g 2, g 3, g 4] w (List.range 5) (fun i hi => by
      have : i < 5 := List.mem_range.1 hi
      match i, this with
      | 0, _ | 1, _ | 2, _ | 3, _ | 4, _ => exact ⟨rfl, rfl⟩)]
  congr 1
  simp [List.range, List.range.loop, Bool.and_assoc, same5]
theorem eql5 (f g : Nat → Int) (w : World) : (binOp .eql 25 (.agg (row5 f)) (.agg (row5 g))).run Tryd.prog w = .ok (.bool (same5 f g)) w := by
  rw [run_eql_struct, equal5]; rfl
theorem eql5x (f : Nat → Int) (a b c d e : Int) (w : World) : (binOp .eql 25 (.agg (row5 f)) (.agg #[.int .i64 a, .int .i64 b, .int .i64 c, .int .i64 d, .int .i64 e])).run Tryd.prog w = .ok (.bool (f 0 == a && f 1 == b && f 2 == c && f 3 == d && f 4 == e)) w :=
  eql5 f (fun i => [a, b, c, d, e].getD i 0) w
theorem equal5x (f : Nat → Int) (a b c d e : Int) (w : World) : (Op.equalIn 10000 25 (.agg (row5 f)) (.agg #[.int .i64 a, .int .i64 b, .int .i64 c, .int .i64 d, .int .i64 e])).run Tryd.prog w = .ok (f 0 == a && f 1 == b && f 2 == c && f 3 == d && f 4 == e) w :=
  equal5 f (fun i => [a, b, c, d, e].getD i 0) w
attribute [local go_sem] eql5 eql5x equal5 equal5x

theorem ex_next : aNx 7 capB (fun _ => 0) 3 = some 2 := by decide +kernel
theorem ex_out3 : Out 3 1 7 3 (fun _ => 0) := ⟨0, rfl, .inl rfl, fun i hi => by
  rw [ex_next] at hi; cases hi
  decide +kernel⟩
theorem ex_next2 : aNx 7 capB (aMore (fun _ => 0) 2) 3 = some 0 := by decide +kernel
theorem ex_out4 : Out 3 1 7 4 (aMore (fun _ => 0) 2) := ⟨1, (K_next (n := 0) ex_next).symm, .inr (by decide +kernel), fun i hi => by
  rw [ex_next2] at hi; cases hi
  decide +kernel⟩
theorem ex_bands : bandsF 0 1 = ((3 : Nat) : Int) := by decide
theorem ex_slope : aSlI 0 1 7 2 = 18 := by decide +kernel

set_option maxHeartbeats 2000000 in
theorem awake14 (w : World) (hT : Hid (WTab w)) : Calls Tryd.prog 8 #[] w fun e w' => e = .returned (.bool true) ∧ Below w.heap.size w w' := by
  have HBN : Hid (bandsF 0 1 = ((3 : Nat) : Int)) := ex_bands
  have HSL : Hid (aSlI 0 1 7 2 = 18) := ex_slope
  go_enter Tryd.func8, Tryd.ntmps8
  go_wp2_with fail
  refine (newb_calls _).mono ?_
  rintro e w1 ⟨b, rfl, hB1, hb1, hle⟩
  have HB1 : Hid (Bk (w1.alloc (.cells #[.int .i64 0, .int .i64 1] 30)) b none) := hB1.alloc _
  have HG1 : Hid (Gb w1 (w1.alloc (.cells #[.int .i64 0, .int .i64 1] 30)) b none none) := (Gb.refl _ _ _).alloc _
  have HM1 : Hid (Md (w1.alloc (.cells #[.int .i64 0, .int .i64 1] 30)) w1.heap.size 0 1) := Md.new w1 0 1
  have HT1 : Hid (WTab (w1.alloc (.cells #[.int .i64 0, .int .i64 1] 30))) := (hT.out.below hb1).grown (gN_alloc (gN_refl w1) _)
  have hbl := hB1.lt
  have HY : Hid (Below w.heap.size w w1) := hb1
  clear hB1 hb1
  go_upto_region 2 with fail
  generalize w1.alloc (.cells #[.int .i64 0, .int .i64 1] 30) = w2 at *
  have c1 := HM1.out.cs
  have c2 := HM1.out.cc
  go_wp2_with fail
  refine (alloc_any _ b none 0 1 7 3 3 HBN (by omega) HB1 HT1).mono ?_
  rintro e w3 ⟨R, rfl, hO, hF, mo3, hB3, hG3⟩
  obtain rfl := out_one (by omega) (by omega) hO ex_out3
  have HB3 : Hid (Bk w3 b mo3) := hB3
  have HG3 : Hid (Gb w1 w3 b none mo3) := HG1.out.trans hG3
  have HM3 : Hid (Md w3 w1.heap.size 0 1) := HM1.out.kp (Kp.gb HB1.out hG3) (by omega)
  have HT3 : Hid (WTab w3) := HT1.out.bk HB1.out hG3
  clear hO hF hB3 hG3 c1 c2
  have c1 := HM3.out.cs
  have c2 := HM3.out.cc
  go_wp2_with fail
  refine (alloc_any _ b mo3 0 1 7 4 3 HBN (by omega) HB3 HT3).mono ?_
  rintro e w4 ⟨R, rfl, hO, hF, mo4, hB4, hG4⟩
  obtain rfl := out_one (by omega) (by omega) hO ex_out4
  have HX4 : Hid (Below w.heap.size w w4) := below_book HY.out hle (HG3.out.trans hG4)
  have HM4 : Hid (Md w4 w1.heap.size 0 1) := HM3.out.kp (Kp.gb HB3.out hG4) (by omega)
  have HT4 : Hid (WTab w4) := HT3.out.bk HB3.out hG4
  clear hO hF hB4 hG4 c1 c2
  have c1 := HM4.out.cs
  have c2 := HM4.out.cc
  have m0 : aMore (fun _ => (0 : Int)) 2 0 = 0 := rfl
  have m1 : aMore (fun _ => (0 : Int)) 2 1 = 0 := rfl
  have m2 : aMore (fun _ => (0 : Int)) 2 2 = 1 := rfl
  have m3 : aMore (fun _ => (0 : Int)) 2 3 = 0 := rfl
  have m4 : aMore (fun _ => (0 : Int)) 2 4 = 0 := rfl
  go_wp2_with fail
  refine (slope_any _ 0 1 7 2 HT4).mono ?_
  rw [HSL.out]
  rintro e w5 ⟨rfl, hb5⟩
  have HX5 : Hid (Below w.heap.size w w5) := HX4.out.trans (hb5.mono HX4.out.size)
  clear hb5
  go_wp2
  go_returns
  exact ⟨rfl, HX5.out⟩
end Go.Proofs.YthlbilfdeneajaaDoor
