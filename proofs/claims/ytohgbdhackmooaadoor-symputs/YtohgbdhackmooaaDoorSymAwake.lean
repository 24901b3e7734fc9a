/-
  The document's example of layer 9: 999 of 1000 is put into a packet of 8 bytes, read again, and its raw bits are the last byte. Nothing that was there has turned.
-/
import Derived.Test.YtohgbdhackmooaaDoorSymPut
import Derived.Test.YtohgbdhackmooaaDoorSymGet
import Derived.Test.YtohgbdhackmooaaDoorReaderCalls3
namespace Go.Proofs.YtohgbdhackmooaaDoor
set_option linter.unusedVariables false
open Go.ChangeShapes Go.WideShapes Go.ChangeAt Go.RowKit

theorem sp_1000 : Sp 1000 250 2 := ⟨by decide, by decide, by decide, by decide, by decide, by decide, by decide⟩
/-- The packet of 8 bytes, and noughts. -/
def exP (i : Nat) : Int := [254, 249, 4, 0, 0, 0, 0, 3].getD i 0
theorem exP_is : ∀ i : Fin 8, (Mo.new.num 999 250 2).pk 8 i = exP i := by decide +kernel
theorem exP_bx : Bx 8 exP := by
  have h : ∀ i : Fin 8, 0 ≤ exP i ∧ exP i ≤ 255 := by decide
  have z : ∀ i, 8 ≤ i → exP i = 0 := by
    intro i hi
    obtain ⟨k, rfl⟩ := Nat.exists_eq_add_of_le hi
    rw [Nat.add_comm]
    rfl
  refine ⟨fun i => ?_, fun i hi => z i hi⟩
  by_cases hi : i < 8
  · exact h ⟨i, hi⟩
  · rw [z i (by omega)]; decide
theorem ex_left : (Mo.new.num 999 250 2).left 8 = 38 := by decide +kernel
theorem ex_nD : (Mo.new.num 999 250 2).nD ≤ 700000 := by decide +kernel
theorem ex_nR : (Mo.new.num 999 250 2).nR ≤ 700000 := by decide +kernel
theorem ex_v : (Re.new exP).numV 8 exP 250 2 = 999 := by decide +kernel
theorem ex_a : uintA 999 1000 = .tuple #[.int .i64 999, .bool true] := by unfold uintA; simp
theorem ex_bytes {w : World} {g : Nat} (h : BytesAt w g 8 ((Mo.new.num 999 250 2).pk 8)) : IntsAt w (some ⟨g, 0, none⟩) 8 .u8 exP := by
  intro i hi
  refine ⟨g, 0, rfl, ?_⟩
  rw [Nat.zero_add, h.cell hi, exP_is ⟨i, hi⟩]

set_option maxRecDepth 20000 in
theorem awake_any9 (w : World) : Calls Tryd.prog 6 #[] w fun e w' => e = .returned (.bool true) ∧ Below w.heap.size w w' := by
  have HS : Hid _ := sp_1000
  have HN : Hid _ := new_ok
  have HX : Hid _ := exP_bx
  have HG : Hid _ := new_good exP_bx
  go_enter Tryd.func6, Tryd.ntmps6
  go_wp2_with (first
    | (go_at_call 21; refine (new_any _ 8 (by decide) (by decide)).mono ?_; rintro e w1 ⟨rfl, HW1, hB1⟩; replace HW1 : Hid _ := HW1; replace hB1 : Hid _ := hB1)
    | (go_at_call 25; refine (putuint_wr _ w.heap.size 8 Mo.new 999 1000 250 2 (by decide) (by decide) (by decide) (by decide) (by decide) HN HS HW1).mono ?_; rintro e w2 ⟨rfl, HW2, hB2⟩; replace HW2 : Hid (WrAt w2 w.heap.size 8 (Mo.new.num 999 250 2)) := HW2; replace hB2 : Hid _ := hB2)
    | (go_at_call 29; refine (done_wr _ w.heap.size 8 _ (by decide) (by decide) ex_nR (by rw [ex_left]; decide) HW2).mono ?_; rintro e w3 ⟨g, rfl, hg, HP, hB3⟩; have HI : Hid (IntsAt w3 (some ⟨g, 0, none⟩) 8 .u8 exP) := ex_bytes HP; have c7 : w3.cell? ⟨g, 7, none⟩ = some (.int .u8 3) := (HP.cell (i := 7) (by decide)).trans (by rw [exP_is ⟨7, by decide⟩]; rfl); replace c7 : Hid _ := c7; replace HP : Hid (BytesAt w3 g 8 ((Mo.new.num 999 250 2).pk 8)) := HP; replace hB3 : Hid _ := hB3)
    | (go_at_call 7; refine (rdnew _ _ 8 8 _ (by decide) HX HI).mono ?_; rintro e w4 ⟨br, rfl, HW4, hB4⟩; replace HW4 : Hid (RdAt w4 w3.heap.size w4.heap.size br 8 exP (Re.new exP)) := HW4; replace hB4 : Hid _ := hB4)
    | (go_at_call 13; refine (uint_rd _ _ _ br 8 exP (Re.new exP) 1000 250 2 (by decide) (by decide) (by decide) HX HG HS HW4).mono ?_; rw [ex_v, ex_a]; rintro e w5 ⟨rfl, HW5, hB5⟩; have d7 : w5.cell? ⟨g, 7, none⟩ = some (.int .u8 3) := by { have k1 := HP.out.lt; have k2 := HW4.out.lt; have k3 := hB4.out.size; rw [World.cell?_of_block (a := ⟨g, 7, none⟩) ((hB5.block g (by omega) (by simp; omega)).trans (hB4.out.block g k1))]; exact c7.out }; replace HW5 : Hid _ := HW5; replace hB5 : Hid _ := hB5))
  go_ret
  have h1 : Below w.heap.size w w1 := hB1.out
  have h2 : w1.grownBy w2 (some w.heap.size) := hB2.out
  have h3 : Below w2.heap.size w2 w3 := hB3.out
  have h4 : Below w3.heap.size w3 w4 := hB4.out
  have h5 : w4.grownBy w5 (some br) := hB5.out
  have k4 := HW4.out.lt
  have a2 : Below w.heap.size w w2 := below_grown h1 h2 (Nat.le_refl _) h1.size
  have a3 := a2.trans (h3.mono a2.size)
  have a4 := a3.trans (h4.mono a3.size)
  exact ⟨rfl, below_grown a4 h5 (Nat.le_trans a3.size k4.1) a4.size⟩

end Go.Proofs.YtohgbdhackmooaaDoor
