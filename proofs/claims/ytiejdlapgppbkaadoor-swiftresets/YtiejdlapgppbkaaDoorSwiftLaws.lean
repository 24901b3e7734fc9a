/-
  What the laws of layer 8 lean on: the document's reader anew (spinetref08.New), what is more than is played (long). Nothing that was there is turned.
-/
import Derived.Test.YtiejdlapgppbkaaDoorSwiftCalls4
import Derived.Test.YtiejdlapgppbkaaDoorReaderOpen
import Derived.Test.YtiejdlapgppbkaaDoorReaderRef3
import Derived.Test.YtiejdlapgppbkaaDoorReaderRef2
namespace Go.Proofs.YtiejdlapgppbkaaDoor
set_option linter.unusedVariables false
open Go.ChangeShapes Go.WideShapes Go.ChangeAt Go.RowKit

theorem below_alloc' {B : Nat} {W w : World} (h : Below B W w) (o : Obj) (hs : B ≤ w.heap.size) : Below B W (w.alloc o) := h.alloc hs o
theorem drewN_ex (w : World) (a q : Nat) : ∃ n, (w.drewN a).drewN q = w.drewN n := ⟨a + q, by simp [World.drewN, Nat.add_assoc]⟩
theorem drew1_ex (w : World) (a : Nat) : ∃ n, (w.drewN a).drew = w.drewN n := ⟨a + 1, rfl⟩
theorem below_dN {B : Nat} {w w' : World} (h : Below B w w') (n : Nat) : Below B w (w'.drewN n) := h.trans ⟨rfl, rfl, rfl, Nat.le_refl _, fun _ _ => rfl⟩

theorem slong_no (ab : Option Addr) (nb cb : Nat) (ao : Option Addr) (n cap : Nat) (w : World) (h1 : nb ≤ 1300) (h2 : n ≤ 200) :
    Calls Tryd.prog 9 #[.slice ab nb cb, .slice ao n cap] w fun e w' => e = .returned (.bool false) ∧ w' = w := by
  have h1' : ¬ (1300 : Int) < nb := by omega
  have h2' : ¬ (200 : Int) < (n : Int) := by omega
  go_enter Tryd.func9, Tryd.ntmps9
  go_wp2
  go_ret
  exact ⟨rfl, rfl⟩
theorem slong_yes (ab : Option Addr) (nb cb : Nat) (ao : Option Addr) (n cap : Nat) (w : World) (hn : 1300 < nb ∨ 200 < n) :
    Calls Tryd.prog 9 #[.slice ab nb cb, .slice ao n cap] w fun e w' => e = .returned (.bool true) ∧ w' = w := by
  have hn' : (1300 : Int) < nb ∨ (¬ (1300 : Int) < nb ∧ (200 : Int) < (n : Int)) := by omega
  rcases hn' with h1 | ⟨h1, h2⟩
  · go_enter Tryd.func9, Tryd.ntmps9
    go_wp2
    go_ret
    exact ⟨rfl, rfl⟩
  · go_enter Tryd.func9, Tryd.ntmps9
    go_wp2
    go_ret
    exact ⟨rfl, rfl⟩

theorem rf8new (w : World) (ab : Option Addr) (nb cb : Nat) (p : Nat → Int) (hn : nb ≤ 100000) (B : Nat) (hB : B ≤ w.heap.size) (hp : Hid (Bx nb p)) (h : Hid (IntsUnder w B ab nb .u8 p)) :
    Calls Tryd.prog 11 #[.slice ab nb cb] w fun e w' => e = .returned (.pointer (some ⟨w.heap.size, 0, none⟩)) ∧ Rf w' B w.heap.size ab nb cb p (Re.new p) ∧ Below w.heap.size w w' := by
  go_enter Tryd.func11, Tryd.ntmps11
  go_wp2_with (go_at_call 34; refine (rfnew w ab nb cb p hn B hB hp h).mono ?_; rintro e w1 ⟨rfl, HF, HB⟩; replace HF : Hid (Rf w1 B w.heap.size ab nb cb p (Re.new p)) := HF; replace HB : Hid _ := HB)
  go_ret
  exact ⟨rfl, HF.out, HB.out⟩

end Go.Proofs.YtiejdlapgppbkaaDoor
