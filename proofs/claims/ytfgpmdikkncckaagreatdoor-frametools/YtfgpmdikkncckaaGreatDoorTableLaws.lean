/-
  The laws of layer 12 (table) as walks, the first of them: the document's example, the document's V and Rank, two lists that are alike, a copy of a list that is handed in; and the law TableTells.
-/
import Derived.Test.YtfgpmdikkncckaaGreatDoorTableNew
import Derived.Test.YtfgpmdikkncckaaGreatDoorTableInto
import Derived.Test.YtfgpmdikkncckaaGreatDoorTableRank
import Derived.Test.YtfgpmdikkncckaaGreatDoorRankRef
import Derived.Test.YtfgpmdikkncckaaGreatDoorRankLaws
import Derived.Test.YtfgpmdikkncckaaGreatDoorRankTurns
import Derived.Test.YtfgpmdikkncckaaGreatDoorOpen
namespace Go.Proofs.YtfgpmdikkncckaaGreatDoor
set_option linter.unusedVariables false
open Go.ChangeShapes Go.WideShapes Go.ChangeAt Go.RowKit

/-- A list that is handed in is appended to a list. -/
theorem run_catA (w : World) (ty : TypeId) (B : Nat) (v : Value) (r : List Int) (hown : OwnL w B v r) (ao : Option Addr) (m c : Nat) (s : List Int) (hs : s.length = m) (hx : LAt w ao s) (hn : r.length ≤ 1000000) (hm : m ≤ 1000000) (hB : B ≤ w.heap.size) :
    ∃ v' w', (Builtin.append_ #[57, 57] ty #[v, .slice ao m c]).run Tryz.prog w = .ok v' w' ∧ OwnL w' B v' (r ++ s) ∧ w.grownBy w' v.ownBlock ∧ (v'.ownBlock = v.ownBlock ∨ v'.ownBlock = some w.heap.size) := by
  obtain ⟨i0, hi, hz0, hz1, hz2⟩ := info_parts lint_info
  by_cases h0 : m = 0
  · subst h0
    obtain rfl : s = [] := List.length_eq_zero_iff.1 hs
    refine ⟨v, w, ?_, by rw [List.append_nil]; exact hown, ⟨rfl, rfl, rfl, Nat.le_refl _, fun _ _ _ => rfl⟩, .inl rfl⟩
    obtain ⟨bo, cap, rfl, h1, h2, _⟩ := hown.slice
    cases bo with
    | none => cases ao <;> simp [Builtin.append_, run_underlying Tryz.underlying57, sizeOf, typeInfo, hi, Builtin.lenOf, Builtin.firstCells, loadCells, loadCellsFrom, h1]
    | some a => cases ao <;> simp [Builtin.append_, run_underlying Tryz.underlying57, sizeOf, typeInfo, hi, Builtin.lenOf, Builtin.firstCells, loadCells, loadCellsFrom, h1, storeCells]
  · obtain ⟨x0, hx0⟩ : ∃ x, s[0]? = some x := ⟨_, List.getElem?_eq_getElem (by omega)⟩
    obtain ⟨bl, off, e, _⟩ := hx 0 x0 hx0
    subst e
    subst hs
    obtain ⟨v', w', hr, h2, h3, _, h5⟩ := run_append_own_at (P := Tryz.prog) w B 57 ty 3 i0 (.int .i64 0) 1 8 Tryz.underlying57 hi hz0 hz1 hz2 rfl (by decide) v r.length (intL r) hown ⟨bl, off, none⟩ s.length c (intL s) (by rw [intL_len, Nat.mul_one]) (by
      intro j u hu
      rw [intL, List.getElem?_map] at hu
      obtain ⟨x, hx2, rfl⟩ := Option.map_eq_some_iff.1 hu
      obtain ⟨b2, o2, e2, c2⟩ := hx j x hx2
      cases e2
      rw [Addr.add_mid]
      exact c2) (intL_one _) (by unfold maxLen; omega) (by omega) hB
    refine ⟨v', w', hr, ?_, h3, h5⟩
    unfold OwnL
    rw [intL_app, List.length_append]
    exact h2
theorem wpList_catA {w : World} {ops : Array Oper} {rest : List Oper} {o : Oper} {a : Act} {Q : Exit → Act → World → Prop} (hgd : o.guard = none) (s x : Operand)
    (ho : o.op = .call { callee := .builtin .append, args := #[s, x], argTypes := #[57, 57] }) (B : Nat) (v : Value) (r : List Int) (hs : a.eval s = v) (hown : OwnL w B v r) (ao : Option Addr) (m c : Nat) (t : List Int) (hx : a.eval x = .slice ao m c)
    (ht : t.length = m) (hy : LAt w ao t) (hn : r.length ≤ 1000000) (hm : m ≤ 1000000) (hB : B ≤ w.heap.size)
    (h : ∀ v' w', OwnL w' B v' (r ++ t) → w.grownBy w' v.ownBlock → (v'.ownBlock = v.ownBlock ∨ v'.ownBlock = some w.heap.size) → wpList Tryz.prog ops Q rest (a.put o.dst v') w') : wpList Tryz.prog ops Q (o :: rest) a w := by
  obtain ⟨v', w', hr, h2, h3, h4⟩ := run_catA w o.type B v r hown ao m c t ht hy hn hm hB
  exact Lib.wpList_append_run w hgd s x 57 57 ho _ _ hs hx _ w' hr (h v' w' h2 h3 h4)

/-- Two lists of the same numbers. -/
theorem ints_same (w : World) (ao bo : Option Addr) (n cap dap : Nat) (r : List Int) (hn : n ≤ 60) (hr : Hid (r.length = n)) (h : Hid (LAt w ao r)) (h' : Hid (LAt w bo r)) :
    Calls Tryz.prog 29 #[.slice ao n cap, .slice bo n dap] w fun e w' => e = .returned (.bool true) ∧ ∃ d, w' = w.drewN d := by
  go_enter Tryz.func29, Tryz.ntmps29
  go_wp2
  go_loopw [13] (fun i wr => ∃ q d : Nat, q ≤ n ∧ i = .int .i64 q ∧ wr = w.drewN d) (fun i _ => n - (intOf i).toNat)
  case atStart => exact ⟨0, 0, by omega, rfl, rfl⟩
  case round =>
    obtain ⟨q, d, hq, rfl, rfl⟩ := hrel
    by_cases hlt : q < n
    · have hlt' : (q : Int) < (n : Int) := by omega
      obtain ⟨x, hx⟩ : ∃ x, r[q]? = some x := ⟨_, List.getElem?_eq_getElem (by rw [hr.out]; exact hlt)⟩
      obtain ⟨bl, off, rfl, c0⟩ := h.out q x hx
      obtain ⟨bm, offm, rfl, c1⟩ := h'.out q x hx
      clear hx
      go_wp2
      go_quiet (fail)
      go_wp2
      go_roundw
      case rel => exact ⟨q + 1, _, by omega, by go_num, rfl⟩
      case measure => simp [intOf]; omega
    · obtain rfl : q = n := by omega
      go_wp2
      go_returns
      exact ⟨rfl, d, rfl⟩

theorem rv12 (w : World) (n k : Int) : Calls Tryz.prog 28 #[.int .i64 n, .int .i64 k] w fun e w' => e = .returned (.int .u64 (vI n k : Nat)) ∧ w' = w := by
  go_enter Tryz.func28, Tryz.ntmps28
  go_wp2_with fail
  refine (rv_any w n k).mono ?_
  rintro e w1 ⟨rfl, hw⟩
  obtain rfl := hw.symm
  clear hw
  go_wp2
  go_returns
  exact ⟨rfl, rfl⟩
theorem rr12_bad (w : World) (ao : Option Addr) (n cap : Nat) (r : List Int) (hn : n ≤ 60) (hr : Hid (r.length = n)) (hw : Hid (WfL r)) (h : Hid (LAt w ao r)) (hbad : Hid (16 < n ∨ ¬ pul r ≤ 32)) :
    Calls Tryz.prog 27 #[.slice ao n cap] w fun e w' => e = .returned (.tuple #[.int .u64 0, .bool false]) ∧ w' = w := by
  go_enter Tryz.func27, Tryz.ntmps27
  go_wp2_with fail
  by_cases h16 : 16 < n
  · refine (right_long _ ao n cap h16 hn).mono ?_
    rintro e w2 ⟨rfl, hw2⟩
    obtain rfl := hw2.symm
    clear hw2
    go_wp2
    go_returns
    exact ⟨rfl, rfl⟩
  · refine (right_short _ ao n cap r (by omega) hr hw h).mono ?_
    rw [decide_eq_false (by have := hbad.out; omega)]
    rintro e w2 ⟨rfl, hw2⟩
    obtain rfl := hw2.symm
    clear hw2
    go_wp2
    go_returns
    exact ⟨rfl, rfl⟩
theorem rr12_good (w : World) (ao : Option Addr) (n cap : Nat) (r : List Int) (hn : n ≤ 16) (hc : n ≤ cap) (hc2 : cap ≤ 9223372036854775807) (hr : Hid (r.length = n)) (hw : Hid (WfL r)) (h : Hid (LAt w ao r)) (k : Nat) (hk : k ≤ 32) (hp : Hid (pul r = k)) :
    Calls Tryz.prog 27 #[.slice ao n cap] w fun e w' => e = .returned (.tuple #[.int .u64 (rk r k : Nat), .bool true]) ∧ ∃ d, w' = w.drewN d := by
  obtain ⟨R, hR⟩ : ∃ R, rk r k = R := ⟨_, rfl⟩
  have HR : Hid (rk r k = R) := hR
  rw [hR]
  clear hR
  go_enter Tryz.func27, Tryz.ntmps27
  go_wp2_with fail
  refine (right_short _ ao n cap r (by omega) hr hw h).mono ?_
  rw [decide_eq_true (by rw [hp.out]; exact hk)]
  rintro e w3 ⟨rfl, hw3⟩
  obtain rfl := hw3.symm
  clear hw3
  go_wp2_with fail
  refine (rrank_any n hn _ ao cap r hc hc2 hr k hk hp h).mono ?_
  rw [HR.out]
  rintro e w4 ⟨rfl, d, rfl⟩
  go_wp2
  go_returns
  exact ⟨rfl, d, rfl⟩
end Go.Proofs.YtfgpmdikkncckaaGreatDoor
