/-
  The laws of layer 12 (table) as walks, the first of them: the document's example, the document's V and Rank, two lists that are alike, a copy of a list that is handed in; and the law TableTells.
-/
import Derived.Test.YtejappandbooeaaTableNew
import Derived.Test.YtejappandbooeaaTableInto
import Derived.Test.YtejappandbooeaaTableRank
import Derived.Test.YtejappandbooeaaRankRef
import Derived.Test.YtejappandbooeaaRankLaws
import Derived.Test.YtejappandbooeaaRankTurns
import Derived.Test.YtejappandbooeaaOpen
namespace Go.Proofs.Ytejappandbooeaa
set_option linter.unusedVariables false
open Go.ChangeShapes Go.WideShapes Go.ChangeAt Go.RowKit

/-- A list that is handed in is appended to a list. -/
theorem run_catA (w : World) (ty : TypeId) (B : Nat) (v : Value) (r : List Int) (hown : OwnL w B v r) (ao : Option Addr) (m c : Nat) (s : List Int) (hs : s.length = m) (hx : LAt w ao s) (hn : r.length ≤ 1000000) (hm : m ≤ 1000000) (hB : B ≤ w.heap.size) :
    ∃ v' w', (Builtin.append_ #[22, 22] ty #[v, .slice ao m c]).run Try.prog w = .ok v' w' ∧ OwnL w' B v' (r ++ s) ∧ w.grownBy w' v.ownBlock ∧ (v'.ownBlock = v.ownBlock ∨ v'.ownBlock = some w.heap.size) := by
  obtain ⟨i0, hi, hz0, hz1, hz2⟩ := info_parts lint_info
  by_cases h0 : m = 0
  · subst h0
    obtain rfl : s = [] := List.length_eq_zero_iff.1 hs
    refine ⟨v, w, ?_, by rw [List.append_nil]; exact hown, ⟨rfl, rfl, rfl, Nat.le_refl _, fun _ _ _ => rfl⟩, .inl rfl⟩
    obtain ⟨bo, cap, rfl, h1, h2, _⟩ := hown.slice
    cases bo with
    | none => cases ao <;> simp [Builtin.append_, run_underlying Try.underlying22, sizeOf, typeInfo, hi, Builtin.lenOf, Builtin.firstCells, loadCells, loadCellsFrom, h1]
    | some a => cases ao <;> simp [Builtin.append_, run_underlying Try.underlying22, sizeOf, typeInfo, hi, Builtin.lenOf, Builtin.firstCells, loadCells, loadCellsFrom, h1, storeCells]
  · obtain ⟨x0, hx0⟩ : ∃ x, s[0]? = some x := ⟨_, List.getElem?_eq_getElem (by omega)⟩
    obtain ⟨bl, off, e, _⟩ := hx 0 x0 hx0
    subst e
    subst hs
    obtain ⟨v', w', hr, h2, h3, _, h5⟩ := run_append_own_at (P := Try.prog) w B 22 ty 3 i0 (.int .i64 0) 1 8 Try.underlying22 hi hz0 hz1 hz2 rfl (by decide) v r.length (intL r) hown ⟨bl, off, none⟩ s.length c (intL s) (by rw [intL_len, Nat.mul_one]) (by
      intro j u hu
      rw [intL, List.getElem?_map] at hu
      obtain ⟨x, hx2, rfl⟩ := Option.map_eq_some_iff.1 hu
      obtain ⟨b2, o2, e2, c2⟩ := hx j x hx2
      cases e2
      rw [Addr.add_mid]
      exact c2) (intL_one _) (by unfold maxLen; omega) (by omega) hB
    refine ⟨v', w', hr, ?_, h3, h5⟩
    unfold OwnL
    rw [intL_app, List.length_append]
    exact h2
theorem wpList_catA {w : World} {ops : Array Oper} {rest : List Oper} {o : Oper} {a : Act} {Q : Exit → Act → World → Prop} (hgd : o.guard = none) (s x : Operand)
    (ho : o.op = .call { callee := .builtin .append, args := #[s, x], argTypes := #[22, 22] }) (B : Nat) (v : Value) (r : List Int) (hs : a.eval s = v) (hown : OwnL w B v r) (ao : Option Addr) (m c : Nat) (t : List Int) (hx : a.eval x = .slice ao m c)
    (ht : t.length = m) (hy : LAt w ao t) (hn : r.length ≤ 1000000) (hm : m ≤ 1000000) (hB : B ≤ w.heap.size)
    (h : ∀ v' w', OwnL w' B v' (r ++ t) → w.grownBy w' v.ownBlock → (v'.ownBlock = v.ownBlock ∨ v'.ownBlock = some w.heap.size) → wpList Try.prog ops Q rest (a.put o.dst v') w') : wpList Try.prog ops Q (o :: rest) a w := by
  obtain ⟨v', w', hr, h2, h3, h4⟩ := run_catA w o.type B v r hown ao m c t ht hy hn hm hB
  exact Lib.wpList_append_run w hgd s x 22 22 ho _ _ hs hx _ w' hr (h v' w' h2 h3 h4)

/-- Two lists of the same numbers. -/
theorem ints_same (w : World) (ao bo : Option Addr) (n cap dap : Nat) (r : List Int) (hn : n ≤ 60) (hr : Hid (r.length = n)) (h : Hid (LAt w ao r)) (h' : Hid (LAt w bo r)) :
    Calls Try.prog 13 #[.slice ao n cap, .slice bo n dap] w fun e w' => e = .returned (.bool true) ∧ ∃ d, w' = w.drewN d := by
  go_enter Try.func13, Try.ntmps13
  go_wp2
  go_loopw [13] (fun i wr => ∃ q d : Nat, q ≤ n ∧ i = .int .i64 q ∧ wr = w.drewN d) (fun i _ => n - (intOf i).toNat)
  case atStart => exact ⟨0, 0, by omega, rfl, rfl⟩
  case round =>
    obtain ⟨q, d, hq, rfl, rfl⟩ := hrel
    by_cases hlt : q < n
    · have hlt' : (q : Int) < (n : Int) := by omega
      obtain ⟨x, hx⟩ : ∃ x, r[q]? = some x := ⟨_, List.getElem?_eq_getElem (by rw [hr.out]; exact hlt)⟩
      obtain ⟨bl, off, rfl, c0⟩ := h.out q x hx
      obtain ⟨bm, offm, rfl, c1⟩ := h'.out q x hx
      clear hx
      go_wp2
      go_quiet (fail)
      go_wp2
      go_roundw
      case rel => exact ⟨q + 1, _, by omega, by go_num, rfl⟩
      case measure => simp [intOf]; omega
    · obtain rfl : q = n := by omega
      go_wp2
      go_returns
      exact ⟨rfl, d, rfl⟩

theorem rv12 (w : World) (n k : Int) : Calls Try.prog 12 #[.int .i64 n, .int .i64 k] w fun e w' => e = .returned (.int .u64 (vI n k : Nat)) ∧ w' = w := by
  go_enter Try.func12, Try.ntmps12
  go_wp2_with fail
  refine (rv_any w n k).mono ?_
  rintro e w1 ⟨rfl, hw⟩
  obtain rfl := hw.symm
  clear hw
  go_wp2
  go_returns
  exact ⟨rfl, rfl⟩
theorem rr12_bad (w : World) (ao : Option Addr) (n cap : Nat) (r : List Int) (hn : n ≤ 60) (hr : Hid (r.length = n)) (hw : Hid (WfL r)) (h : Hid (LAt w ao r)) (hbad : Hid (16 < n ∨ ¬ pul r ≤ 32)) :
    Calls Try.prog 10 #[.slice ao n cap] w fun e w' => e = .returned (.tuple #[.int .u64 0, .bool false]) ∧ w' = w := by
  go_enter Try.func10, Try.ntmps10
  go_wp2_with fail
  by_cases h16 : 16 < n
  · refine (right_long _ ao n cap h16 hn).mono ?_
    rintro e w2 ⟨rfl, hw2⟩
    obtain rfl := hw2.symm
    clear hw2
    go_wp2
    go_returns
    exact ⟨rfl, rfl⟩
  · refine (right_short _ ao n cap r (by omega) hr hw h).mono ?_
    rw [decide_eq_false (by have := hbad.out; omega)]
    rintro e w2 ⟨rfl, hw2⟩
    obtain rfl := hw2.symm
    clear hw2
    go_wp2
    go_returns
    exact ⟨rfl, rfl⟩
theorem rr12_good (w : World) (ao : Option Addr) (n cap : Nat) (r : List Int) (hn : n ≤ 16) (hc : n ≤ cap) (hc2 : cap ≤ 9223372036854775807) (hr : Hid (r.length = n)) (hw : Hid (WfL r)) (h : Hid (LAt w ao r)) (k : Nat) (hk : k ≤ 32) (hp : Hid (pul r = k)) :
    Calls Try.prog 10 #[.slice ao n cap] w fun e w' => e = .returned (.tuple #[.int .u64 (rk r k : Nat), .bool true]) ∧ ∃ d, w' = w.drewN d := by
  obtain ⟨R, hR⟩ : ∃ R, rk r k = R := ⟨_, rfl⟩
  have HR : Hid (rk r k = R) := hR
  rw [hR]
  clear hR
  go_enter Try.func10, Try.ntmps10
  go_wp2_with fail
  refine (right_short _ ao n cap r (by omega) hr hw h).mono ?_
  rw [decide_eq_true (by rw [hp.out]; exact hk)]
  rintro e w3 ⟨rfl, hw3⟩
  obtain rfl := hw3.symm
  clear hw3
  go_wp2_with fail
  refine (rrank_any n hn _ ao cap r hc hc2 hr k hk hp h).mono ?_
  rw [HR.out]
  rintro e w4 ⟨rfl, d, rfl⟩
  go_wp2
  go_returns
  exact ⟨rfl, d, rfl⟩

set_option maxHeartbeats 1000000 in
theorem awake12 (w : World) : Calls Try.prog 7 #[] w fun e w' => e = .returned (.bool true) ∧ Below w.heap.size w w' := by
  have hmk : ∀ w, Sem.run Try.prog (Instr.makeSlice 22 (.int .i64 2) (.int .i64 2)) w = .ok (.slice (some ⟨w.heap.size, 0, none⟩) 2 2) (w.alloc (.cells (madeCells #[.int .i64 0] 2) 3)) := fun w => run_make_row' (P := Try.prog) 22 3 (.int .i64 0) 8 Try.underlying22 lint_info rfl .i64 .i64 2 (by omega) (by omega) w
  have HO0 : Hid (OwnL (w.alloc (.cells (madeCells #[.int .i64 0] 2) 3)) w.heap.size (.slice (some ⟨w.heap.size, 0, none⟩) 2 2) [0, 0]) := OwnL.made w (Nat.le_refl _) 2 (by omega)
  have HZ0 : Hid (Below w.heap.size w (w.alloc (.cells (madeCells #[.int .i64 0] 2) 3))) := (Below.refl _ _).alloc (Nat.le_refl _) _
  have hlt0 : w.heap.size < (w.alloc (.cells (madeCells #[.int .i64 0] 2) 3)).heap.size := (HO0.out.lt rfl).2
  go_enter Try.func7, Try.ntmps7
  go_wp2_with fail
  obtain ⟨wa, hwa⟩ : ∃ wa, w.alloc (.cells (madeCells #[.int .i64 0] 2) 3) = wa := ⟨_, rfl⟩
  obtain ⟨g, hg⟩ : ∃ g, w.heap.size = g := ⟨_, rfl⟩
  rw [hwa, hg] at HO0 HZ0 hlt0
  rw [hwa, hg]
  clear hwa hmk
  refine (tnew_any wa).mono ?_
  rintro e w1 ⟨b, rfl, hb, hT, hB1⟩
  have HT1 : Hid (TabAt w1 b) := hT
  have HO1 : Hid (OwnL w1 g (.slice (some ⟨g, 0, none⟩) 2 2) [0, 0]) := HO0.out.same (fun i h1 h2 => hB1.block i h2)
  have HZ1 : Hid (Below g w w1) := HZ0.out.trans (hB1.mono (by omega))
  clear hT hB1 HZ0 HO0
  go_wp2_with fail
  refine (into_good w1 b g (.slice (some ⟨g, 0, none⟩) 2 2) [0, 0] 2 2 7 (by show 7 < vv 2 2; decide) (by omega) (by omega) HT1 HO1 rfl).mono ?_
  rintro e w2 ⟨rfl, r, hO, hl, hp, hr, hG⟩
  have er : r = [-2, 0] := rk_inj (k := 2) hl (by omega) (by omega) hp rfl (hr.trans (by decide))
  subst er
  have c0 : w2.cell? ⟨g, 0, none⟩ = some (.int .i64 (-2)) := hO.cell rfl
  have c1 : w2.cell? ⟨g, 1, none⟩ = some (.int .i64 0) := hO.cell rfl
  have HY : Hid (Below g w w2) := HZ1.out.grown hG (by have := HZ1.out.size; omega) (fun k e => by cases e; exact Nat.le_refl _)
  clear hO hl hp hr hG HZ1
  go_wp2
  go_returns
  exact ⟨rfl, HY.out.mono (by omega)⟩
end Go.Proofs.Ytejappandbooeaa
