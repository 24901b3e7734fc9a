/-
  What the calls of plain tools do: as the book's own, in memory that is new, but the book's; a vector of its rank is written over itself. No condition.
-/
import Derived.Test.YtfgpmdikkncckaaGreatDoorFrameShare
import Derived.Test.YtfgpmdikkncckaaGreatDoorFrameAwake
import Derived.Test.YtfgpmdikkncckaaGreatDoorTableLaws
import Derived.Laws.CopyOwn
namespace Go.Proofs.YtfgpmdikkncckaaGreatDoor
set_option linter.unusedVariables false
set_option linter.unusedSimpArgs false
set_option maxRecDepth 100000
open Go.ChangeShapes Go.WideShapes Go.ChangeAt Go.RowKit

theorem lsz_info : (Tryz.prog.info? 3).map (·.size) = some 1 := by kernel_rfl
theorem box_gb {w : World} {b : Nat} {mo : Option Nat} (h : Bk w b mo) (o : Obj) : Gb w (w.alloc o) b mo mo := Gb.grown (World.grownBy_alloc w o none) b mo

theorem rw_gb {w w' : World} {b g : Nat} {mo mo' : Option Nat} {f : Nat → Int} (hB : Bk w b mo) (hG : Gb w w' b mo mo') (hg : g ≠ b) (h : Rw w g f) : Rw w' g f := by
  obtain ⟨S, _, hB⟩ := hB
  exact hG.cells hB h hg

theorem prank_bad (w : World) (b : Nat) (mo : Option Nat) (ao : Option Addr) (n cap : Nat) (r : List Int) (hn : n ≤ 60) (hc : n ≤ cap) (hc2 : cap ≤ 9223372036854775807) (hr : Hid (r.length = n)) (hw : Hid (WfL r)) (h : Hid (LAt w ao r)) (hbad : 16 < n ∨ ¬ pul r ≤ 32) (hB : Hid (Bk w b mo)) :
    Calls Tryz.prog 144 #[(.agg #[.pointer (some ⟨b, 0, none⟩)]), .slice ao n cap] w fun e w' => e = .returned (.tuple #[.int .u64 0, .bool false]) ∧ ∃ mo', Bk w' b mo' ∧ Gb w w' b mo mo' := by
  have HB1 : Hid (Bk (w.alloc (.cells #[.pointer (some ⟨b, 0, none⟩)] 82)) b mo ∧ Gb w (w.alloc (.cells #[.pointer (some ⟨b, 0, none⟩)] 82)) b mo mo) := ⟨hB.out.alloc _, box_gb hB.out _⟩
  have HL1 : Hid (LAt (w.alloc (.cells #[.pointer (some ⟨b, 0, none⟩)] 82)) ao r) := h.out.alloc _
  go_enter Tryz.func144, Tryz.ntmps144
  go_wp2_with (go_at_call 147; refine (rank_bad _ b ao n cap r hn hc hc2 hr hw HL1 hbad).mono ?_; rintro e w2 ⟨rfl, hw⟩; obtain rfl := hw.symm; clear hw)
  go_returns
  exact ⟨rfl, mo, HB1.out.1, HB1.out.2⟩

theorem prank_good (w : World) (b : Nat) (mo : Option Nat) (ao : Option Addr) (n cap : Nat) (r : List Int) (hn : n ≤ 16) (hc : n ≤ cap) (hc2 : cap ≤ 9223372036854775807) (hr : Hid (r.length = n)) (k : Nat) (hk : k ≤ 32) (hp : Hid (pul r = k)) (h : Hid (LAt w ao r)) (hB : Hid (Bk w b mo)) (R : Nat) (hR : Hid (rk r k = R)) :
    Calls Tryz.prog 144 #[(.agg #[.pointer (some ⟨b, 0, none⟩)]), .slice ao n cap] w fun e w' => e = .returned (.tuple #[.int .u64 (R : Nat), .bool true]) ∧ ∃ mo', Bk w' b mo' ∧ Gb w w' b mo mo' := by
  have HB1 : Hid (Bk (w.alloc (.cells #[.pointer (some ⟨b, 0, none⟩)] 82)) b mo) := hB.out.alloc _
  have HG1 : Hid (Gb w (w.alloc (.cells #[.pointer (some ⟨b, 0, none⟩)] 82)) b mo mo) := box_gb hB.out _
  have HL1 : Hid (LAt (w.alloc (.cells #[.pointer (some ⟨b, 0, none⟩)] 82)) ao r) := h.out.alloc _
  go_enter Tryz.func144, Tryz.ntmps144
  go_wp2_with (go_at_call 147; refine (rank_good _ b mo ao n cap r hn hc hc2 hr k hk hp HL1 HB1).mono ?_; rw [hR.out]; rintro e w2 ⟨rfl, mo', hB2, hG2⟩; have H2 : Hid (Bk w2 b mo' ∧ Gb w w2 b mo mo') := ⟨hB2, HG1.out.trans hG2⟩; clear hB2 hG2)
  go_returns
  exact ⟨rfl, mo', H2.out.1, H2.out.2⟩

/-- A list is written over itself: nothing has turned. -/
theorem row_same {w : World} {g : Nat} {cur : Array Value} {t : TypeId} {z : Nat × Nat} (h : w.heap[g]? = some (.cells cur t z)) : w.setRow g cur = w := by
  have e : (w.setRow g cur).heap = w.heap := by
    apply Array.ext_getElem?
    intro j
    by_cases hj : j = g
    · subst hj; rw [setRowF_heap h, h]
    · rw [setRowF_same hj]
  cases w
  simp only [World.setRow] at e ⊢
  rw [e]
theorem run_copy_same {w : World} {B : Nat} {y : Value} {r : List Int} (hy : OwnL w B y r) {B' : Nat} {x : Value} (hx : OwnL w B' x r) (ty : TypeId) : (Builtin.copy_ #[57, 57] ty #[y, x]).run Tryz.prog w = .ok (goInt r.length) w := by
  by_cases h0 : r.length = 0
  · obtain ⟨ao, cy, rfl, _⟩ := hy.slice
    obtain ⟨bo, cx, rfl, _⟩ := hx.slice
    rw [run_copy_none (P := Tryz.prog) w 57 57 ty 3 ao bo r.length cy r.length cx Tryz.underlying57 lsz_info (by rw [h0]; rfl), h0]; rfl
  · obtain ⟨gx, cx, rfl, _⟩ := hx.form (by omega)
    rcases hy.2 with ⟨_, h1⟩ | ⟨gy, cy, cur, rfl, _, hg, _, _, hs, ht⟩
    · omega
    · have hrun := run_copy_row (P := Tryz.prog) w 57 57 ty 3 gy 0 r.length cy ⟨gx, 0, none⟩ r.length cx cur 3 (intL r) Tryz.underlying57 lsz_info hg (by rw [intL_len]; exact (Nat.min_self _).symm) (fun j v hv => hx.news j v hv) (by rw [intL_len]; omega) (intL_one r)
      rw [hrun, intL_len]
      rw [Nat.mul_one] at ht
      congr 1
      rw [show (cur.toList.take 0 ++ intL r ++ cur.toList.drop (0 + r.length)).toArray = cur by rw [List.take_zero, List.nil_append, Nat.zero_add, ← ht, List.take_append_drop, Array.toArray_toList]]
      exact row_same hg
theorem wpList_copy_same {w : World} {ops : Array Oper} {rest : List Oper} {o : Oper} {a : Act} {Q : Exit → Act → World → Prop} (hgd : o.guard = none) (d s : Operand) (ho : o.op = .call { callee := .builtin .copy, args := #[d, s], argTypes := #[57, 57] })
    {B B' : Nat} {y x : Value} {r : List Int} (hd : a.eval d = y) (hs : a.eval s = x) (hy : OwnL w B y r) (hx : OwnL w B' x r) (h : wpList Tryz.prog ops Q rest (a.put o.dst (goInt r.length)) w) : wpList Tryz.prog ops Q (o :: rest) a w := by
  refine wpList_plain hgd fun K hK => ?_
  have hrun := run_copy_same hy hx o.type
  unfold Oper.wp
  simp [execOp, ho, resolve, invoke, builtin, hd, hs, hrun, Result.andThen]
  exact hK _ _ h
theorem wpList_copy_nil {w : World} {ops : Array Oper} {rest : List Oper} {o : Oper} {a : Act} {Q : Exit → Act → World → Prop} (hgd : o.guard = none) (d s : Operand) (ho : o.op = .call { callee := .builtin .copy, args := #[d, s], argTypes := #[57, 57] })
    (dp : Option Addr) (dLen dCap : Nat) (hd : a.eval d = .slice dp dLen dCap) (hs : a.eval s = .slice none 0 0) (h : wpList Tryz.prog ops Q rest (a.put o.dst (goInt 0)) w) : wpList Tryz.prog ops Q (o :: rest) a w :=
  wpList_copy_nothing hgd d s 57 57 ho 3 Tryz.underlying57 lsz_info dp none dLen dCap 0 0 hd hs (Nat.zero_min _) h

set_option maxHeartbeats 1000000 in
theorem pinto_good (w : World) (b B : Nat) (mo : Option Nat) (ao : Option Addr) (n cap : Nat) (r : List Int) (hn : n ≤ 16) (hr : Hid (r.length = n)) (k : Nat) (hk : k ≤ 32) (hp : Hid (pul r = k)) (R : Nat) (hR : Hid (rk r k = R)) (hlt : Hid (R < vv n k)) (hO : Hid (OwnL w B (.slice ao n cap) r)) (hb : b < B) (hB : Hid (Bk w b mo)) :
    Calls Tryz.prog 143 #[(.agg #[.pointer (some ⟨b, 0, none⟩)]), .slice ao n cap, .int .i64 k, .int .u64 R] w fun e w' => e = .returned (.bool true) ∧ ∃ mo', Bk w' b mo' ∧ Gb w w' b mo mo' := by
  have HB1 : Hid (Bk (w.alloc (.cells #[.pointer (some ⟨b, 0, none⟩)] 82)) b mo) := hB.out.alloc _
  have HG1 : Hid (Gb w (w.alloc (.cells #[.pointer (some ⟨b, 0, none⟩)] 82)) b mo mo) := box_gb hB.out _
  have HO1 : Hid (OwnL (w.alloc (.cells #[.pointer (some ⟨b, 0, none⟩)] 82)) B (.slice ao n cap) r) := hO.out.kept (World.grownBy_alloc w _ none) (by cases ao <;> simp [Value.ownBlock])
  go_enter Tryz.func143, Tryz.ntmps143
  go_wp2_with fail
  refine (unrank_good _ b mo n k R hlt hn hk HB1).mono ?_
  rintro e w2 ⟨g, r', rfl, hO2, hl2, hp2, hr2, mo', hB2, hG2⟩
  obtain rfl : r' = r := rk_inj (hl2.trans hr.out.symm) (by omega) hk hp2 hp.out (hr2.trans hR.out.symm)
  have HV : Hid (OwnL w2 _ (.slice (some ⟨g, 0, none⟩) n n) r') := hO2
  have HO2 : Hid (OwnL w2 B (.slice ao n cap) r') := HO1.out.gb HB1.out hG2 hb
  have H2 : Hid (Bk w2 b mo' ∧ Gb w w2 b mo mo') := ⟨hB2, HG1.out.trans hG2⟩
  clear hO2 hB2 hG2 hl2 hp2 hr2
  go_wp2_with (refine wpList_copy_same rfl _ _ rfl rfl rfl HO2.out HV.out ?_)
  go_returns
  exact ⟨rfl, mo', H2.out.1, H2.out.2⟩

set_option maxHeartbeats 1000000 in
theorem pinto_bad (w : World) (b : Nat) (mo : Option Nat) (ao : Option Addr) (n cap : Nat) (k : Int) (i : Nat) (hn : n ≤ 60) (hk : Hid ((Lit.int .i64 k).wf = true)) (hi : i ≤ 18446744073709551615) (hlt : Hid (¬ i < vI n k)) (hB : Hid (Bk w b mo)) :
    Calls Tryz.prog 143 #[(.agg #[.pointer (some ⟨b, 0, none⟩)]), .slice ao n cap, .int .i64 k, .int .u64 i] w fun e w' => e = .returned (.bool false) ∧ ∃ mo', Bk w' b mo' ∧ Gb w w' b mo mo' := by
  have HB1 : Hid (Bk (w.alloc (.cells #[.pointer (some ⟨b, 0, none⟩)] 82)) b mo) := hB.out.alloc _
  have HG1 : Hid (Gb w (w.alloc (.cells #[.pointer (some ⟨b, 0, none⟩)] 82)) b mo mo) := box_gb hB.out _
  have HN : Hid ((Lit.int .i64 (n : Int)).wf = true) := WalkArith.wf_i64 (by omega)
  go_enter Tryz.func143, Tryz.ntmps143
  go_wp2_with fail
  refine (unrank_bad _ b mo n k i HN hk hi HB1 hlt).mono ?_
  rintro e w2 ⟨rfl, mo', hB2, hG2⟩
  have H2 : Hid (Bk w2 b mo' ∧ Gb w w2 b mo mo') := ⟨hB2, HG1.out.trans hG2⟩
  clear hB2 hG2 HN hk
  go_wp2_with (refine wpList_copy_nil rfl _ _ rfl ao n cap rfl rfl ?_)
  go_returns
  exact ⟨rfl, mo', H2.out.1, H2.out.2⟩

set_option maxHeartbeats 1000000 in
theorem palloc_any (w : World) (b : Nat) (mo : Option Nat) (s c t n : Int) (B : Nat) (hBn : Hid (bandsF s c = B)) (h5 : B ≤ 5) (R : Nat → Int) (hR : Hid (SOut B c t n R)) (hB : Hid (Bk w b mo)) (hT : Hid (WTab w)) :
    Calls Tryz.prog 142 #[(.agg #[.pointer (some ⟨b, 0, none⟩)]), .agg #[.int .i64 s, .int .i64 c], .int .i64 t, .int .i64 n] w fun e w' => e = .returned (.agg (row5 R)) ∧ ∃ mo', Bk w' b mo' ∧ Gb w w' b mo mo' := by
  have hbl := hB.out.lt
  have HB1 : Hid (Bk (((w.alloc (.cells #[.pointer (some ⟨b, 0, none⟩)] 82)).alloc (.cells #[.int .i64 s, .int .i64 c] 29)).alloc (.cells #[.int .i64 0, .int .i64 0, .int .i64 0, .int .i64 0, .int .i64 0] 31)) b mo) := ((hB.out.alloc _).alloc _).alloc _
  have HG1 : Hid (Gb w (((w.alloc (.cells #[.pointer (some ⟨b, 0, none⟩)] 82)).alloc (.cells #[.int .i64 s, .int .i64 c] 29)).alloc (.cells #[.int .i64 0, .int .i64 0, .int .i64 0, .int .i64 0, .int .i64 0] 31)) b mo mo) := Gb.grown (gN_alloc (gN_alloc (gN_alloc (gN_refl w) _) _) _) b mo
  have HT1 : Hid (WTab (((w.alloc (.cells #[.pointer (some ⟨b, 0, none⟩)] 82)).alloc (.cells #[.int .i64 s, .int .i64 c] 29)).alloc (.cells #[.int .i64 0, .int .i64 0, .int .i64 0, .int .i64 0, .int .i64 0] 31))) := hT.out.grown (gN_alloc (gN_alloc (gN_alloc (gN_refl w) _) _) _)
  have HR1 : Hid (Rw (((w.alloc (.cells #[.pointer (some ⟨b, 0, none⟩)] 82)).alloc (.cells #[.int .i64 s, .int .i64 c] 29)).alloc (.cells #[.int .i64 0, .int .i64 0, .int .i64 0, .int .i64 0, .int .i64 0] 31)) (w.heap.size + 2) (fun _ => 0)) := (heap_threeF w _ _ _).2.2
  have hne : w.heap.size + 2 ≠ b := by omega
  go_enter Tryz.func142, Tryz.ntmps142
  go_wp2_with (go_at_call 145; refine (alloc_any _ b mo s c t n B hBn h5 HB1 HT1).mono ?_; rintro e w2 ⟨R', rfl, hO', _, mo', hB2, hG2⟩; obtain rfl := hR.out.alike h5 (bands_chan hBn.out) hO'; have HR2 : Hid (Rw w2 (w.heap.size + 2) (fun _ => 0)) := rw_gb HB1.out hG2 hne HR1.out; have hst := store5 w2 (w.heap.size + 2) (fun _ => 0) R' HR2.out; have H2 : Hid (Bk w2 b mo' ∧ Gb w w2 b mo mo') := ⟨hB2, HG1.out.trans hG2⟩; clear hB2 hG2 hO')
  refine bodyPost_ret (results_cell_row rfl _ _ (w.heap.size + 2) 31 (row5 R') (0, 0) _ rfl (HR2.out.setRow _) t5_under rfl (by rw [row5_size]; exact t5_info)) rfl ⟨rfl, mo', ?_, ?_⟩
  · obtain ⟨S, hO, hB3⟩ := H2.out.1
    refine ⟨S, hO, hB3.kept (setRowF_grown _ _ _) (by simp; omega) (fun m e => ?_)⟩
    have := hB3.apart HR2.out
    rw [← e]; exact fun e2 => this e2.symm
  · exact H2.out.2.row' (setRowF_grown _ _ _) (fun g e => by cases e; omega)
end Go.Proofs.YtfgpmdikkncckaaGreatDoor
