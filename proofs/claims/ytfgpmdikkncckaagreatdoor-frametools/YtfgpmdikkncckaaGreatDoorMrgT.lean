/-
  What a budget is shared out to, by whatever tools: there is one answer; the document's Alloc gives it; how it is stored, read and compared whole. Nothing that was there is turned.
  What the calls of plain tools do: as the book's own, in memory that is new, but the book's; a vector of its rank is written over itself. No condition.
  Where the law FrameTools has all of its things, and that each call of a tool leaves them so. No condition.
-/
import Derived.Test.YtfgpmdikkncckaaGreatDoorShareFind
import Derived.Test.YtfgpmdikkncckaaGreatDoorAllocRef
import Derived.Test.YtfgpmdikkncckaaGreatDoorFrameAwake
import Derived.Test.YtfgpmdikkncckaaGreatDoorTableLaws
import Derived.Laws.CopyOwn
import Derived.Test.YtfgpmdikkncckaaGreatDoorTableInto
import Derived.Test.YtfgpmdikkncckaaGreatDoorTableRank
import Derived.BigQuiet
namespace Go.Proofs.YtfgpmdikkncckaaGreatDoor
set_option linter.unusedVariables false
set_option linter.unusedSimpArgs false
set_option maxRecDepth 100000
open Go.ChangeShapes Go.WideShapes Go.ChangeAt Go.RowKit
attribute [local go_sem] eql5 eql5x equal5 equal5x

/-- What a share tells of a budget. -/
def SOut (B : Nat) (c t n : Int) (R : Nat → Int) : Prop := ∃ a : Nat, R = uTo B t a ∧ (a = 0 ∨ ¬ tooDear B c t n (a - 1)) ∧ ((a : Int) = pLast t B ∨ tooDear B c t n a)
theorem SOut.out {B : Nat} {c t n : Int} {R : Nat → Int} (h : SOut B c t n R) (hB : B ≤ 5) (hc : 1 ≤ c) : Out B c t n R := by
  obtain ⟨a, rfl, h1, h2⟩ := h
  exact found_out hB hc h1 h2
theorem SOut.none {c t n : Int} {R : Nat → Int} (h : SOut 0 c t n R) : R = fun _ => 0 := by
  obtain ⟨a, rfl, _, _⟩ := h
  funext i
  exact to_out t a (by omega)

theorem bands_chan {s c : Int} {B : Nat} (h : bandsF s c = B) : B = 0 ∨ c = 1 ∨ c = 2 := by
  by_cases hr : right s c
  · unfold right at hr; omega
  · unfold bandsF at h; rw [if_neg hr] at h; omega
theorem first_of (F : Nat → Prop) : ∀ M : Nat, ∃ a : Nat, (a = 0 ∨ ¬ F (a - 1)) ∧ (a = M ∨ F a)
  | 0 => ⟨0, .inl rfl, .inl rfl⟩
  | M + 1 => by
    obtain ⟨a, h1, h2⟩ := first_of F M
    by_cases h : F a
    · exact ⟨a, h1, .inr h⟩
    · obtain rfl : a = M := h2.resolve_right h
      exact ⟨a + 1, .inr h, .inl rfl⟩
theorem SOut.some (B : Nat) (hB : B ≤ 5) (c t n : Int) : ∃ R, SOut B c t n R := by
  obtain ⟨a, h1, h2⟩ := first_of (tooDear B c t n) (pLast t B).toNat
  have := last_bd t hB
  exact ⟨_, a, rfl, h1, h2.imp_left (fun h => by omega)⟩
theorem K_none (t : Int) : ∀ j, aK 0 t j = fun _ => 0
  | 0 => rfl
  | j + 1 => by
    show aStep 0 t (aK 0 t j) = _
    rw [K_none t j]; rfl
theorem SOut.alike {B : Nat} (hB : B ≤ 5) {c t n : Int} (hc : B = 0 ∨ c = 1 ∨ c = 2) {R R' : Nat → Int} (h : SOut B c t n R) (h' : Out B c t n R') : R' = R := by
  by_cases h0 : B = 0
  · subst h0
    rw [h.none]
    obtain ⟨j, e, _⟩ := h'
    rw [e, K_none]
  · exact out_one hB (by omega) h' (h.out hB (by omega))
theorem SOut.same {B : Nat} (hB : B ≤ 5) {c t n : Int} (hc : B = 0 ∨ c = 1 ∨ c = 2) {R R' : Nat → Int} (h : SOut B c t n R) (h' : SOut B c t n R') : R' = R := by
  by_cases h0 : B = 0
  · subst h0
    rw [h.none, h'.none]
  · exact h.alike hB hc (h'.out hB (by omega))
theorem neq5 (R : Nat → Int) (w : World) : (binOp .neq 31 (.agg #[.int .i64 (R 0), .int .i64 (R 1), .int .i64 (R 2), .int .i64 (R 3), .int .i64 (R 4)]) (.agg #[.int .i64 (R 0), .int .i64 (R 1), .int .i64 (R 2), .int .i64 (R 3), .int .i64 (R 4)])).run Tryz.prog w = .ok (.bool false) w := by
  have e := equal5 R R w
  rw [same5_refl] at e
  rw [run_neq_struct]
  rw [show (#[.int .i64 (R 0), .int .i64 (R 1), .int .i64 (R 2), .int .i64 (R 3), .int .i64 (R 4)] : Array Value) = row5 R from rfl, e]
  rfl

theorem store5Z (w : World) (f : Nat → Int) : Sem.run Tryz.prog (storeCells ⟨w.heap.size, 0, none⟩ (row5 f).toList) (w.alloc (.cells #[.int .i64 0, .int .i64 0, .int .i64 0, .int .i64 0, .int .i64 0] 31)) = .ok () (w.alloc (.cells (row5 f) 31)) := by
  have := store5 (w.alloc (.cells (row5 (fun _ => 0)) 31)) w.heap.size (fun _ => 0) f (heap_alloc_new w _)
  rwa [World.setRow_alloc_new] at this
set_option maxHeartbeats 2000000 in
/-- The document's Alloc in a mode that is right. -/
theorem rall16 (X : World) (s c t n : Int) (B : Nat) (R : Nat → Int) (hr : right s c) (hB : bandsF s c = B) (hO : SOut B c t n R) :
    Calls Tryz.prog 26 #[.int .i64 s, .int .i64 c, .int .i64 t, .int .i64 n] X fun e w' => e = .returned (.agg (row5 R)) ∧ Below X.heap.size X w' := by
  have hB' : (B : Int) = s + 3 := by have := hB; unfold bandsF at this; rw [if_pos hr] at this; omega
  have h : Hid (∀ X, Calls Tryz.prog 48 #[.int .i64 s, .int .i64 c, .int .i64 t, .int .i64 n] X fun e w' => e = .returned (.agg (row5 R)) ∧ Below X.heap.size X w') := fun X => by
    refine (ralloc_at X s c t n B (by unfold right at hr; omega) (by unfold right at hr; omega) (by omega) (by unfold right at hr; omega) (by unfold right at hr; omega)).mono ?_
    rintro e w' ⟨R', rfl, hO', hb⟩
    obtain rfl := hO.alike (by unfold right at hr; omega) (bands_chan hB) hO'
    exact ⟨rfl, hb⟩
  have hb0 : Below X.heap.size X (X.alloc (.cells #[.int .i64 0, .int .i64 0, .int .i64 0, .int .i64 0, .int .i64 0] 31)) := gN_below (gN_alloc (gN_refl X) _)
  have HR0 : Hid (Rw (X.alloc (.cells #[.int .i64 0, .int .i64 0, .int .i64 0, .int .i64 0, .int .i64 0] 31)) X.heap.size (fun _ => 0)) := (heap_alloc_new X _ : Rw (X.alloc (.cells (row5 (fun _ => 0)) 31)) X.heap.size (fun _ => 0))
  have HB0 : Hid (Below X.heap.size X (X.alloc (.cells #[.int .i64 0, .int .i64 0, .int .i64 0, .int .i64 0, .int .i64 0] 31))) := hb0
  clear hb0
  go_enter Tryz.func26, Tryz.ntmps26
  go_wp2_with (go_at_call 48; refine (h.out _).mono ?_; rintro e w2 ⟨rfl, hb2⟩; have HR2 : Hid (Rw w2 X.heap.size (fun _ => 0)) := HR0.out.below hb2; have HB2 : Hid (Below X.heap.size X w2) := HB0.out.trans (hb2.mono HB0.out.size); have hst := store5 w2 X.heap.size (fun _ => 0) R HR2.out; clear hb2)
  refine bodyPost_ret (results_cell_row rfl _ _ X.heap.size 31 (row5 R) (0, 0) _ rfl (HR2.out.setRow _) t5_under rfl (by rw [row5_size]; exact t5_info)) rfl ⟨rfl, ?_⟩
  exact below_setRow5 HB2.out (Nat.le_refl _) _
end Go.Proofs.YtfgpmdikkncckaaGreatDoor
namespace Go.Proofs.YtfgpmdikkncckaaGreatDoor
set_option linter.unusedVariables false
set_option linter.unusedSimpArgs false
set_option maxRecDepth 100000
open Go.ChangeShapes Go.WideShapes Go.ChangeAt Go.RowKit

theorem lsz_info : (Tryz.prog.info? 3).map (·.size) = some 1 := by kernel_rfl
theorem box_gb {w : World} {b : Nat} {mo : Option Nat} (h : Bk w b mo) (o : Obj) : Gb w (w.alloc o) b mo mo := Gb.grown (World.grownBy_alloc w o none) b mo

theorem rw_gb {w w' : World} {b g : Nat} {mo mo' : Option Nat} {f : Nat → Int} (hB : Bk w b mo) (hG : Gb w w' b mo mo') (hg : g ≠ b) (h : Rw w g f) : Rw w' g f := by
  obtain ⟨S, _, hB⟩ := hB
  exact hG.cells hB h hg

theorem prank_bad (w : World) (b : Nat) (mo : Option Nat) (ao : Option Addr) (n cap : Nat) (r : List Int) (hn : n ≤ 60) (hc : n ≤ cap) (hc2 : cap ≤ 9223372036854775807) (hr : Hid (r.length = n)) (hw : Hid (WfL r)) (h : Hid (LAt w ao r)) (hbad : 16 < n ∨ ¬ pul r ≤ 32) (hB : Hid (Bk w b mo)) :
    Calls Tryz.prog 144 #[(.agg #[.pointer (some ⟨b, 0, none⟩)]), .slice ao n cap] w fun e w' => e = .returned (.tuple #[.int .u64 0, .bool false]) ∧ ∃ mo', Bk w' b mo' ∧ Gb w w' b mo mo' := by
  have HB1 : Hid (Bk (w.alloc (.cells #[.pointer (some ⟨b, 0, none⟩)] 82)) b mo ∧ Gb w (w.alloc (.cells #[.pointer (some ⟨b, 0, none⟩)] 82)) b mo mo) := ⟨hB.out.alloc _, box_gb hB.out _⟩
  have HL1 : Hid (LAt (w.alloc (.cells #[.pointer (some ⟨b, 0, none⟩)] 82)) ao r) := h.out.alloc _
  go_enter Tryz.func144, Tryz.ntmps144
  go_wp2_with (go_at_call 147; refine (rank_bad _ b ao n cap r hn hc hc2 hr hw HL1 hbad).mono ?_; rintro e w2 ⟨rfl, hw⟩; obtain rfl := hw.symm; clear hw)
  go_returns
  exact ⟨rfl, mo, HB1.out.1, HB1.out.2⟩

theorem prank_good (w : World) (b : Nat) (mo : Option Nat) (ao : Option Addr) (n cap : Nat) (r : List Int) (hn : n ≤ 16) (hc : n ≤ cap) (hc2 : cap ≤ 9223372036854775807) (hr : Hid (r.length = n)) (k : Nat) (hk : k ≤ 32) (hp : Hid (pul r = k)) (h : Hid (LAt w ao r)) (hB : Hid (Bk w b mo)) (R : Nat) (hR : Hid (rk r k = R)) :
    Calls Tryz.prog 144 #[(.agg #[.pointer (some ⟨b, 0, none⟩)]), .slice ao n cap] w fun e w' => e = .returned (.tuple #[.int .u64 (R : Nat), .bool true]) ∧ ∃ mo', Bk w' b mo' ∧ Gb w w' b mo mo' := by
  have HB1 : Hid (Bk (w.alloc (.cells #[.pointer (some ⟨b, 0, none⟩)] 82)) b mo) := hB.out.alloc _
  have HG1 : Hid (Gb w (w.alloc (.cells #[.pointer (some ⟨b, 0, none⟩)] 82)) b mo mo) := box_gb hB.out _
  have HL1 : Hid (LAt (w.alloc (.cells #[.pointer (some ⟨b, 0, none⟩)] 82)) ao r) := h.out.alloc _
  go_enter Tryz.func144, Tryz.ntmps144
  go_wp2_with (go_at_call 147; refine (rank_good _ b mo ao n cap r hn hc hc2 hr k hk hp HL1 HB1).mono ?_; rw [hR.out]; rintro e w2 ⟨rfl, mo', hB2, hG2⟩; have H2 : Hid (Bk w2 b mo' ∧ Gb w w2 b mo mo') := ⟨hB2, HG1.out.trans hG2⟩; clear hB2 hG2)
  go_returns
  exact ⟨rfl, mo', H2.out.1, H2.out.2⟩

/-- A list is written over itself: nothing has turned. -/
theorem row_same {w : World} {g : Nat} {cur : Array Value} {t : TypeId} {z : Nat × Nat} (h : w.heap[g]? = some (.cells cur t z)) : w.setRow g cur = w := by
  have e : (w.setRow g cur).heap = w.heap := by
    apply Array.ext_getElem?
    intro j
    by_cases hj : j = g
    · subst hj; rw [setRowF_heap h, h]
    · rw [setRowF_same hj]
  cases w
  simp only [World.setRow] at e ⊢
  rw [e]
theorem run_copy_same {w : World} {B : Nat} {y : Value} {r : List Int} (hy : OwnL w B y r) {B' : Nat} {x : Value} (hx : OwnL w B' x r) (ty : TypeId) : (Builtin.copy_ #[57, 57] ty #[y, x]).run Tryz.prog w = .ok (goInt r.length) w := by
  by_cases h0 : r.length = 0
  · obtain ⟨ao, cy, rfl, _⟩ := hy.slice
    obtain ⟨bo, cx, rfl, _⟩ := hx.slice
    rw [run_copy_none (P := Tryz.prog) w 57 57 ty 3 ao bo r.length cy r.length cx Tryz.underlying57 lsz_info (by rw [h0]; rfl), h0]; rfl
  · obtain ⟨gx, cx, rfl, _⟩ := hx.form (by omega)
    rcases hy.2 with ⟨_, h1⟩ | ⟨gy, cy, cur, rfl, _, hg, _, _, hs, ht⟩
    · omega
    · have hrun := run_copy_row (P := Tryz.prog) w 57 57 ty 3 gy 0 r.length cy ⟨gx, 0, none⟩ r.length cx cur 3 (intL r) Tryz.underlying57 lsz_info hg (by rw [intL_len]; exact (Nat.min_self _).symm) (fun j v hv => hx.news j v hv) (by rw [intL_len]; omega) (intL_one r)
      rw [hrun, intL_len]
      rw [Nat.mul_one] at ht
      congr 1
      rw [show (cur.toList.take 0 ++ intL r ++ cur.toList.drop (0 + r.length)).toArray = cur by rw [List.take_zero, List.nil_append, Nat.zero_add, ← ht, List.take_append_drop, Array.toArray_toList]]
      exact row_same hg
theorem wpList_copy_same {w : World} {ops : Array Oper} {rest : List Oper} {o : Oper} {a : Act} {Q : Exit → Act → World → Prop} (hgd : o.guard = none) (d s : Operand) (ho : o.op = .call { callee := .builtin .copy, args := #[d, s], argTypes := #[57, 57] })
    {B B' : Nat} {y x : Value} {r : List Int} (hd : a.eval d = y) (hs : a.eval s = x) (hy : OwnL w B y r) (hx : OwnL w B' x r) (h : wpList Tryz.prog ops Q rest (a.put o.dst (goInt r.length)) w) : wpList Tryz.prog ops Q (o :: rest) a w := by
  refine wpList_plain hgd fun K hK => ?_
  have hrun := run_copy_same hy hx o.type
  unfold Oper.wp
  simp [execOp, ho, resolve, invoke, builtin, hd, hs, hrun, Result.andThen]
  exact hK _ _ h
theorem wpList_copy_nil {w : World} {ops : Array Oper} {rest : List Oper} {o : Oper} {a : Act} {Q : Exit → Act → World → Prop} (hgd : o.guard = none) (d s : Operand) (ho : o.op = .call { callee := .builtin .copy, args := #[d, s], argTypes := #[57, 57] })
    (dp : Option Addr) (dLen dCap : Nat) (hd : a.eval d = .slice dp dLen dCap) (hs : a.eval s = .slice none 0 0) (h : wpList Tryz.prog ops Q rest (a.put o.dst (goInt 0)) w) : wpList Tryz.prog ops Q (o :: rest) a w :=
  wpList_copy_nothing hgd d s 57 57 ho 3 Tryz.underlying57 lsz_info dp none dLen dCap 0 0 hd hs (Nat.zero_min _) h

set_option maxHeartbeats 1000000 in
theorem pinto_good (w : World) (b B : Nat) (mo : Option Nat) (ao : Option Addr) (n cap : Nat) (r : List Int) (hn : n ≤ 16) (hr : Hid (r.length = n)) (k : Nat) (hk : k ≤ 32) (hp : Hid (pul r = k)) (R : Nat) (hR : Hid (rk r k = R)) (hlt : Hid (R < vv n k)) (hO : Hid (OwnL w B (.slice ao n cap) r)) (hb : b < B) (hB : Hid (Bk w b mo)) :
    Calls Tryz.prog 143 #[(.agg #[.pointer (some ⟨b, 0, none⟩)]), .slice ao n cap, .int .i64 k, .int .u64 R] w fun e w' => e = .returned (.bool true) ∧ ∃ mo', Bk w' b mo' ∧ Gb w w' b mo mo' := by
  have HB1 : Hid (Bk (w.alloc (.cells #[.pointer (some ⟨b, 0, none⟩)] 82)) b mo) := hB.out.alloc _
  have HG1 : Hid (Gb w (w.alloc (.cells #[.pointer (some ⟨b, 0, none⟩)] 82)) b mo mo) := box_gb hB.out _
  have HO1 : Hid (OwnL (w.alloc (.cells #[.pointer (some ⟨b, 0, none⟩)] 82)) B (.slice ao n cap) r) := hO.out.kept (World.grownBy_alloc w _ none) (by cases ao <;> simp [Value.ownBlock])
  go_enter Tryz.func143, Tryz.ntmps143
  go_wp2_with fail
  refine (unrank_good _ b mo n k R hlt hn hk HB1).mono ?_
  rintro e w2 ⟨g, r', rfl, hO2, hl2, hp2, hr2, mo', hB2, hG2⟩
  obtain rfl : r' = r := rk_inj (hl2.trans hr.out.symm) (by omega) hk hp2 hp.out (hr2.trans hR.out.symm)
  have HV : Hid (OwnL w2 _ (.slice (some ⟨g, 0, none⟩) n n) r') := hO2
  have HO2 : Hid (OwnL w2 B (.slice ao n cap) r') := HO1.out.gb HB1.out hG2 hb
  have H2 : Hid (Bk w2 b mo' ∧ Gb w w2 b mo mo') := ⟨hB2, HG1.out.trans hG2⟩
  clear hO2 hB2 hG2 hl2 hp2 hr2
  go_wp2_with (refine wpList_copy_same rfl _ _ rfl rfl rfl HO2.out HV.out ?_)
  go_returns
  exact ⟨rfl, mo', H2.out.1, H2.out.2⟩

set_option maxHeartbeats 1000000 in
theorem pinto_bad (w : World) (b : Nat) (mo : Option Nat) (ao : Option Addr) (n cap : Nat) (k : Int) (i : Nat) (hn : n ≤ 60) (hk : Hid ((Lit.int .i64 k).wf = true)) (hi : i ≤ 18446744073709551615) (hlt : Hid (¬ i < vI n k)) (hB : Hid (Bk w b mo)) :
    Calls Tryz.prog 143 #[(.agg #[.pointer (some ⟨b, 0, none⟩)]), .slice ao n cap, .int .i64 k, .int .u64 i] w fun e w' => e = .returned (.bool false) ∧ ∃ mo', Bk w' b mo' ∧ Gb w w' b mo mo' := by
  have HB1 : Hid (Bk (w.alloc (.cells #[.pointer (some ⟨b, 0, none⟩)] 82)) b mo) := hB.out.alloc _
  have HG1 : Hid (Gb w (w.alloc (.cells #[.pointer (some ⟨b, 0, none⟩)] 82)) b mo mo) := box_gb hB.out _
  have HN : Hid ((Lit.int .i64 (n : Int)).wf = true) := WalkArith.wf_i64 (by omega)
  go_enter Tryz.func143, Tryz.ntmps143
  go_wp2_with fail
  refine (unrank_bad _ b mo n k i HN hk hi HB1 hlt).mono ?_
  rintro e w2 ⟨rfl, mo', hB2, hG2⟩
  have H2 : Hid (Bk w2 b mo' ∧ Gb w w2 b mo mo') := ⟨hB2, HG1.out.trans hG2⟩
  clear hB2 hG2 HN hk
  go_wp2_with (refine wpList_copy_nil rfl _ _ rfl ao n cap rfl rfl ?_)
  go_returns
  exact ⟨rfl, mo', H2.out.1, H2.out.2⟩

set_option maxHeartbeats 1000000 in
theorem palloc_any (w : World) (b : Nat) (mo : Option Nat) (s c t n : Int) (B : Nat) (hBn : Hid (bandsF s c = B)) (h5 : B ≤ 5) (R : Nat → Int) (hR : Hid (SOut B c t n R)) (hB : Hid (Bk w b mo)) (hT : Hid (WTab w)) :
    Calls Tryz.prog 142 #[(.agg #[.pointer (some ⟨b, 0, none⟩)]), .agg #[.int .i64 s, .int .i64 c], .int .i64 t, .int .i64 n] w fun e w' => e = .returned (.agg (row5 R)) ∧ ∃ mo', Bk w' b mo' ∧ Gb w w' b mo mo' := by
  have hbl := hB.out.lt
  have HB1 : Hid (Bk (((w.alloc (.cells #[.pointer (some ⟨b, 0, none⟩)] 82)).alloc (.cells #[.int .i64 s, .int .i64 c] 29)).alloc (.cells #[.int .i64 0, .int .i64 0, .int .i64 0, .int .i64 0, .int .i64 0] 31)) b mo) := ((hB.out.alloc _).alloc _).alloc _
  have HG1 : Hid (Gb w (((w.alloc (.cells #[.pointer (some ⟨b, 0, none⟩)] 82)).alloc (.cells #[.int .i64 s, .int .i64 c] 29)).alloc (.cells #[.int .i64 0, .int .i64 0, .int .i64 0, .int .i64 0, .int .i64 0] 31)) b mo mo) := Gb.grown (gN_alloc (gN_alloc (gN_alloc (gN_refl w) _) _) _) b mo
  have HT1 : Hid (WTab (((w.alloc (.cells #[.pointer (some ⟨b, 0, none⟩)] 82)).alloc (.cells #[.int .i64 s, .int .i64 c] 29)).alloc (.cells #[.int .i64 0, .int .i64 0, .int .i64 0, .int .i64 0, .int .i64 0] 31))) := hT.out.grown (gN_alloc (gN_alloc (gN_alloc (gN_refl w) _) _) _)
  have HR1 : Hid (Rw (((w.alloc (.cells #[.pointer (some ⟨b, 0, none⟩)] 82)).alloc (.cells #[.int .i64 s, .int .i64 c] 29)).alloc (.cells #[.int .i64 0, .int .i64 0, .int .i64 0, .int .i64 0, .int .i64 0] 31)) (w.heap.size + 2) (fun _ => 0)) := (heap_threeF w _ _ _).2.2
  have hne : w.heap.size + 2 ≠ b := by omega
  go_enter Tryz.func142, Tryz.ntmps142
  go_wp2_with (go_at_call 145; refine (alloc_any _ b mo s c t n B hBn h5 HB1 HT1).mono ?_; rintro e w2 ⟨R', rfl, hO', _, mo', hB2, hG2⟩; obtain rfl := hR.out.alike h5 (bands_chan hBn.out) hO'; have HR2 : Hid (Rw w2 (w.heap.size + 2) (fun _ => 0)) := rw_gb HB1.out hG2 hne HR1.out; have hst := store5 w2 (w.heap.size + 2) (fun _ => 0) R' HR2.out; have H2 : Hid (Bk w2 b mo' ∧ Gb w w2 b mo mo') := ⟨hB2, HG1.out.trans hG2⟩; clear hB2 hG2 hO')
  refine bodyPost_ret (results_cell_row rfl _ _ (w.heap.size + 2) 31 (row5 R') (0, 0) _ rfl (HR2.out.setRow _) t5_under rfl (by rw [row5_size]; exact t5_info)) rfl ⟨rfl, mo', ?_, ?_⟩
  · obtain ⟨S, hO, hB3⟩ := H2.out.1
    refine ⟨S, hO, hB3.kept (setRowF_grown _ _ _) (by simp; omega) (fun m e => ?_)⟩
    have := hB3.apart HR2.out
    rw [← e]; exact fun e2 => this e2.symm
  · exact H2.out.2.row' (setRowF_grown _ _ _) (fun g e => by cases e; omega)
end Go.Proofs.YtfgpmdikkncckaaGreatDoor
namespace Go.Proofs.YtfgpmdikkncckaaGreatDoor
set_option linter.unusedVariables false
set_option linter.unusedSimpArgs false
set_option maxRecDepth 100000
open Go.ChangeShapes Go.WideShapes Go.ChangeAt Go.RowKit

/-- The law's numbers, its mode, what is wanted, its tools: a book at g 4, a table at g 5, a share at g 6, whose sheet is at g 7. -/
structure TI (w X : World) (F R : Nat → Int) (g : Nat → Nat) : Prop where
  five : X.heap[g 0]? = some (.cells (row5 F) 31 (0, 0))
  md : X.heap[g 1]? = some (.cells #[.int .i64 (F 0), .int .i64 (F 1)] 29 (0, 0))
  want : X.heap[g 2]? = some (.cells (row5 R) 31 (0, 0))
  tl : X.heap[g 3]? = some (.cells #[plainV (g 4), quickV (g 5) (g 6)] 44 (0, 0))
  bk : ∃ mo, Bk X (g 4) mo ∧ ∀ m, mo = some m → w.heap.size ≤ m
  qk : QkAt X (g 5) (g 6) (g 7)
  low : Below w.heap.size w X
  lo : w.heap.size ≤ g 4
  n0 : g 0 ≠ g 4
  n1 : g 1 ≠ g 4
  n2 : g 2 ≠ g 4
  n3 : g 3 ≠ g 4
  n6 : g 6 ≠ g 4
/-- And two lists of its own. -/
structure TY (w X : World) (F R : Nat → Int) (g : Nat → Nat) (N : Nat) (r : List Int) (y z : Value) : Prop where
  ti : TI w X F R g
  ly : OwnL X N y r
  lz : OwnL X N z r
  ne : z.ownBlock ≠ y.ownBlock
  lt : ∀ k, k < 8 → g k < N
  wN : w.heap.size ≤ N

theorem ptr_gb {w w' : World} {b k : Nat} {mo mo' : Option Nat} {v : Value} (hB : Bk w b mo) (hG : Gb w w' b mo mo') (hne : k ≠ b) (h : w.cell? ⟨k, 0, none⟩ = some v) : w'.cell? ⟨k, 0, none⟩ = some v := by
  obtain ⟨S, _, hB⟩ := hB
  cases hh : w.heap[k]? with
  | none => simp [World.cell?, hh] at h
  | some o =>
    cases o with
    | cells cs t z => rw [World.cell?_of_block (a := ⟨k, 0, none⟩) ((hG.cells hB hh hne).trans hh.symm)]; exact h
    | _ => simp [World.cell?, hh] at h

section
variable {w X X' : World} {F R : Nat → Int} {g : Nat → Nat} {N : Nat} {r : List Int} {y z : Value} {mo mo' : Option Nat}
theorem TI.below (h : TI w X F R g) (hb : Below X.heap.size X X') : TI w X' F R g := by
  obtain ⟨mo, hB, hm⟩ := h.bk
  exact ⟨(hb.block _ (lt_size_of_block h.five)).trans h.five, (hb.block _ (lt_size_of_block h.md)).trans h.md, (hb.block _ (lt_size_of_block h.want)).trans h.want, (hb.block _ (lt_size_of_block h.tl)).trans h.tl,
    ⟨mo, hB.keep (gN_of_below hb), hm⟩, h.qk.below hb, h.low.trans (hb.mono h.low.size), h.lo, h.n0, h.n1, h.n2, h.n3, h.n6⟩
theorem TI.drewN (h : TI w X F R g) (d : Nat) : TI w (X.drewN d) F R g := h.below (gN_below (grown_drewN' X d none))
theorem TI.book (h : TI w X F R g) (hB : Bk X (g 4) mo) (hm : ∀ m, mo = some m → w.heap.size ≤ m) (hB' : Bk X' (g 4) mo') (hG : Gb X X' (g 4) mo mo') : TI w X' F R g := by
  have hk : ∀ (k : Nat) (c : Array Value) (t : TypeId) (z : Nat × Nat), k ≠ g 4 → X.heap[k]? = some (.cells c t z) → X'.heap[k]? = some (.cells c t z) := fun k c t z hk hh => by
    obtain ⟨S, _, hB⟩ := hB
    exact hG.cells hB hh hk
  exact ⟨hk _ _ _ _ h.n0 h.five, hk _ _ _ _ h.n1 h.md, hk _ _ _ _ h.n2 h.want, hk _ _ _ _ h.n3 h.tl, ⟨mo', hB', hG.lo h.low.size hm⟩, ⟨h.qk.tab.bk hB hG, ptr_gb hB hG h.n6 h.qk.ptr, h.qk.sh.bk hB hG⟩,
    h.low.trans (hG.below h.lo h.low.size hm), h.lo, h.n0, h.n1, h.n2, h.n3, h.n6⟩
theorem TY.below (h : TY w X F R g N r y z) (hb : Below X.heap.size X X') : TY w X' F R g N r y z :=
  ⟨h.ti.below hb, h.ly.same (fun i _ hi => hb.block i hi), h.lz.same (fun i _ hi => hb.block i hi), h.ne, h.lt, h.wN⟩
theorem TY.drewN (h : TY w X F R g N r y z) (d : Nat) : TY w (X.drewN d) F R g N r y z := h.below (gN_below (grown_drewN' X d none))
theorem TY.book (h : TY w X F R g N r y z) (hB : Bk X (g 4) mo) (hm : ∀ m, mo = some m → w.heap.size ≤ m) (hB' : Bk X' (g 4) mo') (hG : Gb X X' (g 4) mo mo') : TY w X' F R g N r y z :=
  ⟨h.ti.book hB hm hB' hG, h.ly.gb hB hG (h.lt 4 (by omega)), h.lz.gb hB hG (h.lt 4 (by omega)), h.ne, h.lt, h.wN⟩
theorem TY.row (h : TY w X F R g N r y z) (hg : X.grownBy X' y.ownBlock) (hy : OwnL X' N y r) : TY w X' F R g N r y z := by
  have hne : ∀ k, k < 8 → some (g k) ≠ y.ownBlock := fun k hk e => by have h1 := (h.ly.lt e.symm).1; have h2 := h.lt k hk; omega
  have hb : ∀ k, k < 8 → ∀ o, X.heap[g k]? = some o → X'.heap[g k]? = some o := fun k hk o ho => (hg.block _ (lt_size_of_block ho) (hne k hk)).trans ho
  obtain ⟨mo, hB, hm⟩ := h.ti.bk
  refine ⟨⟨hb 0 (by omega) _ h.ti.five, hb 1 (by omega) _ h.ti.md, hb 2 (by omega) _ h.ti.want, hb 3 (by omega) _ h.ti.tl, ⟨mo, hB.row h.ly (h.lt 4 (by omega)) hg, hm⟩,
    ⟨h.ti.qk.tab.kept hg (hne 5 (by omega)), ?_, h.ti.qk.sh.kept hg (hne 7 (by omega))⟩, h.ti.low.grown hg h.ti.low.size (fun q e => by have := (h.ly.lt e).1; have := h.wN; omega), h.ti.lo, h.ti.n0, h.ti.n1, h.ti.n2, h.ti.n3, h.ti.n6⟩,
    hy, h.lz.kept hg (.inr h.ne), h.ne, h.lt, h.wN⟩
  rw [World.cell?_of_block (a := ⟨g 6, 0, none⟩) (hg.block _ (block_lt_of_cell h.ti.qk.ptr) (hne 6 (by omega)))]
  exact h.ti.qk.ptr
/-- Two lists are made. -/
theorem TY.start (h : TI w X F R g) (hb : X.grownBy X' none) (hy : OwnL X' X.heap.size y r) (hz : OwnL X' X.heap.size z r) (hne : z.ownBlock ≠ y.ownBlock) (h7 : g 7 < X.heap.size) : TY w X' F R g X.heap.size r y z := by
  have hB := gN_below hb
  obtain ⟨mo, hB4, _⟩ := h.bk
  refine ⟨h.below hB, hy, hz, hne, fun k hk => ?_, h.low.size⟩
  match k, hk with
  | 0, _ => exact lt_size_of_block h.five
  | 1, _ => exact lt_size_of_block h.md
  | 2, _ => exact lt_size_of_block h.want
  | 3, _ => exact lt_size_of_block h.tl
  | 4, _ => exact hB4.lt
  | 5, _ => exact h.qk.tab.lt
  | 6, _ => exact block_lt_of_cell h.qk.ptr
  | 7, _ => exact h7

/-! ### Plain tools -/
theorem pl_rank_bad (h : TI w X F R g) {ao : Option Addr} {n cap : Nat} (hn : n ≤ 60) (hc : n ≤ cap) (hc2 : cap ≤ 9223372036854775807) (hr : r.length = n) (hw : WfL r) (hx : LAt X ao r) (hbad : 16 < n ∨ ¬ pul r ≤ 32) :
    Calls Tryz.prog 144 #[(.agg #[.pointer (some ⟨g 4, 0, none⟩)]), .slice ao n cap] X fun e w' => e = .returned (.tuple #[.int .u64 0, .bool false]) ∧ TI w w' F R g := by
  obtain ⟨mo, hB, hm⟩ := h.bk
  refine (prank_bad X (g 4) mo ao n cap r hn hc hc2 hr hw hx hbad hB).mono ?_
  rintro e w' ⟨rfl, mo', hB', hG⟩
  exact ⟨rfl, h.book hB hm hB' hG⟩
theorem pl_rank_good (h : TI w X F R g) {ao : Option Addr} {n cap k Q : Nat} (hn : n ≤ 16) (hc : n ≤ cap) (hc2 : cap ≤ 9223372036854775807) (hr : r.length = n) (hk : k ≤ 32) (hp : pul r = k) (hx : LAt X ao r) (hQ : rk r k = Q) :
    Calls Tryz.prog 144 #[(.agg #[.pointer (some ⟨g 4, 0, none⟩)]), .slice ao n cap] X fun e w' => e = .returned (.tuple #[.int .u64 (Q : Nat), .bool true]) ∧ TI w w' F R g := by
  obtain ⟨mo, hB, hm⟩ := h.bk
  refine (prank_good X (g 4) mo ao n cap r hn hc hc2 hr k hk hp hx hB Q hQ).mono ?_
  rintro e w' ⟨rfl, mo', hB', hG⟩
  exact ⟨rfl, h.book hB hm hB' hG⟩
theorem pl_v (h : TY w X F R g N r y z) (n k : Int) : Calls Tryz.prog 138 #[.pointer (some ⟨g 4, 0, none⟩), .int .i64 n, .int .i64 k] X fun e w' => e = .returned (.int .u64 (vI n k : Nat)) ∧ TY w w' F R g N r y z := by
  obtain ⟨mo, hB, hm⟩ := h.ti.bk
  refine (vb_calls X (g 4) mo n k hB).mono ?_
  rintro e w' ⟨rfl, mo', hB', hG⟩
  exact ⟨rfl, h.book hB hm hB' hG⟩
theorem pl_alloc (h : TY w X F R g N r y z) (hT : WTab w) {B : Nat} (hBn : bandsF (F 0) (F 1) = B) (h5 : B ≤ 5) (hR : SOut B (F 1) (F 2) (F 3) R) :
    Calls Tryz.prog 142 #[(.agg #[.pointer (some ⟨g 4, 0, none⟩)]), .agg #[.int .i64 (F 0), .int .i64 (F 1)], .int .i64 (F 2), .int .i64 (F 3)] X fun e w' => e = .returned (.agg (row5 R)) ∧ TY w w' F R g N r y z := by
  obtain ⟨mo, hB, hm⟩ := h.ti.bk
  refine (palloc_any X (g 4) mo _ _ _ _ B hBn h5 R hR hB (hT.below h.ti.low)).mono ?_
  rintro e w' ⟨rfl, mo', hB', hG⟩
  exact ⟨rfl, h.book hB hm hB' hG⟩
theorem pl_into (h : TY w X F R g N r y z) {ao : Option Addr} {n cap k Q : Nat} (ey : y = .slice ao n cap) (hn : n ≤ 16) (hr : r.length = n) (hk : k ≤ 32) (hp : pul r = k) (hQ : rk r k = Q) :
    Calls Tryz.prog 143 #[(.agg #[.pointer (some ⟨g 4, 0, none⟩)]), .slice ao n cap, .int .i64 k, .int .u64 Q] X fun e w' => e = .returned (.bool true) ∧ TY w w' F R g N r y z := by
  obtain ⟨mo, hB, hm⟩ := h.ti.bk
  have hlt : Q < vv n k := by rw [← hQ, ← hr]; exact rk_lt r (by omega) k hk hp
  have hy := h.ly
  rw [ey] at hy
  refine (pinto_good X (g 4) N mo ao n cap r hn hr k hk hp Q hQ hlt hy (h.lt 4 (by omega)) hB).mono ?_
  rintro e w' ⟨rfl, mo', hB', hG⟩
  exact ⟨rfl, h.book hB hm hB' hG⟩
theorem pl_into_bad (h : TY w X F R g N r y z) {ao : Option Addr} {n cap : Nat} {k : Int} {i : Nat} (hn : n ≤ 60) (hk : (Lit.int .i64 k).wf = true) (hi : i ≤ 18446744073709551615) (hlt : ¬ i < vI n k) :
    Calls Tryz.prog 143 #[(.agg #[.pointer (some ⟨g 4, 0, none⟩)]), .slice ao n cap, .int .i64 k, .int .u64 i] X fun e w' => e = .returned (.bool false) ∧ TY w w' F R g N r y z := by
  obtain ⟨mo, hB, hm⟩ := h.ti.bk
  refine (pinto_bad X (g 4) mo ao n cap k i hn hk hi hlt hB).mono ?_
  rintro e w' ⟨rfl, mo', hB', hG⟩
  exact ⟨rfl, h.book hB hm hB' hG⟩

/-! ### Quick tools -/
theorem qk_rank_bad (h : TI w X F R g) {ao : Option Addr} {n cap : Nat} (hn : n ≤ 60) (hr : r.length = n) (hw : WfL r) (hx : LAt X ao r) (hbad : 16 < n ∨ ¬ pul r ≤ 32) :
    Calls Tryz.prog 163 #[.pointer (some ⟨g 5, 0, none⟩), .slice ao n cap] X fun e w' => e = .returned (.tuple #[.int .u64 0, .bool false]) ∧ TI w w' F R g := by
  refine (trank_bad X (g 5) ao n cap r hn hr hw hx hbad).mono ?_
  rintro e w' ⟨rfl, rfl⟩
  exact ⟨rfl, h⟩
theorem qk_rank_good (h : TI w X F R g) {ao : Option Addr} {n cap k Q : Nat} (hn : n ≤ 16) (hc : n ≤ cap) (hc2 : cap ≤ 9223372036854775807) (hr : r.length = n) (hk : k ≤ 32) (hp : pul r = k) (hx : LAt X ao r) (hQ : rk r k = Q) :
    Calls Tryz.prog 163 #[.pointer (some ⟨g 5, 0, none⟩), .slice ao n cap] X fun e w' => e = .returned (.tuple #[.int .u64 (Q : Nat), .bool true]) ∧ TI w w' F R g := by
  refine (trank_good X (g 5) ao n cap r hn hc hc2 hr k hk hp hx h.qk.tab).mono ?_
  rintro e w' ⟨rfl, d, rfl⟩
  rw [hQ]
  exact ⟨rfl, h.drewN d⟩
theorem qk_v (h : TY w X F R g N r y z) (n k : Int) : Calls Tryz.prog 97 #[.pointer (some ⟨g 5, 0, none⟩), .int .i64 n, .int .i64 k] X fun e w' => e = .returned (.int .u64 (vI n k : Nat)) ∧ TY w w' F R g N r y z := by
  refine (tv_any X (g 5) n k h.ti.qk.tab).mono ?_
  rintro e w' ⟨rfl, rfl⟩
  exact ⟨rfl, h⟩
theorem qk_alloc (h : TY w X F R g N r y z) (hT : WTab w) {B : Nat} (hBn : bandsF (F 0) (F 1) = B) (h5 : B ≤ 5) (hR : SOut B (F 1) (F 2) (F 3) R) :
    Calls Tryz.prog 167 #[.pointer (some ⟨g 6, 0, none⟩), .agg #[.int .i64 (F 0), .int .i64 (F 1)], .int .i64 (F 2), .int .i64 (F 3)] X fun e w' => e = .returned (.agg (row5 R)) ∧ TY w w' F R g N r y z := by
  refine (sall_any X (g 6) (g 7) _ _ _ _ B hBn h5 (bands_chan hBn) ⟨h.ti.qk.ptr, h.ti.qk.sh⟩ (hT.below h.ti.low)).mono ?_
  rintro e w' ⟨a, rfl, _, h1, h2, hb⟩
  obtain rfl := hR.same h5 (bands_chan hBn) ⟨a, rfl, h1, h2⟩
  exact ⟨rfl, h.below hb⟩
theorem qk_into (h : TY w X F R g N r y z) {ao : Option Addr} {n cap k Q : Nat} (ey : y = .slice ao n cap) (hn : n ≤ 16) (hr : r.length = n) (hk : k ≤ 32) (hp : pul r = k) (hQ : rk r k = Q) :
    Calls Tryz.prog 162 #[.pointer (some ⟨g 5, 0, none⟩), .slice ao n cap, .int .i64 k, .int .u64 Q] X fun e w' => e = .returned (.bool true) ∧ TY w w' F R g N r y z := by
  have hlt : Q < vv n k := by rw [← hQ, ← hr]; exact rk_lt r (by omega) k hk hp
  have hy := h.ly
  rw [ey] at hy
  refine (into_good X (g 5) N (.slice ao n cap) r n k Q hlt hn hk h.ti.qk.tab hy hr).mono ?_
  rintro e w' ⟨rfl, r1, hO, h1, h2, h3, hg⟩
  obtain rfl : r1 = r := rk_inj (h1.trans hr.symm) (by omega) hk h2 hp (h3.trans hQ.symm)
  rw [← ey] at hO hg
  exact ⟨rfl, h.row hg hO⟩
theorem qk_into_bad (h : TY w X F R g N r y z) {ao : Option Addr} {n cap : Nat} {k : Int} {i : Nat} (hn : n ≤ 60) (hi : i ≤ 18446744073709551615) (hlt : ¬ i < vI n k) :
    Calls Tryz.prog 162 #[.pointer (some ⟨g 5, 0, none⟩), .slice ao n cap, .int .i64 k, .int .u64 i] X fun e w' => e = .returned (.bool false) ∧ TY w w' F R g N r y z := by
  refine (into_bad X (g 5) ao n cap k i hn hi h.ti.qk.tab hlt).mono ?_
  rintro e w' ⟨rfl, rfl⟩
  exact ⟨rfl, h⟩

/-! ### The document's -/
theorem ty_rv (h : TY w X F R g N r y z) (n k : Int) : Calls Tryz.prog 28 #[.int .i64 n, .int .i64 k] X fun e w' => e = .returned (.int .u64 (vI n k : Nat)) ∧ TY w w' F R g N r y z := by
  refine (rv12 X n k).mono ?_
  rintro e w' ⟨rfl, rfl⟩
  exact ⟨rfl, h⟩
theorem ty_pul (h : TY w X F R g N r y z) {ao : Option Addr} {n cap k : Nat} (hn : n ≤ 16) (hr : r.length = n) (hp : pul r = k) (hk : k ≤ 32) (hx : LAt w ao r) : Calls Tryz.prog 24 #[.slice ao n cap] X fun e w' => e = .returned (.int .i64 (k : Nat)) ∧ TY w w' F R g N r y z := by
  refine (rpul_any X ao n cap r hn hr k hp hk (hx.below h.ti.low)).mono ?_
  rintro e w' ⟨rfl, rfl⟩
  exact ⟨rfl, h⟩
theorem ty_ints_y (h : TY w X F R g N r y z) {ao bo : Option Addr} {n cap dap : Nat} (ey : y = .slice bo n dap) (hn : n ≤ 60) (hr : r.length = n) (hx : LAt w ao r) : Calls Tryz.prog 29 #[.slice ao n cap, .slice bo n dap] X fun e w' => e = .returned (.bool true) ∧ TY w w' F R g N r y z := by
  have hy := h.ly
  rw [ey] at hy
  refine (ints_same X ao bo n cap dap r hn hr (hx.below h.ti.low) hy.lat).mono ?_
  rintro e w' ⟨rfl, d, rfl⟩
  exact ⟨rfl, h.drewN d⟩
theorem ty_ints_z (h : TY w X F R g N r y z) {ao bo : Option Addr} {n cap dap : Nat} (ez : z = .slice bo n dap) (hn : n ≤ 60) (hr : r.length = n) (hx : LAt w ao r) : Calls Tryz.prog 29 #[.slice ao n cap, .slice bo n dap] X fun e w' => e = .returned (.bool true) ∧ TY w w' F R g N r y z := by
  have hz := h.lz
  rw [ez] at hz
  refine (ints_same X ao bo n cap dap r hn hr (hx.below h.ti.low) hz.lat).mono ?_
  rintro e w' ⟨rfl, d, rfl⟩
  exact ⟨rfl, h.drewN d⟩
end

/-! ### Loads in a region whose worlds are all of one class -/
theorem quietC_load {C : World → Prop} {K : Act → Prop} {o : Oper} {a : Act} (t : TypeId) (x : Operand) (ho : o.op = .load t x) (p : Option Addr) (v : Value) (hx : a.eval x = .pointer p) (hrun : ∀ X, C X → (Instr.loadAt t (.pointer p)).run Tryz.prog X = .ok v X) (a' : Act) (hp : a.put o.dst v = a') (h : K a') :
    o.quiet Tryz.prog a C K := by
  refine ⟨v, ?_, by rw [hp]; exact h⟩
  intro X hX
  unfold Oper.quietAt execOp
  simp only [ho, hx, hrun X hX, Sem.run_bind, Sem.run_pure, Result.andThen_ok]
  exact ⟨rfl, rfl⟩
theorem ld_int {X : World} {b o : Nat} {x : Int} (h : X.cell? ⟨b, o, none⟩ = some (.int .i64 x)) : (Instr.loadAt 3 (.pointer (some ⟨b, o, none⟩))).run Tryz.prog X = .ok (.int .i64 x) X := by
  simp [go_sem, h]
theorem ld_row5 {X : World} {b : Nat} {f : Nat → Int} (h : X.heap[b]? = some (.cells (row5 f) 31 (0, 0))) : (Instr.loadAt 31 (.pointer (some ⟨b, 0, none⟩))).run Tryz.prog X = .ok (.agg (row5 f)) X := by
  simp only [Instr.loadAt, Instr.sureAddr, Sem.run_bind, Sem.run_pure, Result.andThen_ok, run_loadVar_row X b 31 31 (row5 f) (0, 0) _ h t5_under rfl (by rw [row5_size]; exact t5_info)]
theorem md_info : (Tryz.prog.info? 29).map (·.size) = some 2 := by kernel_rfl
theorem ld_md {X : World} {b : Nat} {C : Array Value} (h : X.heap[b]? = some (.cells C 29 (0, 0))) (hC : C.size = 2) : (Instr.loadAt 29 (.pointer (some ⟨b, 0, none⟩))).run Tryz.prog X = .ok (.agg C) X := by
  simp only [Instr.loadAt, Instr.sureAddr, Sem.run_bind, Sem.run_pure, Result.andThen_ok, run_loadVar_row X b 29 29 C (0, 0) _ h Tryz.underlying29 rfl (by rw [hC]; exact md_info)]
end Go.Proofs.YtfgpmdikkncckaaGreatDoor
