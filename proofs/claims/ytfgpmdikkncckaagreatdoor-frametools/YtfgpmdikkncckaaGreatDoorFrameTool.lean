/-
  Where the law FrameTools has all of its things, and that each call of a tool leaves them so. No condition.
-/
import Derived.Test.YtfgpmdikkncckaaGreatDoorFramePlain
import Derived.Test.YtfgpmdikkncckaaGreatDoorTableInto
import Derived.Test.YtfgpmdikkncckaaGreatDoorTableRank
import Derived.BigQuiet
namespace Go.Proofs.YtfgpmdikkncckaaGreatDoor
set_option linter.unusedVariables false
set_option linter.unusedSimpArgs false
set_option maxRecDepth 100000
open Go.ChangeShapes Go.WideShapes Go.ChangeAt Go.RowKit

/-- The law's numbers, its mode, what is wanted, its tools: a book at g 4, a table at g 5, a share at g 6, whose sheet is at g 7. -/
structure TI (w X : World) (F R : Nat → Int) (g : Nat → Nat) : Prop where
  five : X.heap[g 0]? = some (.cells (row5 F) 31 (0, 0))
  md : X.heap[g 1]? = some (.cells #[.int .i64 (F 0), .int .i64 (F 1)] 29 (0, 0))
  want : X.heap[g 2]? = some (.cells (row5 R) 31 (0, 0))
  tl : X.heap[g 3]? = some (.cells #[plainV (g 4), quickV (g 5) (g 6)] 44 (0, 0))
  bk : ∃ mo, Bk X (g 4) mo ∧ ∀ m, mo = some m → w.heap.size ≤ m
  qk : QkAt X (g 5) (g 6) (g 7)
  low : Below w.heap.size w X
  lo : w.heap.size ≤ g 4
  n0 : g 0 ≠ g 4
  n1 : g 1 ≠ g 4
  n2 : g 2 ≠ g 4
  n3 : g 3 ≠ g 4
  n6 : g 6 ≠ g 4
/-- And two lists of its own. -/
structure TY (w X : World) (F R : Nat → Int) (g : Nat → Nat) (N : Nat) (r : List Int) (y z : Value) : Prop where
  ti : TI w X F R g
  ly : OwnL X N y r
  lz : OwnL X N z r
  ne : z.ownBlock ≠ y.ownBlock
  lt : ∀ k, k < 8 → g k < N
  wN : w.heap.size ≤ N

theorem ptr_gb {w w' : World} {b k : Nat} {mo mo' : Option Nat} {v : Value} (hB : Bk w b mo) (hG : Gb w w' b mo mo') (hne : k ≠ b) (h : w.cell? ⟨k, 0, none⟩ = some v) : w'.cell? ⟨k, 0, none⟩ = some v := by
  obtain ⟨S, _, hB⟩ := hB
  cases hh : w.heap[k]? with
  | none => simp [World.cell?, hh] at h
  | some o =>
    cases o with
    | cells cs t z => rw [World.cell?_of_block (a := ⟨k, 0, none⟩) ((hG.cells hB hh hne).trans hh.symm)]; exact h
    | _ => simp [World.cell?, hh] at h

section
variable {w X X' : World} {F R : Nat → Int} {g : Nat → Nat} {N : Nat} {r : List Int} {y z : Value} {mo mo' : Option Nat}
theorem TI.below (h : TI w X F R g) (hb : Below X.heap.size X X') : TI w X' F R g := by
  obtain ⟨mo, hB, hm⟩ := h.bk
  exact ⟨(hb.block _ (lt_size_of_block h.five)).trans h.five, (hb.block _ (lt_size_of_block h.md)).trans h.md, (hb.block _ (lt_size_of_block h.want)).trans h.want, (hb.block _ (lt_size_of_block h.tl)).trans h.tl,
    ⟨mo, hB.keep (gN_of_below hb), hm⟩, h.qk.below hb, h.low.trans (hb.mono h.low.size), h.lo, h.n0, h.n1, h.n2, h.n3, h.n6⟩
theorem TI.drewN (h : TI w X F R g) (d : Nat) : TI w (X.drewN d) F R g := h.below (gN_below (grown_drewN' X d none))
theorem TI.book (h : TI w X F R g) (hB : Bk X (g 4) mo) (hm : ∀ m, mo = some m → w.heap.size ≤ m) (hB' : Bk X' (g 4) mo') (hG : Gb X X' (g 4) mo mo') : TI w X' F R g := by
  have hk : ∀ (k : Nat) (c : Array Value) (t : TypeId) (z : Nat × Nat), k ≠ g 4 → X.heap[k]? = some (.cells c t z) → X'.heap[k]? = some (.cells c t z) := fun k c t z hk hh => by
    obtain ⟨S, _, hB⟩ := hB
    exact hG.cells hB hh hk
  exact ⟨hk _ _ _ _ h.n0 h.five, hk _ _ _ _ h.n1 h.md, hk _ _ _ _ h.n2 h.want, hk _ _ _ _ h.n3 h.tl, ⟨mo', hB', hG.lo h.low.size hm⟩, ⟨h.qk.tab.bk hB hG, ptr_gb hB hG h.n6 h.qk.ptr, h.qk.sh.bk hB hG⟩,
    h.low.trans (hG.below h.lo h.low.size hm), h.lo, h.n0, h.n1, h.n2, h.n3, h.n6⟩
theorem TY.below (h : TY w X F R g N r y z) (hb : Below X.heap.size X X') : TY w X' F R g N r y z :=
  ⟨h.ti.below hb, h.ly.same (fun i _ hi => hb.block i hi), h.lz.same (fun i _ hi => hb.block i hi), h.ne, h.lt, h.wN⟩
theorem TY.drewN (h : TY w X F R g N r y z) (d : Nat) : TY w (X.drewN d) F R g N r y z := h.below (gN_below (grown_drewN' X d none))
theorem TY.book (h : TY w X F R g N r y z) (hB : Bk X (g 4) mo) (hm : ∀ m, mo = some m → w.heap.size ≤ m) (hB' : Bk X' (g 4) mo') (hG : Gb X X' (g 4) mo mo') : TY w X' F R g N r y z :=
  ⟨h.ti.book hB hm hB' hG, h.ly.gb hB hG (h.lt 4 (by omega)), h.lz.gb hB hG (h.lt 4 (by omega)), h.ne, h.lt, h.wN⟩
theorem TY.row (h : TY w X F R g N r y z) (hg : X.grownBy X' y.ownBlock) (hy : OwnL X' N y r) : TY w X' F R g N r y z := by
  have hne : ∀ k, k < 8 → some (g k) ≠ y.ownBlock := fun k hk e => by have h1 := (h.ly.lt e.symm).1; have h2 := h.lt k hk; omega
  have hb : ∀ k, k < 8 → ∀ o, X.heap[g k]? = some o → X'.heap[g k]? = some o := fun k hk o ho => (hg.block _ (lt_size_of_block ho) (hne k hk)).trans ho
  obtain ⟨mo, hB, hm⟩ := h.ti.bk
  refine ⟨⟨hb 0 (by omega) _ h.ti.five, hb 1 (by omega) _ h.ti.md, hb 2 (by omega) _ h.ti.want, hb 3 (by omega) _ h.ti.tl, ⟨mo, hB.row h.ly (h.lt 4 (by omega)) hg, hm⟩,
    ⟨h.ti.qk.tab.kept hg (hne 5 (by omega)), ?_, h.ti.qk.sh.kept hg (hne 7 (by omega))⟩, h.ti.low.grown hg h.ti.low.size (fun q e => by have := (h.ly.lt e).1; have := h.wN; omega), h.ti.lo, h.ti.n0, h.ti.n1, h.ti.n2, h.ti.n3, h.ti.n6⟩,
    hy, h.lz.kept hg (.inr h.ne), h.ne, h.lt, h.wN⟩
  rw [World.cell?_of_block (a := ⟨g 6, 0, none⟩) (hg.block _ (block_lt_of_cell h.ti.qk.ptr) (hne 6 (by omega)))]
  exact h.ti.qk.ptr
/-- Two lists are made. -/
theorem TY.start (h : TI w X F R g) (hb : X.grownBy X' none) (hy : OwnL X' X.heap.size y r) (hz : OwnL X' X.heap.size z r) (hne : z.ownBlock ≠ y.ownBlock) (h7 : g 7 < X.heap.size) : TY w X' F R g X.heap.size r y z := by
  have hB := gN_below hb
  obtain ⟨mo, hB4, _⟩ := h.bk
  refine ⟨h.below hB, hy, hz, hne, fun k hk => ?_, h.low.size⟩
  match k, hk with
  | 0, _ => exact lt_size_of_block h.five
  | 1, _ => exact lt_size_of_block h.md
  | 2, _ => exact lt_size_of_block h.want
  | 3, _ => exact lt_size_of_block h.tl
  | 4, _ => exact hB4.lt
  | 5, _ => exact h.qk.tab.lt
  | 6, _ => exact block_lt_of_cell h.qk.ptr
  | 7, _ => exact h7

/-! ### Plain tools -/
theorem pl_rank_bad (h : TI w X F R g) {ao : Option Addr} {n cap : Nat} (hn : n ≤ 60) (hc : n ≤ cap) (hc2 : cap ≤ 9223372036854775807) (hr : r.length = n) (hw : WfL r) (hx : LAt X ao r) (hbad : 16 < n ∨ ¬ pul r ≤ 32) :
    Calls Tryz.prog 144 #[(.agg #[.pointer (some ⟨g 4, 0, none⟩)]), .slice ao n cap] X fun e w' => e = .returned (.tuple #[.int .u64 0, .bool false]) ∧ TI w w' F R g := by
  obtain ⟨mo, hB, hm⟩ := h.bk
  refine (prank_bad X (g 4) mo ao n cap r hn hc hc2 hr hw hx hbad hB).mono ?_
  rintro e w' ⟨rfl, mo', hB', hG⟩
  exact ⟨rfl, h.book hB hm hB' hG⟩
theorem pl_rank_good (h : TI w X F R g) {ao : Option Addr} {n cap k Q : Nat} (hn : n ≤ 16) (hc : n ≤ cap) (hc2 : cap ≤ 9223372036854775807) (hr : r.length = n) (hk : k ≤ 32) (hp : pul r = k) (hx : LAt X ao r) (hQ : rk r k = Q) :
    Calls Tryz.prog 144 #[(.agg #[.pointer (some ⟨g 4, 0, none⟩)]), .slice ao n cap] X fun e w' => e = .returned (.tuple #[.int .u64 (Q : Nat), .bool true]) ∧ TI w w' F R g := by
  obtain ⟨mo, hB, hm⟩ := h.bk
  refine (prank_good X (g 4) mo ao n cap r hn hc hc2 hr k hk hp hx hB Q hQ).mono ?_
  rintro e w' ⟨rfl, mo', hB', hG⟩
  exact ⟨rfl, h.book hB hm hB' hG⟩
theorem pl_v (h : TY w X F R g N r y z) (n k : Int) : Calls Tryz.prog 138 #[.pointer (some ⟨g 4, 0, none⟩), .int .i64 n, .int .i64 k] X fun e w' => e = .returned (.int .u64 (vI n k : Nat)) ∧ TY w w' F R g N r y z := by
  obtain ⟨mo, hB, hm⟩ := h.ti.bk
  refine (vb_calls X (g 4) mo n k hB).mono ?_
  rintro e w' ⟨rfl, mo', hB', hG⟩
  exact ⟨rfl, h.book hB hm hB' hG⟩
theorem pl_alloc (h : TY w X F R g N r y z) (hT : WTab w) {B : Nat} (hBn : bandsF (F 0) (F 1) = B) (h5 : B ≤ 5) (hR : SOut B (F 1) (F 2) (F 3) R) :
    Calls Tryz.prog 142 #[(.agg #[.pointer (some ⟨g 4, 0, none⟩)]), .agg #[.int .i64 (F 0), .int .i64 (F 1)], .int .i64 (F 2), .int .i64 (F 3)] X fun e w' => e = .returned (.agg (row5 R)) ∧ TY w w' F R g N r y z := by
  obtain ⟨mo, hB, hm⟩ := h.ti.bk
  refine (palloc_any X (g 4) mo _ _ _ _ B hBn h5 R hR hB (hT.below h.ti.low)).mono ?_
  rintro e w' ⟨rfl, mo', hB', hG⟩
  exact ⟨rfl, h.book hB hm hB' hG⟩
theorem pl_into (h : TY w X F R g N r y z) {ao : Option Addr} {n cap k Q : Nat} (ey : y = .slice ao n cap) (hn : n ≤ 16) (hr : r.length = n) (hk : k ≤ 32) (hp : pul r = k) (hQ : rk r k = Q) :
    Calls Tryz.prog 143 #[(.agg #[.pointer (some ⟨g 4, 0, none⟩)]), .slice ao n cap, .int .i64 k, .int .u64 Q] X fun e w' => e = .returned (.bool true) ∧ TY w w' F R g N r y z := by
  obtain ⟨mo, hB, hm⟩ := h.ti.bk
  have hlt : Q < vv n k := by rw [← hQ, ← hr]; exact rk_lt r (by omega) k hk hp
  have hy := h.ly
  rw [ey] at hy
  refine (pinto_good X (g 4) N mo ao n cap r hn hr k hk hp Q hQ hlt hy (h.lt 4 (by omega)) hB).mono ?_
  rintro e w' ⟨rfl, mo', hB', hG⟩
  exact ⟨rfl, h.book hB hm hB' hG⟩
theorem pl_into_bad (h : TY w X F R g N r y z) {ao : Option Addr} {n cap : Nat} {k : Int} {i : Nat} (hn : n ≤ 60) (hk : (Lit.int .i64 k).wf = true) (hi : i ≤ 18446744073709551615) (hlt : ¬ i < vI n k) :
    Calls Tryz.prog 143 #[(.agg #[.pointer (some ⟨g 4, 0, none⟩)]), .slice ao n cap, .int .i64 k, .int .u64 i] X fun e w' => e = .returned (.bool false) ∧ TY w w' F R g N r y z := by
  obtain ⟨mo, hB, hm⟩ := h.ti.bk
  refine (pinto_bad X (g 4) mo ao n cap k i hn hk hi hlt hB).mono ?_
  rintro e w' ⟨rfl, mo', hB', hG⟩
  exact ⟨rfl, h.book hB hm hB' hG⟩

/-! ### Quick tools -/
theorem qk_rank_bad (h : TI w X F R g) {ao : Option Addr} {n cap : Nat} (hn : n ≤ 60) (hr : r.length = n) (hw : WfL r) (hx : LAt X ao r) (hbad : 16 < n ∨ ¬ pul r ≤ 32) :
    Calls Tryz.prog 163 #[.pointer (some ⟨g 5, 0, none⟩), .slice ao n cap] X fun e w' => e = .returned (.tuple #[.int .u64 0, .bool false]) ∧ TI w w' F R g := by
  refine (trank_bad X (g 5) ao n cap r hn hr hw hx hbad).mono ?_
  rintro e w' ⟨rfl, rfl⟩
  exact ⟨rfl, h⟩
theorem qk_rank_good (h : TI w X F R g) {ao : Option Addr} {n cap k Q : Nat} (hn : n ≤ 16) (hc : n ≤ cap) (hc2 : cap ≤ 9223372036854775807) (hr : r.length = n) (hk : k ≤ 32) (hp : pul r = k) (hx : LAt X ao r) (hQ : rk r k = Q) :
    Calls Tryz.prog 163 #[.pointer (some ⟨g 5, 0, none⟩), .slice ao n cap] X fun e w' => e = .returned (.tuple #[.int .u64 (Q : Nat), .bool true]) ∧ TI w w' F R g := by
  refine (trank_good X (g 5) ao n cap r hn hc hc2 hr k hk hp hx h.qk.tab).mono ?_
  rintro e w' ⟨rfl, d, rfl⟩
  rw [hQ]
  exact ⟨rfl, h.drewN d⟩
theorem qk_v (h : TY w X F R g N r y z) (n k : Int) : Calls Tryz.prog 97 #[.pointer (some ⟨g 5, 0, none⟩), .int .i64 n, .int .i64 k] X fun e w' => e = .returned (.int .u64 (vI n k : Nat)) ∧ TY w w' F R g N r y z := by
  refine (tv_any X (g 5) n k h.ti.qk.tab).mono ?_
  rintro e w' ⟨rfl, rfl⟩
  exact ⟨rfl, h⟩
theorem qk_alloc (h : TY w X F R g N r y z) (hT : WTab w) {B : Nat} (hBn : bandsF (F 0) (F 1) = B) (h5 : B ≤ 5) (hR : SOut B (F 1) (F 2) (F 3) R) :
    Calls Tryz.prog 167 #[.pointer (some ⟨g 6, 0, none⟩), .agg #[.int .i64 (F 0), .int .i64 (F 1)], .int .i64 (F 2), .int .i64 (F 3)] X fun e w' => e = .returned (.agg (row5 R)) ∧ TY w w' F R g N r y z := by
  refine (sall_any X (g 6) (g 7) _ _ _ _ B hBn h5 (bands_chan hBn) ⟨h.ti.qk.ptr, h.ti.qk.sh⟩ (hT.below h.ti.low)).mono ?_
  rintro e w' ⟨a, rfl, _, h1, h2, hb⟩
  obtain rfl := hR.same h5 (bands_chan hBn) ⟨a, rfl, h1, h2⟩
  exact ⟨rfl, h.below hb⟩
theorem qk_into (h : TY w X F R g N r y z) {ao : Option Addr} {n cap k Q : Nat} (ey : y = .slice ao n cap) (hn : n ≤ 16) (hr : r.length = n) (hk : k ≤ 32) (hp : pul r = k) (hQ : rk r k = Q) :
    Calls Tryz.prog 162 #[.pointer (some ⟨g 5, 0, none⟩), .slice ao n cap, .int .i64 k, .int .u64 Q] X fun e w' => e = .returned (.bool true) ∧ TY w w' F R g N r y z := by
  have hlt : Q < vv n k := by rw [← hQ, ← hr]; exact rk_lt r (by omega) k hk hp
  have hy := h.ly
  rw [ey] at hy
  refine (into_good X (g 5) N (.slice ao n cap) r n k Q hlt hn hk h.ti.qk.tab hy hr).mono ?_
  rintro e w' ⟨rfl, r1, hO, h1, h2, h3, hg⟩
  obtain rfl : r1 = r := rk_inj (h1.trans hr.symm) (by omega) hk h2 hp (h3.trans hQ.symm)
  rw [← ey] at hO hg
  exact ⟨rfl, h.row hg hO⟩
theorem qk_into_bad (h : TY w X F R g N r y z) {ao : Option Addr} {n cap : Nat} {k : Int} {i : Nat} (hn : n ≤ 60) (hi : i ≤ 18446744073709551615) (hlt : ¬ i < vI n k) :
    Calls Tryz.prog 162 #[.pointer (some ⟨g 5, 0, none⟩), .slice ao n cap, .int .i64 k, .int .u64 i] X fun e w' => e = .returned (.bool false) ∧ TY w w' F R g N r y z := by
  refine (into_bad X (g 5) ao n cap k i hn hi h.ti.qk.tab hlt).mono ?_
  rintro e w' ⟨rfl, rfl⟩
  exact ⟨rfl, h⟩

/-! ### The document's -/
theorem ty_rv (h : TY w X F R g N r y z) (n k : Int) : Calls Tryz.prog 28 #[.int .i64 n, .int .i64 k] X fun e w' => e = .returned (.int .u64 (vI n k : Nat)) ∧ TY w w' F R g N r y z := by
  refine (rv12 X n k).mono ?_
  rintro e w' ⟨rfl, rfl⟩
  exact ⟨rfl, h⟩
theorem ty_pul (h : TY w X F R g N r y z) {ao : Option Addr} {n cap k : Nat} (hn : n ≤ 16) (hr : r.length = n) (hp : pul r = k) (hk : k ≤ 32) (hx : LAt w ao r) : Calls Tryz.prog 24 #[.slice ao n cap] X fun e w' => e = .returned (.int .i64 (k : Nat)) ∧ TY w w' F R g N r y z := by
  refine (rpul_any X ao n cap r hn hr k hp hk (hx.below h.ti.low)).mono ?_
  rintro e w' ⟨rfl, rfl⟩
  exact ⟨rfl, h⟩
theorem ty_ints_y (h : TY w X F R g N r y z) {ao bo : Option Addr} {n cap dap : Nat} (ey : y = .slice bo n dap) (hn : n ≤ 60) (hr : r.length = n) (hx : LAt w ao r) : Calls Tryz.prog 29 #[.slice ao n cap, .slice bo n dap] X fun e w' => e = .returned (.bool true) ∧ TY w w' F R g N r y z := by
  have hy := h.ly
  rw [ey] at hy
  refine (ints_same X ao bo n cap dap r hn hr (hx.below h.ti.low) hy.lat).mono ?_
  rintro e w' ⟨rfl, d, rfl⟩
  exact ⟨rfl, h.drewN d⟩
theorem ty_ints_z (h : TY w X F R g N r y z) {ao bo : Option Addr} {n cap dap : Nat} (ez : z = .slice bo n dap) (hn : n ≤ 60) (hr : r.length = n) (hx : LAt w ao r) : Calls Tryz.prog 29 #[.slice ao n cap, .slice bo n dap] X fun e w' => e = .returned (.bool true) ∧ TY w w' F R g N r y z := by
  have hz := h.lz
  rw [ez] at hz
  refine (ints_same X ao bo n cap dap r hn hr (hx.below h.ti.low) hz.lat).mono ?_
  rintro e w' ⟨rfl, d, rfl⟩
  exact ⟨rfl, h.drewN d⟩
end

/-! ### Loads in a region whose worlds are all of one class -/
theorem quietC_load {C : World → Prop} {K : Act → Prop} {o : Oper} {a : Act} (t : TypeId) (x : Operand) (ho : o.op = .load t x) (p : Option Addr) (v : Value) (hx : a.eval x = .pointer p) (hrun : ∀ X, C X → (Instr.loadAt t (.pointer p)).run Tryz.prog X = .ok v X) (a' : Act) (hp : a.put o.dst v = a') (h : K a') :
    o.quiet Tryz.prog a C K := by
  refine ⟨v, ?_, by rw [hp]; exact h⟩
  intro X hX
  unfold Oper.quietAt execOp
  simp only [ho, hx, hrun X hX, Sem.run_bind, Sem.run_pure, Result.andThen_ok]
  exact ⟨rfl, rfl⟩
theorem ld_int {X : World} {b o : Nat} {x : Int} (h : X.cell? ⟨b, o, none⟩ = some (.int .i64 x)) : (Instr.loadAt 3 (.pointer (some ⟨b, o, none⟩))).run Tryz.prog X = .ok (.int .i64 x) X := by
  simp [go_sem, h]
theorem ld_row5 {X : World} {b : Nat} {f : Nat → Int} (h : X.heap[b]? = some (.cells (row5 f) 31 (0, 0))) : (Instr.loadAt 31 (.pointer (some ⟨b, 0, none⟩))).run Tryz.prog X = .ok (.agg (row5 f)) X := by
  simp only [Instr.loadAt, Instr.sureAddr, Sem.run_bind, Sem.run_pure, Result.andThen_ok, run_loadVar_row X b 31 31 (row5 f) (0, 0) _ h t5_under rfl (by rw [row5_size]; exact t5_info)]
theorem md_info : (Tryz.prog.info? 29).map (·.size) = some 2 := by kernel_rfl
theorem ld_md {X : World} {b : Nat} {C : Array Value} (h : X.heap[b]? = some (.cells C 29 (0, 0))) (hC : C.size = 2) : (Instr.loadAt 29 (.pointer (some ⟨b, 0, none⟩))).run Tryz.prog X = .ok (.agg C) X := by
  simp only [Instr.loadAt, Instr.sureAddr, Sem.run_bind, Sem.run_pure, Result.andThen_ok, run_loadVar_row X b 29 29 C (0, 0) _ h Tryz.underlying29 rfl (by rw [hC]; exact md_info)]
end Go.Proofs.YtfgpmdikkncckaaGreatDoor
