/-
  Lists of arrays of five; what Add of a log does: each of a list is counted in the log's map. Nothing that was there is turned but that map.
-/
import Derived.Test.YtkilngogdbjmbaaDoorLogCalls
namespace Go.Proofs.YtkilngogdbjmbaaDoor
set_option linter.unusedVariables false
set_option linter.unusedSimpArgs false
set_option maxRecDepth 20000
open Go.ChangeShapes Go.WideShapes Go.ChangeAt Go.RowKit

/-- A list of n arrays of five lies at this address (where there is one of them at all). -/
def L5At (w : World) (ao : Option Addr) (n : Nat) (F : Nat → Nat → Int) : Prop :=
  ∀ i, i < n → ∃ b off, ao = some ⟨b, off, none⟩ ∧ ∀ j, j < 5 → w.cell? ⟨b, off + i * 5 + j, none⟩ = some (.int .i64 (F i j))
abbrev LogIs (w : World) (m N : Nat) (D : DataW Unit) : Prop := w.ownsMap Tryd.prog 25 (plainElem Tryd.prog 3) m N D
section
variable {w w' : World} {ao : Option Addr} {n : Nat} {F : Nat → Nat → Int} {m N : Nat} {D : DataW Unit}
theorem L5At.kept {row : Option Nat} (h : L5At w ao n F) (hg : w.grownBy w' row) (hne : ∀ a, ao = some a → some a.block ≠ row) : L5At w' ao n F := by
  intro i hi
  obtain ⟨b, off, e, c⟩ := h i hi
  refine ⟨b, off, e, fun j hj => ?_⟩
  rw [World.cell?_of_block (a := ⟨b, _, none⟩) (hg.block b (block_lt_of_cell (c j hj)) (hne _ e))]
  exact c j hj
theorem L5At.below (h : L5At w ao n F) (hb : Below w.heap.size w w') : L5At w' ao n F := h.kept (row := none) ⟨hb.os, hb.tape, hb.output, hb.size, fun k hk _ => hb.block k hk⟩ (fun a _ => by simp)
theorem L5At.drewN (h : L5At w ao n F) (d : Nat) : L5At (w.drewN d) ao n F := h
/-- A map's block holds no cell. -/
theorem log_apart {o : Nat} {v : Value} {g : Nat} (h : LogIs w m N D) (hc : w.cell? ⟨g, o, none⟩ = some v) : g ≠ m := by
  obtain ⟨es, clock, hb, _⟩ := h
  intro e
  subst e
  simp [World.cell?, hb] at hc
theorem L5At.log (h : L5At w ao n F) (hm : LogIs w m N D) (hg : w.grownBy w' (some m)) : L5At w' ao n F := by
  by_cases h0 : n = 0
  · intro i hi; omega
  · obtain ⟨b, off, e, c⟩ := h 0 (by omega)
    have := log_apart hm (c 0 (by omega))
    exact h.kept hg (fun a ha => by rw [e] at ha; cases ha; simpa using this)
theorem L5At.first {k : Nat} (h : L5At w ao n F) (hk : k ≤ n) : L5At w ao k F := fun i hi => h i (by omega)
theorem L5At.from {b off k : Nat} (h : L5At w (some ⟨b, off, none⟩) n F) (hk : k ≤ n) : L5At w (some ⟨b, off + k * 5, none⟩) (n - k) (fun i => F (k + i)) := by
  intro i hi
  obtain ⟨b', off', e, c⟩ := h (k + i) (by omega)
  cases e
  refine ⟨b, off + k * 5, rfl, fun j hj => ?_⟩
  rw [show off + k * 5 + i * 5 + j = off + (k + i) * 5 + j by omega]
  exact c j hj
theorem L5At.cells {b off i : Nat} (h : L5At w (some ⟨b, off, none⟩) n F) (hi : i < n) :
    w.cell? ⟨b, off + i * 5, none⟩ = some (.int .i64 (F i 0)) ∧ w.cell? ⟨b, off + i * 5 + 1, none⟩ = some (.int .i64 (F i 1)) ∧ w.cell? ⟨b, off + i * 5 + 2, none⟩ = some (.int .i64 (F i 2)) ∧ w.cell? ⟨b, off + i * 5 + 3, none⟩ = some (.int .i64 (F i 3)) ∧ w.cell? ⟨b, off + i * 5 + 4, none⟩ = some (.int .i64 (F i 4)) := by
  obtain ⟨b', off', e, c⟩ := h i hi
  cases e
  exact ⟨c 0 (by omega), c 1 (by omega), c 2 (by omega), c 3 (by omega), c 4 (by omega)⟩
end
theorem grown_drew {w w' : World} {row : Option Nat} (h : w.grownBy w' row) : w.grownBy w'.drew row := ⟨h.os, h.tape, h.output, h.size, h.block⟩
theorem grown_more {a b c : World} {r r' : Option Nat} (h : a.grownBy b r) (k : b.grownBy c r') (hr : r' = none ∨ r' = r) : a.grownBy c r :=
  ⟨k.os.trans h.os, k.tape.trans h.tape, k.output.trans h.output, Nat.le_trans h.size k.size, fun i hi hne => (k.block i (Nat.lt_of_lt_of_le hi h.size) (by rcases hr with rfl | rfl; simp; exact hne)).trans (h.block i hi hne)⟩

set_option maxHeartbeats 2000000 in
theorem add_any (w : World) (m N : Nat) (D : DataW Unit) (T : (Nat → Int) → Nat) (ao : Option Addr) (n cap : Nat) (G : Nat → Nat → Int) (hn : N + n ≤ 1000) (hO : Hid (LogIs w m N D)) (hT : Hid (Tal T D)) (hTb : Hid (∀ f, T f ≤ N)) (hL : Hid (L5At w ao n G)) (hW : Hid (∀ i, i < n → Wf5 (G i))) :
    Calls Tryd.prog 14 #[.map (some m), .slice ao n cap] w fun e w' => e = .returned (.tuple #[]) ∧ (∃ D', LogIs w' m (N + n) D' ∧ Tal (fun f => T f + cnt5 G f n) D') ∧ w.grownBy w' (some m) := by
  have qT : ∀ (w : World) (r : Option Nat), (binOp .eql 41 (.map r) (.map none)).run Tryd.prog w = .ok (.bool r.isNone) w := fun w r => run_eql_map_nil w _ _ _ r Tryd.underlying41
  go_enter Tryd.func14, Tryd.ntmps14
  go_wp2
  go_loopw [10] (fun i wr => ∃ k : Nat, k ≤ n ∧ i = .int .i64 k ∧ Hid (∃ D, LogIs wr m (N + k) D ∧ Tal (fun f => T f + cnt5 G f k) D) ∧ Hid (w.grownBy wr (some m))) (fun i _ => n - (intOf i).toNat)
  case atStart => exact ⟨0, by omega, rfl, ⟨D, hO.out, hT.out⟩, (gN_refl w).but _⟩
  case round =>
    obtain ⟨k, hk, rfl, HD, HG⟩ := hrel
    by_cases hlt : k < n
    · have hlt' : (k : Int) < (n : Int) := by omega
      have hk0 : (0 : Int) ≤ (k : Int) := by omega
      have HL1 : Hid (L5At wr ao n G) := hL.out.log hO.out HG.out
      obtain ⟨b, off, rfl, _⟩ := HL1.out k hlt
      obtain ⟨x0, x1, x2, x3, x4⟩ := HL1.out.cells hlt
      have HB : Hid (m < wr.heap.size) := by obtain ⟨D', h, _⟩ := HD.out; exact h.lt
      go_upto_region 4 with fail
      clear x0 x1 x2 x3 x4
      obtain ⟨D', hown, hC⟩ := HD.out
      have hwf : Wf5 (G k) := hW.out k hlt
      have own1 : LogIs (wr.alloc (.cells #[.int .i64 (G k 0), .int .i64 (G k 1), .int .i64 (G k 2), .int .i64 (G k 3), .int .i64 (G k 4)] 25)).drew m (N + k) D' := (hown.alloc _).drew
      have hat : D'.atKey (kl5 (G k)) (.lit (.int .i64 0)) = .lit (.int .i64 ((T (G k) + cnt5 G (G k) k : Nat) : Int)) := (hC _ hwf).1
      have hN : Tal (fun f => T f + cnt5 G f k + (if same5 (G k) f = true then 1 else 0)) (D'.put (kl5 (G k)) (.lit (.int .i64 (((T (G k) + cnt5 G (G k) k : Nat) : Int) + 1)))) := hC.put (own1.tidy t5Keyed).isMap hwf
      have hcb := cnt5_le G (G k) k
      have htb := hTb.out (G k)
      obtain ⟨x, hx⟩ : ∃ x : Nat, T (G k) + cnt5 G (G k) k = x := ⟨_, rfl⟩
      rw [hx] at hat hN
      have hxb : x ≤ 1000 := by omega
      have q0 : (Instr.lookup 41 (.map (some m)) (.agg #[.int .i64 (G k 0), .int .i64 (G k 1), .int .i64 (G k 2), .int .i64 (G k 3), .int .i64 (G k 4)]) false).run Tryd.prog (wr.alloc (.cells #[.int .i64 (G k 0), .int .i64 (G k 1), .int .i64 (G k 2), .int .i64 (G k 3), .int .i64 (G k 4)] 25)).drew = .ok (.int .i64 (x : Nat)) (wr.alloc (.cells #[.int .i64 (G k 0), .int .i64 (G k 1), .int .i64 (G k 2), .int .i64 (G k 3), .int .i64 (G k 4)] 25)).drew := lookup_at own1 t5Keyed Tryd.underlying41 Tryd.underlying3 zeroInt (key5 hwf) hat
      obtain ⟨st, w2, w4, q1, q2, q3, own4, grow4⟩ := bump own1 t5Law Tryd.underlying41 Tryd.underlying3 zeroInt (by unfold maxLen; omega) (key5 hwf) hat (v := (x : Int) + 1) (WalkArith.wf_i64 (by omega))
      have q1' : (Instr.mapEntry 41 (.map (some m)) (.agg #[.int .i64 (G k 0), .int .i64 (G k 1), .int .i64 (G k 2), .int .i64 (G k 3), .int .i64 (G k 4)])).run Tryd.prog (wr.alloc (.cells #[.int .i64 (G k 0), .int .i64 (G k 1), .int .i64 (G k 2), .int .i64 (G k 3), .int .i64 (G k 4)] 25)).drew = .ok (.tuple #[.int .i64 (x : Nat), .int .i64 st]) w2 := q1
      have q2' : (Instr.lookup 41 (.map (some m)) (.agg #[.int .i64 (G k 0), .int .i64 (G k 1), .int .i64 (G k 2), .int .i64 (G k 3), .int .i64 (G k 4)]) false).run Tryd.prog w2 = .ok (.int .i64 (x : Nat)) w2 := q2
      have HN : Hid (∃ D, LogIs w4 m (N + (k + 1)) D ∧ Tal (fun f => T f + cnt5 G f (k + 1)) D) := ⟨_, own4, hN.congr (fun f => by rw [cnt5]; omega)⟩
      have HG2 : Hid (w.grownBy w4 (some m)) := grown_more (grown_more HG.out (grown_drew (World.grownBy_alloc wr (.cells #[.int .i64 (G k 0), .int .i64 (G k 1), .int .i64 (G k 2), .int .i64 (G k 3), .int .i64 (G k 4)] 25) none)) (.inl rfl)) grow4 (.inr rfl)
      clear own1 own4 hat hN hx HD hown hC grow4 q1 q2 hcb htb HG
      go_region
      all_goals go_wp2
      all_goals go_roundw
      all_goals first
        | exact ⟨k + 1, by omega, by go_num, HN, HG2⟩
        | (simp [intOf]; omega)
    · obtain rfl : k = n := by omega
      go_wp2
      go_returns
      exact ⟨rfl, HD.out, HG.out⟩
end Go.Proofs.YtkilngogdbjmbaaDoor
