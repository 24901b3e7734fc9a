/-
  A map whose keys are arrays of five numbers and whose elements are numbers: the key's law, what a key reads as, and 'm[k]++' in whatever order its steps are taken. No condition.
-/
import Derived.Test.YtkilngogdbjmbaaDoorAllocRow
import Derived.Maps.OwnOps
import Derived.Maps.OwnSet
import Derived.Maps.Views
import Derived.Maps.RangeWalk
import Derived.DeepKeys4
import Derived.WideKeyEntry
import Derived.WalkArith
namespace Go.Proofs.YtkilngogdbjmbaaDoor
set_option linter.unusedVariables false
set_option maxRecDepth 100000
open Go.ChangeMaps Go.MapKept Go.RowKit
open Go.WideElems (Fit rd rg pl rd_val elemAt entry_then_store)
open Go.WideMaps (KeyLaw)
open Go.Maps (Keyed)

theorem t5Row : (25 : TypeId) < Tryd.prog.types.size := of_decide_eq_true (by kernel_rfl)
theorem t5Wide : (match Tryd.prog.underlying 25 with | some (.array _ _) | some (.struct _) => true | _ => false) = true := by rw [Tryd.underlying25]
theorem t5Law : KeyLaw Tryd.prog 25 := deep_law_laid laidOut (m := 2) (by omega) t5Row (by kernel_rfl) t5Wide
theorem t5Keyed : Keyed Tryd.prog 25 := Keyed.of_law t5Law
theorem zeroInt (w : World) : (zeroValue 3).run Tryd.prog w = .ok (.int .i64 0) w := by kernel_rfl

/-- What an array of five reads as, as a key. -/
def kl5 (f : Nat → Int) : Lit := .string (keyBytes [.int .i64 (f 0), .int .i64 (f 1), .int .i64 (f 2), .int .i64 (f 3), .int .i64 (f 4)])
def Wf5 (f : Nat → Int) : Prop := ∀ i, i < 5 → (Lit.int .i64 (f i)).wf = true
theorem c5 : Tryd.prog.cellsOf 25 = 5 := by kernel_rfl
theorem c1i : Tryd.prog.cellsOf 3 = 1 := by kernel_rfl
theorem types_succ : ∃ m, Tryd.prog.types.size = m + 1 := ⟨Tryd.prog.types.size - 1, (Nat.sub_add_cancel (Nat.lt_of_le_of_lt (Nat.zero_le 25) t5Row)).symm⟩
theorem key5 {f : Nat → Int} (h : Wf5 f) : keyOf Tryd.prog 25 (.agg (row5 f)) = some (kl5 f) := by
  have hk : Tryd.prog.keyType 25 = true := by kernel_rfl
  have hf : (Value.agg (row5 f)).formed Tryd.prog 25 = true := by kernel_rfl
  obtain ⟨m, hm⟩ := types_succ
  have c1 := c1i
  have c2 := c5
  unfold keyOf
  simp only [Tryd.underlying25]
  rw [if_pos (by simp [hk, hf]), hm]
  simp [Program.keyLits, Tryd.underlying25, Tryd.underlying3, Value.cells, c1, c2, h 0 (by omega), h 1 (by omega), h 2 (by omega), h 3 (by omega), h 4 (by omega), kl5, row5, List.mapM_cons, show List.range 5 = [0, 1, 2, 3, 4] from rfl]
theorem kl5_inj {f g : Nat → Int} (hf : Wf5 f) (hg : Wf5 g) (h : kl5 f = kl5 g) : ∀ i, i < 5 → f i = g i := by
  have := t5Law.inj (key5 hf) (h ▸ key5 hg)
  simp [row5] at this
  obtain ⟨h0, h1, h2, h3, h4⟩ := this
  intro i hi
  match i, hi with
  | 0, _ => exact h0
  | 1, _ => exact h1
  | 2, _ => exact h2
  | 3, _ => exact h3
  | 4, _ => exact h4
theorem kl5_same {f g : Nat → Int} (h : ∀ i, i < 5 → f i = g i) : kl5 f = kl5 g := by
  unfold kl5; rw [h 0 (by omega), h 1 (by omega), h 2 (by omega), h 3 (by omega), h 4 (by omega)]
theorem kl5_key (f : Nat → Int) : WideAt.IsKeyLit (kl5 f) := trivial
theorem keyLit1 {m : Nat} {v : Value} {l : List Lit} (h : Tryd.prog.keyLits (m + 1) 3 [v] = some l) : ∃ x, v = .int .i64 x ∧ (Lit.int .i64 x).wf = true ∧ l = [.int .i64 x] := by
  cases v <;> simp [Program.keyLits, Tryd.underlying3] at h
  obtain ⟨⟨rfl, hw⟩, rfl⟩ := h
  exact ⟨_, rfl, hw, rfl⟩
theorem key5_inv {key : Value} {kl : Lit} (h : keyOf Tryd.prog 25 key = some kl) : ∃ f, key = .agg (row5 f) ∧ Wf5 f ∧ kl = kl5 f := by
  have h0 := h
  obtain ⟨m, hm⟩ := types_succ
  have c1 := c1i
  have c2 := c5
  unfold keyOf at h
  simp only [Tryd.underlying25] at h
  split at h
  · rename_i hc
    have hfm := (Bool.and_eq_true _ _ ▸ hc).2
    cases key <;> simp [Value.formed, Tryd.underlying25, c2] at hfm
    rename_i cs
    obtain ⟨a, b, c, d, e, rfl⟩ : ∃ a b c d e, cs = #[a, b, c, d, e] := by
      obtain ⟨l⟩ := cs
      match l, hfm with
      | [a, b, c, d, e], _ => exact ⟨a, b, c, d, e, rfl⟩
    rw [hm] at h
    simp only [Program.keyLits, Tryd.underlying25, Tryd.underlying3, Value.cells, c1, c2, show List.range 5 = [0, 1, 2, 3, 4] from rfl, List.mapM_cons, List.mapM_nil] at h
    have hw : ∃ x0 x1 x2 x3 x4, a = .int .i64 x0 ∧ b = .int .i64 x1 ∧ c = .int .i64 x2 ∧ d = .int .i64 x3 ∧ e = .int .i64 x4 ∧ (Lit.int .i64 x0).wf = true ∧ (Lit.int .i64 x1).wf = true ∧ (Lit.int .i64 x2).wf = true ∧ (Lit.int .i64 x3).wf = true ∧ (Lit.int .i64 x4).wf = true := by
      cases a <;> simp at h
      split at h
      · rename_i ha
        obtain ⟨rfl, wa⟩ := ha
        cases b <;> simp at h
        split at h
        · rename_i hb
          obtain ⟨rfl, wb⟩ := hb
          cases c <;> simp at h
          split at h
          · rename_i hc
            obtain ⟨rfl, wc⟩ := hc
            cases d <;> simp at h
            split at h
            · rename_i hd
              obtain ⟨rfl, wd⟩ := hd
              cases e <;> simp at h
              split at h
              · rename_i he
                obtain ⟨rfl, we⟩ := he
                exact ⟨_, _, _, _, _, rfl, rfl, rfl, rfl, rfl, wa, wb, wc, wd, we⟩
              · simp at h
            · simp at h
          · simp at h
        · simp at h
      · simp at h
    obtain ⟨x0, x1, x2, x3, x4, rfl, rfl, rfl, rfl, rfl, w0, w1, w2, w3, w4⟩ := hw
    have hF : Wf5 (fun i => [x0, x1, x2, x3, x4].getD i 0) := fun i hi => by
      match i, hi with
      | 0, _ => exact w0
      | 1, _ => exact w1
      | 2, _ => exact w2
      | 3, _ => exact w3
      | 4, _ => exact w4
    refine ⟨fun i => [x0, x1, x2, x3, x4].getD i 0, rfl, hF, ?_⟩
    have := (key5 hF).symm.trans h0
    exact (Option.some.inj this).symm
  · cases h

section
variable {H : Type} {P : Program} {k e t : TypeId} {w : World} {b n : Nat} {D : DataW H}

theorem lookup_at (h : w.ownsMap P k (plainElem P e) b n D) (K : Keyed P k) (ht : P.underlying t = some (.map k e)) (he : P.underlying e = some (.int .i64)) (hz : ∀ u : World, (zeroValue e).run P u = .ok (.int .i64 0) u)
    {key : Value} {l : Lit} (hkey : keyOf P k key = some l) {c : Int} (hat : D.atKey l (.lit (.int .i64 0)) = .lit (.int .i64 c)) : (Instr.lookup t (.map (some b)) key false).run P w = .ok (.int .i64 c) w := by
  obtain ⟨c', hrun, hat', _⟩ := h.lookup_int K ht he (hz w) hkey
  rw [hat'] at hat
  cases hat
  exact hrun

/-- 'times[m]++': the entry may be made ahead of the look-up, or behind it. -/
theorem bump (h : w.ownsMap P k (plainElem P e) b n D) (K : KeyLaw P k) (ht : P.underlying t = some (.map k e)) (he : P.underlying e = some (.int .i64)) (hz : ∀ u : World, (zeroValue e).run P u = .ok (.int .i64 0) u)
    (hn : n < maxLen) {key : Value} {l : Lit} (hkey : keyOf P k key = some l) {c : Int} (hat : D.atKey l (.lit (.int .i64 0)) = .lit (.int .i64 c)) {v : Int} (hv : (Lit.int .i64 v).wf = true) :
    ∃ (st : Nat) (w2 w4 : World), (Instr.mapEntry t (.map (some b)) key).run P w = .ok (.tuple #[.int .i64 c, .int .i64 st]) w2 ∧
      (Instr.lookup t (.map (some b)) key false).run P w2 = .ok (.int .i64 c) w2 ∧
      (Instr.entryStore t (.map (some b)) (.int .i64 st) (.int .i64 v)).run P w2 = .ok () w4 ∧
      w4.ownsMap P k (plainElem P e) b (n + 1) (D.put l (.lit (.int .i64 v))) ∧ w.grownBy w4 (some b) := by
  have KK := Keyed.of_law K
  obtain ⟨w4, hrun4, own4, grow4⟩ := h.update KK ht hn hkey (plainElem_int he hv)
  have hlook := lookup_at h KK ht he hz hkey hat
  have h' := h
  obtain ⟨es, clock, hb, F, hs, hD⟩ := h
  obtain ⟨v0, st, es1, clock1, hE, _, hS⟩ := entry_then_store K ht hz hb F hkey
  obtain ⟨es', clock', hst, hup⟩ := hS _ (.int .i64 v) (heap_setBlock_same hb _)
  rw [hrun4] at hup
  have e4 : setBlock (setBlock w b (.map es1 clock1)) b (.map es' clock') = w4 := by
    cases hup
    simp [setBlock]
  rw [e4] at hst
  rcases K.find w hkey es.toList F.keys with ⟨h1, h2⟩ | ⟨j, e0, h1, h2, h3⟩
  · have hE' : (Instr.mapEntry t (.map (some b)) key).run P w = .ok (.tuple #[.int .i64 0, goInt clock]) (setBlock w b (.map (es.push ⟨key, .int .i64 0, clock⟩) (clock + 1))) := by
      simp [Instr.mapEntry, run_underlying ht, MapKept.run_getObj_map hb, K.check w false hkey, h1, hz, MapKept.run_setObj_map _ hb, Result.andThen, setBlock]
    have hl : (Instr.lookup t (.map (some b)) key false).run P w = .ok (.int .i64 0) w := by
      simp [Instr.lookup, run_underlying ht, MapKept.run_getObj_map hb, K.check w _ hkey, h1, hz, Result.andThen]
    rw [hlook] at hl
    have hw0 : (Lit.int .i64 0).wf = true := by decide
    obtain ⟨w0, hrun0, own0, _⟩ := h'.update KK ht hn hkey (plainElem_int he hw0)
    have hup0 : (Instr.mapUpdate t (.map (some b)) key (.int .i64 0)).run P w = .ok () (setBlock w b (.map (es.push ⟨key, .int .i64 0, clock⟩) (clock + 1))) := by
      simp [Instr.mapUpdate, run_underlying ht, MapKept.run_getObj_map hb, K.check w false hkey, h1, MapKept.run_setObj_map _ hb, Result.andThen, setBlock]
    rw [hrun0] at hup0
    rw [hE'] at hE
    have ew : w0 = setBlock w b (.map es1 clock1) := by
      have a1 := hup0
      have a2 := hE
      injection a1 with _ a3
      injection a2 with _ a4
      rw [a3, a4]
    have ec : c = 0 := by injection hl with a _; injection a
    have es' : st = clock ∧ v0 = .int .i64 0 := by
      injection hE with a _
      simp [goInt] at a
      exact ⟨by omega, a.1.symm⟩
    obtain ⟨rfl, rfl⟩ := es'
    subst ec
    refine ⟨st, w0, w4, ?_, ?_, ?_, own4, grow4⟩
    · rw [hE', hE, ew]; rfl
    · exact lookup_at own0 KK ht he hz hkey (Maps.atKey_put_same h'.isMap (KK.key hkey) _ _)
    · rw [ew]; exact hst
  · have hj : es[j]? = some e0 := by simpa using h2
    have hsame : es.modify j (fun e => { e with key := key }) = es := by
      apply Array.ext'
      rw [Array.toList_modify, modify_eq_set _ _ _ _ h2, show ({ e0 with key := key } : MapEntry) = e0 by rw [← h3]]
      exact Go.WideElems.set_self _ _ _ h2
    have hE' : (Instr.mapEntry t (.map (some b)) key).run P w = .ok (.tuple #[e0.val, goInt e0.born]) (setBlock w b (.map es clock)) := by
      simp [Instr.mapEntry, run_underlying ht, MapKept.run_getObj_map hb, K.check w false hkey, h1, hj, h3, K.stays w hkey, hsame, MapKept.run_setObj_map _ hb, Result.andThen, setBlock]
    have hl : (Instr.lookup t (.map (some b)) key false).run P w = .ok e0.val w := by
      simp [Instr.lookup, run_underlying ht, MapKept.run_getObj_map hb, K.check w _ hkey, h1, Result.andThen]
    rw [hlook] at hl
    have ec : e0.val = .int .i64 c := by injection hl with a _; exact a.symm
    have own2 : (setBlock w b (.map es clock)).ownsMap P k (plainElem P e) b n D := ⟨es, clock, heap_setBlock_same hb _, F, hs, hD⟩
    have e0' := hE
    rw [hE'] at e0'
    have ew : setBlock w b (.map es clock) = setBlock w b (.map es1 clock1) := by injection e0'
    have es' : st = e0.born := by
      injection e0' with a _
      simp [goInt] at a
      omega
    subst es'
    refine ⟨e0.born, setBlock w b (.map es clock), w4, ?_, lookup_at own2 KK ht he hz hkey hat, ?_, own4, grow4⟩
    · rw [hE', ec]; rfl
    · rw [ew]; exact hst
end
end Go.Proofs.YtkilngogdbjmbaaDoor
