/-
  A map whose keys are modes and whose elements are numbers: the key's law, what a key reads as, and 'times[m]++' in whatever order its steps are taken. No condition.
-/
import Derived.Test.YtkjaalcckdacoaaDoorModeMath
import Derived.Test.YtkjaalcckdacoaaDoorRows
import Derived.Maps.OwnOps
import Derived.Maps.OwnSet
import Derived.Maps.Views
import Derived.DeepKeys4
import Derived.WideKeyEntry
import Derived.WalkArith
namespace Go.Proofs.YtkjaalcckdacoaaDoor
set_option linter.unusedVariables false
open Go.ChangeMaps Go.MapKept Go.RowKit
open Go.WideElems (Fit rd rg pl rd_val elemAt entry_then_store)
open Go.WideMaps (KeyLaw)
open Go.Maps (Keyed)

theorem laidOut : laidOutB Tryd.prog = true := by kernel_rfl
theorem modeRow : (24 : TypeId) < Tryd.prog.types.size := of_decide_eq_true (by kernel_rfl)
theorem modeWide : (match Tryd.prog.underlying 24 with | some (.array _ _) | some (.struct _) => true | _ => false) = true := by rw [Tryd.underlying24]
theorem modeLaw : KeyLaw Tryd.prog 24 := deep_law_laid laidOut (m := 2) (by omega) modeRow (by kernel_rfl) modeWide
theorem modeKeyed : Keyed Tryd.prog 24 := Keyed.of_law modeLaw
theorem zeroInt (w : World) : (zeroValue 3).run Tryd.prog w = .ok (.int .i64 0) w := by kernel_rfl

/-- What a mode reads as, as a key. -/
def kl (s c : Int) : Lit := .string (keyBytes [.int .i64 s, .int .i64 c])
theorem key_md {s c : Int} (hs : (Lit.int .i64 s).wf = true) (hc : (Lit.int .i64 c).wf = true) : keyOf Tryd.prog 24 (.agg #[.int .i64 (s), .int .i64 (c)]) = some (kl s c) := by
  have hk : Tryd.prog.keyType 24 = true := by kernel_rfl
  have hf : (Value.agg #[Value.int .i64 s, .int .i64 c]).formed Tryd.prog 24 = true := by kernel_rfl
  obtain ⟨m, hm⟩ : ∃ m, Tryd.prog.types.size = m + 1 := ⟨Tryd.prog.types.size - 1, (Nat.sub_add_cancel (Nat.lt_of_le_of_lt (Nat.zero_le 24) modeRow)).symm⟩
  have c1 : Tryd.prog.cellsOf 3 = 1 := by kernel_rfl
  have c2 : Tryd.prog.cellsOf 24 = 2 := by kernel_rfl
  unfold keyOf
  simp only [Tryd.underlying24]
  rw [if_pos (by simp [hk, hf]), hm]
  simp [Program.keyLits, Tryd.underlying24, Tryd.underlying3, Value.cells, c1, c2, hs, hc, kl, List.mapM_cons]
theorem kl_inj {s c s' c' : Int} (hs : (Lit.int .i64 s).wf = true) (hc : (Lit.int .i64 c).wf = true) (hs' : (Lit.int .i64 s').wf = true) (hc' : (Lit.int .i64 c').wf = true) (h : kl s c = kl s' c') : s = s' ∧ c = c' := by
  have := modeLaw.inj (key_md hs hc) (h ▸ key_md hs' hc')
  simpa using this
theorem kl_key (s c : Int) : WideAt.IsKeyLit (kl s c) := trivial

section
variable {H : Type} {P : Program} {k e t : TypeId} {w : World} {b n : Nat} {D : DataW H}

theorem lookup_at (h : w.ownsMap P k (plainElem P e) b n D) (K : Keyed P k) (ht : P.underlying t = some (.map k e)) (he : P.underlying e = some (.int .i64)) (hz : ∀ u : World, (zeroValue e).run P u = .ok (.int .i64 0) u)
    {key : Value} {l : Lit} (hkey : keyOf P k key = some l) {c : Int} (hat : D.atKey l (.lit (.int .i64 0)) = .lit (.int .i64 c)) : (Instr.lookup t (.map (some b)) key false).run P w = .ok (.int .i64 c) w := by
  obtain ⟨c', hrun, hat', _⟩ := h.lookup_int K ht he (hz w) hkey
  rw [hat'] at hat
  cases hat
  exact hrun

/-- 'times[m]++': the entry may be made ahead of the look-up, or behind it. -/
theorem bump (h : w.ownsMap P k (plainElem P e) b n D) (K : KeyLaw P k) (ht : P.underlying t = some (.map k e)) (he : P.underlying e = some (.int .i64)) (hz : ∀ u : World, (zeroValue e).run P u = .ok (.int .i64 0) u)
    (hn : n < maxLen) {key : Value} {l : Lit} (hkey : keyOf P k key = some l) {c : Int} (hat : D.atKey l (.lit (.int .i64 0)) = .lit (.int .i64 c)) {v : Int} (hv : (Lit.int .i64 v).wf = true) :
    ∃ (st : Nat) (w2 w4 : World), (Instr.mapEntry t (.map (some b)) key).run P w = .ok (.tuple #[.int .i64 c, .int .i64 st]) w2 ∧
      (Instr.lookup t (.map (some b)) key false).run P w2 = .ok (.int .i64 c) w2 ∧
      (Instr.entryStore t (.map (some b)) (.int .i64 st) (.int .i64 v)).run P w2 = .ok () w4 ∧
      w4.ownsMap P k (plainElem P e) b (n + 1) (D.put l (.lit (.int .i64 v))) ∧ w.grownBy w4 (some b) := by
  have KK := Keyed.of_law K
  obtain ⟨w4, hrun4, own4, grow4⟩ := h.update KK ht hn hkey (plainElem_int he hv)
  have hlook := lookup_at h KK ht he hz hkey hat
  have h' := h
  obtain ⟨es, clock, hb, F, hs, hD⟩ := h
  obtain ⟨v0, st, es1, clock1, hE, _, hS⟩ := entry_then_store K ht hz hb F hkey
  obtain ⟨es', clock', hst, hup⟩ := hS _ (.int .i64 v) (heap_setBlock_same hb _)
  rw [hrun4] at hup
  have e4 : setBlock (setBlock w b (.map es1 clock1)) b (.map es' clock') = w4 := by
    cases hup
    simp [setBlock]
  rw [e4] at hst
  rcases K.find w hkey es.toList F.keys with ⟨h1, h2⟩ | ⟨j, e0, h1, h2, h3⟩
  · have hE' : (Instr.mapEntry t (.map (some b)) key).run P w = .ok (.tuple #[.int .i64 0, goInt clock]) (setBlock w b (.map (es.push ⟨key, .int .i64 0, clock⟩) (clock + 1))) := by
      simp [Instr.mapEntry, run_underlying ht, MapKept.run_getObj_map hb, K.check w false hkey, h1, hz, MapKept.run_setObj_map _ hb, Result.andThen, setBlock]
    have hl : (Instr.lookup t (.map (some b)) key false).run P w = .ok (.int .i64 0) w := by
      simp [Instr.lookup, run_underlying ht, MapKept.run_getObj_map hb, K.check w _ hkey, h1, hz, Result.andThen]
    rw [hlook] at hl
    have hw0 : (Lit.int .i64 0).wf = true := by decide
    obtain ⟨w0, hrun0, own0, _⟩ := h'.update KK ht hn hkey (plainElem_int he hw0)
    have hup0 : (Instr.mapUpdate t (.map (some b)) key (.int .i64 0)).run P w = .ok () (setBlock w b (.map (es.push ⟨key, .int .i64 0, clock⟩) (clock + 1))) := by
      simp [Instr.mapUpdate, run_underlying ht, MapKept.run_getObj_map hb, K.check w false hkey, h1, MapKept.run_setObj_map _ hb, Result.andThen, setBlock]
    rw [hrun0] at hup0
    rw [hE'] at hE
    have ew : w0 = setBlock w b (.map es1 clock1) := by
      have a1 := hup0
      have a2 := hE
      injection a1 with _ a3
      injection a2 with _ a4
      rw [a3, a4]
    have ec : c = 0 := by injection hl with a _; injection a
    have es' : st = clock ∧ v0 = .int .i64 0 := by
      injection hE with a _
      simp [goInt] at a
      exact ⟨by omega, a.1.symm⟩
    obtain ⟨rfl, rfl⟩ := es'
    subst ec
    refine ⟨st, w0, w4, ?_, ?_, ?_, own4, grow4⟩
    · rw [hE', hE, ew]; rfl
    · exact lookup_at own0 KK ht he hz hkey (Maps.atKey_put_same h'.isMap (KK.key hkey) _ _)
    · rw [ew]; exact hst
  · have hj : es[j]? = some e0 := by simpa using h2
    have hsame : es.modify j (fun e => { e with key := key }) = es := by
      apply Array.ext'
      rw [Array.toList_modify, modify_eq_set _ _ _ _ h2, show ({ e0 with key := key } : MapEntry) = e0 by rw [← h3]]
      exact Go.WideElems.set_self _ _ _ h2
    have hE' : (Instr.mapEntry t (.map (some b)) key).run P w = .ok (.tuple #[e0.val, goInt e0.born]) (setBlock w b (.map es clock)) := by
      simp [Instr.mapEntry, run_underlying ht, MapKept.run_getObj_map hb, K.check w false hkey, h1, hj, h3, K.stays w hkey, hsame, MapKept.run_setObj_map _ hb, Result.andThen, setBlock]
    have hl : (Instr.lookup t (.map (some b)) key false).run P w = .ok e0.val w := by
      simp [Instr.lookup, run_underlying ht, MapKept.run_getObj_map hb, K.check w _ hkey, h1, Result.andThen]
    rw [hlook] at hl
    have ec : e0.val = .int .i64 c := by injection hl with a _; exact a.symm
    have own2 : (setBlock w b (.map es clock)).ownsMap P k (plainElem P e) b n D := ⟨es, clock, heap_setBlock_same hb _, F, hs, hD⟩
    have e0' := hE
    rw [hE'] at e0'
    have ew : setBlock w b (.map es clock) = setBlock w b (.map es1 clock1) := by injection e0'
    have es' : st = e0.born := by
      injection e0' with a _
      simp [goInt] at a
      omega
    subst es'
    refine ⟨e0.born, setBlock w b (.map es clock), w4, ?_, lookup_at own2 KK ht he hz hkey hat, ?_, own4, grow4⟩
    · rw [hE', ec]; rfl
    · rw [ew]; exact hst
end
end Go.Proofs.YtkjaalcckdacoaaDoor
