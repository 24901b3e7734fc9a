/-
  The law RankOrders of layer 11 (rank) as a walk: called at any input it returns true, and nothing that was there has turned.
-/
import Derived.Test.YtgjbnkkjajljmaaRankTurns
import Derived.Test.YtgjbnkkjajljmaaOpenPairs
namespace Go.Proofs.Ytgjbnkkjajljmaa
set_option linter.unusedVariables false
open Go.ChangeShapes Go.WideShapes Go.ChangeAt Go.RowKit

theorem orders_long (a c i j : Int) (ao : Option Addr) (n cap : Nat) (w : World) (hn : 60 < n) : Calls Try.prog 6 #[.agg #[.int .u8 a, .int .u8 c], .agg #[.int .u64 i, .int .u64 j], .slice ao n cap] w fun e w' => e = .returned (.bool true) ∧ Below w.heap.size w w' := by
  have hn' : (60 : Int) < n := by omega
  go_enter Try.func6, Try.ntmps6
  go_wp2_with fail
  refine (awake11 _).mono ?_
  rintro e w0 ⟨rfl, hb0⟩
  have hb1 : Below w.heap.size w w0 := (((Below.refl _ w).alloc (Nat.le_refl _) _).alloc (by simp) _).trans (hb0.mono (by simp; omega))
  clear hb0
  go_wp2
  go_returns
  exact ⟨rfl, hb1⟩

/-- Two lists of numbers of the call's own, apart from one another. -/
def TwoL (w : World) (B : Nat) (p q : Value) (P Q : List Int) : Prop := OwnL w B p P ∧ OwnL w B q Q ∧ ∀ g, p.ownBlock = some g → q.ownBlock ≠ some g
theorem TwoL.keep {w w' : World} {B : Nat} {p q : Value} {P Q : List Int} (h : TwoL w B p q P Q) (hg : w.grownBy w' none) : TwoL w' B p q P Q :=
  ⟨h.1.kept hg (by cases p.ownBlock <;> simp), h.2.1.kept hg (by cases q.ownBlock <;> simp), h.2.2⟩
theorem TwoL.push1 {w w' : World} {B g cap : Nat} {p q : Value} {P Q P' : List Int} {n : Nat} (h : TwoL w B p q P Q) (h1 : OwnL w' B (.slice (some ⟨g, 0, none⟩) n cap) P') (h2 : w.grownBy w' p.ownBlock) (h3 : p.ownBlock = some g ∨ g = w.heap.size) : TwoL w' B (.slice (some ⟨g, 0, none⟩) n cap) q P' Q := by
  refine ⟨h1, h.2.1.kept h2 ?_, ?_⟩
  · cases hq : q.ownBlock with
    | none => exact .inl rfl
    | some g' =>
      right
      intro e
      exact h.2.2 g' e.symm hq
  · intro g' e hq
    cases e
    rcases h3 with e1 | e1
    · exact h.2.2 g e1 hq
    · have h4 : g < w.heap.size := (h.2.1.lt hq).2
      omega
theorem TwoL.push2 {w w' : World} {B g cap : Nat} {p q : Value} {P Q Q' : List Int} {n : Nat} (h : TwoL w B p q P Q) (h1 : OwnL w' B (.slice (some ⟨g, 0, none⟩) n cap) Q') (h2 : w.grownBy w' q.ownBlock) (h3 : q.ownBlock = some g ∨ g = w.heap.size) : TwoL w' B p (.slice (some ⟨g, 0, none⟩) n cap) P Q' := by
  refine ⟨h.1.kept h2 ?_, h1, ?_⟩
  · cases hp : p.ownBlock with
    | none => exact .inl rfl
    | some g' =>
      right
      intro e
      exact h.2.2 g' hp e.symm
  · intro g' e hq
    cases hq
    rcases h3 with e1 | e1
    · exact h.2.2 g e e1
    · have h4 : g < w.heap.size := (h.1.lt e).2
      omega
/-- A list is appended to a list, by an operation whose guard says yes. -/
theorem wpList_catLg {w : World} {ops : Array Oper} {rest : List Oper} {o : Oper} {a : Act} {Q : Exit → Act → World → Prop} (hwant : Region.wanted o (yielded ops a.tmps) = true) (s x : Operand)
    (ho : o.op = .call { callee := .builtin .append, args := #[s, x], argTypes := #[22, 22] }) (B : Nat) (v : Value) (r : List Int) (hs : a.eval s = v) (hown : OwnL w B v r) (B' : Nat) (y : Value) (t : List Int) (hx : a.eval x = y)
    (hy : OwnL w B' y t) (hn : r.length ≤ 1000000) (hm : t.length ≤ 1000000) (hB : B ≤ w.heap.size)
    (h : ∀ v' w', OwnL w' B v' (r ++ t) → w.grownBy w' v.ownBlock → (v'.ownBlock = v.ownBlock ∨ v'.ownBlock = some w.heap.size) → wpList Try.prog ops Q rest (a.put o.dst v') w') : wpList Try.prog ops Q (o :: rest) a w := by
  obtain ⟨v', w', hr, h2, h3, h4⟩ := run_catL w o.type B v r hown B' y t hy hn hm hB
  exact BigFrame.wpList_want hwant fun K hK => Lib.wp_append_run w s x 22 22 ho _ _ hs hx _ w' hr (hK _ _ (h v' w' h2 h3 h4))
theorem OwnL.single (w : World) {B : Nat} (hB : B ≤ w.heap.size) (y : Int) : OwnL (w.alloc (.cells #[.int .i64 y] 3)) B (.slice (some ⟨w.heap.size, 0, none⟩) 1 1) [y] :=
  ⟨rfl, .inr ⟨_, 1, _, rfl, hB, heap_alloc_new _ _, Nat.le_refl _, by decide, rfl, rfl⟩⟩
theorem WfL.push {P : List Int} {s : Int} (h : ∀ (i : Nat) (x : Int), P[i]? = some x → x.natAbs ≤ 1000) (hs : s.natAbs ≤ 1000) : ∀ (i : Nat) (x : Int), (P ++ [s])[i]? = some x → x.natAbs ≤ 1000 := by
  intro i x hx
  by_cases hi : i < P.length
  · rw [List.getElem?_append_left hi] at hx
    exact h i x hx
  · rw [List.getElem?_append_right (by omega)] at hx
    match hk : i - P.length with
    | 0 => rw [hk] at hx; simp at hx; subst hx; exact hs
    | k + 1 => rw [hk] at hx; simp at hx
theorem tmod_1001 (z : Int) : (z.tmod 1001).natAbs ≤ 1000 := by
  have := Int.tmod_lt_of_pos z (b := 1001) (by omega)
  have := Int.lt_tmod_of_pos z (b := 1001) (by omega)
  omega

set_option maxRecDepth 20000 in
set_option maxHeartbeats 4000000 in
theorem orders_short (a c : Int) (i j : Nat) (ao : Option Addr) (n cap : Nat) (f g : Nat → Int) (w : World) (a0 : 0 ≤ a) (a1 : a ≤ 255) (c0 : 0 ≤ c) (c1 : c ≤ 255) (hi : i ≤ 18446744073709551615) (hj : j ≤ 18446744073709551615) (hn : n ≤ 60) (hL : Hid (PrsAt w .i16 ao n f g)) (hW : Hid (∀ q, q < n → (Lit.int .i16 (f q)).wf = true ∧ (Lit.int .i16 (g q)).wf = true)) :
    Calls Try.prog 6 #[.agg #[.int .u8 a, .int .u8 c], .agg #[.int .u64 i, .int .u64 j], .slice ao n cap] w fun e w' => e = .returned (.bool true) ∧ Below w.heap.size w w' := by
  have hn' : ¬ (60 : Int) < n := by omega
  obtain ⟨x, hx⟩ : ∃ x : Nat, a.tmod 16 = x := ⟨(a.tmod 16).toNat, by rw [Int.tmod_eq_emod_of_nonneg a0]; omega⟩
  obtain ⟨y, hy⟩ : ∃ y : Nat, c.tmod 33 = y := ⟨(c.tmod 33).toNat, by rw [Int.tmod_eq_emod_of_nonneg c0]; omega⟩
  have hx1 : x < 16 := by rw [Int.tmod_eq_emod_of_nonneg a0] at hx; omega
  have hC2 : y ≤ 32 := by rw [Int.tmod_eq_emod_of_nonneg c0] at hy; omega
  obtain ⟨A, hA⟩ : ∃ A : Nat, 1 + x = A := ⟨_, rfl⟩
  have hA1 : 1 ≤ A := by omega
  have hA2 : A ≤ 16 := by omega
  have EA : Hid ((1 : Int) + (x : Int) = (A : Int)) := by show (1 : Int) + (x : Int) = (A : Int); omega
  have hvp := vv_pos (n := A) (k := y) hA1 hA2 hC2
  have hvb := vv_bd (n := A) (k := y) hA2 hC2
  obtain ⟨v, hv⟩ : ∃ v, vv A y = v := ⟨_, rfl⟩
  have HV : Hid (vI (A : Int) (y : Int) = v) := by show vI _ _ = v; rw [vI_nat hA2 hC2, hv]
  rw [hv] at hvp hvb
  obtain ⟨I, hI, hIv, _⟩ := emod_nat i hvp
  obtain ⟨J, hJ, hJv, _⟩ := emod_nat j hvp
  have EI : Hid ((i : Int) % (v : Int) = I) := hI
  have EJ : Hid ((j : Int) % (v : Int) = J) := hJ
  have HI : Hid (I < vv A y) := by show I < vv A y; rw [hv]; exact hIv
  have HJ : Hid (J < vv A y) := by show J < vv A y; rw [hv]; exact hJv
  have hv2 : ¬ (v : Int) = 0 := by omega
  clear hv hI hJ hA
  go_enter Try.func6, Try.ntmps6
  go_wp2_with fail
  refine (awake11 _).mono ?_
  rintro e w0 ⟨rfl, hb0⟩
  have p0 : w0.cell? ⟨w.heap.size, 0, none⟩ = some (.int .u8 a) := by rw [hb0.cell (by simp; omega)]; go_simp
  have p1 : w0.cell? ⟨w.heap.size, 1, none⟩ = some (.int .u8 c) := by rw [hb0.cell (by simp; omega)]; go_simp
  have q0 : w0.cell? ⟨w.heap.size + 1, 0, none⟩ = some (.int .u64 i) := by rw [hb0.cell (by simp)]; go_simp
  have q1 : w0.cell? ⟨w.heap.size + 1, 1, none⟩ = some (.int .u64 j) := by rw [hb0.cell (by simp)]; go_simp
  have hz0 : w.heap.size + 1 < w0.heap.size := by have := hb0.size; simp at this; omega
  have hbw : Below w.heap.size w ((w.alloc (.cells #[.int .u8 a, .int .u8 c] 42)).alloc (.cells #[.int .u64 i, .int .u64 j] 43)) := ((Below.refl _ w).alloc (Nat.le_refl _) _).alloc (by simp) _
  have HZ0 : Hid (Below w.heap.size w w0) := hbw.trans (hb0.mono hbw.size)
  have HL0 : Hid (PrsAt w0 .i16 ao n f g) := hL.out.keep HZ0.out
  clear hb0 hbw
  go_wp2_with fail
  refine (newb_calls _).mono ?_
  rintro e w1 ⟨b, rfl, hB1, hb1, hle⟩
  replace p0 : w1.cell? ⟨w.heap.size, 0, none⟩ = some (.int .u8 a) := by rw [hb1.cell (by show w.heap.size < _; omega)]; exact p0
  replace p1 : w1.cell? ⟨w.heap.size, 1, none⟩ = some (.int .u8 c) := by rw [hb1.cell (by show w.heap.size < _; omega)]; exact p1
  replace q0 : w1.cell? ⟨w.heap.size + 1, 0, none⟩ = some (.int .u64 i) := by rw [hb1.cell (by exact hz0)]; exact q0
  replace q1 : w1.cell? ⟨w.heap.size + 1, 1, none⟩ = some (.int .u64 j) := by rw [hb1.cell (by exact hz0)]; exact q1
  have HB1 : Hid (Bk w1 b none) := hB1
  have HZ1 : Hid (Below w0.heap.size w0 w1) := hb1
  clear hB1 hb1
  go_wp2_with fail
  go_region
  go_wp2_with fail
  go_region
  go_wp2_with fail
  rw [EA.out]
  have HB1d : Hid (Bk w1.drew.drew b none) := HB1.out
  have HG1d : Hid (Gb w1 w1.drew.drew b none none) := (Gb.refl _ _ _).drew.drew
  refine (vb_calls _ b none A y HB1d).mono ?_
  rw [HV.out]
  rintro e w2 ⟨rfl, mo2, hB2, hG2⟩
  have HB2 : Hid (Bk w2 b mo2) := hB2
  have HG2 : Hid (Gb w1 w2 b none mo2) := HG1d.out.trans hG2
  clear hB2 hG2 HB1d HG1d HB1 p0 p1 q0 q1 hx hy
  go_wp2_with fail
  rw [EI.out]
  refine (unrank_good _ b mo2 A y I HI hA2 hC2 HB2).mono ?_
  rintro e w3 ⟨gr, r, rfl, hO3, hl3, hp3, hr3, mo3, hB3, hG3⟩
  have HL3 : Hid (LAt w3 (some ⟨gr, 0, none⟩) r) := hO3.lat
  have HB3 : Hid (Bk w3 b mo3) := hB3
  have HG3 : Hid (Gb w1 w3 b none mo3) := HG2.out.trans hG3
  have RL : Hid (r.length = A) := hl3
  have RP : Hid (pul r = y) := hp3
  have RR : Hid (rk r y = I) := hr3
  clear hO3 hl3 hp3 hr3 hB3 hG3 HB2 HG2 HI
  go_wp2_with fail
  rw [EJ.out]
  refine (unrank_good _ b mo3 A y J HJ hA2 hC2 HB3).mono ?_
  rintro e w4 ⟨gs, s, rfl, hO4, hl4, hp4, hr4, mo4, hB4, hG4⟩
  have HL4 : Hid (LAt w4 (some ⟨gr, 0, none⟩) r) := HB3.out.lat hG4 HL3.out
  have HM4 : Hid (LAt w4 (some ⟨gs, 0, none⟩) s) := hO4.lat
  have HG4 : Hid (Gb w1 w4 b none mo4) := HG3.out.trans hG4
  have HZ4 : Hid (Below w.heap.size w w4) := HZ0.out.trans ((below_book HZ1.out hle HG4.out).mono HZ0.out.size)
  have HP4 : Hid (PrsAt w4 .i16 ao n f g) := hL.out.keep HZ4.out
  have SL : Hid (s.length = A) := hl4
  have SP : Hid (pul s = y) := hp4
  have SR : Hid (rk s y = J) := hr4
  have BRS : Hid (bef r s = decide (I < J)) := by
    show _ = _
    have h := bef_lt r s (RL.out.trans SL.out.symm) (by rw [RL.out]; exact hA2) y hC2 RP.out SP.out
    rw [RR.out, SR.out] at h
    by_cases hlt : I < J
    · rw [decide_eq_true hlt]; exact h.2 hlt
    · rw [decide_eq_false hlt, Bool.eq_false_iff]; exact fun e => hlt (h.1 e)
  have BSR : Hid (bef s r = decide (J < I)) := by
    show _ = _
    have h := bef_lt s r (SL.out.trans RL.out.symm) (by rw [SL.out]; exact hA2) y hC2 SP.out RP.out
    rw [RR.out, SR.out] at h
    by_cases hlt : J < I
    · rw [decide_eq_true hlt]; exact h.2 hlt
    · rw [decide_eq_false hlt, Bool.eq_false_iff]; exact fun e => hlt (h.1 e)
  have RW : Hid (WfL r) := WfL.pul (by have := RP.out; omega)
  have SW : Hid (WfL s) := WfL.pul (by have := SP.out; omega)
  clear hO4 hl4 hp4 hr4 hB4 hG4 HB3 HG3 HJ HL3
  go_upto_region 13 with fail
  go_cut [101] (fun u wc => u = .bool false ∧ ∃ d, wc = w4.drewN d)
  case first =>
    have HLd : Hid (∀ d, LAt (w4.drewN d) (some ⟨gr, 0, none⟩) r) := fun d => HL4.out.drewN d
    have HMd : Hid (∀ d, LAt (w4.drewN d) (some ⟨gs, 0, none⟩) s) := fun d => HM4.out.drewN d
    by_cases h1 : I < J
    · have h1' : (i : Int) % (v : Int) < (j : Int) % (v : Int) := by rw [EI.out, EJ.out]; omega
      have h2' : ¬ (j : Int) % (v : Int) < (i : Int) % (v : Int) := by rw [EI.out, EJ.out]; omega
      rw [decide_eq_true h1] at BRS
      rw [decide_eq_false (by omega)] at BSR
      go_quiet (first | (go_at_call 19; refine (bef_any_calls _ _ _ A A A r s (by omega) RL SL RW SW (by exact HLd.out _) (by exact HMd.out _)).mono ?_; rw [BRS.out]; rintro e5 w5 ⟨rfl, d5, rfl⟩; exact ⟨rfl, _, World.drewN_drewN _ _ _⟩) | (go_at_call 19; refine (bef_any_calls _ _ _ A A A s r (by omega) SL RL SW RW (by exact HMd.out _) (by exact HLd.out _)).mono ?_; rw [BSR.out]; rintro e5 w5 ⟨rfl, d5, rfl⟩; exact ⟨rfl, _, World.drewN_drewN _ _ _⟩))
      go_wp2
      go_meet
      exact ⟨rfl, _, rfl⟩
    · by_cases h2 : J < I
      · have h1' : ¬ (i : Int) % (v : Int) < (j : Int) % (v : Int) := by rw [EI.out, EJ.out]; omega
        have h2' : (j : Int) % (v : Int) < (i : Int) % (v : Int) := by rw [EI.out, EJ.out]; omega
        rw [decide_eq_false h1] at BRS
        rw [decide_eq_true h2] at BSR
        go_quiet (first | (go_at_call 19; refine (bef_any_calls _ _ _ A A A r s (by omega) RL SL RW SW (by exact HLd.out _) (by exact HMd.out _)).mono ?_; rw [BRS.out]; rintro e5 w5 ⟨rfl, d5, rfl⟩; exact ⟨rfl, _, World.drewN_drewN _ _ _⟩) | (go_at_call 19; refine (bef_any_calls _ _ _ A A A s r (by omega) SL RL SW RW (by exact HMd.out _) (by exact HLd.out _)).mono ?_; rw [BSR.out]; rintro e5 w5 ⟨rfl, d5, rfl⟩; exact ⟨rfl, _, World.drewN_drewN _ _ _⟩))
        go_wp2
        go_meet
        exact ⟨rfl, _, rfl⟩
      · have h1' : ¬ (i : Int) % (v : Int) < (j : Int) % (v : Int) := by rw [EI.out, EJ.out]; omega
        have h2' : ¬ (j : Int) % (v : Int) < (i : Int) % (v : Int) := by rw [EI.out, EJ.out]; omega
        rw [decide_eq_false h1] at BRS
        rw [decide_eq_false h2] at BSR
        go_quiet (first | (go_at_call 19; refine (bef_any_calls _ _ _ A A A r s (by omega) RL SL RW SW (by exact HLd.out _) (by exact HMd.out _)).mono ?_; rw [BRS.out]; rintro e5 w5 ⟨rfl, d5, rfl⟩; exact ⟨rfl, _, World.drewN_drewN _ _ _⟩) | (go_at_call 19; refine (bef_any_calls _ _ _ A A A s r (by omega) SL RL SW RW (by exact HMd.out _) (by exact HLd.out _)).mono ?_; rw [BSR.out]; rintro e5 w5 ⟨rfl, d5, rfl⟩; exact ⟨rfl, _, World.drewN_drewN _ _ _⟩))
        go_wp2
        go_meet
        exact ⟨rfl, _, rfl⟩
  case rest =>
    obtain ⟨rfl, d, rfl⟩ := hcut
    obtain ⟨w6, hw6⟩ : ∃ w6, w4.drewN d = w6 := ⟨_, rfl⟩
    have HZ6 : Hid (Below w.heap.size w w6) := by rw [← hw6]; exact ⟨HZ4.out.os, HZ4.out.tape, HZ4.out.output, HZ4.out.size, HZ4.out.block⟩
    have HP6 : Hid (PrsAt w6 .i16 ao n f g) := hL.out.keep HZ6.out
    rw [hw6]
    clear hw6 HL4 HM4 HG4 HZ4 HP4 RL RP RR SL SP SR BRS BSR RW SW EI EJ
    clear HV hIv hJv hvp hvb hv2 hi hj HZ0 HZ1 HL0 hz0 hle EA w3 w1 w0
    go_wp2_with fail
    go_loopw [17, 18, 19, 20, 104] (fun p q wa kn i wr => ∃ (m : Nat) (P Q : List Int) (kb wb : Bool), m ≤ n ∧ i = .int .i64 m ∧ kn = .bool kb ∧ wa = .bool wb ∧ Hid (P.length = m) ∧ Hid (Q.length = m) ∧ Hid (kb = !decide (P = Q)) ∧ Hid (wb = bef P Q) ∧ Hid (∀ (i : Nat) (x : Int), P[i]? = some x → x.natAbs ≤ 1000) ∧ Hid (∀ (i : Nat) (x : Int), Q[i]? = some x → x.natAbs ≤ 1000) ∧ Hid (TwoL wr w6.heap.size p q P Q) ∧ Hid (Below w6.heap.size w6 wr)) (fun _ _ _ _ i _ => n - (intOf i).toNat)
    case atStart => exact ⟨0, [], [], false, false, by omega, rfl, rfl, rfl, rfl, rfl, by show false = _; simp, rfl, fun i x h => by simp at h, fun i x h => by simp at h, ⟨OwnL.nil _ _, OwnL.nil _ _, fun g e => by cases e⟩, Below.refl _ _⟩
    case round =>
      obtain ⟨m, P, Q, kb, wb, hm, rfl, rfl, rfl, PL, QL, KB, WB, PW, QW, HT, HB⟩ := hrel
      by_cases hlt : m < n
      · have hlt' : (m : Int) < (n : Int) := by omega
        obtain ⟨bl, off, rfl, x0, x1⟩ := (HP6.out.keep HB.out) m hlt
        obtain ⟨wf0, wf1⟩ := hW.out m hlt
        have bd0 := bounds_i16 wf0
        have bd1 := bounds_i16 wf1
        obtain ⟨F, hF⟩ : ∃ F, f m = F := ⟨_, rfl⟩
        obtain ⟨G, hG⟩ : ∃ G, g m = G := ⟨_, rfl⟩
        rw [hF] at x0 bd0
        rw [hG] at x1 bd1
        have s1 := tmod_1001 F
        have t1 := tmod_1001 G
        obtain ⟨sv, hsv⟩ : ∃ sv, F.tmod 1001 = sv := ⟨_, rfl⟩
        obtain ⟨tv, htv⟩ : ∃ tv, G.tmod 1001 = tv := ⟨_, rfl⟩
        rw [hsv] at s1
        rw [htv] at t1
        clear hF hG wf0 wf1
        have BP0 : Hid _ := bef_push P Q sv tv (PL.out.trans QL.out.symm)
        have HTA : Hid (TwoL (wr.alloc (.cells #[.int .i16 F, .int .i16 G] 46)).drew w6.heap.size u17 u18 P Q) := HT.out.keep (gN_drew (World.grownBy_alloc wr _ none))
        have HBA : Hid (Below w6.heap.size w6 (wr.alloc (.cells #[.int .i16 F, .int .i16 G] 46)).drew) := (HB.out.alloc HB.out.size _).trans (gN_below (gN_drew (gN_refl _)) |>.mono (by have := HB.out.size; simp; omega))
        clear HT HB
        go_wp2_with fail
        go_region
        obtain ⟨wx, hwx⟩ : ∃ wx, (wr.alloc (.cells #[.int .i16 F, .int .i16 G] 46)).drew = wx := ⟨_, rfl⟩
        have TX : Hid (TwoL wx w6.heap.size u17 u18 P Q) := by rw [← hwx]; exact HTA
        have BX : Hid (Below w6.heap.size w6 wx) := by rw [← hwx]; exact HBA
        rw [hwx]
        clear hwx HTA HBA hsv htv
        by_cases hPQ : P = Q
        · have kb0 : kb = false := by rw [KB.out, decide_eq_true hPQ]; rfl
          have wb0 : wb = false := by rw [WB.out, hPQ, bef_same]
          subst kb0 wb0
          by_cases hst : sv = tv
          · have KB2 : Hid (decide (P ++ [sv] = Q ++ [tv]) = true) := decide_eq_true (by rw [hPQ, hst])
            have BP : Hid (bef (P ++ [sv]) (Q ++ [tv]) = false) := by show _ = _; rw [BP0.out, if_pos hPQ, if_pos hst]
            have hsb : (sv != tv) = false := by simp [hst]
            have hsb2 : (sv == tv) = true := by simp [hst]
            clear hst hPQ BP0 KB WB
            go_wp2_with (first | (at_builtin; refine wpList_pushL rfl _ _ rfl w6.heap.size u18 Q rfl ((T7.out.2.1).kept (World.grownBy_alloc w7 _ none) (by cases u18.ownBlock <;> simp)) w7.heap.size tv rfl (heap_alloc_new _ _) (by rw [QL.out]; omega) (by have := B7.out.size; simp; omega) ?_; intro g8 c8 w8 h1 h2 h3 h4; have T8 : Hid (TwoL w8 w6.heap.size (.slice (some ⟨g7, 0, none⟩) (P.length + 1) c7) (.slice (some ⟨g8, 0, none⟩) (Q.length + 1) c8) (P ++ [sv]) (Q ++ [tv])) := TwoL.push2 (T7.out.keep (World.grownBy_alloc w7 _ none)) h1 h2 h3; have B8 : Hid (Below w6.heap.size w6 w8) := (B7.out.alloc B7.out.size _).grown h2 (by have := B7.out.size; simp; omega) (fun q e => (T7.out.2.1.lt e).1); clear h1 h2 h3 h4 T7 B7) | (at_builtin; refine wpList_pushL rfl _ _ rfl w6.heap.size u17 P rfl ((TX.out.1).kept (World.grownBy_alloc wx _ none) (by cases u17.ownBlock <;> simp)) wx.heap.size sv rfl (heap_alloc_new _ _) (by rw [PL.out]; omega) (by have := BX.out.size; simp; omega) ?_; intro g7 c7 w7 h1 h2 h3 h4; have T7 : Hid (TwoL w7 w6.heap.size (.slice (some ⟨g7, 0, none⟩) (P.length + 1) c7) u18 (P ++ [sv]) Q) := TwoL.push1 (TX.out.keep (World.grownBy_alloc wx _ none)) h1 h2 h3; have B7 : Hid (Below w6.heap.size w6 w7) := (BX.out.alloc BX.out.size _).grown h2 (by have := BX.out.size; simp; omega) (fun q e => (TX.out.1.lt e).1); clear h1 h2 h3 h4 TX BX))
            go_roundw
            case rel => exact ⟨m + 1, P ++ [sv], Q ++ [tv], _, _, by omega, by go_num, rfl, rfl, (by show (P ++ [sv]).length = m + 1; rw [List.length_append, PL.out]; rfl), (by show (Q ++ [tv]).length = m + 1; rw [List.length_append, QL.out]; rfl), (by show _ = !decide _; first | (rw [KB2.out]; done) | (rw [KB2.out]; rfl)), (by show _ = bef _ _; exact BP.out.symm), WfL.push PW.out s1, WfL.push QW.out t1, T8, B8⟩
            case measure => simp [intOf]; omega
          · have KB2 : Hid (decide (P ++ [sv] = Q ++ [tv]) = false) := decide_eq_false (fun e => hst (by have := List.append_inj_right' e rfl; simpa using this))
            have BP1 : Hid (bef (P ++ [sv]) (Q ++ [tv]) = decide (place sv < place tv)) := by show _ = _; rw [BP0.out, if_pos hPQ, if_neg hst]
            obtain ⟨ps, hps⟩ : ∃ ps, place sv = ps := ⟨_, rfl⟩
            obtain ⟨pt, hpt⟩ : ∃ pt, place tv = pt := ⟨_, rfl⟩
            rw [hps, hpt] at BP1
            have HPS : Hid (place sv = ps) := hps
            have HPT : Hid (place tv = pt) := hpt
            have hps1 : ps ≤ 2000 := by have := place_le sv; omega
            have hpt1 : pt ≤ 2000 := by have := place_le tv; omega
            clear hPQ BP0 KB WB hps hpt
            by_cases hlt2 : ps < pt
            · have hlt3 : (ps : Int) < (pt : Int) := by omega
              have BP : Hid (bef (P ++ [sv]) (Q ++ [tv]) = true) := by show _ = _; rw [BP1.out]; exact decide_eq_true hlt2
              go_wp2_with (first | (at_builtin; refine wpList_pushL rfl _ _ rfl w6.heap.size u18 Q rfl ((T7.out.2.1).kept (World.grownBy_alloc w7 _ none) (by cases u18.ownBlock <;> simp)) w7.heap.size tv rfl (heap_alloc_new _ _) (by rw [QL.out]; omega) (by have := B7.out.size; simp; omega) ?_; intro g8 c8 w8 h1 h2 h3 h4; have T8 : Hid (TwoL w8 w6.heap.size (.slice (some ⟨g7, 0, none⟩) (P.length + 1) c7) (.slice (some ⟨g8, 0, none⟩) (Q.length + 1) c8) (P ++ [sv]) (Q ++ [tv])) := TwoL.push2 (T7.out.keep (World.grownBy_alloc w7 _ none)) h1 h2 h3; have B8 : Hid (Below w6.heap.size w6 w8) := (B7.out.alloc B7.out.size _).grown h2 (by have := B7.out.size; simp; omega) (fun q e => (T7.out.2.1.lt e).1); clear h1 h2 h3 h4 T7 B7) | (at_builtin; refine wpList_pushL rfl _ _ rfl w6.heap.size u17 P rfl ((TX.out.1).kept (World.grownBy_alloc wx _ none) (by cases u17.ownBlock <;> simp)) wx.heap.size sv rfl (heap_alloc_new _ _) (by rw [PL.out]; omega) (by have := BX.out.size; simp; omega) ?_; intro g7 c7 w7 h1 h2 h3 h4; have T7 : Hid (TwoL w7 w6.heap.size (.slice (some ⟨g7, 0, none⟩) (P.length + 1) c7) u18 (P ++ [sv]) Q) := TwoL.push1 (TX.out.keep (World.grownBy_alloc wx _ none)) h1 h2 h3; have B7 : Hid (Below w6.heap.size w6 w7) := (BX.out.alloc BX.out.size _).grown h2 (by have := BX.out.size; simp; omega) (fun q e => (TX.out.1.lt e).1); clear h1 h2 h3 h4 TX BX))
              go_wp2_with fail; refine (place_any _ sv s1).mono ?_; rw [HPS.out]; rintro e w9 ⟨rfl, hw9⟩; obtain rfl := hw9.symm; clear hw9; go_wp2_with fail; refine (place_any _ tv t1).mono ?_; rw [HPT.out]; rintro e w9 ⟨rfl, hw9⟩; obtain rfl := hw9.symm; clear hw9; go_wp2
              go_roundw
              case rel => exact ⟨m + 1, P ++ [sv], Q ++ [tv], _, _, by omega, by go_num, rfl, rfl, (by show (P ++ [sv]).length = m + 1; rw [List.length_append, PL.out]; rfl), (by show (Q ++ [tv]).length = m + 1; rw [List.length_append, QL.out]; rfl), (by show _ = !decide _; first | (rw [KB2.out]; done) | (rw [KB2.out]; rfl)), (by show _ = bef _ _; exact BP.out.symm), WfL.push PW.out s1, WfL.push QW.out t1, T8, B8⟩
              case measure => simp [intOf]; omega
            · have hlt3 : ¬ (ps : Int) < (pt : Int) := by omega
              have BP : Hid (bef (P ++ [sv]) (Q ++ [tv]) = false) := by show _ = _; rw [BP1.out]; exact decide_eq_false hlt2
              go_wp2_with (first | (at_builtin; refine wpList_pushL rfl _ _ rfl w6.heap.size u18 Q rfl ((T7.out.2.1).kept (World.grownBy_alloc w7 _ none) (by cases u18.ownBlock <;> simp)) w7.heap.size tv rfl (heap_alloc_new _ _) (by rw [QL.out]; omega) (by have := B7.out.size; simp; omega) ?_; intro g8 c8 w8 h1 h2 h3 h4; have T8 : Hid (TwoL w8 w6.heap.size (.slice (some ⟨g7, 0, none⟩) (P.length + 1) c7) (.slice (some ⟨g8, 0, none⟩) (Q.length + 1) c8) (P ++ [sv]) (Q ++ [tv])) := TwoL.push2 (T7.out.keep (World.grownBy_alloc w7 _ none)) h1 h2 h3; have B8 : Hid (Below w6.heap.size w6 w8) := (B7.out.alloc B7.out.size _).grown h2 (by have := B7.out.size; simp; omega) (fun q e => (T7.out.2.1.lt e).1); clear h1 h2 h3 h4 T7 B7) | (at_builtin; refine wpList_pushL rfl _ _ rfl w6.heap.size u17 P rfl ((TX.out.1).kept (World.grownBy_alloc wx _ none) (by cases u17.ownBlock <;> simp)) wx.heap.size sv rfl (heap_alloc_new _ _) (by rw [PL.out]; omega) (by have := BX.out.size; simp; omega) ?_; intro g7 c7 w7 h1 h2 h3 h4; have T7 : Hid (TwoL w7 w6.heap.size (.slice (some ⟨g7, 0, none⟩) (P.length + 1) c7) u18 (P ++ [sv]) Q) := TwoL.push1 (TX.out.keep (World.grownBy_alloc wx _ none)) h1 h2 h3; have B7 : Hid (Below w6.heap.size w6 w7) := (BX.out.alloc BX.out.size _).grown h2 (by have := BX.out.size; simp; omega) (fun q e => (TX.out.1.lt e).1); clear h1 h2 h3 h4 TX BX))
              go_wp2_with fail; refine (place_any _ sv s1).mono ?_; rw [HPS.out]; rintro e w9 ⟨rfl, hw9⟩; obtain rfl := hw9.symm; clear hw9; go_wp2_with fail; refine (place_any _ tv t1).mono ?_; rw [HPT.out]; rintro e w9 ⟨rfl, hw9⟩; obtain rfl := hw9.symm; clear hw9; go_wp2
              go_roundw
              case rel => exact ⟨m + 1, P ++ [sv], Q ++ [tv], _, _, by omega, by go_num, rfl, rfl, (by show (P ++ [sv]).length = m + 1; rw [List.length_append, PL.out]; rfl), (by show (Q ++ [tv]).length = m + 1; rw [List.length_append, QL.out]; rfl), (by show _ = !decide _; first | (rw [KB2.out]; done) | (rw [KB2.out]; rfl)), (by show _ = bef _ _; exact BP.out.symm), WfL.push PW.out s1, WfL.push QW.out t1, T8, B8⟩
              case measure => simp [intOf]; omega
        · have kb0 : kb = true := by rw [KB.out, decide_eq_false hPQ]; rfl
          subst kb0
          have KB2 : Hid (decide (P ++ [sv] = Q ++ [tv]) = false) := decide_eq_false (fun e => hPQ (List.append_inj_left' e rfl))
          have BP : Hid (bef (P ++ [sv]) (Q ++ [tv]) = wb) := by show _ = _; rw [BP0.out, if_neg hPQ, WB.out]
          clear hPQ BP0 KB WB
          go_wp2_with (first | (at_builtin; refine wpList_pushL rfl _ _ rfl w6.heap.size u18 Q rfl ((T7.out.2.1).kept (World.grownBy_alloc w7 _ none) (by cases u18.ownBlock <;> simp)) w7.heap.size tv rfl (heap_alloc_new _ _) (by rw [QL.out]; omega) (by have := B7.out.size; simp; omega) ?_; intro g8 c8 w8 h1 h2 h3 h4; have T8 : Hid (TwoL w8 w6.heap.size (.slice (some ⟨g7, 0, none⟩) (P.length + 1) c7) (.slice (some ⟨g8, 0, none⟩) (Q.length + 1) c8) (P ++ [sv]) (Q ++ [tv])) := TwoL.push2 (T7.out.keep (World.grownBy_alloc w7 _ none)) h1 h2 h3; have B8 : Hid (Below w6.heap.size w6 w8) := (B7.out.alloc B7.out.size _).grown h2 (by have := B7.out.size; simp; omega) (fun q e => (T7.out.2.1.lt e).1); clear h1 h2 h3 h4 T7 B7) | (at_builtin; refine wpList_pushL rfl _ _ rfl w6.heap.size u17 P rfl ((TX.out.1).kept (World.grownBy_alloc wx _ none) (by cases u17.ownBlock <;> simp)) wx.heap.size sv rfl (heap_alloc_new _ _) (by rw [PL.out]; omega) (by have := BX.out.size; simp; omega) ?_; intro g7 c7 w7 h1 h2 h3 h4; have T7 : Hid (TwoL w7 w6.heap.size (.slice (some ⟨g7, 0, none⟩) (P.length + 1) c7) u18 (P ++ [sv]) Q) := TwoL.push1 (TX.out.keep (World.grownBy_alloc wx _ none)) h1 h2 h3; have B7 : Hid (Below w6.heap.size w6 w7) := (BX.out.alloc BX.out.size _).grown h2 (by have := BX.out.size; simp; omega) (fun q e => (TX.out.1.lt e).1); clear h1 h2 h3 h4 TX BX))
          go_roundw
          case rel => exact ⟨m + 1, P ++ [sv], Q ++ [tv], _, _, by omega, by go_num, rfl, rfl, (by show (P ++ [sv]).length = m + 1; rw [List.length_append, PL.out]; rfl), (by show (Q ++ [tv]).length = m + 1; rw [List.length_append, QL.out]; rfl), (by show _ = !decide _; first | (rw [KB2.out]; done) | (rw [KB2.out]; rfl)), (by show _ = bef _ _; exact BP.out.symm), WfL.push PW.out s1, WfL.push QW.out t1, T8, B8⟩
          case measure => simp [intOf]; omega
      · obtain rfl : m = n := by omega
        obtain ⟨ap, cp, rfl, hcp1, hcp2, _⟩ := HT.out.1.slice
        obtain ⟨aq, cq, rfl, hcq1, hcq2, _⟩ := HT.out.2.1.slice
        have LP : Hid (LAt wr ap P) := HT.out.1.lat
        have LQ : Hid (LAt wr aq Q) := HT.out.2.1.lat
        have WP : Hid (WfL P) := fun i x hx => by have := PW.out i x hx; omega
        have WQ : Hid (WfL Q) := fun i x hx => by have := QW.out i x hx; omega
        have OQ : Hid (OwnL wr w6.heap.size (.slice aq Q.length cq) Q) := HT.out.2.1
        rw [PL.out, QL.out]
        rw [QL.out] at OQ
        have hbb : (wb == wb) = true := by simp
        clear HT hcp1 hcq1
        go_wp2_with fail
        refine (bef_any_calls _ ap aq m cp cq P Q (by omega) PL QL WP WQ LP LQ).mono ?_
        rw [← WB.out]
        rintro e w7 ⟨rfl, d7, rfl⟩
        obtain ⟨wy, hwy⟩ : ∃ wy, wr.drewN d7 = wy := ⟨_, rfl⟩
        have OY : Hid (OwnL wy w6.heap.size (.slice aq m cq) Q) := by rw [← hwy]; exact OQ
        have BY : Hid (Below w6.heap.size w6 wy) := by rw [← hwy]; exact ⟨HB.out.os, HB.out.tape, HB.out.output, HB.out.size, HB.out.block⟩
        rw [hwy]
        clear hwy OQ LP LQ HB
        go_wp2_with (first
          | (at_builtin; refine wpList_catLg (by rfl) _ _ rfl wy.heap.size (.slice a8 m c8) Q rfl (O8.out.kept (World.grownBy_alloc w8 _ none) (by cases a8 <;> simp [Value.ownBlock])) w8.heap.size (.slice (some ⟨w8.heap.size, 0, none⟩) 1 1) [1] rfl (OwnL.single w8 (Nat.le_refl _) 1) (by rw [QL.out]; omega) (by simp) (by have := G8.out.size; simp; omega) ?_; intro v9 w9 h1 h2 h3; obtain ⟨a9, c9, e9, _, _, _⟩ := h1.slice; rw [List.length_append, QL.out] at e9; subst e9; have G9 : Hid (wy.grownBy w9 none) := row_grown' (gN_alloc G8.out _) h2 (fun q e => (O8.out.lt e).1); clear h1 h2 h3 O8 G8)
          | (at_builtin; refine wpList_catLg (by rfl) _ _ rfl wy.heap.size (.slice (some ⟨wy.heap.size, 0, none⟩) 0 0) [] rfl (OwnL.empty wy (Nat.le_refl _)) w6.heap.size (.slice aq m cq) Q rfl (OY.out.kept (World.grownBy_alloc wy _ none) (by cases aq <;> simp [Value.ownBlock])) (by simp) (by rw [QL.out]; omega) (by simp) ?_; intro v8 w8 h1 h2 h3; rw [List.nil_append] at h1; obtain ⟨a8, c8, e8, _, _, _⟩ := h1.slice; rw [QL.out] at e8; subst e8; have O8 : Hid (OwnL w8 wy.heap.size (.slice a8 m c8) Q) := h1; have G8 : Hid (wy.grownBy w8 none) := row_grown' (World.grownBy_alloc wy _ none) h2 (fun q e => by cases e; exact Nat.le_refl _); clear h1 h2 h3))
        refine (bef_len _ ap a9 m (m + 1) cp c9 (by omega) (by omega) (by omega)).mono ?_
        rintro e w10 ⟨rfl, hw10⟩
        obtain rfl := hw10.symm
        clear hw10
        have HF : Hid (Below w.heap.size w w9) := HZ6.out.trans ((BY.out.trans ((gN_below G9.out).mono BY.out.size)).mono HZ6.out.size)
        go_wp2
        go_returns
        exact ⟨rfl, HF.out⟩

theorem orders_law {H : Type} {enc : TypeId × Value → H} {base : Nat} (z0 z1 : List Int) (v : Value) (d : DataW H) (p : List MemPlace) (l0 : z0.length = 2) (l1 : z1.length = 2) (w0 : ∀ z ∈ z0, (Lit.int .u8 z).wf = true) (w1 : ∀ z ∈ z1, (Lit.int .u64 z).wf = true) (W : World) (o : Value.okWide Try.prog W .any base 44 v) (k : DataW.Trod enc Try.prog W 0 (fun _ => true) true 44 v d p) :
    Calls Try.prog 6 #[.agg (z0.map (Value.int .u8)).toArray, .agg (z1.map (Value.int .u64)).toArray, v] W fun e w' => e = .returned (.bool true) ∧ Below W.heap.size W w' := by
  obtain ⟨ao, n, cap, f, g, rfl, _, _, hL, hW⟩ := open_prs Try.underlying44 Try.underlying46 Try.underlying45 (by kernel_rfl) (by kernel_rfl) o k
  match z0, l0, z1, l1 with
  | [a, c], _, [i, j], _ =>
    have ba := bounds_u8 (w0 a (by simp))
    have bc := bounds_u8 (w0 c (by simp))
    have bi := bounds_u64 (w1 i (by simp))
    have bj := bounds_u64 (w1 j (by simp))
    by_cases hn : n ≤ 60
    · obtain ⟨i, rfl⟩ : ∃ q : Nat, i = q := ⟨i.toNat, by omega⟩
      obtain ⟨j, rfl⟩ : ∃ q : Nat, j = q := ⟨j.toNat, by omega⟩
      exact orders_short a c i j ao n cap f g W ba.1 (by omega) bc.1 (by omega) (by omega) (by omega) hn hL hW
    · exact orders_long a c i j ao n cap W (by omega)
end Go.Proofs.Ytgjbnkkjajljmaa
