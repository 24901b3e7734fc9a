/-
  The law ShareLogs of layer 15 (share) as a walk: called at any list of results it returns true, and nothing that was there has turned.
-/
import Derived.Test.YtkilngogdbjmbaaDoorLogRefMost
import Derived.Test.YtkilngogdbjmbaaDoorShareAwake
namespace Go.Proofs.YtkilngogdbjmbaaDoor
set_option linter.unusedVariables false
set_option linter.unusedSimpArgs false
set_option maxRecDepth 20000
open Go.ChangeShapes Go.WideShapes Go.ChangeAt Go.RowKit
open Go.Sort (grow)
attribute [local go_sem] cell?_gr frozen?_gr setCell_gr size_gr drew_gr drewN_gr redrawn_drew redrawn_drewN redrawn_redrawn gr_gr

/-- A law's log, and its list. -/
structure LX15 (w X : World) (m n : Nat) (D : DataW Unit) (ao : Option Addr) (F : Nat → Nat → Int) : Prop where
  log : LogIs X m n D
  low : Below w.heap.size w X
  l : L5At X ao n F
theorem LX15.below {w X X' : World} {m n : Nat} {D : DataW Unit} {ao : Option Addr} {F : Nat → Nat → Int} (h : LX15 w X m n D ao F) (hb : Below X.heap.size X X') : LX15 w X' m n D ao F :=
  ⟨h.log.kept (row := none) ⟨hb.os, hb.tape, hb.output, hb.size, fun i hi _ => hb.block i hi⟩ (by simp), h.low.trans (hb.mono h.low.size), h.l.below hb⟩
theorem L5At.fromO {w : World} {ao : Option Addr} {n k : Nat} {F : Nat → Nat → Int} (h : L5At w ao n F) (hk : k ≤ n) : L5At w (ao.map (fun x => x.add (k * 5))) (n - k) (fun i => F (k + i)) := by
  intro i hi
  obtain ⟨b, off, e, c⟩ := h (k + i) (by omega)
  subst e
  refine ⟨b, off + k * 5, by simp [Addr.add], fun j hj => ?_⟩
  rw [show off + k * 5 + i * 5 + j = off + (k + i) * 5 + j by omega]
  exact c j hj

set_option maxHeartbeats 2000000 in
theorem slogs_law (ao : Option Addr) (n cap : Nat) (F : Nat → Nat → Int) (at_ : Int) (w : World) (hnc : n ≤ cap) (hcm : cap ≤ maxLen) (hnone : ao = none → cap = 0) (hL : Hid (L5At w ao n F)) (hW : Hid (∀ i, i < n → Wf5 (F i))) (h0 : 0 ≤ at_) (h1 : at_ ≤ 255) (hT : Hid (WTab w)) :
    Calls Tryd.prog 5 #[.slice ao n cap, .int .u8 at_] w fun e w' => e = .returned (.bool true) ∧ Below w.heap.size w w' := by
  have hmm := @run_makeMap Tryd.prog
  go_enter Tryd.func5, Tryd.ntmps5
  go_wp2_with fail
  refine (awake15 _ hT).mono ?_
  rintro e w0 ⟨rfl, hb0⟩
  have HB0 : Hid (Below w.heap.size w w0) := hb0
  clear hb0
  by_cases h60 : 60 < n
  · have h60' : (60 : Int) < (n : Int) := by omega
    go_wp2
    go_returns
    exact ⟨rfl, HB0.out⟩
  · have h60' : ¬ (60 : Int) < (n : Int) := by omega
    obtain ⟨k, hk, hkn⟩ : ∃ k : Nat, (k : Int) = min at_ n ∧ k ≤ n := ⟨(min at_ n).toNat, by omega, by omega⟩
    have hkc : (k : Int) = if (n : Int) < at_ then (n : Int) else at_ := by split <;> omega
    have hl1 : LogIs (w0.alloc (.map #[] 0)) w0.heap.size 0 (.map []) := World.ownsMap_made _ _ _ _
    have HL1 : Hid (LogIs (w0.alloc (.map #[] 0)) w0.heap.size 0 (.map [])) := hl1
    have HB1 : Hid (Below w.heap.size w (w0.alloc (.map #[] 0))) := HB0.out.alloc HB0.out.size _
    have hmlo : w.heap.size ≤ w0.heap.size := HB0.out.size
    clear hl1
    go_upto_region 7 with fail
    rw [← hkc]
    have hk0 : (0 : Int) ≤ (k : Int) := by omega
    have hkn' : (k : Int) ≤ (n : Int) := by omega
    have hkc' : (k : Int) ≤ (cap : Int) := by omega
    clear hkc hk h60
    generalize HKX : w0.alloc (.map #[] 0) = w1 at *
    clear HKX
    generalize w0.heap.size = m at *
    have HL : Hid (L5At w1 ao n F) := hL.out.below HB1.out
    have HTA : Hid (Tal (fun _ => 0) (.map [])) := Tal.none
    have HTB : Hid (∀ f : Nat → Int, (fun _ => 0) f ≤ 0) := fun _ => Nat.le_refl _
    go_wp2_with fail
    refine (add_any _ m 0 (.map []) (fun _ => 0) ao k cap F (by omega) HL1 HTA HTB (HL.out.first hkn) (fun i hi => hW.out i (by omega))).mono ?_
    rintro e w2 ⟨rfl, ⟨D, hD, hTD⟩, hg2⟩
    have HD : Hid (LogIs w2 m (0 + k) D) := hD
    have HTD : Hid (Tal (fun f => cnt5 F f k) D) := hTD.congr (fun f => by omega)
    have HB2 : Hid (Below w.heap.size w w2) := HB1.out.grown hg2 HB1.out.size (fun q e => by cases e; exact hmlo)
    have HL2 : Hid (L5At w2 ao n F) := HL.out.log HL1.out hg2
    have HTB2 : Hid (∀ f : Nat → Int, cnt5 F f k ≤ 0 + k) := fun f => by have := cnt5_le F f k; omega
    clear hD hTD hg2 HL1 HB1 HL HTA HTB
    have HS : Hid (∀ (X : World) (D' : DataW Unit), LogIs X m (0 + k + (n - k)) D' → Tal (fun f => cnt5 F f k + cnt5 (fun i => F (k + i)) f (n - k)) D' → ∃ D, LogIs X m n D ∧ Tal (fun f => cnt5 F f n) D) := fun X D' h1 h2 =>
      ⟨D', by rw [show 0 + k + (n - k) = n by omega] at h1; exact h1, h2.congr (fun f => by rw [← cnt5_split, show k + (n - k) = n by omega])⟩
    go_upto_region 8 with fail
    go_cut [36] (fun v wc => v = .tuple #[] ∧ Hid (∃ D, LogIs wc m n D ∧ Tal (fun f => cnt5 F f n) D) ∧ Hid (Below w.heap.size w wc) ∧ Hid (L5At wc ao n F))
    case first =>
      by_cases hck : cap = k
      · subst hck
        go_wp2_with fail
        refine (add_any _ m (0 + cap) D (fun f => cnt5 F f cap) ao 0 0 F (by omega) HD HTD HTB2 (fun i hi => by omega) (fun i hi => by omega)).mono ?_
        rintro e w3 ⟨rfl, ⟨D', hD, hTD⟩, hg3⟩
        have HZ : Hid (∃ D, LogIs w3 m n D ∧ Tal (fun f => cnt5 F f n) D) := ⟨D', by rw [show 0 + cap + 0 = n by omega] at hD; exact hD, hTD.congr (fun f => by rw [show n = cap by omega]; rfl)⟩
        have HB3 : Hid (Below w.heap.size w w3) := HB2.out.grown hg3 HB2.out.size (fun q e => by cases e; exact hmlo)
        have HL3 : Hid (L5At w3 ao n F) := HL2.out.log HD.out hg3
        clear hD hTD hg3
        go_wp2
        go_meet
        exact ⟨rfl, HZ, HB3, HL3⟩
      · go_wp2_with fail
        refine (add_any _ m (0 + k) D (fun f => cnt5 F f k) _ (n - k) (cap - k) (fun i => F (k + i)) (by omega) HD HTD HTB2 (HL2.out.fromO hkn) (fun i hi => hW.out (k + i) (by omega))).mono ?_
        rintro e w3 ⟨rfl, ⟨D', hD, hTD⟩, hg3⟩
        have HZ : Hid (∃ D, LogIs w3 m n D ∧ Tal (fun f => cnt5 F f n) D) := HS.out w3 D' hD hTD
        have HB3 : Hid (Below w.heap.size w w3) := HB2.out.grown hg3 HB2.out.size (fun q e => by cases e; exact hmlo)
        have HL3 : Hid (L5At w3 ao n F) := HL2.out.log HD.out hg3
        clear hD hTD hg3
        go_wp2
        go_meet
        exact ⟨rfl, HZ, HB3, HL3⟩
    case rest =>
      clear HS HD HTD HTB2 HB2 HL2 hmm
      obtain ⟨rfl, HZ, HB, HLL⟩ := hcut
      obtain ⟨D1, hD1, hT1⟩ := HZ.out
      have HLX : Hid (LX15 w wc m n D1 ao F) := ⟨hD1, HB.out, HLL.out⟩
      have HT1 : Hid (Tal (fun f => cnt5 F f n) D1) := hT1
      clear hD1 hT1 HZ HB HLL
      go_wp2
      go_loopw [39] (fun i wr => ∃ j : Nat, j ≤ n ∧ i = .int .i64 j ∧ Hid (LX15 w wr m n D1 ao F)) (fun i _ => n - (intOf i).toNat)
      case atStart => exact ⟨0, by omega, rfl, HLX⟩
      case round =>
        clear HLX
        obtain ⟨j, hj, rfl, HX⟩ := hrel
        by_cases hlt : j < n
        · have hlt' : (j : Int) < (n : Int) := by omega
          have hj0 : (0 : Int) ≤ (j : Int) := by omega
          obtain ⟨bl, off, rfl, _⟩ := HX.out.l j hlt
          obtain ⟨x0, x1, x2, x3, x4⟩ := HX.out.l.cells hlt
          have hwf : Wf5 (F j) := hW.out j hlt
          have hcb := cnt5_le F (F j) n
          have HMY : Hid (∀ X, L5At X (some ⟨bl, off, none⟩) n F → Calls Tryd.prog 15 #[.slice (some ⟨bl, off, none⟩) n cap, (.agg #[.int .i64 (F j 0), .int .i64 (F j 1), .int .i64 (F j 2), .int .i64 (F j 3), .int .i64 (F j 4)])] X fun e w' => e = .returned (.int .i64 (cnt5 F (F j) n : Nat)) ∧ Below X.heap.size X w') := fun X h => many_any X _ n cap F (F j) (by omega) h
          have HLU : Hid (∀ X, LX15 w X m n D1 (some ⟨bl, off, none⟩) F → (Instr.lookup 41 (.map (some m)) (.agg #[.int .i64 (F j 0), .int .i64 (F j 1), .int .i64 (F j 2), .int .i64 (F j 3), .int .i64 (F j 4)]) false).run Tryd.prog X = .ok (.int .i64 (cnt5 F (F j) n : Nat)) X) := fun X h => lookup_at h.log t5Keyed Tryd.underlying41 Tryd.underlying3 zeroInt (key5 hwf) (HT1.out (F j) hwf).1
          generalize cnt5 F (F j) n = d at *
          go_upto_region 13 with fail
          clear x0 x1 x2 x3 x4
          have HP : Hid (LX15 w (wr.alloc (.cells #[.int .i64 (F j 0), .int .i64 (F j 1), .int .i64 (F j 2), .int .i64 (F j 3), .int .i64 (F j 4)] 25)) m n D1 (some ⟨bl, off, none⟩) F) := HX.out.below (gN_below (gN_alloc (gN_refl wr) _))
          have HR : Hid (Rw (wr.alloc (.cells #[.int .i64 (F j 0), .int .i64 (F j 1), .int .i64 (F j 2), .int .i64 (F j 3), .int .i64 (F j 4)] 25)) wr.heap.size (F j)) := Rw.new wr (F j)
          clear HX
          generalize (wr.alloc (.cells #[.int .i64 (F j 0), .int .i64 (F j 1), .int .i64 (F j 2), .int .i64 (F j 3), .int .i64 (F j 4)] 25)) = w3 at *
          generalize wr.heap.size = g at *
          have l0 : g < w3.heap.size := HR.out.lt
          have r0 := HR.out.cell (i := 0) (by omega)
          have r1 := HR.out.cell (i := 1) (by omega)
          have r2 := HR.out.cell (i := 2) (by omega)
          have r3 := HR.out.cell (i := 3) (by omega)
          have r4 := HR.out.cell (i := 4) (by omega)
          have HG : ∀ d' os, LX15 w (grow (redrawn w3 d') os) m n D1 (some ⟨bl, off, none⟩) F := fun d' os => HP.out.below (below_gr (Below.refl _ _) (Nat.le_refl _) _ _)
          have hq : ∀ d' os, (Instr.lookup 41 (.map (some m)) (.agg #[.int .i64 (F j 0), .int .i64 (F j 1), .int .i64 (F j 2), .int .i64 (F j 3), .int .i64 (F j 4)]) false).run Tryd.prog (grow (redrawn w3 d') os) = .ok (.int .i64 (d : Nat)) (grow (redrawn w3 d') os) := fun d' os => HLU.out _ (HG d' os)
          have HGG : Hid (∀ d' os, LX15 w (grow (redrawn w3 d') os) m n D1 (some ⟨bl, off, none⟩) F) := HG
          clear HG
          refine wp_region_quiet_below (by kernel_rfl) (by kernel_rfl) ?_
          repeat (go_big_quiet_step ((go_at_call 15; refine Calls.regrown_of (HMY.out _ (HGG.out _ _).l))))
          refine wpQuiet_nil ?_
          intro _ hw'
          obtain ⟨⟨dq, osq⟩, hw''⟩ := hw'
          subst hw''
          have HXN : Hid (LX15 w (grow (redrawn w3 dq) osq) m n D1 (some ⟨bl, off, none⟩) F) := HGG.out dq osq
          clear r0 r1 r2 r3 r4 l0 HR HP HMY HLU HGG hq
          simp only []
          generalize grow (redrawn w3 dq) osq = w4 at *
          go_wp2
          go_roundw
          case rel => exact ⟨j + 1, by omega, by go_num, HXN⟩
          case measure => simp [intOf]; omega
        · obtain rfl : j = n := by omega
          have hown := HX.out.log
          obtain ⟨r, hr⟩ : ∃ r, wr.heap.size = r := ⟨_, rfl⟩
          have hrlo : w.heap.size ≤ r := by rw [← hr]; exact HX.out.low.size
          go_wp2_with (first | (at_range; refine wpList_range_own _ rfl _ 41 rfl 25 3 t5Keyed Tryd.underlying41 _ m j D1 rfl hown ?_; intro w5 hrg0 hg0 hs0))
          rw [hr] at hrg0 ⊢
          have HG0 : Hid (LogGo w5 m r j D1 (Maps.has D1) (Maps.size D1)) := hrg0
          have HB5 : Hid (Below w.heap.size w w5) := HX.out.low.grown hg0 HX.out.low.size (fun q e => by cases e)
          have HND : Hid (nd F (Maps.has D1) j = 0) := nd_none fun i hi => by rw [(HT1.out (F i) (hW.out i hi)).2]; exact decide_eq_true (cnt5_pos (same5_refl _) hi)
          clear hrg0 hg0 hs0 hown HX hr
          go_frame
          go_loopw [7] (fun v X => ∃ (left : Lit → Bool) (cnt : Nat), v = .int .i64 (nd F left j : Nat) ∧ Hid (LogGo X m r j D1 left cnt) ∧ Hid (Below w.heap.size w X)) (fun _ X => X.rangeLeft m r)
          case atStart => exact ⟨_, _, by rw [HND.out]; rfl, HG0, HB5⟩
          case round =>
            clear HG0 HB5 HND
            obtain ⟨left, cnt, rfl, HGO, HBX⟩ := hrel
            have hnd := nd_le F left j
            go_wp2_with (first | (at_next; refine wpList_next5 rfl _ rfl m r j D1 left cnt rfl HGO.out _ HT1.out ?_ ?_))
            · intro hl0
              have HN : Hid (nd F left j = j) := nd_all hl0 j
              rw [HN.out]
              have HLG : Hid (LogIs wr m j D1) := HGO.out.owns
              clear hl0 HN HGO hnd
              go_wp2_with fail
              refine (lmost_any _ m j D1 j F (by omega) HLG HT1 hW).mono ?_
              rintro e w7 ⟨c, f, rfl, hBe, hb7⟩
              rw [show Value.agg (row5 f) = (.agg #[.int .i64 (f 0), .int .i64 (f 1), .int .i64 (f 2), .int .i64 (f 3), .int .i64 (f 4)]) from rfl]
              have HBE : Hid (Best F j (fun _ => True) c f) := hBe
              have HB7 : Hid (Below w.heap.size w w7) := HBX.out.trans (hb7.mono HBX.out.size)
              clear hBe hb7 HLG HT1
              have HB8 : Hid (Below w.heap.size w (w7.alloc (.cells #[.int .i64 (f 0), .int .i64 (f 1), .int .i64 (f 2), .int .i64 (f 3), .int .i64 (f 4)] 25))) := HB7.out.alloc HB7.out.size _
              have HR8 : Hid (Rw (w7.alloc (.cells #[.int .i64 (f 0), .int .i64 (f 1), .int .i64 (f 2), .int .i64 (f 3), .int .i64 (f 4)] 25)) w7.heap.size f) := Rw.new w7 f
              go_wp2_with fail
              refine (rmost_any _ ao j cap F (by omega) (hL.out.below HB8.out)).mono ?_
              rintro e w9 ⟨c', f', rfl, hBe', hb9⟩
              obtain ⟨hcc, hss⟩ := HBE.out.one hBe'
              subst hcc
              have hcj := HBE.out.bd
              rw [← row5_same ((same5_iff _ _).1 hss), show Value.agg (row5 f) = (.agg #[.int .i64 (f 0), .int .i64 (f 1), .int .i64 (f 2), .int .i64 (f 3), .int .i64 (f 4)]) from rfl]
              have HR9 : Hid (Rw (w9.alloc (.cells #[.int .i64 (f 0), .int .i64 (f 1), .int .i64 (f 2), .int .i64 (f 3), .int .i64 (f 4)] 25)) w7.heap.size f) := (HR8.out.below hb9).alloc _
              have HB9 : Hid (Below w.heap.size w (w9.alloc (.cells #[.int .i64 (f 0), .int .i64 (f 1), .int .i64 (f 2), .int .i64 (f 3), .int .i64 (f 4)] 25))) := (HB8.out.trans (hb9.mono HB8.out.size)).alloc (HB8.out.trans (hb9.mono HB8.out.size)).size _
              have hne : w7.heap.size ≠ w9.heap.size := by have := (HR8.out.below hb9).lt; omega
              have he := eq5 f f (same5_refl f)
              clear hBe' hb9 hss HBE HB8 HR8 HB7
              have q0 := HR9.out.cell (i := 0) (by omega)
              have q1 := HR9.out.cell (i := 1) (by omega)
              have q2 := HR9.out.cell (i := 2) (by omega)
              have q3 := HR9.out.cell (i := 3) (by omega)
              have q4 := HR9.out.cell (i := 4) (by omega)
              go_wp2
              go_returns
              exact ⟨rfl, HB9.out⟩
            · intro g w6 cnt1 hwg hlg hp hgo hlt hgr hsz hen
              have HN : Hid (nd F (fun z => left z && !z.sameKey (kl5 g)) j = nd F left j + cnt5 F g j) := nd_step hwg hlg hW.out
              have hnd2 := nd_le F (fun z => left z && !z.sameKey (kl5 g)) j
              have HG6 : Hid (LogGo w6 m r j D1 (fun z => left z && !z.sameKey (kl5 g)) cnt1) := hgo
              have HB6 : Hid (Below w.heap.size w w6) := HBX.out.grown hgr HBX.out.size (fun q e => by cases e; exact hrlo)
              have HLE : Hid (cnt1 < cnt) := hlt
              have hcb := cnt5_le F g j
              clear hgo hlt hgr hsz hwg hlg
              go_wp2
              go_roundw
              case rel => exact ⟨_, cnt1, by rw [HN.out]; go_num, HG6, HB6⟩
              case measure => rw [HG6.out.left_eq, HGO.out.left_eq]; exact HLE.out
end Go.Proofs.YtkilngogdbjmbaaDoor
