/-
  The law AllocChans of layer 14 (alloc) as a walk: called at any input it returns true, and nothing that was there has turned.
-/
import Derived.Test.YthlbilfdeneajaaDoorAllocAwake
namespace Go.Proofs.YthlbilfdeneajaaDoor
set_option linter.unusedVariables false
open Go.ChangeShapes Go.WideShapes Go.ChangeAt Go.RowKit
attribute [local go_sem] eql5 eql5x equal5 equal5x

theorem gb_drewN {w w' : World} {b : Nat} {mo mo' : Option Nat} (h : Gb w w' b mo mo') (d : Nat) : Gb w (w'.drewN d) b mo mo' := ⟨h.os, h.tape, h.output, h.size, h.block, h.map⟩

set_option maxHeartbeats 4000000 in
theorem achans_at (w : World) (s t n : Int) (s0 : 0 ≤ s) (s1 : s ≤ 255) (t0 : 0 ≤ t) (t1 : t ≤ 255) (n0 : 0 ≤ n) (n1 : n ≤ 65535) (S T N : Nat) (hS : S < 3) (hT8 : T < 8) (hN : N ≤ 5000)
    (eS : Hid (s % 3 = (S : Int))) (eT : Hid (t % 8 = (T : Int))) (eN : Hid (n % 5001 = (N : Int))) (hT : Hid (WTab w)) :
    Calls Tryd.prog 7 #[.int .u8 s, .int .u8 t, .int .u16 n] w fun e w' => e = .returned (.bool true) ∧ Below w.heap.size w w' := by
  have HB1 : Hid (bandsF S 1 = ((3 + S : Nat) : Int)) := by show _ = _; rw [bands_right (by unfold right; omega)]; omega
  have HB2 : Hid (bandsF S 2 = ((3 + S : Nat) : Int)) := by show _ = _; rw [bands_right (by unfold right; omega)]; omega
  go_enter Tryd.func7, Tryd.ntmps7
  go_wp2_with fail
  refine (awake14 _ hT).mono ?_
  rintro e w0 ⟨rfl, hb0⟩
  have HY0 : Hid (Below w.heap.size w w0) := hb0
  have HT0 : Hid (WTab w0) := hT.out.below hb0
  clear hb0
  go_wp2_with fail
  refine (newb_calls _).mono ?_
  rintro e w1 ⟨b, rfl, hB1, hb1, hle⟩
  have HBK1 : Hid (Bk w1 b none) := hB1
  have HY1 : Hid (Below w0.heap.size w0 w1) := hb1
  have HT1 : Hid (WTab w1) := HT0.out.below hb1
  clear hB1 hb1
  go_upto_region 5 with fail
  rw [eS.out, eN.out]
  have HBK2 : Hid (Bk ((w1.alloc (.cells #[.int .i64 (S : Int), .int .i64 1] 30)).alloc (.cells #[.int .i64 (S : Int), .int .i64 2] 30)) b none) := (HBK1.out.alloc _).alloc _
  have HG2 : Hid (Gb w1 ((w1.alloc (.cells #[.int .i64 (S : Int), .int .i64 1] 30)).alloc (.cells #[.int .i64 (S : Int), .int .i64 2] 30)) b none none) := ((Gb.refl _ _ _).alloc _).alloc _
  have HM2 : Hid (Md ((w1.alloc (.cells #[.int .i64 (S : Int), .int .i64 1] 30)).alloc (.cells #[.int .i64 (S : Int), .int .i64 2] 30)) w1.heap.size S 1) := (Md.new w1 S 1).alloc _
  have HN2 : Hid (Md ((w1.alloc (.cells #[.int .i64 (S : Int), .int .i64 1] 30)).alloc (.cells #[.int .i64 (S : Int), .int .i64 2] 30)) (w1.heap.size + 1) S 2) := by
    have := Md.new (w1.alloc (.cells #[.int .i64 (S : Int), .int .i64 1] 30)) S 2
    rwa [show (w1.alloc (.cells #[.int .i64 (S : Int), .int .i64 1] 30)).heap.size = w1.heap.size + 1 from Array.size_push ..] at this
  have HT2 : Hid (WTab ((w1.alloc (.cells #[.int .i64 (S : Int), .int .i64 1] 30)).alloc (.cells #[.int .i64 (S : Int), .int .i64 2] 30))) := HT1.out.grown (gN_alloc (gN_alloc (gN_refl w1) _) _)
  have hbl := HBK1.out.lt
  generalize (w1.alloc (.cells #[.int .i64 (S : Int), .int .i64 1] 30)).alloc (.cells #[.int .i64 (S : Int), .int .i64 2] 30) = w2 at *
  have c1 := HM2.out.cs
  have c2 := HM2.out.cc
  go_upto_region 6 with (go_at_call 9; rw [eT.out]; refine (alloc_any _ b none S 1 T N (3 + S) HB1 (by omega) HBK2 HT2).mono ?_; rintro e w3 ⟨R, rfl, hO, hF, mo3, hB3, hG3⟩; have hst := store5_new w3 R)
  have HC : Hid (∀ (w : World) (mo : Option Nat) (x : Int), (x = 2 * (N : Int) ∨ x = 2 * (N : Int) + 1) → Hid (Bk w b mo) → Hid (WTab w) → Calls Tryd.prog 9 #[.pointer (some ⟨b, 0, none⟩), (.agg #[.int .i64 (S), .int .i64 (2)]), .int .i64 T, .int .i64 x] w fun e w' => e = .returned (.agg (row5 R)) ∧ ∃ mo', Bk w' b mo' ∧ Gb w w' b mo mo') := fun w mo x hx hb ht => by
    refine (alloc_any w b mo S 2 T x (3 + S) HB2 (by omega) hb ht).mono ?_
    rintro e w' ⟨R', rfl, hO', _, hX⟩
    obtain rfl := out_one (by omega) (by omega) hO' (out_two hx hO)
    exact ⟨rfl, hX⟩
  have HC1 : Hid (∀ (w : World) (mo : Option Nat), Hid (Bk w b mo) → Hid (WTab w) → Calls Tryd.prog 9 #[.pointer (some ⟨b, 0, none⟩), (.agg #[.int .i64 (S), .int .i64 (2)]), .int .i64 T, .int .i64 (2 * (N : Int))] w fun e w' => e = .returned (.agg (row5 R)) ∧ ∃ mo', Bk w' b mo' ∧ Gb w w' b mo mo') := fun w mo => HC.out w mo _ (.inl rfl)
  have HC2 : Hid (∀ (w : World) (mo : Option Nat), Hid (Bk w b mo) → Hid (WTab w) → Calls Tryd.prog 9 #[.pointer (some ⟨b, 0, none⟩), (.agg #[.int .i64 (S), .int .i64 (2)]), .int .i64 T, .int .i64 (2 * (N : Int) + 1)] w fun e w' => e = .returned (.agg (row5 R)) ∧ ∃ mo', Bk w' b mo' ∧ Gb w w' b mo mo') := fun w mo => HC.out w mo _ (.inr rfl)
  clear HC
  have HB3 : Hid (Bk w3 b mo3) := hB3
  have HBK4 : Hid (Bk (w3.alloc (.cells (row5 R) 25)) b mo3) := hB3.alloc _
  have HG4 : Hid (Gb w1 (w3.alloc (.cells (row5 R) 25)) b none mo3) := (HG2.out.trans hG3).alloc _
  have HN4 : Hid (Md (w3.alloc (.cells (row5 R) 25)) (w1.heap.size + 1) S 2) := (HN2.out.kp (Kp.gb HBK2.out hG3) (by omega)).alloc _
  have HR4 : Hid (Rw (w3.alloc (.cells (row5 R) 25)) w3.heap.size R) := Rw.new w3 R
  have HT4 : Hid (WTab (w3.alloc (.cells (row5 R) 25))) := (HT2.out.bk HBK2.out hG3).grown (gN_alloc (gN_refl w3) _)
  have hg : w3.heap.size ≠ b := by have := hB3.lt; omega
  clear hst hO hF hB3 hG3 c1 c2 HM2 HN2 HT2 HBK2 HG2 HB3
  generalize w3.alloc (.cells (row5 R) 25) = w4 at *
  generalize w3.heap.size = g at *
  have E3 : Hid ((IntKind.i64.wrap t).tmod 8 = (T : Int)) := by show _ = _; rw [IntWalk.i64_in _ (by omega), Int.tmod_eq_emod_of_nonneg t0]; exact eT.out
  have E1 : Hid (IntKind.i64.wrap (2 * (N : Int)) = 2 * (N : Int)) := IntWalk.i64_in _ (by omega)
  have E2 : Hid (IntKind.i64.wrap (2 * (N : Int) + 1) = 2 * (N : Int) + 1) := IntWalk.i64_in _ (by omega)
  have c1 := HN4.out.cs
  have c2 := HN4.out.cc
  have r0 := HR4.out.cell (i := 0) (by omega)
  have r1 := HR4.out.cell (i := 1) (by omega)
  have r2 := HR4.out.cell (i := 2) (by omega)
  have r3 := HR4.out.cell (i := 3) (by omega)
  have r4 := HR4.out.cell (i := 4) (by omega)
  go_region_held3 (fun w' => w'.cell? ⟨w1.heap.size + 1, 0, none⟩ = some (.int .i64 (S : Int)) ∧ w'.cell? ⟨w1.heap.size + 1, 1, none⟩ = some (.int .i64 2) ∧ w'.cell? ⟨g, 0, none⟩ = some (.int .i64 (R 0)) ∧ w'.cell? ⟨g, 1, none⟩ = some (.int .i64 (R 1)) ∧ w'.cell? ⟨g, 2, none⟩ = some (.int .i64 (R 2)) ∧ w'.cell? ⟨g, 3, none⟩ = some (.int .i64 (R 3)) ∧ w'.cell? ⟨g, 4, none⟩ = some (.int .i64 (R 4))) (first | exact ⟨c1, c2, r0, r1, r2, r3, r4⟩ | exact ⟨d1, d2, p0, p1, p2, p3, p4⟩ | exact ⟨e1, e2, q0, q1, q2, q3, q4⟩) ((first
    | (go_at_call 9; rw [E3.out, E1.out, E2.out]; refine (HC2.out _ mo5 HBK5 HT5).mono ?_; rintro e w6 ⟨rfl, mo6, hB6, hG6⟩; have HX : Hid (Below w.heap.size w w6) := HY0.out.trans ((below_book HY1.out hle (HG5.out.trans hG6)).mono HY0.out.size); have hk := Kp.gb HBK5.out hG6; have HN6 : Hid (Md w6 (w1.heap.size + 1) S 2) := HN5.out.kp hk (by omega); have HR6 : Hid (Rw w6 g R) := HR5.out.kp hk hg; have e1 := HN6.out.cs; have e2 := HN6.out.cc; have q0 := HR6.out.cell (i := 0) (by omega); have q1 := HR6.out.cell (i := 1) (by omega); have q2 := HR6.out.cell (i := 2) (by omega); have q3 := HR6.out.cell (i := 3) (by omega); have q4 := HR6.out.cell (i := 4) (by omega); clear hB6 hG6 hk)
    | (go_at_call 9; rw [E3.out, E1.out]; refine (HC1.out _ mo3 (HBK4.out.drewN _) (HT4.out.drewN _)).mono ?_; rintro e w5 ⟨rfl, mo5, hB5, hG5⟩; have HBK5 : Hid (Bk w5 b mo5) := hB5; have HG5 : Hid (Gb w1 w5 b none mo5) := (gb_drewN HG4.out _).trans hG5; have hk := Kp.gb (HBK4.out.drewN _) hG5; have HN5 : Hid (Md w5 (w1.heap.size + 1) S 2) := (HN4.out.drewN _).kp hk (by omega); have HR5 : Hid (Rw w5 g R) := (HR4.out.drewN _).kp hk hg; have HT5 : Hid (WTab w5) := (HT4.out.drewN _).bk (HBK4.out.drewN _) hG5; have d1 := HN5.out.cs; have d2 := HN5.out.cc; have p0 := HR5.out.cell (i := 0) (by omega); have p1 := HR5.out.cell (i := 1) (by omega); have p2 := HR5.out.cell (i := 2) (by omega); have p3 := HR5.out.cell (i := 3) (by omega); have p4 := HR5.out.cell (i := 4) (by omega); clear hB5 hG5 hk)))
  go_wp2
  go_returns
  exact ⟨rfl, HX.out⟩

theorem achans_law (s t n : Int) (w : World) (s0 : 0 ≤ s) (s1 : s ≤ 255) (t0 : 0 ≤ t) (t1 : t ≤ 255) (n0 : 0 ≤ n) (n1 : n ≤ 65535) (hT : Hid (WTab w)) :
    Calls Tryd.prog 7 #[.int .u8 s, .int .u8 t, .int .u16 n] w fun e w' => e = .returned (.bool true) ∧ Below w.heap.size w w' :=
  achans_at w s t n s0 s1 t0 t1 n0 n1 (s % 3).toNat (t % 8).toNat (n % 5001).toNat (by omega) (by omega) (by omega) (by show _ = _; omega) (by show _ = _; omega) (by show _ = _; omega) hT
end Go.Proofs.YthlbilfdeneajaaDoor
