/-
  The law FrameTools of layer 16 (frame) as a walk: called at any input it returns true, and nothing that was there has turned.
-/
import Derived.Test.YtfgpmdikkncckaaGreatDoorMrgT
namespace Go.Proofs.YtfgpmdikkncckaaGreatDoor
set_option linter.unusedVariables false
set_option linter.unusedSimpArgs false
set_option maxRecDepth 100000
open Go.ChangeShapes Go.WideShapes Go.ChangeAt Go.RowKit

theorem wp_region_quietC {id : Nat} {Q : Exit → Act → World → Prop} {a : Act} {w : World} {l : List Oper} {C : World → Prop} (hm : Tryz.prog.follows .mixedOrders = true) (hB : Region.lexB .any l.toArray = true) (hC : C w.drew)
    (h : wpQuiet Tryz.prog l.toArray C (fun a' => ∀ w', C w' → Q .normal a' w') l a) : (Code.region id l.toArray true).wp Tryz.prog Q a w :=
  wp_region_quiet (C := C) hm hB hC (by simpa using h)

/-- Methods that tools have of what they embed (305: as deep as the walk looks in this cut). -/
theorem meth_pv (b : Nat) (X : World) : Sem.run Tryz.prog (method 305 82 (.agg #[.pointer (some ⟨b, 0, none⟩)]) "V") X = .ok (138, .pointer (some ⟨b, 0, none⟩)) X := by kernel_rfl
theorem meth_pa (b : Nat) (X : World) : Sem.run Tryz.prog (method 305 82 (.agg #[.pointer (some ⟨b, 0, none⟩)]) "Alloc") X = .ok (142, .agg #[.pointer (some ⟨b, 0, none⟩)]) X := by kernel_rfl
theorem meth_pi (b : Nat) (X : World) : Sem.run Tryz.prog (method 305 82 (.agg #[.pointer (some ⟨b, 0, none⟩)]) "Into") X = .ok (143, .agg #[.pointer (some ⟨b, 0, none⟩)]) X := by kernel_rfl
theorem ahead_p (b : Nat) (X : World) : Sem.run Tryz.prog (nilAhead 305 82 (.agg #[.pointer (some ⟨b, 0, none⟩)]) "Into") X = .ok (some false) X := by kernel_rfl
theorem ahead_q (b c : Nat) (X : World) : Sem.run Tryz.prog (nilAhead 305 97 (.agg #[.pointer (some ⟨b, 0, none⟩), .pointer (some ⟨c, 0, none⟩)]) "Into") X = .ok (some false) X := by kernel_rfl
theorem meth_qv (b c : Nat) (X : World) : Sem.run Tryz.prog (method 305 97 (.agg #[.pointer (some ⟨b, 0, none⟩), .pointer (some ⟨c, 0, none⟩)]) "V") X = .ok (97, .pointer (some ⟨b, 0, none⟩)) X := by kernel_rfl
theorem meth_qr (b c : Nat) (X : World) : Sem.run Tryz.prog (method 305 97 (.agg #[.pointer (some ⟨b, 0, none⟩), .pointer (some ⟨c, 0, none⟩)]) "Rank") X = .ok (163, .pointer (some ⟨b, 0, none⟩)) X := by kernel_rfl
theorem meth_qi (b c : Nat) (X : World) : Sem.run Tryz.prog (method 305 97 (.agg #[.pointer (some ⟨b, 0, none⟩), .pointer (some ⟨c, 0, none⟩)]) "Into") X = .ok (162, .pointer (some ⟨b, 0, none⟩)) X := by kernel_rfl
theorem meth_qa (b c : Nat) (X : World) : Sem.run Tryz.prog (method 305 97 (.agg #[.pointer (some ⟨b, 0, none⟩), .pointer (some ⟨c, 0, none⟩)]) "Alloc") X = .ok (167, .pointer (some ⟨c, 0, none⟩)) X := by kernel_rfl

/-- The worlds in which the law's things lie so. -/
structure TW (w : World) (F R : Nat → Int) (g : Nat → Nat) (N : Nat) (r : List Int) (y z : Value) where
  X : World
  h : TY w X F R g N r y z
theorem tw_call {w : World} {F R : Nat → Int} {g : Nat → Nat} {N : Nat} {r : List Int} {y z : Value} {f : FuncId} {args : Array Value} {X : World} {v : Value} (h : Calls Tryz.prog f args X fun e w' => e = .returned v ∧ TY w w' F R g N r y z) :
    Calls Tryz.prog f args X fun e w' => e = .returned v ∧ ∃ p : TW w F R g N r y z, w' = p.X := h.mono fun _ _ ⟨a, b⟩ => ⟨a, ⟨_, b⟩, rfl⟩
theorem tw_of {w X : World} {F R : Nat → Int} {g : Nat → Nat} {N : Nat} {r : List Int} {y z : Value} (h : ∃ p : TW w F R g N r y z, X = p.X) : TY w X F R g N r y z := by
  obtain ⟨p, rfl⟩ := h
  exact p.h

/-- Where the law has its numbers, its mode, what is wanted. -/
structure T0 (w X : World) (F R : Nat → Int) (m q : Nat) : Prop where
  five : X.heap[w.heap.size]? = some (.cells (row5 F) 31 (0, 0))
  md : X.heap[m]? = some (.cells #[.int .i64 (F 0), .int .i64 (F 1)] 29 (0, 0))
  want : X.heap[q]? = some (.cells (row5 R) 31 (0, 0))
  low : Below w.heap.size w X
theorem T0.below {w X X' : World} {F R : Nat → Int} {m q : Nat} (h : T0 w X F R m q) (hb : Below X.heap.size X X') : T0 w X' F R m q :=
  ⟨(hb.block _ (lt_size_of_block h.five)).trans h.five, (hb.block _ (lt_size_of_block h.md)).trans h.md, (hb.block _ (lt_size_of_block h.want)).trans h.want, h.low.trans (hb.mono h.low.size)⟩
theorem T0.drewN {w X : World} {F R : Nat → Int} {m q : Nat} (h : T0 w X F R m q) (d : Nat) : T0 w (X.drewN d) F R m q := h.below (gN_below (grown_drewN' X d none))
theorem T0.put {w X : World} {F R R' : Nat → Int} {m q : Nat} (h : T0 w X F R m q) (h1 : w.heap.size < q) (h2 : m ≠ q) : T0 w (X.setRow q (row5 R')) F R' m q :=
  ⟨(setRowF_same (Nat.ne_of_lt h1)).trans h.five, (setRowF_same h2).trans h.md, setRowF_heap h.want, below_setRow5 h.low (Nat.le_of_lt h1) _⟩
theorem lat_row {w X X' : World} {ao : Option Addr} {r : List Int} (h : LAt w ao r) (hl : Below w.heap.size w X) (hg : (X.alloc (.cells #[] 3)).grownBy X' (some X.heap.size)) : LAt X' ao r :=
  h.below ((hl.alloc hl.size _).grown hg (Nat.le_trans hl.size (by simp)) (fun q e => by cases e; exact hl.size))
theorem own_some {v : Value} {p q c d : Nat} (h : v.ownBlock = (Value.slice (some ⟨p, 0, none⟩) c d).ownBlock ∨ v.ownBlock = some q) : ∃ q, v.ownBlock = some q := h.elim (fun e => ⟨_, e⟩) (fun e => ⟨_, e⟩)
def gL (a b c d e f h i : Nat) (k : Nat) : Nat := [a, b, c, d, e, f, h, i].getD k 0
/-- The tools are made. -/
theorem T0.tools {w X X1 X2 : World} {F R : Nat → Int} {m q b tb sb s : Nat} (h : T0 w X F R m q) (hB : Bk X1 b none) (hb1 : Below X.heap.size X X1) (hle : X.heap.size ≤ b) (hK : QkAt X2 tb sb s) (h2 : X1.heap.size ≤ sb) (hb2 : Below X1.heap.size X1 X2) :
    TI w (X2.alloc (.cells #[plainV b, quickV tb sb] 44)) F R (gL w.heap.size m q X2.heap.size b tb sb s) := by
  have h' := ((h.below hb1).below hb2).below (gN_below (gN_alloc (gN_refl X2) (.cells #[plainV b, quickV tb sb] 44)))
  have hbl := hB.lt
  have z0 := lt_size_of_block h.five
  have z1 := lt_size_of_block h.md
  have z2 := lt_size_of_block h.want
  have hs := hb2.size
  have hl := h.low.size
  exact ⟨h'.five, h'.md, h'.want, heap_alloc_new X2 _, ⟨none, (hB.keep (gN_of_below hb2)).keep (gN_alloc (gN_refl X2) _), fun _ e => by cases e⟩, hK.below (gN_below (gN_alloc (gN_refl X2) _)), h'.low, by show w.heap.size ≤ b; omega,
    by show w.heap.size ≠ b; omega, by show m ≠ b; omega, by show q ≠ b; omega, by show X2.heap.size ≠ b; omega, by show sb ≠ b; omega⟩
/-- Two lists side by side. -/
theorem two_lists {w0 w1 w2 : World} {y z : Value} {r : List Int} (hy : OwnL w1 w0.heap.size y r) (h1 : w0.grownBy w1 none) (hys : ∃ q, y.ownBlock = some q) (hz : OwnL w2 w1.heap.size z r) (h2 : w1.grownBy w2 none) (hzs : ∃ q, z.ownBlock = some q) :
    w0.grownBy w2 none ∧ OwnL w2 w0.heap.size y r ∧ OwnL w2 w0.heap.size z r ∧ z.ownBlock ≠ y.ownBlock := by
  obtain ⟨p, hp⟩ := hys
  obtain ⟨q, hq⟩ := hzs
  have a1 := (hy.lt hp).2
  have a2 := (hz.lt hq).1
  refine ⟨row_grown' h1 h2 (fun _ e => by cases e), hy.kept h2 (.inr (by rw [hp]; simp)), hz.mono h1.size, ?_⟩
  rw [hp, hq]
  intro e
  cases e
  omega

set_option maxHeartbeats 8000000 in
theorem tools_good (w : World) (ao : Option Addr) (n cap : Nat) (r : List Int) (k : Int) (F : Nat → Int) (hnc : n ≤ cap) (hcm : cap ≤ 9223372036854775807) (h60 : n ≤ 60) (hr : Hid (r.length = n)) (hw : Hid (WfL r)) (h : Hid (LAt w ao r)) (hkw : Hid ((Lit.int .i64 k).wf = true)) (hT : Hid (WTab w)) (hn16 : n ≤ 16) (k0 : Nat) (hk32 : k0 ≤ 32) (HP : Hid (pul r = k0)) (Q : Nat) (HQ : Hid (rk r k0 = Q)) :
    Calls Tryz.prog 6 #[.slice ao n cap, .int .i64 k, .agg (row5 F)] w fun e w' => e = .returned (.bool true) ∧ Below w.heap.size w w' := by
  obtain ⟨B, hB0, h5⟩ : ∃ B : Nat, bandsF (F 0) (F 1) = B ∧ B ≤ 5 := ⟨(bandsF (F 0) (F 1)).toNat, by have := bands_bd (F 0) (F 1); omega, by have := bands_bd (F 0) (F 1); omega⟩
  have HBN : Hid (bandsF (F 0) (F 1) = B) := hB0
  obtain ⟨rb, hrb⟩ : ∃ rb, decide (right (F 0) (F 1)) = rb := ⟨_, rfl⟩
  have HRB : Hid (decide (right (F 0) (F 1)) = rb) := hrb
  clear hrb
  obtain ⟨R, hR⟩ := SOut.some B h5 (F 1) (F 2) (F 3)
  have HSO : Hid (SOut B (F 1) (F 2) (F 3) R) := hR
  clear hB0 hR
  have hvi : vI n k ≤ 18446744073709551615 := Nat.le_trans (vI_bd _ _) (by decide)
  have hn60 : ¬ (60 : Int) < n := by omega
  have e5 : ∀ u, (binOp .neq 31 (.agg (row5 R)) (.agg (row5 R))).run Tryz.prog u = .ok (.bool false) u := neq5 R
  have mpv := meth_pv
  have mqv := meth_qv
  have nap := ahead_p
  have naq := ahead_q
  have mpa := meth_pa
  have mpi := meth_pi
  have mqr := meth_qr
  have mqi := meth_qi
  have mqa := meth_qa
  have hmf : ∀ (fn : Fn) (first cap : Array Value) (w : World), (Instr.makeFunc fn first cap).run Tryz.prog w = .ok (.func fn first cap) w := fun _ _ _ _ => rfl
  have HA0 : Hid ((w.alloc (.cells (row5 F) 31)).heap[w.heap.size]? = some (.cells (row5 F) 31 (0, 0)) ∧ Below w.heap.size w (w.alloc (.cells (row5 F) 31))) := ⟨heap_alloc_new w _, (Below.refl _ _).alloc (Nat.le_refl _) _⟩
  go_enter Tryz.func6, Tryz.ntmps6
  go_wp2_with fail
  refine (awake16 _).mono ?_
  rintro e w1 ⟨rfl, hb1⟩
  have HA1 : Hid (w1.heap[w.heap.size]? = some (.cells (row5 F) 31 (0, 0)) ∧ Below w.heap.size w w1) := ⟨(hb1.block _ (lt_size_of_block HA0.out.1)).trans HA0.out.1, HA0.out.2.trans (hb1.mono HA0.out.2.size)⟩
  clear hb1 HA0
  have a0 : w1.cell? ⟨w.heap.size, 0, none⟩ = some (.int .i64 (F 0)) := row_cell HA1.out.1 0 rfl
  have a1 : w1.cell? ⟨w.heap.size, 1, none⟩ = some (.int .i64 (F 1)) := row_cell HA1.out.1 1 rfl
  have hz1 : w.heap.size < w1.heap.size := lt_size_of_block HA1.out.1
  have H6 : Hid (T0 w ((w1.alloc (.cells #[.int .i64 (F 0), .int .i64 (F 1)] 29)).alloc (.cells #[.int .i64 0, .int .i64 0, .int .i64 0, .int .i64 0, .int .i64 0] 31)) F (fun _ => 0) w1.heap.size (w1.heap.size + 1)) :=
    ⟨((heap_alloc_old _ _ (by simp; omega)).trans (heap_alloc_old _ _ hz1)).trans HA1.out.1, heap_oneF w1 _ _, heap_two w1 _ _, (HA1.out.2.alloc HA1.out.2.size _).alloc (by simp; omega) _⟩
  go_upto_region 7 with fail
  clear HA1 a0 a1
  generalize (w1.alloc (.cells #[.int .i64 (F 0), .int .i64 (F 1)] 29)).alloc (.cells #[.int .i64 0, .int .i64 0, .int .i64 0, .int .i64 0, .int .i64 0] 31) = w6 at H6 ⊢
  obtain ⟨q, hq⟩ : ∃ q, w1.heap.size + 1 = q := ⟨_, rfl⟩
  obtain ⟨m, hm⟩ : ∃ m, w1.heap.size = m := ⟨_, rfl⟩
  have hwq : w.heap.size < q := by omega
  have hmq : m ≠ q := by omega
  rw [hq, hm] at H6
  rw [hq, hm]
  clear hq hm hz1
  have a0 : w6.cell? ⟨w.heap.size, 0, none⟩ = some (.int .i64 (F 0)) := row_cell H6.out.five 0 rfl
  have a1 : w6.cell? ⟨w.heap.size, 1, none⟩ = some (.int .i64 (F 1)) := row_cell H6.out.five 1 rfl
  have a2 : w6.cell? ⟨w.heap.size, 2, none⟩ = some (.int .i64 (F 2)) := row_cell H6.out.five 2 rfl
  have a3 : w6.cell? ⟨w.heap.size, 3, none⟩ = some (.int .i64 (F 3)) := row_cell H6.out.five 3 rfl
  go_upto_if 32 with (go_at_call 25; refine (rright_any _ _ _).mono ?_; rw [HRB.out]; rintro e w7 ⟨rfl, hw7⟩; obtain rfl := hw7.symm; clear hw7)
  go_cut [] (fun wc => Hid (T0 w wc F R m q))
  case first =>
    cases rb
    case true =>
      have hrt : right (F 0) (F 1) := of_decide_eq_true HRB.out
      go_wp2_with (go_at_call 26; refine (rall16 _ _ _ _ _ B R hrt HBN.out HSO.out).mono ?_; rintro e w8 ⟨rfl, hb8⟩; have H7 : Hid (T0 w w8 F (fun _ => 0) m q) := H6.out.below hb8; have hst := store5 w8 q (fun _ => 0) R H7.out.want; have H8 : Hid (T0 w (w8.setRow q (row5 R)) F R m q) := H7.out.put hwq hmq; clear hb8)
      go_meet
      exact H8
    case false =>
      have hrt : ¬ right (F 0) (F 1) := of_decide_eq_false HRB.out
      obtain rfl : B = 0 := by have := HBN.out; unfold bandsF at this; rw [if_neg hrt] at this; omega
      have hR0 : R = fun _ => 0 := HSO.out.none
      go_wp2
      go_meet
      rw [hR0]
      exact H6
  case rest =>
    clear H6 a0 a1 a2 a3
    have H8 : Hid (T0 w wc F R m q) := hcut
    clear hcut
    have HX9 : Hid (LAt wc ao r) := h.out.below H8.out.low
    go_upto_region 11 with (first
      | (go_at_call 15; refine (quick_any _).mono ?_; rintro e w11 ⟨tb, sb, s, rfl, hk11, _, hs11, _, hb11⟩; have HT1 : Hid (TI w (w11.alloc (.cells #[plainV b, quickV tb sb] 44)) F R (gL w.heap.size m q w11.heap.size b tb sb s)) := H9.out.tools HK10.out.1 HK10.out.2.1 HK10.out.2.2 hk11 hs11 hb11; clear hk11 hs11 hb11; unfold quickV)
      | (go_at_call 12; refine (plain_any _).mono ?_; rintro e w10 ⟨b, rfl, hB10, hb10, hle10⟩; have HK10 : Hid (Bk w10 b none ∧ Below w9.heap.size w9 w10 ∧ w9.heap.size ≤ b) := ⟨hB10, hb10, hle10⟩; clear hB10 hb10 hle10; unfold plainV)
      | (go_at_call 27; refine (rr12_good _ ao n cap r hn16 hnc hcm hr hw HX9 k0 hk32 HP).mono ?_; rw [HQ.out]; rintro e w9 ⟨rfl, d9, hw9⟩; have H9 : Hid (T0 w w9 F R m q) := (by rw [hw9]; exact H8.out.drewN d9); clear hw9))
    clear HK10 H8 H9 HX9
    unfold plainV quickV at HT1
    generalize w11.alloc (.cells #[.iface 82 (.agg #[.pointer (some ⟨b, 0, none⟩)]), .iface 97 (.agg #[.pointer (some ⟨tb, 0, none⟩), .pointer (some ⟨sb, 0, none⟩)])] 44) = w12 at HT1 ⊢
    generalize w11.heap.size = l at HT1 ⊢
    refine wp_loop_rounds 3 ?_
    rw [rounds_succ]
    have l0 : w12.cell? ⟨l, 0, none⟩ = some (.iface 82 (.agg #[.pointer (some ⟨b, 0, none⟩)])) := row_cell HT1.out.tl 0 rfl
    have l1 : w12.cell? ⟨l, 1, none⟩ = some (.iface 97 (.agg #[.pointer (some ⟨tb, 0, none⟩), .pointer (some ⟨sb, 0, none⟩)])) := row_cell HT1.out.tl 1 rfl
    go_upto_region 14 with (go_at_call 144; refine (pl_rank_good HT1.out hn16 hnc hcm hr.out hk32 HP.out (h.out.below HT1.out.low) HQ.out).mono ?_; rintro e w1c ⟨rfl, h13⟩; have HT1c : Hid (TI w w1c F R (gL w.heap.size m q l b tb sb s)) := h13; clear h13)
    clear l0 l1
    have hlt1 := HT1c.out.low.size
    have HE1 : Hid (OwnL (w1c.alloc (.cells #[] 3)) w1c.heap.size (.slice (some ⟨w1c.heap.size, 0, none⟩) 0 0) []) := OwnL.empty w1c (Nat.le_refl _)
    have HX1 : Hid (LAt (w1c.alloc (.cells #[] 3)) ao r) := (h.out.below HT1c.out.low).alloc _
    go_upto_region 15 with (first
      | (at_builtin; refine wpList_catA rfl _ _ rfl w1d.heap.size (.slice (some ⟨w1d.heap.size, 0, none⟩) 0 0) [] rfl HF1.out ao n cap r rfl hr.out HZ1.out (by decide) (by omega) (Nat.le_of_lt (by simp)) ?_; intro v' w1e h2 h3 h4; rw [List.nil_append] at h2; obtain ⟨zo1, cz1, ev, _, _, _⟩ := h2.slice; rw [hr.out] at ev; subst ev; have HV1 : Hid _ := And.intro h2 (And.intro h3 h4); clear h2 h3 h4)
      | (at_builtin; refine wpList_catA rfl _ _ rfl w1c.heap.size (.slice (some ⟨w1c.heap.size, 0, none⟩) 0 0) [] rfl HE1.out ao n cap r rfl hr.out HX1.out (by decide) (by omega) (Nat.le_of_lt (by simp)) ?_; intro v' w1d h2 h3 h4; rw [List.nil_append] at h2; obtain ⟨yo1, cy1, ev, _, _, _⟩ := h2.slice; rw [hr.out] at ev; subst ev; have HU1 : Hid _ := And.intro h2 (And.intro h3 h4); have HF1 : Hid (OwnL (w1d.alloc (.cells #[] 3)) w1d.heap.size (.slice (some ⟨w1d.heap.size, 0, none⟩) 0 0) []) := OwnL.empty w1d (Nat.le_refl _); have HZ1 : Hid (LAt (w1d.alloc (.cells #[] 3)) ao r) := (lat_row h.out HT1c.out.low h3).alloc _; clear h2 h3 h4))
    obtain ⟨N1, hN1⟩ : ∃ N, w1c.heap.size = N := ⟨_, rfl⟩
    have HY1 : Hid (TY w w1e F R (gL w.heap.size m q l b tb sb s) N1 r (.slice yo1 n cy1) (.slice zo1 n cz1)) := by
      obtain ⟨a1, a2, a3⟩ := HU1.out
      obtain ⟨b1, b2, b3⟩ := HV1.out
      obtain ⟨c1, c2, c3, c4⟩ := two_lists a1 (row_grown' (World.grownBy_alloc w1c _ none) a2 (fun q e => by cases e; exact Nat.le_refl _)) (own_some a3) b1 (row_grown' (World.grownBy_alloc w1d _ none) b2 (fun q e => by cases e; exact Nat.le_refl _)) (own_some b3)
      rw [← hN1]
      exact TY.start HT1c.out c1 c2 c3 c4 HT1c.out.qk.sh.lt
    clear HU1 HV1 HE1 HX1 HF1 HZ1 hlt1 hN1 HT1 HT1c
    refine wp_region_quietC (C := (fun X => ∃ p : TW w F R (gL w.heap.size m q l b tb sb s) N1 r (.slice yo1 n cy1) (.slice zo1 n cz1), X = p.X)) (by kernel_rfl) (by kernel_rfl) ⟨⟨_, HY1.out.drewN 1⟩, rfl⟩ ?_
    haveI : Nonempty (TW w F R (gL w.heap.size m q l b tb sb s) N1 r (.slice yo1 n cy1) (.slice zo1 n cz1)) := ⟨⟨_, HY1.out⟩⟩
    (try simp only [List.append])
    repeat (first
      | go_big_quiet_skip
      | (go_big_quiet_want; first
        | (refine quietC_load 29 _ rfl _ (.agg #[.int .i64 (F 0), .int .i64 (F 1)]) rfl (fun X hX => ld_md (tw_of hX).ti.md rfl) _ rfl ?_; simp only [Act.put, List.setIfInBounds_toArray, List.set_cons_succ, List.set_cons_zero]; go_big_quiet_on)
        | (refine quietC_load 3 _ rfl (some ⟨_, 2, none⟩) (.int .i64 (F 2)) rfl (fun X hX => ld_int (row_cell (tw_of hX).ti.five 2 rfl)) _ rfl ?_; simp only [Act.put, List.setIfInBounds_toArray, List.set_cons_succ, List.set_cons_zero]; go_big_quiet_on)
        | (refine quietC_load 3 _ rfl (some ⟨_, 3, none⟩) (.int .i64 (F 3)) rfl (fun X hX => ld_int (row_cell (tw_of hX).ti.five 3 rfl)) _ rfl ?_; simp only [Act.put, List.setIfInBounds_toArray, List.set_cons_succ, List.set_cons_zero]; go_big_quiet_on)
        | (refine quietC_load 31 _ rfl _ (.agg (row5 R)) rfl (fun X hX => ld_row5 (tw_of hX).ti.want) _ rfl ?_; simp only [Act.put, List.setIfInBounds_toArray, List.set_cons_succ, List.set_cons_zero]; go_big_quiet_on)
        | (go_big_quiet_op; first | go_big_quiet_on | go_big_quiet_call (first
          | (go_at_call 138; exact tw_call (pl_v (TW.h _) _ _))
          | (go_at_call 28; exact tw_call (ty_rv (TW.h _) _ _))
          | (go_at_call 142; exact tw_call (pl_alloc (TW.h _) hT.out HBN.out h5 HSO.out))))))
    refine wpQuiet_nil ?_
    rintro xHY1b hxHY1b
    have hHY1b := tw_of hxHY1b
    clear hxHY1b
    have HY1b : Hid (TY w xHY1b F R (gL w.heap.size m q l b tb sb s) N1 r (.slice yo1 n cy1) (.slice zo1 n cz1)) := hHY1b
    clear hHY1b HY1
    go_upto_region 17 with fail
    refine wp_region_quietC (C := (fun X => ∃ p : TW w F R (gL w.heap.size m q l b tb sb s) N1 r (.slice yo1 n cy1) (.slice zo1 n cz1), X = p.X)) (by kernel_rfl) (by kernel_rfl) ⟨⟨_, HY1b.out.drewN 1⟩, rfl⟩ ?_
    haveI : Nonempty (TW w F R (gL w.heap.size m q l b tb sb s) N1 r (.slice yo1 n cy1) (.slice zo1 n cz1)) := ⟨⟨_, HY1b.out⟩⟩
    (try simp only [List.append])
    repeat (first
      | go_big_quiet_skip
      | (go_big_quiet_want; first
        | (go_big_quiet_op; first | go_big_quiet_on | go_big_quiet_call (first
          | (go_at_call 24; exact tw_call (ty_pul (TW.h _) hn16 hr.out HP.out hk32 h.out))
          | (go_at_call 143; exact tw_call (pl_into (TW.h _) rfl hn16 hr.out hk32 HP.out HQ.out))
          | (go_at_call 29; exact tw_call (ty_ints_y (TW.h _) rfl h60 hr.out h.out))))))
    refine wpQuiet_nil ?_
    rintro xHY1c hxHY1c
    have hHY1c := tw_of hxHY1c
    clear hxHY1c
    have HY1c : Hid (TY w xHY1c F R (gL w.heap.size m q l b tb sb s) N1 r (.slice yo1 n cy1) (.slice zo1 n cz1)) := hHY1c
    clear hHY1c HY1b
    go_upto_region 19 with fail
    refine wp_region_quietC (C := (fun X => ∃ p : TW w F R (gL w.heap.size m q l b tb sb s) N1 r (.slice yo1 n cy1) (.slice zo1 n cz1), X = p.X)) (by kernel_rfl) (by kernel_rfl) ⟨⟨_, HY1c.out.drewN 1⟩, rfl⟩ ?_
    haveI : Nonempty (TW w F R (gL w.heap.size m q l b tb sb s) N1 r (.slice yo1 n cy1) (.slice zo1 n cz1)) := ⟨⟨_, HY1c.out⟩⟩
    (try simp only [List.append])
    repeat (first
      | go_big_quiet_skip
      | (go_big_quiet_want; first
        | (go_big_quiet_op; first | go_big_quiet_on | go_big_quiet_call (first
          | (go_at_call 28; exact tw_call (ty_rv (TW.h _) _ _))
          | (go_at_call 143; exact tw_call (pl_into_bad (TW.h _) h60 hkw.out hvi (Nat.lt_irrefl _)))
          | (go_at_call 29; exact tw_call (ty_ints_z (TW.h _) rfl h60 hr.out h.out))))))
    refine wpQuiet_nil ?_
    rintro xHY1d hxHY1d
    have hHY1d := tw_of hxHY1d
    clear hxHY1d
    have HY1d : Hid (TY w xHY1d F R (gL w.heap.size m q l b tb sb s) N1 r (.slice yo1 n cy1) (.slice zo1 n cz1)) := hHY1d
    clear hHY1d HY1c
    go_wp2
    have HT2 : Hid (TI w xHY1d F R (gL w.heap.size m q l b tb sb s)) := HY1d.out.ti
    clear HY1d
    rw [rounds_succ]
    have l0 : xHY1d.cell? ⟨l, 0, none⟩ = some (.iface 82 (.agg #[.pointer (some ⟨b, 0, none⟩)])) := row_cell HT2.out.tl 0 rfl
    have l1 : xHY1d.cell? ⟨l, 1, none⟩ = some (.iface 97 (.agg #[.pointer (some ⟨tb, 0, none⟩), .pointer (some ⟨sb, 0, none⟩)])) := row_cell HT2.out.tl 1 rfl
    go_upto_region 14 with (go_at_call 163; refine (qk_rank_good HT2.out hn16 hnc hcm hr.out hk32 HP.out (h.out.below HT2.out.low) HQ.out).mono ?_; rintro e w2c ⟨rfl, h13⟩; have HT2c : Hid (TI w w2c F R (gL w.heap.size m q l b tb sb s)) := h13; clear h13)
    clear l0 l1
    have hlt2 := HT2c.out.low.size
    have HE2 : Hid (OwnL (w2c.alloc (.cells #[] 3)) w2c.heap.size (.slice (some ⟨w2c.heap.size, 0, none⟩) 0 0) []) := OwnL.empty w2c (Nat.le_refl _)
    have HX2 : Hid (LAt (w2c.alloc (.cells #[] 3)) ao r) := (h.out.below HT2c.out.low).alloc _
    go_upto_region 15 with (first
      | (at_builtin; refine wpList_catA rfl _ _ rfl w2d.heap.size (.slice (some ⟨w2d.heap.size, 0, none⟩) 0 0) [] rfl HF2.out ao n cap r rfl hr.out HZ2.out (by decide) (by omega) (Nat.le_of_lt (by simp)) ?_; intro v' w2e h2 h3 h4; rw [List.nil_append] at h2; obtain ⟨zo2, cz2, ev, _, _, _⟩ := h2.slice; rw [hr.out] at ev; subst ev; have HV2 : Hid _ := And.intro h2 (And.intro h3 h4); clear h2 h3 h4)
      | (at_builtin; refine wpList_catA rfl _ _ rfl w2c.heap.size (.slice (some ⟨w2c.heap.size, 0, none⟩) 0 0) [] rfl HE2.out ao n cap r rfl hr.out HX2.out (by decide) (by omega) (Nat.le_of_lt (by simp)) ?_; intro v' w2d h2 h3 h4; rw [List.nil_append] at h2; obtain ⟨yo2, cy2, ev, _, _, _⟩ := h2.slice; rw [hr.out] at ev; subst ev; have HU2 : Hid _ := And.intro h2 (And.intro h3 h4); have HF2 : Hid (OwnL (w2d.alloc (.cells #[] 3)) w2d.heap.size (.slice (some ⟨w2d.heap.size, 0, none⟩) 0 0) []) := OwnL.empty w2d (Nat.le_refl _); have HZ2 : Hid (LAt (w2d.alloc (.cells #[] 3)) ao r) := (lat_row h.out HT2c.out.low h3).alloc _; clear h2 h3 h4))
    obtain ⟨N2, hN2⟩ : ∃ N, w2c.heap.size = N := ⟨_, rfl⟩
    have HY2 : Hid (TY w w2e F R (gL w.heap.size m q l b tb sb s) N2 r (.slice yo2 n cy2) (.slice zo2 n cz2)) := by
      obtain ⟨a1, a2, a3⟩ := HU2.out
      obtain ⟨b1, b2, b3⟩ := HV2.out
      obtain ⟨c1, c2, c3, c4⟩ := two_lists a1 (row_grown' (World.grownBy_alloc w2c _ none) a2 (fun q e => by cases e; exact Nat.le_refl _)) (own_some a3) b1 (row_grown' (World.grownBy_alloc w2d _ none) b2 (fun q e => by cases e; exact Nat.le_refl _)) (own_some b3)
      rw [← hN2]
      exact TY.start HT2c.out c1 c2 c3 c4 HT2c.out.qk.sh.lt
    clear HU2 HV2 HE2 HX2 HF2 HZ2 hlt2 hN2 HT2 HT2c
    refine wp_region_quietC (C := (fun X => ∃ p : TW w F R (gL w.heap.size m q l b tb sb s) N2 r (.slice yo2 n cy2) (.slice zo2 n cz2), X = p.X)) (by kernel_rfl) (by kernel_rfl) ⟨⟨_, HY2.out.drewN 1⟩, rfl⟩ ?_
    haveI : Nonempty (TW w F R (gL w.heap.size m q l b tb sb s) N2 r (.slice yo2 n cy2) (.slice zo2 n cz2)) := ⟨⟨_, HY2.out⟩⟩
    (try simp only [List.append])
    repeat (first
      | go_big_quiet_skip
      | (go_big_quiet_want; first
        | (refine quietC_load 29 _ rfl _ (.agg #[.int .i64 (F 0), .int .i64 (F 1)]) rfl (fun X hX => ld_md (tw_of hX).ti.md rfl) _ rfl ?_; simp only [Act.put, List.setIfInBounds_toArray, List.set_cons_succ, List.set_cons_zero]; go_big_quiet_on)
        | (refine quietC_load 3 _ rfl (some ⟨_, 2, none⟩) (.int .i64 (F 2)) rfl (fun X hX => ld_int (row_cell (tw_of hX).ti.five 2 rfl)) _ rfl ?_; simp only [Act.put, List.setIfInBounds_toArray, List.set_cons_succ, List.set_cons_zero]; go_big_quiet_on)
        | (refine quietC_load 3 _ rfl (some ⟨_, 3, none⟩) (.int .i64 (F 3)) rfl (fun X hX => ld_int (row_cell (tw_of hX).ti.five 3 rfl)) _ rfl ?_; simp only [Act.put, List.setIfInBounds_toArray, List.set_cons_succ, List.set_cons_zero]; go_big_quiet_on)
        | (refine quietC_load 31 _ rfl _ (.agg (row5 R)) rfl (fun X hX => ld_row5 (tw_of hX).ti.want) _ rfl ?_; simp only [Act.put, List.setIfInBounds_toArray, List.set_cons_succ, List.set_cons_zero]; go_big_quiet_on)
        | (go_big_quiet_op; first | go_big_quiet_on | go_big_quiet_call (first
          | (go_at_call 97; exact tw_call (qk_v (TW.h _) _ _))
          | (go_at_call 28; exact tw_call (ty_rv (TW.h _) _ _))
          | (go_at_call 167; exact tw_call (qk_alloc (TW.h _) hT.out HBN.out h5 HSO.out))))))
    refine wpQuiet_nil ?_
    rintro xHY2b hxHY2b
    have hHY2b := tw_of hxHY2b
    clear hxHY2b
    have HY2b : Hid (TY w xHY2b F R (gL w.heap.size m q l b tb sb s) N2 r (.slice yo2 n cy2) (.slice zo2 n cz2)) := hHY2b
    clear hHY2b HY2
    go_upto_region 17 with fail
    refine wp_region_quietC (C := (fun X => ∃ p : TW w F R (gL w.heap.size m q l b tb sb s) N2 r (.slice yo2 n cy2) (.slice zo2 n cz2), X = p.X)) (by kernel_rfl) (by kernel_rfl) ⟨⟨_, HY2b.out.drewN 1⟩, rfl⟩ ?_
    haveI : Nonempty (TW w F R (gL w.heap.size m q l b tb sb s) N2 r (.slice yo2 n cy2) (.slice zo2 n cz2)) := ⟨⟨_, HY2b.out⟩⟩
    (try simp only [List.append])
    repeat (first
      | go_big_quiet_skip
      | (go_big_quiet_want; first
        | (go_big_quiet_op; first | go_big_quiet_on | go_big_quiet_call (first
          | (go_at_call 24; exact tw_call (ty_pul (TW.h _) hn16 hr.out HP.out hk32 h.out))
          | (go_at_call 162; exact tw_call (qk_into (TW.h _) rfl hn16 hr.out hk32 HP.out HQ.out))
          | (go_at_call 29; exact tw_call (ty_ints_y (TW.h _) rfl h60 hr.out h.out))))))
    refine wpQuiet_nil ?_
    rintro xHY2c hxHY2c
    have hHY2c := tw_of hxHY2c
    clear hxHY2c
    have HY2c : Hid (TY w xHY2c F R (gL w.heap.size m q l b tb sb s) N2 r (.slice yo2 n cy2) (.slice zo2 n cz2)) := hHY2c
    clear hHY2c HY2b
    go_upto_region 19 with fail
    refine wp_region_quietC (C := (fun X => ∃ p : TW w F R (gL w.heap.size m q l b tb sb s) N2 r (.slice yo2 n cy2) (.slice zo2 n cz2), X = p.X)) (by kernel_rfl) (by kernel_rfl) ⟨⟨_, HY2c.out.drewN 1⟩, rfl⟩ ?_
    haveI : Nonempty (TW w F R (gL w.heap.size m q l b tb sb s) N2 r (.slice yo2 n cy2) (.slice zo2 n cz2)) := ⟨⟨_, HY2c.out⟩⟩
    (try simp only [List.append])
    repeat (first
      | go_big_quiet_skip
      | (go_big_quiet_want; first
        | (go_big_quiet_op; first | go_big_quiet_on | go_big_quiet_call (first
          | (go_at_call 28; exact tw_call (ty_rv (TW.h _) _ _))
          | (go_at_call 162; exact tw_call (qk_into_bad (TW.h _) h60 hvi (Nat.lt_irrefl _)))
          | (go_at_call 29; exact tw_call (ty_ints_z (TW.h _) rfl h60 hr.out h.out))))))
    refine wpQuiet_nil ?_
    rintro xHY2d hxHY2d
    have hHY2d := tw_of hxHY2d
    clear hxHY2d
    have HY2d : Hid (TY w xHY2d F R (gL w.heap.size m q l b tb sb s) N2 r (.slice yo2 n cy2) (.slice zo2 n cz2)) := hHY2d
    clear hHY2d HY2c
    go_wp2
    have HT3 : Hid (TI w xHY2d F R (gL w.heap.size m q l b tb sb s)) := HY2d.out.ti
    clear HY2d
    rw [rounds_succ]
    go_wp2
    go_returns
    exact ⟨rfl, HT3.out.low⟩

set_option maxHeartbeats 8000000 in
theorem tools_bad (w : World) (ao : Option Addr) (n cap : Nat) (r : List Int) (k : Int) (F : Nat → Int) (hnc : n ≤ cap) (hcm : cap ≤ 9223372036854775807) (h60 : n ≤ 60) (hr : Hid (r.length = n)) (hw : Hid (WfL r)) (h : Hid (LAt w ao r)) (hkw : Hid ((Lit.int .i64 k).wf = true)) (hT : Hid (WTab w)) (hbad : 16 < n ∨ ¬ pul r ≤ 32) :
    Calls Tryz.prog 6 #[.slice ao n cap, .int .i64 k, .agg (row5 F)] w fun e w' => e = .returned (.bool true) ∧ Below w.heap.size w w' := by
  obtain ⟨B, hB0, h5⟩ : ∃ B : Nat, bandsF (F 0) (F 1) = B ∧ B ≤ 5 := ⟨(bandsF (F 0) (F 1)).toNat, by have := bands_bd (F 0) (F 1); omega, by have := bands_bd (F 0) (F 1); omega⟩
  have HBN : Hid (bandsF (F 0) (F 1) = B) := hB0
  obtain ⟨rb, hrb⟩ : ∃ rb, decide (right (F 0) (F 1)) = rb := ⟨_, rfl⟩
  have HRB : Hid (decide (right (F 0) (F 1)) = rb) := hrb
  clear hrb
  obtain ⟨R, hR⟩ := SOut.some B h5 (F 1) (F 2) (F 3)
  have HSO : Hid (SOut B (F 1) (F 2) (F 3) R) := hR
  clear hB0 hR
  have hvi : vI n k ≤ 18446744073709551615 := Nat.le_trans (vI_bd _ _) (by decide)
  have hn60 : ¬ (60 : Int) < n := by omega
  have e5 : ∀ u, (binOp .neq 31 (.agg (row5 R)) (.agg (row5 R))).run Tryz.prog u = .ok (.bool false) u := neq5 R
  have mpv := meth_pv
  have mqv := meth_qv
  have nap := ahead_p
  have naq := ahead_q
  have mpa := meth_pa
  have mpi := meth_pi
  have mqr := meth_qr
  have mqi := meth_qi
  have mqa := meth_qa
  have hmf : ∀ (fn : Fn) (first cap : Array Value) (w : World), (Instr.makeFunc fn first cap).run Tryz.prog w = .ok (.func fn first cap) w := fun _ _ _ _ => rfl
  have HA0 : Hid ((w.alloc (.cells (row5 F) 31)).heap[w.heap.size]? = some (.cells (row5 F) 31 (0, 0)) ∧ Below w.heap.size w (w.alloc (.cells (row5 F) 31))) := ⟨heap_alloc_new w _, (Below.refl _ _).alloc (Nat.le_refl _) _⟩
  go_enter Tryz.func6, Tryz.ntmps6
  go_wp2_with fail
  refine (awake16 _).mono ?_
  rintro e w1 ⟨rfl, hb1⟩
  have HA1 : Hid (w1.heap[w.heap.size]? = some (.cells (row5 F) 31 (0, 0)) ∧ Below w.heap.size w w1) := ⟨(hb1.block _ (lt_size_of_block HA0.out.1)).trans HA0.out.1, HA0.out.2.trans (hb1.mono HA0.out.2.size)⟩
  clear hb1 HA0
  have a0 : w1.cell? ⟨w.heap.size, 0, none⟩ = some (.int .i64 (F 0)) := row_cell HA1.out.1 0 rfl
  have a1 : w1.cell? ⟨w.heap.size, 1, none⟩ = some (.int .i64 (F 1)) := row_cell HA1.out.1 1 rfl
  have hz1 : w.heap.size < w1.heap.size := lt_size_of_block HA1.out.1
  have H6 : Hid (T0 w ((w1.alloc (.cells #[.int .i64 (F 0), .int .i64 (F 1)] 29)).alloc (.cells #[.int .i64 0, .int .i64 0, .int .i64 0, .int .i64 0, .int .i64 0] 31)) F (fun _ => 0) w1.heap.size (w1.heap.size + 1)) :=
    ⟨((heap_alloc_old _ _ (by simp; omega)).trans (heap_alloc_old _ _ hz1)).trans HA1.out.1, heap_oneF w1 _ _, heap_two w1 _ _, (HA1.out.2.alloc HA1.out.2.size _).alloc (by simp; omega) _⟩
  go_upto_region 7 with fail
  clear HA1 a0 a1
  generalize (w1.alloc (.cells #[.int .i64 (F 0), .int .i64 (F 1)] 29)).alloc (.cells #[.int .i64 0, .int .i64 0, .int .i64 0, .int .i64 0, .int .i64 0] 31) = w6 at H6 ⊢
  obtain ⟨q, hq⟩ : ∃ q, w1.heap.size + 1 = q := ⟨_, rfl⟩
  obtain ⟨m, hm⟩ : ∃ m, w1.heap.size = m := ⟨_, rfl⟩
  have hwq : w.heap.size < q := by omega
  have hmq : m ≠ q := by omega
  rw [hq, hm] at H6
  rw [hq, hm]
  clear hq hm hz1
  have a0 : w6.cell? ⟨w.heap.size, 0, none⟩ = some (.int .i64 (F 0)) := row_cell H6.out.five 0 rfl
  have a1 : w6.cell? ⟨w.heap.size, 1, none⟩ = some (.int .i64 (F 1)) := row_cell H6.out.five 1 rfl
  have a2 : w6.cell? ⟨w.heap.size, 2, none⟩ = some (.int .i64 (F 2)) := row_cell H6.out.five 2 rfl
  have a3 : w6.cell? ⟨w.heap.size, 3, none⟩ = some (.int .i64 (F 3)) := row_cell H6.out.five 3 rfl
  go_upto_if 32 with (go_at_call 25; refine (rright_any _ _ _).mono ?_; rw [HRB.out]; rintro e w7 ⟨rfl, hw7⟩; obtain rfl := hw7.symm; clear hw7)
  go_cut [] (fun wc => Hid (T0 w wc F R m q))
  case first =>
    cases rb
    case true =>
      have hrt : right (F 0) (F 1) := of_decide_eq_true HRB.out
      go_wp2_with (go_at_call 26; refine (rall16 _ _ _ _ _ B R hrt HBN.out HSO.out).mono ?_; rintro e w8 ⟨rfl, hb8⟩; have H7 : Hid (T0 w w8 F (fun _ => 0) m q) := H6.out.below hb8; have hst := store5 w8 q (fun _ => 0) R H7.out.want; have H8 : Hid (T0 w (w8.setRow q (row5 R)) F R m q) := H7.out.put hwq hmq; clear hb8)
      go_meet
      exact H8
    case false =>
      have hrt : ¬ right (F 0) (F 1) := of_decide_eq_false HRB.out
      obtain rfl : B = 0 := by have := HBN.out; unfold bandsF at this; rw [if_neg hrt] at this; omega
      have hR0 : R = fun _ => 0 := HSO.out.none
      go_wp2
      go_meet
      rw [hR0]
      exact H6
  case rest =>
    clear H6 a0 a1 a2 a3
    have H8 : Hid (T0 w wc F R m q) := hcut
    clear hcut
    have HX9 : Hid (LAt wc ao r) := h.out.below H8.out.low
    go_upto_region 11 with (first
      | (go_at_call 15; refine (quick_any _).mono ?_; rintro e w11 ⟨tb, sb, s, rfl, hk11, _, hs11, _, hb11⟩; have HT1 : Hid (TI w (w11.alloc (.cells #[plainV b, quickV tb sb] 44)) F R (gL w.heap.size m q w11.heap.size b tb sb s)) := H9.out.tools HK10.out.1 HK10.out.2.1 HK10.out.2.2 hk11 hs11 hb11; clear hk11 hs11 hb11; unfold quickV)
      | (go_at_call 12; refine (plain_any _).mono ?_; rintro e w10 ⟨b, rfl, hB10, hb10, hle10⟩; have HK10 : Hid (Bk w10 b none ∧ Below w9.heap.size w9 w10 ∧ w9.heap.size ≤ b) := ⟨hB10, hb10, hle10⟩; clear hB10 hb10 hle10; unfold plainV)
      | (go_at_call 27; refine (rr12_bad _ ao n cap r h60 hr hw HX9 hbad).mono ?_; rintro e w9 ⟨rfl, hw9⟩; have H9 : Hid (T0 w w9 F R m q) := (by rw [hw9]; exact H8.out); clear hw9))
    clear HK10 H8 H9 HX9
    unfold plainV quickV at HT1
    generalize w11.alloc (.cells #[.iface 82 (.agg #[.pointer (some ⟨b, 0, none⟩)]), .iface 97 (.agg #[.pointer (some ⟨tb, 0, none⟩), .pointer (some ⟨sb, 0, none⟩)])] 44) = w12 at HT1 ⊢
    generalize w11.heap.size = l at HT1 ⊢
    refine wp_loop_rounds 3 ?_
    rw [rounds_succ]
    have l0 : w12.cell? ⟨l, 0, none⟩ = some (.iface 82 (.agg #[.pointer (some ⟨b, 0, none⟩)])) := row_cell HT1.out.tl 0 rfl
    have l1 : w12.cell? ⟨l, 1, none⟩ = some (.iface 97 (.agg #[.pointer (some ⟨tb, 0, none⟩), .pointer (some ⟨sb, 0, none⟩)])) := row_cell HT1.out.tl 1 rfl
    go_upto_region 14 with (go_at_call 144; refine (pl_rank_bad HT1.out h60 hnc hcm hr.out hw.out (h.out.below HT1.out.low) hbad).mono ?_; rintro e w1c ⟨rfl, h13⟩; have HT1c : Hid (TI w w1c F R (gL w.heap.size m q l b tb sb s)) := h13; clear h13)
    clear l0 l1
    have hlt1 := HT1c.out.low.size
    have HE1 : Hid (OwnL (w1c.alloc (.cells #[] 3)) w1c.heap.size (.slice (some ⟨w1c.heap.size, 0, none⟩) 0 0) []) := OwnL.empty w1c (Nat.le_refl _)
    have HX1 : Hid (LAt (w1c.alloc (.cells #[] 3)) ao r) := (h.out.below HT1c.out.low).alloc _
    go_upto_region 15 with (first
      | (at_builtin; refine wpList_catA rfl _ _ rfl w1d.heap.size (.slice (some ⟨w1d.heap.size, 0, none⟩) 0 0) [] rfl HF1.out ao n cap r rfl hr.out HZ1.out (by decide) (by omega) (Nat.le_of_lt (by simp)) ?_; intro v' w1e h2 h3 h4; rw [List.nil_append] at h2; obtain ⟨zo1, cz1, ev, _, _, _⟩ := h2.slice; rw [hr.out] at ev; subst ev; have HV1 : Hid _ := And.intro h2 (And.intro h3 h4); clear h2 h3 h4)
      | (at_builtin; refine wpList_catA rfl _ _ rfl w1c.heap.size (.slice (some ⟨w1c.heap.size, 0, none⟩) 0 0) [] rfl HE1.out ao n cap r rfl hr.out HX1.out (by decide) (by omega) (Nat.le_of_lt (by simp)) ?_; intro v' w1d h2 h3 h4; rw [List.nil_append] at h2; obtain ⟨yo1, cy1, ev, _, _, _⟩ := h2.slice; rw [hr.out] at ev; subst ev; have HU1 : Hid _ := And.intro h2 (And.intro h3 h4); have HF1 : Hid (OwnL (w1d.alloc (.cells #[] 3)) w1d.heap.size (.slice (some ⟨w1d.heap.size, 0, none⟩) 0 0) []) := OwnL.empty w1d (Nat.le_refl _); have HZ1 : Hid (LAt (w1d.alloc (.cells #[] 3)) ao r) := (lat_row h.out HT1c.out.low h3).alloc _; clear h2 h3 h4))
    obtain ⟨N1, hN1⟩ : ∃ N, w1c.heap.size = N := ⟨_, rfl⟩
    have HY1 : Hid (TY w w1e F R (gL w.heap.size m q l b tb sb s) N1 r (.slice yo1 n cy1) (.slice zo1 n cz1)) := by
      obtain ⟨a1, a2, a3⟩ := HU1.out
      obtain ⟨b1, b2, b3⟩ := HV1.out
      obtain ⟨c1, c2, c3, c4⟩ := two_lists a1 (row_grown' (World.grownBy_alloc w1c _ none) a2 (fun q e => by cases e; exact Nat.le_refl _)) (own_some a3) b1 (row_grown' (World.grownBy_alloc w1d _ none) b2 (fun q e => by cases e; exact Nat.le_refl _)) (own_some b3)
      rw [← hN1]
      exact TY.start HT1c.out c1 c2 c3 c4 HT1c.out.qk.sh.lt
    clear HU1 HV1 HE1 HX1 HF1 HZ1 hlt1 hN1 HT1 HT1c
    refine wp_region_quietC (C := (fun X => ∃ p : TW w F R (gL w.heap.size m q l b tb sb s) N1 r (.slice yo1 n cy1) (.slice zo1 n cz1), X = p.X)) (by kernel_rfl) (by kernel_rfl) ⟨⟨_, HY1.out.drewN 1⟩, rfl⟩ ?_
    haveI : Nonempty (TW w F R (gL w.heap.size m q l b tb sb s) N1 r (.slice yo1 n cy1) (.slice zo1 n cz1)) := ⟨⟨_, HY1.out⟩⟩
    (try simp only [List.append])
    repeat (first
      | go_big_quiet_skip
      | (go_big_quiet_want; first
        | (refine quietC_load 29 _ rfl _ (.agg #[.int .i64 (F 0), .int .i64 (F 1)]) rfl (fun X hX => ld_md (tw_of hX).ti.md rfl) _ rfl ?_; simp only [Act.put, List.setIfInBounds_toArray, List.set_cons_succ, List.set_cons_zero]; go_big_quiet_on)
        | (refine quietC_load 3 _ rfl (some ⟨_, 2, none⟩) (.int .i64 (F 2)) rfl (fun X hX => ld_int (row_cell (tw_of hX).ti.five 2 rfl)) _ rfl ?_; simp only [Act.put, List.setIfInBounds_toArray, List.set_cons_succ, List.set_cons_zero]; go_big_quiet_on)
        | (refine quietC_load 3 _ rfl (some ⟨_, 3, none⟩) (.int .i64 (F 3)) rfl (fun X hX => ld_int (row_cell (tw_of hX).ti.five 3 rfl)) _ rfl ?_; simp only [Act.put, List.setIfInBounds_toArray, List.set_cons_succ, List.set_cons_zero]; go_big_quiet_on)
        | (refine quietC_load 31 _ rfl _ (.agg (row5 R)) rfl (fun X hX => ld_row5 (tw_of hX).ti.want) _ rfl ?_; simp only [Act.put, List.setIfInBounds_toArray, List.set_cons_succ, List.set_cons_zero]; go_big_quiet_on)
        | (go_big_quiet_op; first | go_big_quiet_on | go_big_quiet_call (first
          | (go_at_call 138; exact tw_call (pl_v (TW.h _) _ _))
          | (go_at_call 28; exact tw_call (ty_rv (TW.h _) _ _))
          | (go_at_call 142; exact tw_call (pl_alloc (TW.h _) hT.out HBN.out h5 HSO.out))))))
    refine wpQuiet_nil ?_
    rintro xHY1b hxHY1b
    have hHY1b := tw_of hxHY1b
    clear hxHY1b
    have HY1b : Hid (TY w xHY1b F R (gL w.heap.size m q l b tb sb s) N1 r (.slice yo1 n cy1) (.slice zo1 n cz1)) := hHY1b
    clear hHY1b HY1
    go_upto_region 17 with fail
    refine wp_region_quietC (C := (fun X => ∃ p : TW w F R (gL w.heap.size m q l b tb sb s) N1 r (.slice yo1 n cy1) (.slice zo1 n cz1), X = p.X)) (by kernel_rfl) (by kernel_rfl) ⟨⟨_, HY1b.out.drewN 1⟩, rfl⟩ ?_
    haveI : Nonempty (TW w F R (gL w.heap.size m q l b tb sb s) N1 r (.slice yo1 n cy1) (.slice zo1 n cz1)) := ⟨⟨_, HY1b.out⟩⟩
    (try simp only [List.append])
    repeat (first
      | go_big_quiet_skip
      | (go_big_quiet_want; first
        | (go_big_quiet_op; first | go_big_quiet_on | go_big_quiet_call (first
          | fail))))
    refine wpQuiet_nil ?_
    rintro xHY1c hxHY1c
    have hHY1c := tw_of hxHY1c
    clear hxHY1c
    have HY1c : Hid (TY w xHY1c F R (gL w.heap.size m q l b tb sb s) N1 r (.slice yo1 n cy1) (.slice zo1 n cz1)) := hHY1c
    clear hHY1c HY1b
    go_upto_region 19 with fail
    refine wp_region_quietC (C := (fun X => ∃ p : TW w F R (gL w.heap.size m q l b tb sb s) N1 r (.slice yo1 n cy1) (.slice zo1 n cz1), X = p.X)) (by kernel_rfl) (by kernel_rfl) ⟨⟨_, HY1c.out.drewN 1⟩, rfl⟩ ?_
    haveI : Nonempty (TW w F R (gL w.heap.size m q l b tb sb s) N1 r (.slice yo1 n cy1) (.slice zo1 n cz1)) := ⟨⟨_, HY1c.out⟩⟩
    (try simp only [List.append])
    repeat (first
      | go_big_quiet_skip
      | (go_big_quiet_want; first
        | (go_big_quiet_op; first | go_big_quiet_on | go_big_quiet_call (first
          | (go_at_call 28; exact tw_call (ty_rv (TW.h _) _ _))
          | (go_at_call 143; exact tw_call (pl_into_bad (TW.h _) h60 hkw.out hvi (Nat.lt_irrefl _)))
          | (go_at_call 29; exact tw_call (ty_ints_z (TW.h _) rfl h60 hr.out h.out))))))
    refine wpQuiet_nil ?_
    rintro xHY1d hxHY1d
    have hHY1d := tw_of hxHY1d
    clear hxHY1d
    have HY1d : Hid (TY w xHY1d F R (gL w.heap.size m q l b tb sb s) N1 r (.slice yo1 n cy1) (.slice zo1 n cz1)) := hHY1d
    clear hHY1d HY1c
    go_wp2
    have HT2 : Hid (TI w xHY1d F R (gL w.heap.size m q l b tb sb s)) := HY1d.out.ti
    clear HY1d
    rw [rounds_succ]
    have l0 : xHY1d.cell? ⟨l, 0, none⟩ = some (.iface 82 (.agg #[.pointer (some ⟨b, 0, none⟩)])) := row_cell HT2.out.tl 0 rfl
    have l1 : xHY1d.cell? ⟨l, 1, none⟩ = some (.iface 97 (.agg #[.pointer (some ⟨tb, 0, none⟩), .pointer (some ⟨sb, 0, none⟩)])) := row_cell HT2.out.tl 1 rfl
    go_upto_region 14 with (go_at_call 163; refine (qk_rank_bad HT2.out h60 hr.out hw.out (h.out.below HT2.out.low) hbad).mono ?_; rintro e w2c ⟨rfl, h13⟩; have HT2c : Hid (TI w w2c F R (gL w.heap.size m q l b tb sb s)) := h13; clear h13)
    clear l0 l1
    have hlt2 := HT2c.out.low.size
    have HE2 : Hid (OwnL (w2c.alloc (.cells #[] 3)) w2c.heap.size (.slice (some ⟨w2c.heap.size, 0, none⟩) 0 0) []) := OwnL.empty w2c (Nat.le_refl _)
    have HX2 : Hid (LAt (w2c.alloc (.cells #[] 3)) ao r) := (h.out.below HT2c.out.low).alloc _
    go_upto_region 15 with (first
      | (at_builtin; refine wpList_catA rfl _ _ rfl w2d.heap.size (.slice (some ⟨w2d.heap.size, 0, none⟩) 0 0) [] rfl HF2.out ao n cap r rfl hr.out HZ2.out (by decide) (by omega) (Nat.le_of_lt (by simp)) ?_; intro v' w2e h2 h3 h4; rw [List.nil_append] at h2; obtain ⟨zo2, cz2, ev, _, _, _⟩ := h2.slice; rw [hr.out] at ev; subst ev; have HV2 : Hid _ := And.intro h2 (And.intro h3 h4); clear h2 h3 h4)
      | (at_builtin; refine wpList_catA rfl _ _ rfl w2c.heap.size (.slice (some ⟨w2c.heap.size, 0, none⟩) 0 0) [] rfl HE2.out ao n cap r rfl hr.out HX2.out (by decide) (by omega) (Nat.le_of_lt (by simp)) ?_; intro v' w2d h2 h3 h4; rw [List.nil_append] at h2; obtain ⟨yo2, cy2, ev, _, _, _⟩ := h2.slice; rw [hr.out] at ev; subst ev; have HU2 : Hid _ := And.intro h2 (And.intro h3 h4); have HF2 : Hid (OwnL (w2d.alloc (.cells #[] 3)) w2d.heap.size (.slice (some ⟨w2d.heap.size, 0, none⟩) 0 0) []) := OwnL.empty w2d (Nat.le_refl _); have HZ2 : Hid (LAt (w2d.alloc (.cells #[] 3)) ao r) := (lat_row h.out HT2c.out.low h3).alloc _; clear h2 h3 h4))
    obtain ⟨N2, hN2⟩ : ∃ N, w2c.heap.size = N := ⟨_, rfl⟩
    have HY2 : Hid (TY w w2e F R (gL w.heap.size m q l b tb sb s) N2 r (.slice yo2 n cy2) (.slice zo2 n cz2)) := by
      obtain ⟨a1, a2, a3⟩ := HU2.out
      obtain ⟨b1, b2, b3⟩ := HV2.out
      obtain ⟨c1, c2, c3, c4⟩ := two_lists a1 (row_grown' (World.grownBy_alloc w2c _ none) a2 (fun q e => by cases e; exact Nat.le_refl _)) (own_some a3) b1 (row_grown' (World.grownBy_alloc w2d _ none) b2 (fun q e => by cases e; exact Nat.le_refl _)) (own_some b3)
      rw [← hN2]
      exact TY.start HT2c.out c1 c2 c3 c4 HT2c.out.qk.sh.lt
    clear HU2 HV2 HE2 HX2 HF2 HZ2 hlt2 hN2 HT2 HT2c
    refine wp_region_quietC (C := (fun X => ∃ p : TW w F R (gL w.heap.size m q l b tb sb s) N2 r (.slice yo2 n cy2) (.slice zo2 n cz2), X = p.X)) (by kernel_rfl) (by kernel_rfl) ⟨⟨_, HY2.out.drewN 1⟩, rfl⟩ ?_
    haveI : Nonempty (TW w F R (gL w.heap.size m q l b tb sb s) N2 r (.slice yo2 n cy2) (.slice zo2 n cz2)) := ⟨⟨_, HY2.out⟩⟩
    (try simp only [List.append])
    repeat (first
      | go_big_quiet_skip
      | (go_big_quiet_want; first
        | (refine quietC_load 29 _ rfl _ (.agg #[.int .i64 (F 0), .int .i64 (F 1)]) rfl (fun X hX => ld_md (tw_of hX).ti.md rfl) _ rfl ?_; simp only [Act.put, List.setIfInBounds_toArray, List.set_cons_succ, List.set_cons_zero]; go_big_quiet_on)
        | (refine quietC_load 3 _ rfl (some ⟨_, 2, none⟩) (.int .i64 (F 2)) rfl (fun X hX => ld_int (row_cell (tw_of hX).ti.five 2 rfl)) _ rfl ?_; simp only [Act.put, List.setIfInBounds_toArray, List.set_cons_succ, List.set_cons_zero]; go_big_quiet_on)
        | (refine quietC_load 3 _ rfl (some ⟨_, 3, none⟩) (.int .i64 (F 3)) rfl (fun X hX => ld_int (row_cell (tw_of hX).ti.five 3 rfl)) _ rfl ?_; simp only [Act.put, List.setIfInBounds_toArray, List.set_cons_succ, List.set_cons_zero]; go_big_quiet_on)
        | (refine quietC_load 31 _ rfl _ (.agg (row5 R)) rfl (fun X hX => ld_row5 (tw_of hX).ti.want) _ rfl ?_; simp only [Act.put, List.setIfInBounds_toArray, List.set_cons_succ, List.set_cons_zero]; go_big_quiet_on)
        | (go_big_quiet_op; first | go_big_quiet_on | go_big_quiet_call (first
          | (go_at_call 97; exact tw_call (qk_v (TW.h _) _ _))
          | (go_at_call 28; exact tw_call (ty_rv (TW.h _) _ _))
          | (go_at_call 167; exact tw_call (qk_alloc (TW.h _) hT.out HBN.out h5 HSO.out))))))
    refine wpQuiet_nil ?_
    rintro xHY2b hxHY2b
    have hHY2b := tw_of hxHY2b
    clear hxHY2b
    have HY2b : Hid (TY w xHY2b F R (gL w.heap.size m q l b tb sb s) N2 r (.slice yo2 n cy2) (.slice zo2 n cz2)) := hHY2b
    clear hHY2b HY2
    go_upto_region 17 with fail
    refine wp_region_quietC (C := (fun X => ∃ p : TW w F R (gL w.heap.size m q l b tb sb s) N2 r (.slice yo2 n cy2) (.slice zo2 n cz2), X = p.X)) (by kernel_rfl) (by kernel_rfl) ⟨⟨_, HY2b.out.drewN 1⟩, rfl⟩ ?_
    haveI : Nonempty (TW w F R (gL w.heap.size m q l b tb sb s) N2 r (.slice yo2 n cy2) (.slice zo2 n cz2)) := ⟨⟨_, HY2b.out⟩⟩
    (try simp only [List.append])
    repeat (first
      | go_big_quiet_skip
      | (go_big_quiet_want; first
        | (go_big_quiet_op; first | go_big_quiet_on | go_big_quiet_call (first
          | fail))))
    refine wpQuiet_nil ?_
    rintro xHY2c hxHY2c
    have hHY2c := tw_of hxHY2c
    clear hxHY2c
    have HY2c : Hid (TY w xHY2c F R (gL w.heap.size m q l b tb sb s) N2 r (.slice yo2 n cy2) (.slice zo2 n cz2)) := hHY2c
    clear hHY2c HY2b
    go_upto_region 19 with fail
    refine wp_region_quietC (C := (fun X => ∃ p : TW w F R (gL w.heap.size m q l b tb sb s) N2 r (.slice yo2 n cy2) (.slice zo2 n cz2), X = p.X)) (by kernel_rfl) (by kernel_rfl) ⟨⟨_, HY2c.out.drewN 1⟩, rfl⟩ ?_
    haveI : Nonempty (TW w F R (gL w.heap.size m q l b tb sb s) N2 r (.slice yo2 n cy2) (.slice zo2 n cz2)) := ⟨⟨_, HY2c.out⟩⟩
    (try simp only [List.append])
    repeat (first
      | go_big_quiet_skip
      | (go_big_quiet_want; first
        | (go_big_quiet_op; first | go_big_quiet_on | go_big_quiet_call (first
          | (go_at_call 28; exact tw_call (ty_rv (TW.h _) _ _))
          | (go_at_call 162; exact tw_call (qk_into_bad (TW.h _) h60 hvi (Nat.lt_irrefl _)))
          | (go_at_call 29; exact tw_call (ty_ints_z (TW.h _) rfl h60 hr.out h.out))))))
    refine wpQuiet_nil ?_
    rintro xHY2d hxHY2d
    have hHY2d := tw_of hxHY2d
    clear hxHY2d
    have HY2d : Hid (TY w xHY2d F R (gL w.heap.size m q l b tb sb s) N2 r (.slice yo2 n cy2) (.slice zo2 n cz2)) := hHY2d
    clear hHY2d HY2c
    go_wp2
    have HT3 : Hid (TI w xHY2d F R (gL w.heap.size m q l b tb sb s)) := HY2d.out.ti
    clear HY2d
    rw [rounds_succ]
    go_wp2
    go_returns
    exact ⟨rfl, HT3.out.low⟩

theorem tools_long (w : World) (ao : Option Addr) (n cap : Nat) (k : Int) (F : Nat → Int) (h60 : 60 < n) :
    Calls Tryz.prog 6 #[.slice ao n cap, .int .i64 k, .agg (row5 F)] w fun e w' => e = .returned (.bool true) ∧ Below w.heap.size w w' := by
  have hn60 : (60 : Int) < n := by omega
  have HA0 : Hid (Below w.heap.size w (w.alloc (.cells (row5 F) 31))) := (Below.refl _ _).alloc (Nat.le_refl _) _
  go_enter Tryz.func6, Tryz.ntmps6
  go_wp2_with fail
  refine (awake16 _).mono ?_
  rintro e w1 ⟨rfl, hb1⟩
  have HA1 : Hid (Below w.heap.size w w1) := HA0.out.trans (hb1.mono HA0.out.size)
  clear hb1 HA0
  go_wp2
  go_returns
  exact ⟨rfl, HA1.out⟩
theorem tools_law (w : World) (ao : Option Addr) (n cap : Nat) (f : Nat → Int) (k : Int) (F : Nat → Int) (hnc : n ≤ cap) (hcm : cap ≤ 9223372036854775807) (h : IntsAt w ao n .i64 f) (hw : ∀ i, i < n → (Lit.int .i64 (f i)).wf = true) (hkw : (Lit.int .i64 k).wf = true) (hT : Hid (WTab w)) :
    Calls Tryz.prog 6 #[.slice ao n cap, .int .i64 k, .agg (row5 F)] w fun e w' => e = .returned (.bool true) ∧ Below w.heap.size w w' := by
  by_cases h60 : n ≤ 60
  · have hr : Hid (((List.range n).map f).length = n) := by show _ = _; simp
    have hL := LAt.of_ints h
    have hW := WfL.of_wf hw
    by_cases hg : n ≤ 16 ∧ pul ((List.range n).map f) ≤ 32
    · exact tools_good w ao n cap _ k F hnc hcm h60 hr hW hL hkw hT hg.1 _ hg.2 rfl _ rfl
    · exact tools_bad w ao n cap _ k F hnc hcm h60 hr hW hL hkw hT (by omega)
  · exact tools_long w ao n cap k F (by omega)
end Go.Proofs.YtfgpmdikkncckaaGreatDoor
