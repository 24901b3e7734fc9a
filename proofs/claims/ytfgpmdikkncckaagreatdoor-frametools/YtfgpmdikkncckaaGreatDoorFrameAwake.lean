/-
  The document's example of layer 16 (awake): tools of either kind are made, and a silent frame is read by a reader. Nothing that was there has turned.
-/
import Derived.Test.YtfgpmdikkncckaaGreatDoorFrameJob
import Derived.Test.YtfgpmdikkncckaaGreatDoorCostNew
import Derived.Test.YtfgpmdikkncckaaGreatDoorMrgR
namespace Go.Proofs.YtfgpmdikkncckaaGreatDoor
set_option linter.unusedVariables false
set_option linter.unusedSimpArgs false
set_option maxRecDepth 100000
open Go.ChangeShapes Go.WideShapes Go.ChangeAt Go.RowKit

theorem share_new16 (w : World) (q : Nat) : Calls Tryz.prog 38 #[.pointer (some ⟨q, 0, none⟩)] w fun e w' => e = .returned (.pointer (some ⟨w.heap.size, 0, none⟩)) ∧ w' = w.alloc (.cells #[.pointer (some ⟨q, 0, none⟩)] 126) := by
  go_enter Tryz.func38, Tryz.ntmps38
  go_wp2
  go_returns
  exact ⟨rfl, rfl⟩

/-- Quick tools: a table at tb, a share at b, whose sheet is at q. -/
structure QkAt (w : World) (tb b q : Nat) : Prop where
  tab : TabAt w tb
  ptr : w.cell? ⟨b, 0, none⟩ = some (.pointer (some ⟨q, 0, none⟩))
  sh : ShAt w q
theorem QkAt.below {w w' : World} {tb b q : Nat} (h : QkAt w tb b q) (hb : Below w.heap.size w w') : QkAt w' tb b q :=
  ⟨h.tab.below hb, by rw [hb.cell (block_lt_of_cell h.ptr)]; exact h.ptr, h.sh.below hb⟩
def quickV (tb b : Nat) : Value := .iface 97 (.agg #[.pointer (some ⟨tb, 0, none⟩), .pointer (some ⟨b, 0, none⟩)])
def plainV (b : Nat) : Value := .iface 82 (.agg #[.pointer (some ⟨b, 0, none⟩)])

theorem quick_any (w : World) : Calls Tryz.prog 15 #[] w fun e w' => ∃ tb b q, e = .returned (quickV tb b) ∧ QkAt w' tb b q ∧ w.heap.size ≤ tb ∧ w.heap.size ≤ b ∧ w.heap.size ≤ q ∧ Below w.heap.size w w' := by
  go_enter Tryz.func15, Tryz.ntmps15
  go_wp2_with fail
  refine (tnew_any _).mono ?_
  rintro e w1 ⟨tb, rfl, hle1, hT1, hb1⟩
  have HT1 : Hid (TabAt w1 tb) := hT1
  go_wp2_with fail
  refine (snew_any _ tb HT1).mono ?_
  rintro e w2 ⟨q, rfl, hle2, hS2, hb2⟩
  have HS2 : Hid (ShAt w2 q) := hS2
  have HT2 : Hid (TabAt w2 tb) := HT1.out.below hb2
  have HB2 : Hid (Below w.heap.size w w2) := hb1.trans (hb2.mono hb1.size)
  have hq : w.heap.size ≤ q := Nat.le_trans hb1.size hle2
  clear hT1 hb1 HT1 hS2 hb2 hle2
  go_wp2_with fail
  refine (share_new16 _ q).mono ?_
  rintro e w3 ⟨rfl, hw⟩
  have HB3 : Hid (Below w.heap.size w w3) := by rw [hw]; exact HB2.out.alloc HB2.out.size _
  have HS3 : Hid (QkAt w3 tb w2.heap.size q) := by
    rw [hw]
    exact ⟨HT2.out.below (gN_below (gN_alloc (gN_refl w2) _)), cell_of_row _ _ 0 _ _ _ (heap_alloc_new w2 _), HS2.out.below (gN_below (gN_alloc (gN_refl w2) _))⟩
  have hsz := HB2.out.size
  clear hw HB2
  go_wp2
  go_returns
  exact ⟨tb, w2.heap.size, q, rfl, HS3.out, hle1, hsz, hq, HB3.out⟩

theorem plain_any (w : World) : Calls Tryz.prog 12 #[] w fun e w' => ∃ b, e = .returned (plainV b) ∧ Bk w' b none ∧ Below w.heap.size w w' ∧ w.heap.size ≤ b := by
  go_enter Tryz.func12, Tryz.ntmps12
  go_wp2_with fail
  refine (newb_calls _).mono ?_
  rintro e w1 ⟨b, rfl, hB, hb, hle⟩
  have HB : Hid (Bk w1 b none) := hB
  have HL : Hid (Below w.heap.size w w1) := hb
  clear hB hb
  go_wp2
  go_returns
  exact ⟨b, rfl, HB.out, HL.out, hle⟩

set_option maxHeartbeats 4000000 in
/-- A silent frame is read: the first number is 1. -/
theorem read_one (w0 w : World) (lo hi br n : Nat) (p : Nat → Int) (m : Re) (s c : Int) (t : TypeId) (v : Value) (P : Nat → Int) (hr : right s c) (hn : n ≤ 100000) (hk : (m.num p 32 0).tk ≤ 800000) (hk0 : m.tk ≤ 800000) (hl : m.nb ≤ 700000) (hl1 : (m.num p 32 0).nb ≤ 700000)
    (hp : Hid (Bx n p)) (hg : Hid m.Good) (hV : Hid (m.numV n p 32 0 = 1)) (hL : Hid (0 ≤ (m.num p 32 0).left n)) (h : Hid (RdAt w lo hi br n p m)) (hhi : hi ≤ w.heap.size) (h0 : Hid (Below w0.heap.size w0 w)) (hb0 : w0.heap.size ≤ br) :
    Calls Tryz.prog 10 #[.pointer (some ⟨br, 0, none⟩), .iface t v, (.agg #[.int .i64 (s), .int .i64 (c)]), .agg (row10 P)] w fun e w' => e = .returned (.tuple #[.agg SF, .int .u32 (m.num p 32 0).rng, .bool true]) ∧ RdAt w' lo hi br n p (m.num p 32 0) ∧ Below w0.heap.size w0 w' := by
  have hX : ∀ w1, Below (((w.alloc (.cells #[.int .i64 s, .int .i64 c] 29)).alloc (.cells (row10 P) 32)).alloc (.cells ZF 37)).heap.size (((w.alloc (.cells #[.int .i64 s, .int .i64 c] 29)).alloc (.cells (row10 P) 32)).alloc (.cells ZF 37)) w1 →
      w1.heap[w.heap.size]? = some (.cells #[.int .i64 s, .int .i64 c] 29 (0, 0)) ∧ w1.heap[w.heap.size + 1]? = some (.cells (row10 P) 32 (0, 0)) ∧ w1.heap[w.heap.size + 2]? = some (.cells ZF 37 (0, 0)) ∧ w.heap.size + 2 < w1.heap.size ∧ RdAt w1 lo hi br n p m ∧ Below w0.heap.size w0 w1 := by
    intro w1 hb
    have hz : (((w.alloc (.cells #[.int .i64 s, .int .i64 c] 29)).alloc (.cells (row10 P) 32)).alloc (.cells ZF 37)).heap.size = w.heap.size + 3 := by simp
    obtain ⟨a1, a2, a3⟩ := heap_threeF w (.cells #[.int .i64 s, .int .i64 c] 29) (.cells (row10 P) 32) (.cells ZF 37)
    have hg : w.grownBy (((w.alloc (.cells #[.int .i64 s, .int .i64 c] 29)).alloc (.cells (row10 P) 32)).alloc (.cells ZF 37)) none := gN_alloc (gN_alloc (gN_alloc (gN_refl w) _) _) _
    have hb2 : Below w.heap.size w w1 := (gN_below hg).trans (hb.mono (by omega))
    have hsz := hb.size
    rw [hz] at hsz
    refine ⟨(hb.block _ (by omega)).trans a1, (hb.block _ (by omega)).trans a2, (hb.block _ (by omega)).trans a3, by omega, ?_, h0.out.trans (hb2.mono h0.out.size)⟩
    obtain ⟨vv, hh⟩ := h.out
    exact ⟨vv, hh.kept (gN_of_below hb2) (by intro q e; cases e)⟩
  go_enter Tryz.func10, Tryz.ntmps10
  go_upto_region 3 with (first
    | (refine wl_allocF rfl rfl ?_)
    | (go_at_call 30; refine (right_yes _ _ _ hr).mono ?_; rintro e w1 ⟨rfl, hb1⟩; have HX : Hid _ := hX w1 hb1; clear hb1 hX))
  obtain ⟨x1, x2, x3, x4, x5, x6⟩ := HX.out
  have c1 : w1.cell? ⟨w.heap.size, 0, none⟩ = some (.int .i64 s) := row_cell x1 0 rfl
  have c2 : w1.cell? ⟨w.heap.size, 1, none⟩ = some (.int .i64 c) := row_cell x1 1 rfl
  have HJ : Hid (JR w0 (w1.alloc (.cells (jobC ZF s c (.pointer (some ⟨br, 0, none⟩)) (.iface t v)) 73)) lo hi br n p m w1.heap.size ZF s c (.iface t v) (w.heap.size + 2) (.cells ZF 37 (0, 0))) :=
    ⟨x5.keep (World.grownBy_alloc w1 _ none), ⟨heap_alloc_new w1 _, rfl⟩, x6.alloc x6.size _, hb0, by omega, (heap_alloc_old w1 _ (by omega)).trans x3, by omega, by omega⟩
  have x2' : (w1.alloc (.cells (jobC ZF s c (.pointer (some ⟨br, 0, none⟩)) (.iface t v)) 73)).heap[w.heap.size + 1]? = some (.cells (row10 P) 32 (0, 0)) := (heap_alloc_old w1 _ (by omega)).trans x2
  have HX2 : Hid _ := x2'
  have HX1 : Hid _ := x1
  clear x1 x2 x3 x5 x6 x2' HX
  go_upto_region 5 with (first
    | (refine wl_buildJ rfl _ _ _ rfl s c _ t v rfl rfl rfl ?_)
    | (refine wl_load10 rfl _ rfl (w.heap.size + 1) P rfl HX2.out ?_)
    | (go_at_call 31; refine (jread_one w0 _ lo hi br n p m w1.heap.size s c (.iface t v) (w.heap.size + 2) (.cells ZF 37 (0, 0)) P hn hk0 hl hp hg hV HJ).mono ?_; rintro e w2 ⟨rfl, h2⟩; have H2 : Hid (JR w0 w2 lo hi br n p (m.num p 32 0) w1.heap.size SF s c (.iface t v) (w.heap.size + 2) (.cells ZF 37 (0, 0))) := h2; clear h2))
  go_upto_region 7 with (go_at_call 19; refine (rdleft _ lo hi br n p _ hn (Nat.le_trans hk (by decide)) (Nat.le_trans hl1 (by decide)) H2.out.rd).mono ?_; rintro e w3 ⟨rfl, hw⟩; have H3 : Hid (JR w0 w3 lo hi br n p (m.num p 32 0) w1.heap.size SF s c (.iface t v) (w.heap.size + 2) (.cells ZF 37 (0, 0))) := (by rw [hw]; exact H2.out.keep (grown_drew (grown_refl _ _))); have hlt' : ¬ (m.num p 32 0).left n < 0 := Int.not_lt.2 hL.out; clear hw)
  have hst := store94 w3 (w.heap.size + 2) SF ZF H3.out.rs rfl rfl SF_one
  go_wp2_with (refine wl_loadJ rfl _ rfl w1.heap.size SF s c _ _ rfl H3.out.job ?_)
  refine bodyPost_ret (results_frame rfl _ _ (w.heap.size + 2) SF (0, 0) _ _ rfl rfl rfl (by exact setRowF_heap H3.out.rs) rfl) rfl ⟨rfl, ?_, ?_⟩
  · exact H3.out.rd.kept (setRowF_grown w3 (w.heap.size + 2) SF) (by intro q e; cases e; exact .inr H3.out.r0)
  · exact below_setRow H3.out.low (by have := H3.out.low.size; have := h0.out.size; omega) _

/-- The packet of the example. -/
def ex16 (i : Nat) : Int := [8, 0, 0, 0].getD i 0
theorem ex16_bx : Bx 4 ex16 := by
  have h : ∀ i : Fin 4, 0 ≤ ex16 i ∧ ex16 i ≤ 255 := by decide
  have z : ∀ i, 4 ≤ i → ex16 i = 0 := by
    intro i hi
    obtain ⟨k, rfl⟩ := Nat.exists_eq_add_of_le hi
    rw [Nat.add_comm]
    rfl
  refine ⟨fun i => ?_, fun i hi => z i hi⟩
  by_cases hi : i < 4
  · exact h ⟨i, hi⟩
  · rw [z i (by omega)]; decide
theorem ex16_v : (Re.new ex16).numV 4 ex16 32 0 = 1 := by decide +kernel
theorem ex16_l : 0 ≤ ((Re.new ex16).num ex16 32 0).left 4 := by decide +kernel
theorem ex16_r : ((Re.new ex16).num ex16 32 0).rng = 524288 := by decide +kernel
theorem ex16_k : ((Re.new ex16).num ex16 32 0).tk ≤ 800000 := by decide +kernel
theorem ex16_k0 : (Re.new ex16).tk ≤ 800000 := by decide +kernel
theorem ex16_n : ((Re.new ex16).num ex16 32 0).nb ≤ 700000 := by decide +kernel
theorem ex16_n0 : (Re.new ex16).nb ≤ 700000 := by decide +kernel
theorem tools_no (t : TypeId) (v : Value) (w : World) : (binOp .eql 44 (.iface t v) .nilIface).run Tryz.prog w = .ok (.bool false) w := by kernel_rfl

set_option maxHeartbeats 4000000 in
theorem awake16 (w : World) : Calls Tryz.prog 7 #[] w fun e w' => e = .returned (.bool true) ∧ Below w.heap.size w w' := by
  have HX : Hid (Bx 4 ex16) := ex16_bx
  have HG : Hid (Re.new ex16).Good := new_good ex16_bx
  have HV : Hid ((Re.new ex16).numV 4 ex16 32 0 = 1) := ex16_v
  have HL : Hid (0 ≤ ((Re.new ex16).num ex16 32 0).left 4) := ex16_l
  have hR : right 0 1 := by unfold right; omega
  have e1 := tools_no
  have e2 := fr_eqS
  go_enter Tryz.func7, Tryz.ntmps7
  go_wp2_with fail
  refine (quick_any _).mono ?_
  rintro e w1 ⟨tb, b, q, rfl, _, _, _, _, hb1⟩
  have HB1 : Hid (Below w.heap.size w w1) := hb1
  clear hb1
  unfold quickV
  go_wp2_with fail
  refine (plain_any _).mono ?_
  rintro e w2 ⟨b2, rfl, _, hb2, _⟩
  have HB2 : Hid (Below w.heap.size w w2) := HB1.out.trans (hb2.mono HB1.out.size)
  clear hb2 HB1
  unfold plainV
  have HI : Hid (IntsAt (w2.alloc (.cells #[.int .u8 8, .int .u8 0, .int .u8 0, .int .u8 0] 5)) (some ⟨w2.heap.size, 0, none⟩) 4 .u8 ex16) := by
    intro i hi
    refine ⟨_, _, rfl, ?_⟩
    rw [Nat.zero_add, cell_of_row _ _ i _ _ _ (heap_alloc_new w2 _)]
    match i, hi with
    | 0, _ | 1, _ | 2, _ | 3, _ => rfl
  have HB3 : Hid (Below w.heap.size w (w2.alloc (.cells #[.int .u8 8, .int .u8 0, .int .u8 0, .int .u8 0] 5))) := HB2.out.alloc HB2.out.size _
  clear HB2
  go_wp2_with fail
  refine (rdnew _ _ 4 4 ex16 (by decide) HX HI).mono ?_
  rintro e w4 ⟨br, rfl, h4, hb4⟩
  have H4 : Hid (RdAt w4 _ w4.heap.size br 4 ex16 (Re.new ex16)) := h4
  have HB4 : Hid (Below w.heap.size w w4) := HB3.out.trans (hb4.mono HB3.out.size)
  have hbr : w.heap.size ≤ br := Nat.le_trans HB3.out.size h4.lt.1
  clear h4 hb4 HB3 HI
  go_wp2_with fail
  refine (read_one w _ _ _ br 4 ex16 (Re.new ex16) 0 1 _ _ (fun _ => 0) hR (by decide) ex16_k ex16_k0 ex16_n0 ex16_n HX HG HV HL H4 (Nat.le_refl _) HB4 hbr).mono ?_
  rw [ex16_r]
  rintro e w5 ⟨rfl, _, hb5⟩
  have HB5 : Hid (Below w.heap.size w w5) := hb5
  have hst := store94_new w5 SF rfl SF_one
  have HB6 : Hid (Below w.heap.size w (w5.alloc (.cells SF 37))) := HB5.out.alloc HB5.out.size _
  clear hb5 H4 HB4 HB5
  go_wp2_with (first
    | (refine wl_allocF rfl rfl ?_)
    | (refine wl_loadF rfl _ rfl w5.heap.size SF rfl (heap_alloc_new w5 _) rfl ?_)
    | (refine wl_buildF1 rfl rfl ?_))
  go_returns
  exact ⟨rfl, HB6.out⟩
end Go.Proofs.YtfgpmdikkncckaaGreatDoor
