/-
  What All of package spinetref10 answers: all vectors of few numbers with few pulses, in order. Nothing that was there is turned.
-/
import Derived.Test.YtgjbnkkjajljmaaCountLaws
import Derived.Test.YtgjbnkkjajljmaaLists
import Derived.Deep.DeepCutAuto
namespace Go.Proofs.Ytgjbnkkjajljmaa
set_option linter.unusedVariables false
open Go.ChangeShapes Go.WideShapes Go.ChangeAt Go.RowKit

/-- The vectors that begin with a. -/
def half (n k m : Nat) (a : Int) : List (List Int) := (allL n (k - m)).map (fun r => a :: r)
/-- .. with m as the first one's magnitude, the first s signs. -/
def sd (n k m : Nat) : Nat → List (List Int)
  | 0 => []
  | 1 => half n k m m
  | _ => half n k m m ++ (if m = 0 then [] else half n k m (-(m : Int)))
def pre (n k : Nat) : Nat → List (List Int)
  | 0 => []
  | m + 1 => pre n k m ++ sd n k m 2
theorem pre_is (n k : Nat) : ∀ m, pre n k m = (List.range m).flatMap (fun m => sd n k m 2)
  | 0 => rfl
  | m + 1 => by rw [pre, pre_is n k m, List.range_succ, List.flatMap_append]; simp
theorem all_pre (n k : Nat) : allL (n + 1) k = pre n k (k + 1) := by rw [pre_is]; rfl
theorem chk_len : all2 5 6 (fun n k => Nat.ble (allL n k).length 1000) = true := by kernel_rfl
theorem allL_len {n k : Nat} (hn : n ≤ 4) (hk : k ≤ 5) : (allL n k).length ≤ 1000 := Nat.le_of_ble_eq_true (all2_at chk_len (by omega) (by omega))
theorem half_len {n k m : Nat} {a : Int} (hn : n ≤ 4) (hk : k ≤ 5) : (half n k m a).length ≤ 1000 := by unfold half; rw [List.length_map]; exact allL_len hn (by omega)
theorem sd_len {n k m s : Nat} (hn : n ≤ 4) (hk : k ≤ 5) : (sd n k m s).length ≤ 2000 := by
  have h1 := half_len (m := m) (a := m) hn hk
  have h2 := half_len (m := m) (a := -(m : Int)) hn hk
  match s with
  | 0 => simp [sd]
  | 1 => rw [sd]; omega
  | s + 2 =>
    show (half n k m m ++ (if m = 0 then [] else half n k m (-(m : Int)))).length ≤ 2000
    rw [List.length_append]
    split
    · simp; omega
    · omega
theorem pre_len {n k : Nat} (hn : n ≤ 4) (hk : k ≤ 5) : ∀ m, (pre n k m).length ≤ m * 2000
  | 0 => by simp [pre]
  | m + 1 => by
    have ih := pre_len hn hk m
    have := sd_len (m := m) (s := 2) hn hk
    rw [pre, List.length_append]
    omega
theorem allL_row : ∀ (n k : Nat) (r : List Int), r ∈ allL n k → r.length = n
  | 0, k, r, h => by
    rw [allL] at h
    split at h
    · simp at h; subst h; rfl
    · cases h
  | n + 1, k, r, h => by
    rw [allL, List.mem_flatMap] at h
    obtain ⟨m, _, h⟩ := h
    rcases List.mem_append.1 h with h | h
    · obtain ⟨q, hq, rfl⟩ := List.mem_map.1 h
      rw [List.length_cons, allL_row n _ q hq]
    · split at h
      · cases h
      · obtain ⟨q, hq, rfl⟩ := List.mem_map.1 h
        rw [List.length_cons, allL_row n _ q hq]
theorem take_more {L : List (List Int)} {a : Int} {i : Nat} {r : List Int} (h : L[i]? = some r) : (L.take i).map (fun r => a :: r) ++ [a :: r] = (L.take (i + 1)).map (fun r => a :: r) := by
  rw [List.take_add_one, h]
  simp

set_option maxHeartbeats 1000000 in
theorem all_zero (w : World) (k : Nat) : Calls Try.prog 17 #[.int .i64 0, .int .i64 k] w fun e w' => ∃ v, e = .returned v ∧ OwnLL w' w.heap.size v (allL 0 k) ∧ Below w.heap.size w w' := by
  by_cases hk : k = 0
  · subst hk
    go_enter Try.func17, Try.ntmps17
    go_wp2_with (at_builtin; refine wpList_pushLL rfl _ _ rfl w.heap.size _ [] rfl (OwnLL.nil _ _) w.heap.size (.slice none 0 0) [] rfl (heap_alloc_new _ _) (OwnL.nil _ _) (by decide) (by simp) ?_; intro g cap w2 h1 h2 h3 h4)
    have HL : Hid (OwnLL w2 w.heap.size (.slice (some ⟨g, 0, none⟩) 1 cap) [[]]) := h1
    have HB : Hid (Below w.heap.size w w2) := ((Below.refl _ _).alloc (Nat.le_refl _) _).grown h2 (by simp) (fun q e => by cases e)
    clear h1 h2 h3 h4
    go_wp2
    go_ret
    exact ⟨_, rfl, HL.out, HB.out⟩
  · have hk' : ¬ (k : Int) = 0 := by omega
    have e : allL 0 k = [] := by rw [allL, if_neg hk]
    rw [e]
    go_enter Try.func17, Try.ntmps17
    go_wp2
    go_ret
    exact ⟨_, rfl, OwnLL.nil _ _, Below.refl _ _⟩

theorem row_grown {w w1 w2 : World} {row : Option Nat} (h : w.grownBy w1 none) (hg : w1.grownBy w2 row) (hr : ∀ q, row = some q → w.heap.size ≤ q) : w.grownBy w2 none :=
  ⟨hg.os.trans h.os, hg.tape.trans h.tape, hg.output.trans h.output, Nat.le_trans h.size hg.size, fun i hi _ => (hg.block i (Nat.lt_of_lt_of_le hi h.size) (fun e => by have := hr i e.symm; omega)).trans (h.block i hi (by simp))⟩

theorem all_as {n : Nat} (ih : ∀ (k : Nat), k ≤ 5 → ∀ (w : World), Calls Try.prog 17 #[.int .i64 n, .int .i64 k] w fun e w' => ∃ v, e = .returned v ∧ OwnLL w' w.heap.size v (allL n k) ∧ Below w.heap.size w w')
    (x y : Int) (k : Nat) (hk : k ≤ 5) (w : World) (hx : x = n) (hy : y = k) : Calls Try.prog 17 #[.int .i64 x, .int .i64 y] w fun e w' => ∃ v, e = .returned v ∧ OwnLL w' w.heap.size v (allL n k) ∧ Below w.heap.size w w' := by
  subst hx hy
  exact ih k hk w

set_option maxHeartbeats 1000000 in
set_option maxRecDepth 20000 in
theorem all_step (n : Nat) (hn : n ≤ 3) (ih : ∀ (k : Nat), k ≤ 5 → ∀ (w : World), Calls Try.prog 17 #[.int .i64 n, .int .i64 k] w fun e w' => ∃ v, e = .returned v ∧ OwnLL w' w.heap.size v (allL n k) ∧ Below w.heap.size w w')
    (k : Nat) (hk : k ≤ 5) (w : World) : Calls Try.prog 17 #[.int .i64 ((n : Int) + 1), .int .i64 k] w fun e w' => ∃ v, e = .returned v ∧ OwnLL w' w.heap.size v (allL (n + 1) k) ∧ Below w.heap.size w w' := by
  have hn0 : ¬ (n : Int) + 1 = 0 := by omega
  have hn1 : ((n : Int) + 1 == 0) = false := by simp; omega
  go_enter Try.func17, Try.ntmps17
  go_wp2_with fail
  go_loopw [5, 6] (fun v i wr => ∃ m : Nat, m ≤ k + 1 ∧ i = .int .i64 m ∧ Hid (OwnLL wr w.heap.size v (pre n k m)) ∧ Hid (Below w.heap.size w wr)) (fun _ i _ => k + 1 - (intOf i).toNat)
  case atStart => exact ⟨0, by omega, rfl, OwnLL.nil _ _, Below.refl _ _⟩
  case round =>
    obtain ⟨m, hm, rfl, HO, HB⟩ := hrel
    by_cases hmk : m ≤ k
    · have hmk' : (m : Int) ≤ (k : Int) := by omega
      go_wp2_with fail
      go_loopw [5, 7] (fun v i wr => ∃ s : Nat, s ≤ 2 ∧ i = .int .i64 s ∧ Hid (OwnLL wr w.heap.size v (pre n k m ++ sd n k m s)) ∧ Hid (Below w.heap.size w wr)) (fun _ i _ => 2 - (intOf i).toNat)
      case atStart => exact ⟨0, by omega, rfl, by rw [sd, List.append_nil]; exact HO, HB⟩
      case round =>
        clear HO HB
        obtain ⟨s, hs, rfl, HO, HB⟩ := hrel
        have hpl := pre_len (n := n) (k := k) (by omega) hk m
        have hsl := sd_len (n := n) (k := k) (m := m) (s := s) (by omega) hk
        obtain ⟨P, hP⟩ : ∃ P, pre n k m ++ sd n k m s = P := ⟨_, rfl⟩
        have hPL : P.length ≤ 12000 := by rw [← hP, List.length_append]; omega
        rw [hP] at HO
        have HP : Hid _ := hP
        clear hP hpl hsl
        obtain ⟨w3, rfl⟩ : ∃ x, x = wr := ⟨_, rfl⟩
        by_cases s0 : s = 0
        · subst s0
          go_upto_region 12 with fail
          go_cut [34] (fun v wc => v = .bool false ∧ w3 = wc)
          case first =>
            by_cases m0 : m = 0
            · subst m0
              go_wp2
              go_meet
              exact ⟨rfl, rfl⟩
            · have m0' : ¬ (m : Int) = 0 := by omega
              go_wp2
              go_meet
              exact ⟨rfl, rfl⟩
          case rest =>
            obtain ⟨rfl, rfl⟩ := hcut
            go_wp2_with fail
            refine (all_as ih _ _ (k - m) (by omega) w3 (by omega) (by omega)).mono ?_
            rintro e w4 ⟨vr, rfl, hL4, hb4⟩
            obtain ⟨ar, cr, rfl, hc1, hc2, _⟩ := hL4.slice
            have hLL := allL_len (n := n) (k := k - m) (by omega) (by omega)
            have HR : Hid (OwnLL w4 w3.heap.size (.slice ar (allL n (k - m)).length cr) (allL n (k - m))) := hL4
            have hgr4 : w3.grownBy w4 none := ⟨hb4.os, hb4.tape, hb4.output, hb4.size, fun i hi _ => hb4.block i hi⟩
            have HO4 : Hid (OwnLL w4 w.heap.size u5 P) := HO.out.keep hgr4
            have HB4 : Hid (Below w.heap.size w w4) := HB.out.trans (hb4.mono HB.out.size)
            have HQ4 : Hid (∀ q, u5.ownBlock = some q → q < w3.heap.size ∨ w4.heap.size ≤ q) := fun q e => .inl (HO.out.lt e).2
            have hs4 : w3.heap.size ≤ w4.heap.size := hb4.size
            have hs5 : w.heap.size ≤ w3.heap.size := HB.out.size
            clear hL4 hb4 hgr4 HO HB
            obtain ⟨R, hR⟩ : ∃ R, allL n (k - m) = R := ⟨_, rfl⟩
            have HRR : Hid _ := hR
            have HROW : Hid (∀ r, r ∈ R → r.length = n) := fun r hr => allL_row n (k - m) r (by rw [hR]; exact hr)
            rw [hR] at hLL HR ⊢
            clear hR hc1
            go_wp2_with fail
            go_loopw [5, 10] (fun v i wr => ∃ c : Nat, c ≤ R.length ∧ i = .int .i64 c ∧ Hid (OwnLL wr w.heap.size v (P ++ (R.take c).map (fun r => (m : Int) :: r))) ∧ Hid (Below w.heap.size w wr) ∧ Hid (∀ q, v.ownBlock = some q → q < w3.heap.size ∨ w4.heap.size ≤ q) ∧ Hid (∀ i, w3.heap.size ≤ i → i < w4.heap.size → wr.heap[i]? = w4.heap[i]?) ∧ w4.heap.size ≤ wr.heap.size) (fun _ i _ => R.length - (intOf i).toNat)
            case atStart => exact ⟨0, by omega, rfl, by rw [List.take_zero, List.map_nil, List.append_nil]; exact HO4, HB4, HQ4, fun _ _ _ => rfl, Nat.le_refl _⟩
            case round =>
              clear HO4 HB4 HQ4
              obtain ⟨c, hc, rfl, HO, HB, HQ, HK, hs6⟩ := hrel
              by_cases hlt : c < R.length
              · have hlt' : (c : Int) < (R.length : Int) := by omega
                obtain ⟨r, hr⟩ : ∃ r, R[c]? = some r := ⟨_, List.getElem?_eq_getElem hlt⟩
                have HRL : Hid (r.length = n) := HROW.out r (List.mem_of_getElem? hr)
                obtain ⟨gr, cr', er, _, _, _, _⟩ := HR.out.form (by omega)
                cases er
                have HRr : Hid (OwnLL wr w3.heap.size (.slice (some ⟨gr, 0, none⟩) R.length cr) R) := HR.out.same HK.out
                obtain ⟨x, hx, hxr⟩ := HRr.out.at hr
                obtain ⟨ax, cx, rfl, _, _, _⟩ := hxr.slice
                have hgx : gr < wr.heap.size := block_lt_of_cell hx
                have HX : Hid (OwnL wr w3.heap.size (.slice ax r.length cx) r) := hxr
                have HT : Hid _ := take_more (a := (m : Int)) hr
                have hPl : (P ++ (R.take c).map (fun r => (m : Int) :: r)).length ≤ 20000 := by rw [List.length_append, List.length_map, List.length_take]; omega
                clear hxr hr
                go_wp2_with (first
                  | (at_builtin; refine wpList_pushLL rfl _ _ rfl w.heap.size u5 (P ++ (R.take c).map (fun r => (m : Int) :: r)) rfl ((HO.out.keep HN6.out).keep (World.grownBy_alloc w6 _ none)) w6.heap.size _ ((m : Int) :: r) rfl (heap_alloc_new _ _) ((HV6.out.kept (World.grownBy_alloc w6 _ none) (by cases a6 <;> simp [Value.ownBlock])).mono (by omega)) (by omega) (by have := HN6.out.size; simp; omega) ?_; intro g7 c7 w7 h1 h2 h3 h4)
                  | (at_builtin; refine wpList_catL rfl _ _ rfl wr.heap.size _ [(m : Int)] rfl HV5.out w3.heap.size (.slice ax r.length cx) r rfl (HX.out.kept HN5.out (by cases ax <;> simp [Value.ownBlock])) (by simp) (by rw [HRL.out]; omega) HN5.out.size ?_; intro v6 w6 h1 h2 h3; have HN6 : Hid (wr.grownBy w6 none) := row_grown HN5.out h2 (fun q e => (HV5.out.lt e).1); have HV6 : Hid (OwnL w6 wr.heap.size v6 ((m : Int) :: r)) := h1; obtain ⟨a6, c6, rfl, _, _, _⟩ := h1.slice; clear h1 h2 h3 HV5 HN5 hx5)
                  | (at_builtin; refine wpList_pushL rfl _ _ rfl wr.heap.size (.slice none 0 0) [] rfl (OwnL.nil _ _) wr.heap.size (m : Int) rfl (heap_alloc_new _ _) (by decide) (by simp) ?_; intro g cap w5 h1 h2 h3 h4; have hN5 : wr.grownBy w5 none := row_grown (World.grownBy_alloc wr _ none) h2 (fun q e => by cases e); have hx5 : w5.cell? ⟨gr, c, none⟩ = some (.slice ax r.length cx) := (by rw [(gN_below hN5).cell (by exact hgx)]; exact hx); have HV5 : Hid (OwnL w5 wr.heap.size (.slice (some ⟨g, 0, none⟩) 1 cap) [(m : Int)]) := h1; have HN5 : Hid (wr.grownBy w5 none) := hN5; clear h1 h2 h3 h4 hN5 hx))
                have hlen : (P ++ (R.take c).map (fun r => (m : Int) :: r)).length = P.length + c := by rw [List.length_append, List.length_map, List.length_take]; omega
                have HO7 : Hid (OwnLL w7 w.heap.size (.slice (some ⟨g7, 0, none⟩) (P.length + c + 1) c7) (P ++ (R.take (c + 1)).map (fun r => (m : Int) :: r))) := by
                  have := h1
                  rw [hlen, List.append_assoc, HT.out] at this
                  exact this
                have hN6' : wr.grownBy (w6.alloc (.cells #[.slice a6 ((m : Int) :: r).length c6] 22)) none := gN_alloc HN6.out _
                have HB7 : Hid (Below w.heap.size w w7) := (HB.out.trans ((gN_below hN6').mono HB.out.size)).grown h2 (Nat.le_trans HB.out.size hN6'.size) (fun q e => (HO.out.lt e).1)
                have HQ7 : Hid (∀ q, (Value.slice (some ⟨g7, 0, none⟩) (P.length + c + 1) c7).ownBlock = some q → q < w3.heap.size ∨ w4.heap.size ≤ q) := by
                  intro q e
                  cases e
                  rcases h3 with e | e
                  · exact HQ.out g7 e
                  · right; rw [e]; exact Nat.le_trans hs6 hN6'.size
                have HK7 : Hid (∀ i, w3.heap.size ≤ i → i < w4.heap.size → w7.heap[i]? = w4.heap[i]?) := by
                  intro i hi1 hi2
                  have hw : i < wr.heap.size := by omega
                  refine (h2.block i (Nat.lt_of_lt_of_le hw hN6'.size) (fun e => ?_)).trans ((hN6'.block i hw (by simp)).trans (HK.out i hi1 hi2))
                  have := HQ.out i e.symm
                  omega
                have hs7 : w4.heap.size ≤ w7.heap.size := Nat.le_trans hs6 (Nat.le_trans hN6'.size h2.size)
                clear h1 h2 h3 h4 hN6' HV6 HN6 HO HB HQ HK HX HRr HT
                go_roundw
                case rel => exact ⟨c + 1, by omega, by go_num, HO7, HB7, HQ7, HK7, hs7⟩
                case measure => simp [intOf]; omega
              · obtain rfl : c = R.length := by omega
                rw [List.take_length] at HO
                go_wp2
                go_roundw
                case rel => exact ⟨1, by omega, by go_num, by show OwnLL _ _ _ _; have := HO.out; rw [← HP.out, ← HRR.out] at this; simpa [sd, half] using this, HB⟩
                case measure => simp [intOf]
        · by_cases s1 : s = 1
          · subst s1
            by_cases m0 : m = 0
            · subst m0
              go_wp2_with fail
              go_roundw
              case rel => exact ⟨2, by omega, by go_num, by rw [← HP.out] at HO; simpa [sd] using HO, HB⟩
              case measure => simp [intOf]
            · have m0' : ¬ (m : Int) = 0 := by omega
              go_wp2_with fail
              refine (all_as ih _ _ (k - m) (by omega) w3 (by omega) (by omega)).mono ?_
              rintro e w4 ⟨vr, rfl, hL4, hb4⟩
              obtain ⟨ar, cr, rfl, hc1, hc2, _⟩ := hL4.slice
              have hLL := allL_len (n := n) (k := k - m) (by omega) (by omega)
              have HR : Hid (OwnLL w4 w3.heap.size (.slice ar (allL n (k - m)).length cr) (allL n (k - m))) := hL4
              have hgr4 : w3.grownBy w4 none := ⟨hb4.os, hb4.tape, hb4.output, hb4.size, fun i hi _ => hb4.block i hi⟩
              have HO4 : Hid (OwnLL w4 w.heap.size u5 P) := HO.out.keep hgr4
              have HB4 : Hid (Below w.heap.size w w4) := HB.out.trans (hb4.mono HB.out.size)
              have HQ4 : Hid (∀ q, u5.ownBlock = some q → q < w3.heap.size ∨ w4.heap.size ≤ q) := fun q e => .inl (HO.out.lt e).2
              have hs4 : w3.heap.size ≤ w4.heap.size := hb4.size
              have hs5 : w.heap.size ≤ w3.heap.size := HB.out.size
              clear hL4 hb4 hgr4 HO HB
              obtain ⟨R, hR⟩ : ∃ R, allL n (k - m) = R := ⟨_, rfl⟩
              have HRR : Hid _ := hR
              have HROW : Hid (∀ r, r ∈ R → r.length = n) := fun r hr => allL_row n (k - m) r (by rw [hR]; exact hr)
              rw [hR] at hLL HR ⊢
              clear hR hc1
              go_wp2_with fail
              go_loopw [5, 10] (fun v i wr => ∃ c : Nat, c ≤ R.length ∧ i = .int .i64 c ∧ Hid (OwnLL wr w.heap.size v (P ++ (R.take c).map (fun r => (-(m : Int) : Int) :: r))) ∧ Hid (Below w.heap.size w wr) ∧ Hid (∀ q, v.ownBlock = some q → q < w3.heap.size ∨ w4.heap.size ≤ q) ∧ Hid (∀ i, w3.heap.size ≤ i → i < w4.heap.size → wr.heap[i]? = w4.heap[i]?) ∧ w4.heap.size ≤ wr.heap.size) (fun _ i _ => R.length - (intOf i).toNat)
              case atStart => exact ⟨0, by omega, rfl, by rw [List.take_zero, List.map_nil, List.append_nil]; exact HO4, HB4, HQ4, fun _ _ _ => rfl, Nat.le_refl _⟩
              case round =>
                clear HO4 HB4 HQ4
                obtain ⟨c, hc, rfl, HO, HB, HQ, HK, hs6⟩ := hrel
                by_cases hlt : c < R.length
                · have hlt' : (c : Int) < (R.length : Int) := by omega
                  obtain ⟨r, hr⟩ : ∃ r, R[c]? = some r := ⟨_, List.getElem?_eq_getElem hlt⟩
                  have HRL : Hid (r.length = n) := HROW.out r (List.mem_of_getElem? hr)
                  obtain ⟨gr, cr', er, _, _, _, _⟩ := HR.out.form (by omega)
                  cases er
                  have HRr : Hid (OwnLL wr w3.heap.size (.slice (some ⟨gr, 0, none⟩) R.length cr) R) := HR.out.same HK.out
                  obtain ⟨x, hx, hxr⟩ := HRr.out.at hr
                  obtain ⟨ax, cx, rfl, _, _, _⟩ := hxr.slice
                  have hgx : gr < wr.heap.size := block_lt_of_cell hx
                  have HX : Hid (OwnL wr w3.heap.size (.slice ax r.length cx) r) := hxr
                  have HT : Hid _ := take_more (a := (-(m : Int) : Int)) hr
                  have hPl : (P ++ (R.take c).map (fun r => (-(m : Int) : Int) :: r)).length ≤ 20000 := by rw [List.length_append, List.length_map, List.length_take]; omega
                  clear hxr hr
                  go_wp2_with (first
                    | (at_builtin; refine wpList_pushLL rfl _ _ rfl w.heap.size u5 (P ++ (R.take c).map (fun r => (-(m : Int) : Int) :: r)) rfl ((HO.out.keep HN6.out).keep (World.grownBy_alloc w6 _ none)) w6.heap.size _ ((-(m : Int) : Int) :: r) rfl (heap_alloc_new _ _) ((HV6.out.kept (World.grownBy_alloc w6 _ none) (by cases a6 <;> simp [Value.ownBlock])).mono (by omega)) (by omega) (by have := HN6.out.size; simp; omega) ?_; intro g7 c7 w7 h1 h2 h3 h4)
                    | (at_builtin; refine wpList_catL rfl _ _ rfl wr.heap.size _ [(-(m : Int) : Int)] rfl HV5.out w3.heap.size (.slice ax r.length cx) r rfl (HX.out.kept HN5.out (by cases ax <;> simp [Value.ownBlock])) (by simp) (by rw [HRL.out]; omega) HN5.out.size ?_; intro v6 w6 h1 h2 h3; have HN6 : Hid (wr.grownBy w6 none) := row_grown HN5.out h2 (fun q e => (HV5.out.lt e).1); have HV6 : Hid (OwnL w6 wr.heap.size v6 ((-(m : Int) : Int) :: r)) := h1; obtain ⟨a6, c6, rfl, _, _, _⟩ := h1.slice; clear h1 h2 h3 HV5 HN5 hx5)
                    | (at_builtin; refine wpList_pushL rfl _ _ rfl wr.heap.size (.slice none 0 0) [] rfl (OwnL.nil _ _) wr.heap.size (-(m : Int) : Int) rfl (heap_alloc_new _ _) (by decide) (by simp) ?_; intro g cap w5 h1 h2 h3 h4; have hN5 : wr.grownBy w5 none := row_grown (World.grownBy_alloc wr _ none) h2 (fun q e => by cases e); have hx5 : w5.cell? ⟨gr, c, none⟩ = some (.slice ax r.length cx) := (by rw [(gN_below hN5).cell (by exact hgx)]; exact hx); have HV5 : Hid (OwnL w5 wr.heap.size (.slice (some ⟨g, 0, none⟩) 1 cap) [(-(m : Int) : Int)]) := h1; have HN5 : Hid (wr.grownBy w5 none) := hN5; clear h1 h2 h3 h4 hN5 hx))
                  have hlen : (P ++ (R.take c).map (fun r => (-(m : Int) : Int) :: r)).length = P.length + c := by rw [List.length_append, List.length_map, List.length_take]; omega
                  have HO7 : Hid (OwnLL w7 w.heap.size (.slice (some ⟨g7, 0, none⟩) (P.length + c + 1) c7) (P ++ (R.take (c + 1)).map (fun r => (-(m : Int) : Int) :: r))) := by
                    have := h1
                    rw [hlen, List.append_assoc, HT.out] at this
                    exact this
                  have hN6' : wr.grownBy (w6.alloc (.cells #[.slice a6 ((-(m : Int) : Int) :: r).length c6] 22)) none := gN_alloc HN6.out _
                  have HB7 : Hid (Below w.heap.size w w7) := (HB.out.trans ((gN_below hN6').mono HB.out.size)).grown h2 (Nat.le_trans HB.out.size hN6'.size) (fun q e => (HO.out.lt e).1)
                  have HQ7 : Hid (∀ q, (Value.slice (some ⟨g7, 0, none⟩) (P.length + c + 1) c7).ownBlock = some q → q < w3.heap.size ∨ w4.heap.size ≤ q) := by
                    intro q e
                    cases e
                    rcases h3 with e | e
                    · exact HQ.out g7 e
                    · right; rw [e]; exact Nat.le_trans hs6 hN6'.size
                  have HK7 : Hid (∀ i, w3.heap.size ≤ i → i < w4.heap.size → w7.heap[i]? = w4.heap[i]?) := by
                    intro i hi1 hi2
                    have hw : i < wr.heap.size := by omega
                    refine (h2.block i (Nat.lt_of_lt_of_le hw hN6'.size) (fun e => ?_)).trans ((hN6'.block i hw (by simp)).trans (HK.out i hi1 hi2))
                    have := HQ.out i e.symm
                    omega
                  have hs7 : w4.heap.size ≤ w7.heap.size := Nat.le_trans hs6 (Nat.le_trans hN6'.size h2.size)
                  clear h1 h2 h3 h4 hN6' HV6 HN6 HO HB HQ HK HX HRr HT
                  go_roundw
                  case rel => exact ⟨c + 1, by omega, by go_num, HO7, HB7, HQ7, HK7, hs7⟩
                  case measure => simp [intOf]; omega
                · obtain rfl : c = R.length := by omega
                  rw [List.take_length] at HO
                  go_wp2
                  go_roundw
                  case rel => exact ⟨2, by omega, by go_num, by show OwnLL _ _ _ _; have := HO.out; rw [← HP.out, ← HRR.out] at this; simpa [sd, half, m0] using this, HB⟩
                  case measure => simp [intOf]
          · obtain rfl : s = 2 := by omega
            go_wp2_with fail
            go_roundw
            case rel => exact ⟨m + 1, by omega, by go_num, by rw [pre, HP.out]; exact HO, HB⟩
            case measure => simp [intOf]; omega
    · obtain rfl : m = k + 1 := by omega
      have hmk' : ¬ ((k : Int) + 1) ≤ (k : Int) := by omega
      rw [← all_pre] at HO
      go_wp2
      go_ret
      exact ⟨_, rfl, HO.out, HB.out⟩

theorem all_any : ∀ (n : Nat), n ≤ 4 → ∀ (k : Nat), k ≤ 5 → ∀ (w : World), Calls Try.prog 17 #[.int .i64 n, .int .i64 k] w fun e w' => ∃ v, e = .returned v ∧ OwnLL w' w.heap.size v (allL n k) ∧ Below w.heap.size w w'
  | 0, _, k, hk, w => all_zero w k
  | n + 1, hn, k, hk, w => all_step n (by omega) (fun k hk w => all_any n (by omega) k hk w) k hk w
end Go.Proofs.Ytgjbnkkjajljmaa
