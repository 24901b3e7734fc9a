/-
  What a budget is shared out to, by whatever tools: there is one answer; the document's Alloc gives it; how it is stored, read and compared whole. Nothing that was there is turned.
-/
import Derived.Test.YtfgpmdikkncckaaGreatDoorShareFind
import Derived.Test.YtfgpmdikkncckaaGreatDoorAllocRef
namespace Go.Proofs.YtfgpmdikkncckaaGreatDoor
set_option linter.unusedVariables false
set_option linter.unusedSimpArgs false
set_option maxRecDepth 100000
open Go.ChangeShapes Go.WideShapes Go.ChangeAt Go.RowKit
attribute [local go_sem] eql5 eql5x equal5 equal5x

/-- What a share tells of a budget. -/
def SOut (B : Nat) (c t n : Int) (R : Nat → Int) : Prop := ∃ a : Nat, R = uTo B t a ∧ (a = 0 ∨ ¬ tooDear B c t n (a - 1)) ∧ ((a : Int) = pLast t B ∨ tooDear B c t n a)
theorem SOut.out {B : Nat} {c t n : Int} {R : Nat → Int} (h : SOut B c t n R) (hB : B ≤ 5) (hc : 1 ≤ c) : Out B c t n R := by
  obtain ⟨a, rfl, h1, h2⟩ := h
  exact found_out hB hc h1 h2
theorem SOut.none {c t n : Int} {R : Nat → Int} (h : SOut 0 c t n R) : R = fun _ => 0 := by
  obtain ⟨a, rfl, _, _⟩ := h
  funext i
  exact to_out t a (by omega)

theorem bands_chan {s c : Int} {B : Nat} (h : bandsF s c = B) : B = 0 ∨ c = 1 ∨ c = 2 := by
  by_cases hr : right s c
  · unfold right at hr; omega
  · unfold bandsF at h; rw [if_neg hr] at h; omega
theorem first_of (F : Nat → Prop) : ∀ M : Nat, ∃ a : Nat, (a = 0 ∨ ¬ F (a - 1)) ∧ (a = M ∨ F a)
  | 0 => ⟨0, .inl rfl, .inl rfl⟩
  | M + 1 => by
    obtain ⟨a, h1, h2⟩ := first_of F M
    by_cases h : F a
    · exact ⟨a, h1, .inr h⟩
    · obtain rfl : a = M := h2.resolve_right h
      exact ⟨a + 1, .inr h, .inl rfl⟩
theorem SOut.some (B : Nat) (hB : B ≤ 5) (c t n : Int) : ∃ R, SOut B c t n R := by
  obtain ⟨a, h1, h2⟩ := first_of (tooDear B c t n) (pLast t B).toNat
  have := last_bd t hB
  exact ⟨_, a, rfl, h1, h2.imp_left (fun h => by omega)⟩
theorem K_none (t : Int) : ∀ j, aK 0 t j = fun _ => 0
  | 0 => rfl
  | j + 1 => by
    show aStep 0 t (aK 0 t j) = _
    rw [K_none t j]; rfl
theorem SOut.alike {B : Nat} (hB : B ≤ 5) {c t n : Int} (hc : B = 0 ∨ c = 1 ∨ c = 2) {R R' : Nat → Int} (h : SOut B c t n R) (h' : Out B c t n R') : R' = R := by
  by_cases h0 : B = 0
  · subst h0
    rw [h.none]
    obtain ⟨j, e, _⟩ := h'
    rw [e, K_none]
  · exact out_one hB (by omega) h' (h.out hB (by omega))
theorem SOut.same {B : Nat} (hB : B ≤ 5) {c t n : Int} (hc : B = 0 ∨ c = 1 ∨ c = 2) {R R' : Nat → Int} (h : SOut B c t n R) (h' : SOut B c t n R') : R' = R := by
  by_cases h0 : B = 0
  · subst h0
    rw [h.none, h'.none]
  · exact h.alike hB hc (h'.out hB (by omega))
theorem neq5 (R : Nat → Int) (w : World) : (binOp .neq 31 (.agg #[.int .i64 (R 0), .int .i64 (R 1), .int .i64 (R 2), .int .i64 (R 3), .int .i64 (R 4)]) (.agg #[.int .i64 (R 0), .int .i64 (R 1), .int .i64 (R 2), .int .i64 (R 3), .int .i64 (R 4)])).run Tryz.prog w = .ok (.bool false) w := by
  have e := equal5 R R w
  rw [same5_refl] at e
  rw [run_neq_struct]
  rw [show (#[.int .i64 (R 0), .int .i64 (R 1), .int .i64 (R 2), .int .i64 (R 3), .int .i64 (R 4)] : Array Value) = row5 R from rfl, e]
  rfl

theorem store5Z (w : World) (f : Nat → Int) : Sem.run Tryz.prog (storeCells ⟨w.heap.size, 0, none⟩ (row5 f).toList) (w.alloc (.cells #[.int .i64 0, .int .i64 0, .int .i64 0, .int .i64 0, .int .i64 0] 31)) = .ok () (w.alloc (.cells (row5 f) 31)) := by
  have := store5 (w.alloc (.cells (row5 (fun _ => 0)) 31)) w.heap.size (fun _ => 0) f (heap_alloc_new w _)
  rwa [World.setRow_alloc_new] at this
set_option maxHeartbeats 2000000 in
/-- The document's Alloc in a mode that is right. -/
theorem rall16 (X : World) (s c t n : Int) (B : Nat) (R : Nat → Int) (hr : right s c) (hB : bandsF s c = B) (hO : SOut B c t n R) :
    Calls Tryz.prog 26 #[.int .i64 s, .int .i64 c, .int .i64 t, .int .i64 n] X fun e w' => e = .returned (.agg (row5 R)) ∧ Below X.heap.size X w' := by
  have hB' : (B : Int) = s + 3 := by have := hB; unfold bandsF at this; rw [if_pos hr] at this; omega
  have h : Hid (∀ X, Calls Tryz.prog 48 #[.int .i64 s, .int .i64 c, .int .i64 t, .int .i64 n] X fun e w' => e = .returned (.agg (row5 R)) ∧ Below X.heap.size X w') := fun X => by
    refine (ralloc_at X s c t n B (by unfold right at hr; omega) (by unfold right at hr; omega) (by omega) (by unfold right at hr; omega) (by unfold right at hr; omega)).mono ?_
    rintro e w' ⟨R', rfl, hO', hb⟩
    obtain rfl := hO.alike (by unfold right at hr; omega) (bands_chan hB) hO'
    exact ⟨rfl, hb⟩
  have hb0 : Below X.heap.size X (X.alloc (.cells #[.int .i64 0, .int .i64 0, .int .i64 0, .int .i64 0, .int .i64 0] 31)) := gN_below (gN_alloc (gN_refl X) _)
  have HR0 : Hid (Rw (X.alloc (.cells #[.int .i64 0, .int .i64 0, .int .i64 0, .int .i64 0, .int .i64 0] 31)) X.heap.size (fun _ => 0)) := (heap_alloc_new X _ : Rw (X.alloc (.cells (row5 (fun _ => 0)) 31)) X.heap.size (fun _ => 0))
  have HB0 : Hid (Below X.heap.size X (X.alloc (.cells #[.int .i64 0, .int .i64 0, .int .i64 0, .int .i64 0, .int .i64 0] 31))) := hb0
  clear hb0
  go_enter Tryz.func26, Tryz.ntmps26
  go_wp2_with (go_at_call 48; refine (h.out _).mono ?_; rintro e w2 ⟨rfl, hb2⟩; have HR2 : Hid (Rw w2 X.heap.size (fun _ => 0)) := HR0.out.below hb2; have HB2 : Hid (Below X.heap.size X w2) := HB0.out.trans (hb2.mono HB0.out.size); have hst := store5 w2 X.heap.size (fun _ => 0) R HR2.out; clear hb2)
  refine bodyPost_ret (results_cell_row rfl _ _ X.heap.size 31 (row5 R) (0, 0) _ rfl (HR2.out.setRow _) t5_under rfl (by rw [row5_size]; exact t5_info)) rfl ⟨rfl, ?_⟩
  exact below_setRow5 HB2.out (Nat.le_refl _) _
end Go.Proofs.YtfgpmdikkncckaaGreatDoor
