/-
  How an ask of layer 16 (bytes, two numbers, two times five numbers) that is handed in is opened; and what Mode and Energies of it are. No condition.
-/
import Derived.Test.YtfgpmdikkncckaaDoorRows
import Derived.Test.YtfgpmdikkncckaaDoorIntsAt
import Derived.Test.YtfgpmdikkncckaaDoorOpen
import Derived.WalkKit
import Derived.ProofKit
import Derived.OpenShut
import Derived.Below
import Derived.Deep.Slices
import Derived.Deep.SlicePairs
namespace Go.Proofs.YtfgpmdikkncckaaDoor
set_option linter.unusedVariables false
set_option maxRecDepth 100000
open Go.ChangeShapes Go.WideShapes Go.ChangeAt Go.RowKit Go.Deep

/-- An ask's cells. -/
def askC (ao : Option Addr) (n cap : Nat) (s c : Int) (P : Nat → Int) : Array Value :=
  #[.slice ao n cap, .int .u8 s, .int .u8 c, .int .u8 (P 0), .int .u8 (P 1), .int .u8 (P 2), .int .u8 (P 3), .int .u8 (P 4), .int .u8 (P 5), .int .u8 (P 6), .int .u8 (P 7), .int .u8 (P 8), .int .u8 (P 9)]
theorem askC_p (ao : Option Addr) (n cap : Nat) (s c : Int) (P : Nat → Int) {j : Nat} (h : j < 10) : (askC ao n cap s c P)[3 + j]? = some (.int .u8 (P j)) := by
  match j, h with
  | 0, _ | 1, _ | 2, _ | 3, _ | 4, _ | 5, _ | 6, _ | 7, _ | 8, _ | 9, _ => rfl

theorem take_one {α : Type} (L : List α) {j a b : Nat} (h : j = a * 5 + b) (hb : b < 5) (hj : j < 10) : ((((((L.drop 3).take 10).drop (a * 5)).take 5).drop b).take 1) = (L.drop (3 + j)).take 1 := by
  apply List.ext_getElem?
  intro i
  simp only [List.getElem?_take, List.getElem?_drop]
  by_cases hi : i < 1
  · rw [if_pos hi, if_pos (by omega), if_pos (by omega), if_pos hi]
    congr 1; omega
  · rw [if_neg hi, if_neg hi]
theorem open_ask16 {H : Type} {enc : TypeId × Value → H} {W : World} {r : Reach} {base b0 : Nat} {held : Bool} {v : Value} {d : DataW H} {ps : List MemPlace} (hval : Value.okWide Tryd.prog W r base 26 v)
    (hd : DataW.Trod enc Tryd.prog W b0 (fun _ => true) held 26 v d ps) :
    ∃ (ao : Option Addr) (n cap : Nat) (s c : Int) (P p : Nat → Int), v = .agg (askC ao n cap s c P) ∧ n ≤ cap ∧ cap ≤ 9223372036854775807 ∧ IntsAt W ao n .u8 p ∧ (∀ i, i < n → (Lit.int .u8 (p i)).wf = true) ∧ (Lit.int .u8 s).wf = true ∧ (Lit.int .u8 c).wf = true ∧ ∀ j, j < 10 → (Lit.int .u8 (P j)).wf = true := by
  obtain ⟨cs, rfl, hsz⟩ := okWide_struct Tryd.underlying26 hval
  have hsz' : cs.size = 13 := hsz.trans (by kernel_rfl)
  obtain ⟨fuel, hf⟩ := hd
  obtain ⟨xs, m, _, _, _, hlen, hx⟩ := DataW.trod_struct Tryd.underlying26 hf
  have hl4 : xs.length = 4 := hlen
  have k1 : Tryd.prog.cellsOf 5 = 1 := by kernel_rfl
  have k2 : Tryd.prog.cellsOf 22 = 1 := by kernel_rfl
  have k3 : Tryd.prog.cellsOf 24 = 10 := by kernel_rfl
  have k4 : Tryd.prog.cellsOf 23 = 5 := by kernel_rfl
  have h0 : DataW.trod enc Tryd.prog W b0 (fun _ => true) held m 22 ((cs.toList.drop 0).take (Tryd.prog.cellsOf 22)) = xs[0]? := hx 0 _ rfl
  have h1 : DataW.trod enc Tryd.prog W b0 (fun _ => true) held m 5 ((cs.toList.drop 1).take (Tryd.prog.cellsOf 5)) = xs[1]? := hx 1 _ rfl
  have h2 : DataW.trod enc Tryd.prog W b0 (fun _ => true) held m 5 ((cs.toList.drop 2).take (Tryd.prog.cellsOf 5)) = xs[2]? := hx 2 _ rfl
  have h3 : DataW.trod enc Tryd.prog W b0 (fun _ => true) held m 24 ((cs.toList.drop 3).take (Tryd.prog.cellsOf 24)) = xs[3]? := hx 3 _ rfl
  rw [List.getElem?_eq_getElem (by omega), k2] at h0
  rw [List.getElem?_eq_getElem (by omega), k1] at h1 h2
  rw [List.getElem?_eq_getElem (by omega), k3] at h3
  clear hx
  have tk : ∀ j, j < 13 → (cs.toList.drop j).take 1 = [cs.toList[j]?.getD undef] := by
    intro j hj
    have hj' : j < cs.toList.length := by rw [Array.length_toList]; omega
    rw [List.drop_eq_getElem_cons hj', List.getElem?_eq_getElem hj']
    rfl
  have tk' : ∀ j x, j < 13 → (cs.toList.drop j).take 1 = [x] → cs[j]? = some x := by
    intro j x hj h
    rw [tk j hj] at h
    have hj' : j < cs.size := by omega
    have e : cs.toList[j]?.getD undef = x := by injection h
    rw [← e, Array.getElem?_toList, Array.getElem?_eq_getElem hj']; rfl
  obtain ⟨ao, n, cap, p, c0, hnc, hcm, hI, hw⟩ : ∃ (ao : Option Addr) (n cap : Nat) (p : Nat → Int), cs[0]? = some (.slice ao n cap) ∧ n ≤ cap ∧ cap ≤ 9223372036854775807 ∧ IntsAt W ao n .u8 p ∧ ∀ i, i < n → (Lit.int .u8 (p i)).wf = true := by
    rcases open_ints Tryd.underlying22 Tryd.underlying5 k1 h0 with ⟨hcs, _⟩ | ⟨a, len, cap, zs, hcs, _, hl, hm, hz, _, hcell, hwz⟩
    · exact ⟨none, 0, 0, fun _ => 0, tk' 0 _ (by omega) hcs, by omega, by omega, fun i hi => by omega, fun i hi => by omega⟩
    · simp only [if_true] at hz
      refine ⟨some a, len, cap, fun i => zs.getD i 0, tk' 0 _ (by omega) hcs, hl, hm, fun i hi => ?_, fun i hi => ?_⟩
      · obtain ⟨b, off, rfl, h⟩ := ints_at hcell (by omega)
        exact ⟨b, off, rfl, h i (by omega)⟩
      · refine hwz _ ?_
        show zs.getD i 0 ∈ zs
        rw [List.getD_eq_getElem?_getD, List.getElem?_eq_getElem (by omega)]
        exact List.getElem_mem _
  obtain ⟨s, e1, _, ws⟩ := DataW.trod_int Tryd.underlying5 h1
  obtain ⟨c, e2, _, wc⟩ := DataW.trod_int Tryd.underlying5 h2
  obtain ⟨ys, m2, _, _, _, hyl, hy⟩ := DataW.trod_array Tryd.underlying24 h3
  have each : ∀ j, j < 10 → ∃ z : Int, cs[3 + j]? = some (.int .u8 z) ∧ (Lit.int .u8 z).wf = true := by
    intro j hj
    have hi : j / 5 < 2 := by omega
    have h4 := hy (j / 5) hi
    rw [List.getElem?_eq_getElem (by omega), k4] at h4
    obtain ⟨us, m3, _, _, _, hul, hu⟩ := DataW.trod_array Tryd.underlying23 h4
    have h5 := hu (j % 5) (by omega)
    rw [List.getElem?_eq_getElem (by omega), k1, Nat.mul_one] at h5
    obtain ⟨z, e, _, wz⟩ := DataW.trod_int Tryd.underlying5 h5
    refine ⟨z, tk' (3 + j) _ (by omega) ?_, wz⟩
    rw [← e]
    exact (take_one cs.toList (by omega) (by omega) (by omega)).symm
  obtain ⟨P, hP⟩ := choose_lt each
  refine ⟨ao, n, cap, s, c, P, p, ?_, hnc, hcm, hI, hw, ws, wc, fun j hj => (hP j hj).2⟩
  congr 1
  apply Array.ext_getElem?
  intro j
  by_cases hj : j < 13
  · match j, hj with
    | 0, _ => exact c0
    | 1, _ => exact tk' 1 _ (by omega) e1
    | 2, _ => exact tk' 2 _ (by omega) e2
    | j + 3, hj =>
      rw [show j + 3 = 3 + j by omega, askC_p _ _ _ _ _ _ (by omega)]
      exact (hP j (by omega)).1
  · rw [Array.getElem?_eq_none (by omega), Array.getElem?_eq_none (by simp [askC]; omega)]
end Go.Proofs.YtfgpmdikkncckaaDoor
