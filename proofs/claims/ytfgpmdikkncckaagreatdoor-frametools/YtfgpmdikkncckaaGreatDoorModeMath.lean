/-
  Modes on whole numbers: which are right, their samples, bands, where a band begins and how wide it is. No condition; no program.
-/
import Derived.WalkKit
namespace Go.Proofs.YtfgpmdikkncckaaGreatDoor
set_option linter.unusedVariables false

abbrev right (s c : Int) : Prop := 0 ≤ s ∧ s < 3 ∧ 1 ≤ c ∧ c ≤ 2
def smpT : List Int := [8, 16, 32]
def widT : List Int := [2, 2, 4, 8, 16]
def frmT : List Int := [0, 2, 4, 8, 16]
def smpF (i : Nat) : Int := smpT.getD i 0
def widF (i : Nat) : Int := widT.getD i 0
def frmF (i : Nat) : Int := frmT.getD i 0
def nF (s c : Int) : Int := if right s c then smpF s.toNat else 0
def bandsF (s c : Int) : Int := if right s c then 3 + s else 0
abbrev hasB (s c b : Int) : Prop := 0 ≤ b ∧ b < bandsF s c
def widthF (s c b : Int) : Int := if hasB s c b then widF b.toNat else 0
def fromF (s c b : Int) : Int := if hasB s c b then frmF b.toNat else 0

theorem right_cases {s c : Int} (h : right s c) : (s = 0 ∨ s = 1 ∨ s = 2) ∧ (c = 1 ∨ c = 2) := by unfold right at h; omega
theorem bands_bd (s c : Int) : 0 ≤ bandsF s c ∧ bandsF s c ≤ 5 := by unfold bandsF; split <;> rename_i h <;> (try unfold right at h) <;> omega
theorem has_bd {s c b : Int} (h : hasB s c b) : 0 ≤ b ∧ b < 5 := by have := bands_bd s c; unfold hasB at h; omega
theorem frm_next {i : Nat} (h : i < 4) : frmF i + widF i = frmF (i + 1) := by
  match i, h with
  | 0, _ | 1, _ | 2, _ | 3, _ => rfl
theorem frm_bd {i : Nat} (h : i < 5) : 0 ≤ frmF i ∧ frmF i ≤ 16 := by
  match i, h with
  | 0, _ | 1, _ | 2, _ | 3, _ | 4, _ => exact ⟨by decide, by decide⟩
theorem wid_bd {i : Nat} (h : i < 5) : 2 ≤ widF i ∧ widF i ≤ 16 := by
  match i, h with
  | 0, _ | 1, _ | 2, _ | 3, _ | 4, _ => exact ⟨by decide, by decide⟩
theorem smp_bd {i : Nat} (h : i < 3) : 8 ≤ smpF i ∧ smpF i ≤ 32 := by
  match i, h with
  | 0, _ | 1, _ | 2, _ => exact ⟨by decide, by decide⟩
end Go.Proofs.YtfgpmdikkncckaaGreatDoor
