/-
  What RelayFirst's four frames come to: mathematics. Conditions: those that each theorem names.
-/
import Derived.Test.YtiahiakllpjliaaRl7
namespace Go.Proofs.Ytiahiakllpjliaa
open Go.RowKit Go.Maps
set_option linter.unusedVariables false
set_option linter.unusedSimpArgs false
set_option maxRecDepth 20000

@[reducible] def sta (b : Int) : M6 := ⟨2, b, 0, 0, 0, 0⟩
theorem sta_ne {a b : Int} (h : a ≠ b) : sta a ≠ sta b := fun e => h (by simpa using congrArg M6.b e)
theorem sta_wf {b : Int} (h : 0 ≤ b ∧ b ≤ 255) : (sta b).wf := by
  show (0 ≤ (2 : Int) ∧ (2 : Int) ≤ 255) ∧ (0 ≤ b ∧ b ≤ 255) ∧ (0 ≤ (0 : Int) ∧ (0 : Int) ≤ 255) ∧ (0 ≤ (0 : Int) ∧ (0 : Int) ≤ 255) ∧ (0 ≤ (0 : Int) ∧ (0 : Int) ≤ 255) ∧ 0 ≤ (0 : Int) ∧ (0 : Int) ≤ 255
  omega
theorem sta_grp (b : Int) : grpB (sta b) = false := rfl
theorem sta_res (b : Int) : resM (sta b) = false := by simp [resM, resBR]
/-- A port of four. -/
def four_ (p : Int) : Prop := p = 0 ∨ p = 1 ∨ p = 2 ∨ p = 3
theorem four_of {p : Int} (h : 0 ≤ p) (h' : p ≤ 3) : four_ p := by unfold four_; omega
@[reducible] def fF : Int → Option (Int × Int) := updK (newF 4) 2 (some (15, 0))
theorem f_st {p : Int} (h : four_ p) : stateN [2, 2, 2, 2] p = 2 := by
  rcases h with rfl | rfl | rfl | rfl <;> kernel_rfl
theorem f_c1 {p : Int} (h : four_ p) : classN (List.replicate 4 pvOne) fF p false 0 0 = (1, 0, 0) := by
  rcases h with rfl | rfl | rfl | rfl <;> kernel_rfl
theorem f_c2 {p : Int} (h : four_ p) : classN (List.replicate 4 pvOne) fF p true 0 2 = (2, 0, 0) := by
  rcases h with rfl | rfl | rfl | rfl <;> kernel_rfl
theorem f_op {p : Int} (h : four_ p) : opnB (List.replicate 4 pvOne) fF [2, 2, 2, 2] 1 p = true := by
  rcases h with rfl | rfl | rfl | rfl <;> kernel_rfl
theorem f_all1 : opL (opnB (List.replicate 4 pvOne) fF [2, 2, 2, 2] 1) 4 = [0, 1, 2, 3] := by kernel_rfl
theorem f_all2 : opL (opnB (List.replicate 4 pvOne) fF [2, 2, 2, 2] 2) 4 = [0, 1, 2, 3] := by kernel_rfl
theorem f_but {p : Int} (h : four_ p) : (butL p [0, 1, 2, 3]).length = 3 := by
  rcases h with rfl | rfl | rfl | rfl <;> kernel_rfl
theorem f_fl1 {p : Int} (h : four_ p) : floodR (opnB (List.replicate 4 pvOne) fF [2, 2, 2, 2] 1) 4 p = (butL p [0, 1, 2, 3], 0) := by
  unfold floodR
  rw [f_all1, if_neg (fun e => by have := f_but h; rw [e] at this; simp at this)]
theorem f_fl2 {p : Int} (h : four_ p) : floodR (opnB (List.replicate 4 pvOne) fF [2, 2, 2, 2] 2) 4 p = (butL p [0, 1, 2, 3], 0) := by
  unfold floodR
  rw [f_all2, if_neg (fun e => by have := f_but h; rw [e] at this; simp at this)]
section
variable {a b p q : Int}
theorem f_l1 : learnR 10 1000 0 [] 1 (sta a) p 0 = (0, 0, [⟨1, sta a, p, 0⟩]) := by
  simp [learnR, sta_grp, aheadL, kept]
theorem f_d1 (hp : four_ p) (h : a ≠ b) : leadR (opnB (List.replicate 4 pvOne) fF [2, 2, 2, 2] 1) 4 1000 0 1 (sta b) [⟨1, sta a, p, 0⟩] p = (butL p [0, 1, 2, 3], 0) := by
  unfold leadR
  rw [if_neg (by rw [sta_grp]; decide), if_pos (by simp [findR, findB, isB, sta_ne h, h]), f_fl1 hp]
theorem f_l2 (h : a ≠ b) : learnR 10 1000 0 [⟨1, sta a, p, 0⟩] 1 (sta b) q 1 = (0, 0, [⟨1, sta a, p, 0⟩, ⟨1, sta b, q, 1⟩]) := by
  simp [learnR, sta_grp, aheadL, kept, oldB, isB, List.filter, h]
theorem f_d2 (hp : four_ p) (hq : p ≠ q) : leadR (opnB (List.replicate 4 pvOne) fF [2, 2, 2, 2] 1) 4 1000 1 1 (sta a) [⟨1, sta a, p, 0⟩, ⟨1, sta b, q, 1⟩] q = ([p], 0) := by
  have hf : findR 1000 1 1 (sta a) [⟨1, sta a, p, 0⟩, ⟨1, sta b, q, 1⟩] = (p, 0) := by simp [findR, findB, isB, oldB]
  unfold leadR
  rw [if_neg (by rw [sta_grp]; decide), hf, if_neg (by simp), if_neg hq, if_neg (by rw [f_op hp]; decide)]
theorem f_l3 (h : a ≠ b) : learnR 10 1000 0 [⟨1, sta a, p, 0⟩, ⟨1, sta b, q, 1⟩] 1 (sta a) p 2 = (0, 0, [⟨1, sta b, q, 1⟩, ⟨1, sta a, p, 2⟩]) := by
  simp [learnR, sta_grp, aheadL, kept, oldB, isB, List.filter, h, Ne.symm h]
theorem f_d3 (hq : four_ q) (hpq : p ≠ q) : leadR (opnB (List.replicate 4 pvOne) fF [2, 2, 2, 2] 1) 4 1000 2 1 (sta b) [⟨1, sta b, q, 1⟩, ⟨1, sta a, p, 2⟩] p = ([q], 0) := by
  have hf : findR 1000 2 1 (sta b) [⟨1, sta b, q, 1⟩, ⟨1, sta a, p, 2⟩] = (q, 0) := by simp [findR, findB, isB, oldB]
  unfold leadR
  rw [if_neg (by rw [sta_grp]; decide), hf, if_neg (by simp), if_neg (Ne.symm hpq), if_neg (by rw [f_op hq]; decide)]
theorem f_l4 (h : a ≠ b) : learnR 10 1000 0 [⟨1, sta b, q, 1⟩, ⟨1, sta a, p, 2⟩] 2 (sta a) p 3 = (0, 0, [⟨1, sta b, q, 1⟩, ⟨1, sta a, p, 2⟩, ⟨2, sta a, p, 3⟩]) := by
  simp [learnR, sta_grp, aheadL, kept, oldB, isB, List.filter, h, Ne.symm h]
theorem f_d4 (hp : four_ p) (h : a ≠ b) : leadR (opnB (List.replicate 4 pvOne) fF [2, 2, 2, 2] 2) 4 1000 3 2 (sta b) [⟨1, sta b, q, 1⟩, ⟨1, sta a, p, 2⟩, ⟨2, sta a, p, 3⟩] p = (butL p [0, 1, 2, 3], 0) := by
  unfold leadR
  rw [if_neg (by rw [sta_grp]; decide), if_pos (by simp [findR, findB, isB, sta_ne h, h]), f_fl2 hp]
end
end Go.Proofs.Ytiahiakllpjliaa
