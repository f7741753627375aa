
/-
  Mathematics of the best way and the roles. No Go text. Conditions: those that each theorem names.
-/
import Derived.Test.YtoejoneecanbbaaRoleS
namespace Go.Proofs.Ytoejoneecanbbaa
open Go.RowKit
set_option linter.unusedVariables false

theorem roleN_cases (p : Rp) (r : Bool) (t : Vc) : (p.up = false ∧ roleN p r t = 0) ∨ (p.up = true ∧ r = true ∧ roleN p r t = 1) ∨ (p.up = true ∧ r = false ∧ p.has = false ∧ roleN p r t = 2) ∨ (p.up = true ∧ r = false ∧ p.has = true ∧ betB p.told t = false ∧ roleN p r t = 2) ∨
    (p.up = true ∧ r = false ∧ p.has = true ∧ betB p.told t = true ∧ p.told.bridge = t.bridge ∧ roleN p r t = 4) ∨ (p.up = true ∧ r = false ∧ p.has = true ∧ betB p.told t = true ∧ p.told.bridge ≠ t.bridge ∧ roleN p r t = 3) := by
  unfold roleN
  cases p.up
  · simp
  cases r
  rotate_left
  · simp
  cases p.has
  · simp
  cases betB p.told t
  · simp
  by_cases h : p.told.bridge = t.bridge
  · simp [h]
  · simp [h]
/-- The best way is the bridge's own, or that of a port that was told, to a lesser root. -/
theorem bestW_is (b : Int) (ps : List Rp) : ∀ k : Nat, bestW b ps k = ⟨⟨b, 0, b, 0⟩, -1, 0⟩ ∨ ∃ i : Nat, i < k ∧ bestW b ps k = wayOf (ps.getD i Rp.zero) i ∧ (ps.getD i Rp.zero).up = true ∧ (ps.getD i Rp.zero).has = true ∧ leadB (wayOf (ps.getD i Rp.zero) i) b = true
  | 0 => .inl rfl
  | k + 1 => by
    rw [bestW, stepW]
    have old : bestW b ps k = ⟨⟨b, 0, b, 0⟩, -1, 0⟩ ∨ ∃ i : Nat, i < k + 1 ∧ bestW b ps k = wayOf (ps.getD i Rp.zero) i ∧ (ps.getD i Rp.zero).up = true ∧ (ps.getD i Rp.zero).has = true ∧ leadB (wayOf (ps.getD i Rp.zero) i) b = true := by
      rcases bestW_is b ps k with h | ⟨i, h0, h⟩
      · exact .inl h
      · exact .inr ⟨i, by omega, h⟩
    split
    · rename_i h1
      split
      · rename_i h2
        exact .inr ⟨k, by omega, rfl, h1.1, h1.2, h2.1⟩
      · exact old
    · exact old
theorem lead_root {y : Wy} {b : Int} (h : leadB y b = true) : y.v.root < b ∧ y.v.bridge ≠ b := by
  simp only [leadB, Bool.and_eq_true, decide_eq_true_eq, Bool.not_eq_true', decide_eq_false_iff_not] at h
  exact h
theorem rolesTo_at (b : Int) (y : Wy) (ps : List Rp) (i : Nat) (hi : i < ps.length) : (rolesTo b y ps ps.length).getD i 0 = roleV b y i (ps.getD i Rp.zero) := by
  simp [rolesTo, hi]
theorem tellsTo_at (b : Int) (y : Wy) (ps : List Rp) (i : Nat) (hi : i < ps.length) : (tellsTo b y ps ps.length).getD i Vc.zero = tellV b y (ps.getD i Rp.zero) := by
  simp [tellsTo, hi]
theorem rolesL_len (b : Int) (ps : List Rp) : (rolesL b ps).length = ps.length := by simp [rolesL, rolesTo]
theorem tellsL_len (b : Int) (ps : List Rp) : (tellsL b ps).length = ps.length := by simp [tellsL, tellsTo]
theorem rolesL_at (b : Int) (ps : List Rp) (i : Nat) (hi : i < ps.length) : (rolesL b ps).getD i 0 = roleV b (bestW b ps ps.length) i (ps.getD i Rp.zero) := rolesTo_at _ _ _ _ hi
theorem tellsL_at (b : Int) (ps : List Rp) (i : Nat) (hi : i < ps.length) : (tellsL b ps).getD i Vc.zero = tellV b (bestW b ps ps.length) (ps.getD i Rp.zero) := tellsTo_at _ _ _ _ hi
/-- What Select's answer is in memory. -/
structure Sel (w : World) (ib vb n : Nat) (b : Int) (ps : List Rp) : Prop where
  len : ps.length = n
  ri : Fl w ib 3 fI (rolesL b ps) []
  rv : Fl w vb 30 fV (tellsL b ps) []
theorem Sel.below {w w' : World} {ib vb n : Nat} {b : Int} {ps : List Rp} (h : Sel w ib vb n b ps) (hb : Below w.heap.size w w') : Sel w' ib vb n b ps := ⟨h.len, h.ri.below hb, h.rv.below hb⟩
theorem Sel.role {w : World} {ib vb n : Nat} {b : Int} {ps : List Rp} (h : Sel w ib vb n b ps) (i : Nat) (hi : i < n) : w.cell? ⟨ib, i, none⟩ = some (.int .i64 (roleV b (bestW b ps n) i (ps.getD i Rp.zero))) := by
  have hn := h.len
  subst hn
  have h1 := h.ri.cell wide_I 0 i 0 (by rw [rolesL_len]; exact hi) (by omega)
  rw [rolesL_at _ _ _ hi] at h1
  simpa using h1
theorem Sel.tell {w : World} {ib vb n : Nat} {b : Int} {ps : List Rp} (h : Sel w ib vb n b ps) (i : Nat) (hi : i < n) : w.cell? ⟨vb, i * 4, none⟩ = some (.int .u64 (tellV b (bestW b ps n) (ps.getD i Rp.zero)).root) ∧ w.cell? ⟨vb, i * 4 + 1, none⟩ = some (.int .u64 (tellV b (bestW b ps n) (ps.getD i Rp.zero)).cost) ∧
    w.cell? ⟨vb, i * 4 + 2, none⟩ = some (.int .u64 (tellV b (bestW b ps n) (ps.getD i Rp.zero)).bridge) ∧ w.cell? ⟨vb, i * 4 + 3, none⟩ = some (.int .i64 (tellV b (bestW b ps n) (ps.getD i Rp.zero)).port) := by
  have hn := h.len
  subst hn
  have g := fun k hk => h.rv.cell wide_V Vc.zero i k (by rw [tellsL_len]; exact hi) hk
  rw [tellsL_at _ _ _ hi] at g
  exact ⟨g 0 (by omega), g 1 (by omega), g 2 (by omega), g 3 (by omega)⟩
/-- The way's numbers are numbers. -/
theorem overN_u64 {c d : Int} (hc : U64 c) (hd : U64 d) : U64 (overN c d) := by
  unfold overN U64 at *
  repeat' split
  all_goals omega
theorem bestW_wf (b : Int) (ps : List Rp) (k : Nat) (hb : U64 b) (hw : ∀ i, i < k → (ps.getD i Rp.zero).wf) : (bestW b ps k).v.wf := by
  rcases bestW_is b ps k with h | ⟨i, h0, h, _⟩
  · rw [h]
    exact ⟨hb, by simp [U64], hb, by simp [I64]⟩
  · rw [h]
    have hp := hw i h0
    exact ⟨hp.told.root, overN_u64 hp.told.cost hp.cost, hp.told.bridge, hp.told.port⟩
theorem tellV_wf {b : Int} {y : Wy} {p : Rp} (hb : U64 b) (hy : y.v.wf) (hp : p.wf) : (tellV b y p).wf := ⟨hy.root, hy.cost, hb, hp.id⟩
end Go.Proofs.Ytoejoneecanbbaa
