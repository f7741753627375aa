/-
  Parts of a slice of filters, in a region that draws its order. Conditions: those that each theorem names.
-/
import Derived.Test.YtiahiakllpjliaaFd1
namespace Go.Proofs.Ytiahiakllpjliaa
open Go.RowKit Go.Maps
set_option linter.unusedVariables false
set_option linter.unusedSimpArgs false
set_option maxRecDepth 20000

theorem yieldsIf_slice {P : Program} {ops : Array Oper} {S : World → Prop} {o : Oper} {a : Act} (hw : Region.wanted o (yielded ops a.tmps) = true) (t : TypeId) (x : Operand) (lo hi : Option Operand) (ho : o.op = .slice t x lo hi none) (vx v : Value) (vl vh : Option Value)
    (hx : a.eval x = vx) (hl : lo.map a.eval = vl) (hh : hi.map a.eval = vh) (hr : ∀ W, S W → (Instr.sliceAt t vx vl vh none).run P W = .ok v W) : YieldsIf P ops S o v a :=
  .inl ⟨hw, fun W hW => by
    unfold execOp
    have hx' : Act.eval { tmps := a.tmps, defers := a.defers } x = vx := hx
    have hl' : lo.map (Act.eval { tmps := a.tmps, defers := a.defers }) = vl := hl
    have hh' : hi.map (Act.eval { tmps := a.tmps, defers := a.defers }) = vh := hh
    simp only [ho, hx', hl', hh', Option.map_none, Sem.run_bind, Sem.run_pure, hr W hW, Result.andThen_ok]⟩
/-- Where the part from m on begins. -/
def fromAt (b m cap : Nat) : Addr := if cap = m + 1 then ⟨b, 0, none⟩ else ⟨b, (m + 1) * 9, none⟩
theorem run_from (b m len cap : Nat) (h1 : m + 1 ≤ len) (h2 : len ≤ cap) (w : World) (v : Int) (hv : v = (m : Int) + 1) : (Instr.sliceAt 67 (.slice (some ⟨b, 0, none⟩) len cap) (some (.int .i64 v)) none none).run Try.prog w = .ok (.slice (some (fromAt b m cap)) (len - (m + 1)) (cap - (m + 1))) w := by
  subst hv
  have hq1 : (0 : Int) ≤ (m : Int) + 1 := by omega
  have hq2 : (m : Int) + 1 ≤ (len : Int) := by omega
  have hn : ((m : Int) + 1).toNat = m + 1 := by omega
  unfold fromAt
  by_cases hc : cap = m + 1
  · have hl : len = m + 1 := by omega
    subst hl
    subst hc
    go_simp
  · rw [if_neg hc]
    have hc' : ¬ m + 1 = cap := fun e => hc e.symm
    go_simp
theorem run_upto (b m len cap : Nat) (h1 : m ≤ len) (h2 : len ≤ cap) (w : World) : (Instr.sliceAt 67 (.slice (some ⟨b, 0, none⟩) len cap) none (some (.int .i64 (m : Int))) none).run Try.prog w = .ok (.slice (some ⟨b, 0, none⟩) m cap) w := by
  have hq1 : (0 : Int) ≤ (m : Int) := by omega
  have hq2 : (m : Int) ≤ (cap : Int) := by omega
  have hq3 : m ≤ cap := by omega
  go_simp
theorem cells_upto {w : World} {b : Nat} {l : List Sf} {sp : List Value} (h : Fl w b 71 fSf l sp) (m : Nat) (j : Nat) (u : Value) (hj : (flat fSf (l.take m))[j]? = some u) : w.cell? ((⟨b, 0, none⟩ : Addr).add j) = some u := by
  refine h.cellsS j u ?_
  rw [show flat fSf l = flat fSf (l.take m) ++ flat fSf (l.drop m) by rw [← flat_app, List.take_append_drop], List.getElem?_append_left (List.getElem?_eq_some_iff.1 hj).1]
  exact hj
theorem cells_from {w : World} {b cap : Nat} {l : List Sf} {sp : List Value} (h : Fl w b 71 fSf l sp) (m : Nat) (hm : m < l.length) (hc : l.length ≤ cap) (j : Nat) (u : Value) (hj : (flat fSf (l.drop (m + 1)))[j]? = some u) : w.cell? ((fromAt b m cap).add j) = some u := by
  have hj' := (List.getElem?_eq_some_iff.1 hj).1
  rw [flat_length wide_Sf, List.length_drop] at hj'
  have hc' : ¬ cap = m + 1 := by intro e; omega
  unfold fromAt
  rw [if_neg hc', Addr.add_lit]
  have h2 := h.cellsS ((m + 1) * 9 + j) u (by
    rw [show flat fSf l = flat fSf (l.take (m + 1)) ++ flat fSf (l.drop (m + 1)) by rw [← flat_app, List.take_append_drop]]
    have hlen : (flat fSf (l.take (m + 1))).length = (m + 1) * 9 := by rw [flat_length wide_Sf, List.length_take]; omega
    rw [List.getElem?_append_right (by omega), hlen, Nat.add_sub_cancel_left]
    exact hj)
  rw [Addr.add_lit, Nat.zero_add] at h2
  exact h2
end Go.Proofs.Ytiahiakllpjliaa
