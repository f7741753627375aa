
/-
  The contract of tree's renew. Conditions: those that each theorem names.
-/
import Derived.Test.YtoejoneecanbbaaTree7
namespace Go.Proofs.Ytoejoneecanbbaa
open Go.RowKit
set_option linter.unusedVariables false
set_option maxRecDepth 20000

/-- The roles as they were selected are laid into the tree. -/
theorem Tr.sel {w w1 : World} {m : Mt} {T : Tt} (h : Tr w m T) (hb : Below w.heap.size w w1) (ib vb : Nat) (h1 : w.heap.size ≤ ib) (h2 : w.heap.size ≤ vb) (hi : Fl w1 ib 3 fI (selT T).roles []) (hv : Fl w1 vb 30 fV (selT T).tells []) :
    Tr (w1.setCells m.tb 2 (rolesRow (selT T).y (selT T).rp (.slice (some ⟨ib, 0, none⟩) T.ps.length T.ps.length) (.slice (some ⟨vb, 0, none⟩) T.ps.length T.ps.length)).toList) ⟨m.tb, m.pv, m.ov, ib, vb⟩ (selT T) ∧
      Goes m w ⟨m.tb, m.pv, m.ov, ib, vb⟩ (w1.setCells m.tb 2 (rolesRow (selT T).y (selT T).rp (.slice (some ⟨ib, 0, none⟩) T.ps.length T.ps.length) (.slice (some ⟨vb, 0, none⟩) T.ps.length T.ps.length)).toList) := by
  have hw := Wr.cells (rolesRow (selT T).y (selT T).rp (.slice (some ⟨ib, 0, none⟩) T.ps.length T.ps.length) (.slice (some ⟨vb, 0, none⟩) T.ps.length T.ps.length)).toList 2 w1 (Wr.refl m.tb w1)
  have hold : ∀ k, k < w.heap.size → k ≠ m.tb → (w1.setCells m.tb 2 (rolesRow (selT T).y (selT T).rp (.slice (some ⟨ib, 0, none⟩) T.ps.length T.ps.length) (.slice (some ⟨vb, 0, none⟩) T.ps.length T.ps.length)).toList).heap[k]? = w.heap[k]? := fun k hk hn => (hw.block k hn).trans (hb.block k hk)
  have htb := h.ltb
  have hrl : (selT T).roles.length = T.ps.length := by show (rolesL T.id T.bs).length = _; rw [rolesL_len, bs_len]
  have htl : (selT T).tells.length = T.ps.length := by show (tellsL T.id T.bs).length = _; rw [tellsL_len, bs_len]
  refine ⟨⟨?_, ?_, ?_, hi.blk (hw.block ib (by omega)), hv.blk (hw.block vb (by omega)), h.fg, h.few, hrl, htl, h.a1, h.a2, h.a3, fun e => ?_, fun e => ?_⟩, ⟨rfl, rfl, fun k hk => .inl hk, hw.os.trans hb.os, hw.tape.trans hb.tape, hw.output.trans hb.output, by rw [← hw.size]; exact hb.size, fun k hk hn => hold k hk (fun e => hn (.inl e))⟩⟩
  · rw [heap_setCells m.tb 67 _ 2 w1 (treeRow m T) (heap_kept hb h.row)]
    rfl
  · exact h.ports.blk fun b e => hold b (h.ports.lt e) (fun e' => h.a1 (by rw [e, e']))
  · exact h.outs.blk fun b e => hold b (h.outs.lt e) (fun e' => h.a2 (by rw [e, e']))
  · have := h.lt ib e; omega
  · have := h.lt vb e; omega
def newsB (T U : Tt) : Bool := (U.y.root != T.y.root) || (U.y.cost != T.y.cost)
def takeTo (T : Tt) (rs : List Int) : Nat → Tt
  | 0 => T
  | k + 1 => if ((takeTo T rs k).at k).role ≠ rs.getD k 0 then takeT (takeTo T rs k) k (rs.getD k 0) else takeTo T rs k
def chTo (T : Tt) (rs : List Int) (b : Bool) : Nat → Bool
  | 0 => b
  | k + 1 => if ((takeTo T rs k).at k).role ≠ rs.getD k 0 then true else chTo T rs b k
theorem takeTo_len (T : Tt) (rs : List Int) : ∀ k, (takeTo T rs k).ps.length = T.ps.length
  | 0 => rfl
  | k + 1 => by
    rw [takeTo]
    split
    · rw [takeT_len, takeTo_len T rs k]
    · exact takeTo_len T rs k
theorem takeTo_ok {T : Tt} (h : T.ok) (rs : List Int) (hr : ∀ i, 0 ≤ rs.getD i 0 ∧ rs.getD i 0 ≤ 4) : ∀ k, (takeTo T rs k).ok
  | 0 => h
  | k + 1 => by
    rw [takeTo]
    split
    · exact takeT_ok (takeTo_ok h rs hr k) _ _ (hr k)
    · exact takeTo_ok h rs hr k
def rootT (T : Tt) : Tt := if 0 ≤ T.rp ∧ (T.at T.rp.toNat).state ≠ 2 then forwardT T T.rp.toNat else T
/-- All that the roles anew do, but for telling. -/
def midT (T : Tt) : Tt := rootT (takeTo (if newsB T (selT T) = true then disT (selT T) else selT T) (selT T).roles T.ps.length)
def renewT (T : Tt) (asked : Bool) : Tt := if (chTo (if newsB T (selT T) = true then disT (selT T) else selT T) (selT T).roles (newsB T (selT T)) T.ps.length || asked) = true then allT (midT T) else midT T
theorem disT_len (T : Tt) : (disT T).ps.length = T.ps.length := disTo_len T _
theorem rootT_len (T : Tt) : (rootT T).ps.length = T.ps.length := by
  unfold rootT
  split
  · exact forwardT_len _ _
  · rfl
theorem rootT_ok {T : Tt} (h : T.ok) : (rootT T).ok := by
  unfold rootT
  split
  · exact forwardT_ok h _
  · exact h
theorem midT_ok {T : Tt} (h : T.ok) : (midT T).ok := by
  unfold midT
  refine rootT_ok (takeTo_ok ?_ _ (selT_role T) _)
  split
  · exact disTo_ok (selT_ok h) _
  · exact selT_ok h
/-- What stays beside the ports and the flags. -/
structure Same (T U : Tt) : Prop where
  outs : U.outs = T.outs
  rp : U.rp = T.rp
  tells : U.tells = T.tells
  roles : U.roles = T.roles
  y : U.y = T.y
  id : U.id = T.id
  quiet : U.quiet = T.quiet
theorem Same.refl (T : Tt) : Same T T := ⟨rfl, rfl, rfl, rfl, rfl, rfl, rfl⟩
theorem Same.trans {T U V : Tt} (h : Same T U) (g : Same U V) : Same T V := ⟨g.outs.trans h.outs, g.rp.trans h.rp, g.tells.trans h.tells, g.roles.trans h.roles, g.y.trans h.y, g.id.trans h.id, g.quiet.trans h.quiet⟩
theorem same_setP (T : Tt) (i : Nat) (p : Tp) : Same T (setP T i p) := ⟨rfl, rfl, rfl, rfl, rfl, rfl, rfl⟩
theorem same_forget (T : Tt) (i : Nat) : Same T (forgetT T i) := ⟨rfl, rfl, rfl, rfl, rfl, rfl, rfl⟩
theorem same_stepS (fr : Int) (T : Tt) (i : Nat) : Same T (stepS fr T i) := by
  unfold stepS
  split
  · exact (same_setP _ _ _).trans (same_forget _ _)
  · exact Same.refl _
theorem same_spreadTo (T : Tt) (fr : Int) : ∀ k, Same T (spreadTo T fr k)
  | 0 => Same.refl _
  | k + 1 => (same_spreadTo T fr k).trans (same_stepS _ _ _)
theorem same_forward (T : Tt) (i : Nat) : Same T (forwardT T i) := by
  unfold forwardT
  split
  · exact same_setP _ _ _
  · exact (same_setP _ _ _).trans (same_spreadTo _ _ _)
theorem same_take (T : Tt) (i : Nat) (r : Int) : Same T (takeT T i r) := by
  unfold takeT
  repeat' split
  · exact (same_setP T i _).trans ((same_forward _ _).trans (same_forget _ _))
  · exact (same_setP _ _ _).trans (same_forget _ _)
  · exact same_setP _ _ _
  · exact (same_setP _ _ _).trans (same_forget _ _)
theorem same_takeTo (T : Tt) (rs : List Int) : ∀ k, Same T (takeTo T rs k)
  | 0 => Same.refl _
  | k + 1 => by
    rw [takeTo]
    split
    · exact (same_takeTo T rs k).trans (same_take _ _ _)
    · exact same_takeTo T rs k
theorem same_disTo (T : Tt) : ∀ k, Same T (disTo T k)
  | 0 => Same.refl _
  | k + 1 => (same_disTo T k).trans (same_setP _ _ _)
theorem same_stepH (fr : Int) (T : Tt) (i : Nat) : Same T (stepH fr T i) := by
  unfold stepH
  split
  · exact (same_setP _ _ _).trans (same_forget _ _)
  · exact Same.refl _
theorem same_holdTo (T : Tt) (fr : Int) : ∀ k, Same T (holdTo T fr k)
  | 0 => Same.refl _
  | k + 1 => (same_holdTo T fr k).trans (same_stepH _ _ _)
theorem same_root (T : Tt) : Same T (rootT T) := by
  unfold rootT
  split
  · exact same_forward _ _
  · exact Same.refl _
end Go.Proofs.Ytoejoneecanbbaa
