/-
  What the rows of a port are in memory ('Pt'), and what is written there. Conditions: those that each theorem names.
-/
import Derived.Test.YtjfjohbibkidhaaRing1
namespace Go.Proofs.Ytjfjohbibkidhaa
open Go.RowKit
set_option linter.unusedVariables false

/-- A row: its value, its numbers, how many may wait, how many had no room. -/
structure Rw where
  (v : Value) (l : List Int) (bound lost : Nat)
@[reducible] def Rw.none : Rw := ⟨.slice .none 0 0, [], 0, 0⟩
def rowR : List Rw → List Value
  | [] => []
  | r :: rs => r.v :: .int .i64 r.bound :: .int .i64 r.lost :: rowR rs
theorem rowR_length : ∀ rs : List Rw, (rowR rs).length = rs.length * 3
  | [] => rfl
  | r :: rs => by simp only [rowR, List.length_cons, rowR_length rs]; omega
theorem rowR_v : ∀ (rs : List Rw) (k : Nat), k < rs.length → (rowR rs)[k * 3]? = some (rs.getD k Rw.none).v
  | [], k, h => by simp at h
  | p :: ps, 0, _ => rfl
  | p :: ps, k + 1, h => by
    rw [show (k + 1) * 3 = k * 3 + 3 by omega]
    simp only [rowR, List.getElem?_cons_succ, List.getD_cons_succ]
    exact rowR_v ps k (by simpa using h)
theorem rowR_b : ∀ (rs : List Rw) (k : Nat), k < rs.length → (rowR rs)[k * 3 + 1]? = some (.int .i64 (rs.getD k Rw.none).bound)
  | [], k, h => by simp at h
  | p :: ps, 0, _ => rfl
  | p :: ps, k + 1, h => by
    rw [show (k + 1) * 3 + 1 = k * 3 + 1 + 3 by omega]
    simp only [rowR, List.getElem?_cons_succ, List.getD_cons_succ]
    exact rowR_b ps k (by simpa using h)
theorem rowR_l : ∀ (rs : List Rw) (k : Nat), k < rs.length → (rowR rs)[k * 3 + 2]? = some (.int .i64 (rs.getD k Rw.none).lost)
  | [], k, h => by simp at h
  | p :: ps, 0, _ => rfl
  | p :: ps, k + 1, h => by
    rw [show (k + 1) * 3 + 2 = k * 3 + 2 + 3 by omega]
    simp only [rowR, List.getElem?_cons_succ, List.getD_cons_succ]
    exact rowR_l ps k (by simpa using h)
theorem rowR_set_v : ∀ (rs : List Rw) (k : Nat) (v : Value) (l : List Int), k < rs.length → (rowR rs).set (k * 3) v = rowR (rs.set k ⟨v, l, (rs.getD k Rw.none).bound, (rs.getD k Rw.none).lost⟩)
  | [], k, v, l, h => by simp at h
  | p :: ps, 0, v, l, _ => rfl
  | p :: ps, k + 1, v, l, h => by
    rw [show (k + 1) * 3 = k * 3 + 3 by omega]
    simp only [rowR, List.set_cons_succ, List.getD_cons_succ, rowR_set_v ps k v l (by simpa using h)]
theorem rowR_set_b : ∀ (rs : List Rw) (k n : Nat), k < rs.length → (rowR rs).set (k * 3 + 1) (.int .i64 n) = rowR (rs.set k ⟨(rs.getD k Rw.none).v, (rs.getD k Rw.none).l, n, (rs.getD k Rw.none).lost⟩)
  | [], k, n, h => by simp at h
  | p :: ps, 0, n, _ => rfl
  | p :: ps, k + 1, n, h => by
    rw [show (k + 1) * 3 + 1 = k * 3 + 1 + 3 by omega]
    simp only [rowR, List.set_cons_succ, List.getD_cons_succ, rowR_set_b ps k n (by simpa using h)]
theorem rowR_set_l : ∀ (rs : List Rw) (k n : Nat), k < rs.length → (rowR rs).set (k * 3 + 2) (.int .i64 n) = rowR (rs.set k ⟨(rs.getD k Rw.none).v, (rs.getD k Rw.none).l, (rs.getD k Rw.none).bound, n⟩)
  | [], k, n, h => by simp at h
  | p :: ps, 0, n, _ => rfl
  | p :: ps, k + 1, n, h => by
    rw [show (k + 1) * 3 + 2 = k * 3 + 2 + 3 by omega]
    simp only [rowR, List.set_cons_succ, List.getD_cons_succ, rowR_set_l ps k n (by simpa using h)]
theorem getD_setR (rs : List Rw) (k j : Nat) (r : Rw) (hk : k < rs.length) : (rs.set k r).getD j Rw.none = if j = k then r else rs.getD j Rw.none := by
  simp only [List.getD_eq_getElem?_getD, List.getElem?_set]
  by_cases h : k = j
  · subst h; simp [hk]
  · rw [if_neg h, if_neg (Ne.symm h)]
/-- The rows of a port in memory: they lie in block g; the rows' blocks are the call's own ones, from B on, each its own. -/
structure Pt (w : World) (B g : Nat) (rs : List Rw) : Prop where
  len : rs.length = 8
  base : B ≤ g
  at_g : w.heap[g]? = some (.cells (rowR rs).toArray 72 (0, 0))
  row : ∀ k, k < 8 → Qe w (rs.getD k Rw.none).v (rs.getD k Rw.none).l
  own : ∀ k, k < 8 → ∀ b, (rs.getD k Rw.none).v.ownBlock = some b → B ≤ b ∧ b ≠ g
  apart : ∀ j k, j < 8 → k < 8 → j ≠ k → ∀ b, (rs.getD j Rw.none).v.ownBlock = some b → (rs.getD k Rw.none).v.ownBlock ≠ some b
/-- Of what was there only the port's own may have changed. -/
structure Tch (g : Nat) (rs : List Rw) (w w' : World) : Prop where
  os : w'.os = w.os
  tape : w'.tape = w.tape
  output : w'.output = w.output
  size : w.heap.size ≤ w'.heap.size
  block : ∀ k, k < w.heap.size → k ≠ g → (∀ c, c < 8 → (rs.getD c Rw.none).v.ownBlock ≠ some k) → w'.heap[k]? = w.heap[k]?
theorem Tch.refl (g : Nat) (rs : List Rw) (w : World) : Tch g rs w w := ⟨rfl, rfl, rfl, Nat.le_refl _, fun _ _ _ _ => rfl⟩
theorem Tch.of_below {g : Nat} {rs : List Rw} {w w' : World} (h : Below w.heap.size w w') : Tch g rs w w' := ⟨h.os, h.tape, h.output, h.size, fun k hk _ _ => h.block k hk⟩
theorem Tch.below {B g : Nat} {rs : List Rw} {w w' W : World} (h : Tch g rs w w') (hP : Pt w B g rs) (hB : Below B W w) (hs : B ≤ w.heap.size) : Below B W w' :=
  hB.trans ⟨h.os, h.tape, h.output, h.size, fun k hk => h.block k (by omega) (by have := hP.base; omega) (fun c hc e => by have := (hP.own c hc k e).1; omega)⟩
theorem Pt.ltg {w : World} {B g : Nat} {rs : List Rw} (h : Pt w B g rs) : g < w.heap.size := (Array.getElem?_eq_some_iff.1 h.at_g).1
theorem Pt.size {w : World} {B g : Nat} {rs : List Rw} (h : Pt w B g rs) : B ≤ w.heap.size := by have := h.ltg; have := h.base; omega
/-- It stays where its blocks stay. -/
theorem Pt.keep {w w' : World} {B g : Nat} {rs : List Rw} (h : Pt w B g rs) (hg : w'.heap[g]? = w.heap[g]?) (hr : ∀ k, k < 8 → ∀ b, (rs.getD k Rw.none).v.ownBlock = some b → w'.heap[b]? = w.heap[b]?) : Pt w' B g rs :=
  ⟨h.len, h.base, hg.trans h.at_g, fun k hk => (h.row k hk).blk (hr k hk), h.own, h.apart⟩
theorem Pt.below {w w' : World} {B g : Nat} {rs : List Rw} (h : Pt w B g rs) (hb : Below w.heap.size w w') : Pt w' B g rs :=
  h.keep (hb.block g h.ltg) (fun k hk b e => hb.block b ((h.row k hk).lt e))
theorem Pt.cellV {w : World} {B g : Nat} {rs : List Rw} (h : Pt w B g rs) (k : Nat) (hk : k < 8) : w.cell? ⟨g, k * 3, none⟩ = some (rs.getD k Rw.none).v := by
  rw [cell_of_row _ _ _ _ _ _ h.at_g, List.getElem?_toArray, rowR_v rs k (by rw [h.len]; exact hk)]
theorem Pt.cellB {w : World} {B g : Nat} {rs : List Rw} (h : Pt w B g rs) (k : Nat) (hk : k < 8) : w.cell? ⟨g, k * 3 + 1, none⟩ = some (.int .i64 (rs.getD k Rw.none).bound) := by
  rw [cell_of_row _ _ _ _ _ _ h.at_g, List.getElem?_toArray, rowR_b rs k (by rw [h.len]; exact hk)]
theorem Pt.cellL {w : World} {B g : Nat} {rs : List Rw} (h : Pt w B g rs) (k : Nat) (hk : k < 8) : w.cell? ⟨g, k * 3 + 2, none⟩ = some (.int .i64 (rs.getD k Rw.none).lost) := by
  rw [cell_of_row _ _ _ _ _ _ h.at_g, List.getElem?_toArray, rowR_l rs k (by rw [h.len]; exact hk)]
theorem Pt.frozen {w : World} {B g : Nat} {rs : List Rw} (h : Pt w B g rs) (o : Nat) : w.frozen? ⟨g, o, none⟩ = false := frozen_of_row w g o _ _ h.at_g
/-- A row's value is written: its numbers lie where they lay, or in a new block, or nowhere. -/
theorem Pt.put {w w1 : World} {B g : Nat} {rs : List Rw} (h : Pt w B g rs) (k : Nat) (hk : k < 8) (v' : Value) (l' : List Int) (hq : Qe w1 v' l')
    (ho : w1.os = w.os) (ht : w1.tape = w.tape) (hu : w1.output = w.output) (hz : w.heap.size ≤ w1.heap.size)
    (hs : ∀ b, b < w.heap.size → (rs.getD k Rw.none).v.ownBlock ≠ some b → w1.heap[b]? = w.heap[b]?)
    (hl : ∀ b, v'.ownBlock = some b → (rs.getD k Rw.none).v.ownBlock = some b ∨ w.heap.size ≤ b) :
    Pt (w1.setCell ⟨g, k * 3, none⟩ v') B g (rs.set k ⟨v', l', (rs.getD k Rw.none).bound, (rs.getD k Rw.none).lost⟩) ∧ Tch g rs w (w1.setCell ⟨g, k * 3, none⟩ v') := by
  have hlen : k < rs.length := by rw [h.len]; exact hk
  have hg1 : w1.heap[g]? = some (.cells (rowR rs).toArray 72 (0, 0)) := (hs g h.ltg (fun e => (h.own k hk g e).2 rfl)).trans h.at_g
  have hB := h.size
  have hgl := h.ltg
  have hvg : ∀ b, v'.ownBlock = some b → B ≤ b ∧ b ≠ g := fun b e => by
    rcases hl b e with e' | e'
    · exact h.own k hk b e'
    · exact ⟨by omega, by omega⟩
  refine ⟨⟨by rw [List.length_set]; exact h.len, h.base, ?_, fun j hj => ?_, fun j hj b e => ?_, fun i j hi hj hij b e1 e2 => ?_⟩, ⟨ho, ht, hu, by simpa [World.setCell] using hz, fun b hb hbg hc => ?_⟩⟩
  · rw [heap_setCell_same _ _ _ _ _ _ hg1, ← rowR_set_v rs k v' l' hlen]
    simp
  · rw [getD_setR _ _ _ _ hlen]
    by_cases e : j = k
    · rw [if_pos e]
      exact hq.blk fun b hb => heap_setCell_other w1 ⟨g, k * 3, none⟩ b v' (hvg b hb).2
    · rw [if_neg e]
      refine (h.row j hj).blk fun b hb => (heap_setCell_other w1 ⟨g, k * 3, none⟩ b v' (h.own j hj b hb).2).trans (hs b ((h.row j hj).lt hb) (h.apart j k hj hk e b hb))
  · rw [getD_setR _ _ _ _ hlen] at e
    by_cases e' : j = k
    · rw [if_pos e'] at e; exact hvg b e
    · rw [if_neg e'] at e; exact h.own j hj b e
  · rw [getD_setR _ _ _ _ hlen] at e1 e2
    by_cases ei : i = k
    · rw [if_pos ei] at e1
      rw [if_neg (by omega)] at e2
      rcases hl b e1 with e' | e'
      · exact h.apart k j hk hj (by omega) b e' e2
      · have := (h.row j hj).lt e2; omega
    · rw [if_neg ei] at e1
      by_cases ej : j = k
      · rw [if_pos ej] at e2
        rcases hl b e2 with e' | e'
        · exact h.apart k i hk hi (by omega) b e' e1
        · have := (h.row i hi).lt e1; omega
      · rw [if_neg ej] at e2
        exact h.apart i j hi hj hij b e1 e2
  · rw [heap_setCell_other w1 ⟨g, k * 3, none⟩ b v' hbg]
    exact hs b hb (hc k hk)
/-- How many had no room is written. -/
theorem Pt.putL {w : World} {B g : Nat} {rs : List Rw} (h : Pt w B g rs) (k n : Nat) (hk : k < 8) :
    Pt (w.setCell ⟨g, k * 3 + 2, none⟩ (.int .i64 n)) B g (rs.set k ⟨(rs.getD k Rw.none).v, (rs.getD k Rw.none).l, (rs.getD k Rw.none).bound, n⟩) ∧ Tch g rs w (w.setCell ⟨g, k * 3 + 2, none⟩ (.int .i64 n)) := by
  have hlen : k < rs.length := by rw [h.len]; exact hk
  have hv : ∀ j, ((rs.set k ⟨(rs.getD k Rw.none).v, (rs.getD k Rw.none).l, (rs.getD k Rw.none).bound, n⟩).getD j Rw.none).v = (rs.getD j Rw.none).v ∧ ((rs.set k ⟨(rs.getD k Rw.none).v, (rs.getD k Rw.none).l, (rs.getD k Rw.none).bound, n⟩).getD j Rw.none).l = (rs.getD j Rw.none).l := by
    intro j
    rw [getD_setR _ _ _ _ hlen]
    split
    · rename_i e; subst e; exact ⟨rfl, rfl⟩
    · exact ⟨rfl, rfl⟩
  refine ⟨⟨by rw [List.length_set]; exact h.len, h.base, ?_, fun j hj => ?_, fun j hj b e => ?_, fun i j hi hj hij b e1 e2 => ?_⟩, ⟨rfl, rfl, rfl, by simp [World.setCell], fun b hb hbg hc => heap_setCell_other w ⟨g, k * 3 + 2, none⟩ b _ hbg⟩⟩
  · rw [heap_setCell_same _ _ _ _ _ _ h.at_g, ← rowR_set_l rs k n hlen]
    simp
  · rw [(hv j).1, (hv j).2]
    exact (h.row j hj).blk fun b hb => heap_setCell_other w ⟨g, k * 3 + 2, none⟩ b _ (h.own j hj b hb).2
  · rw [(hv j).1] at e; exact h.own j hj b e
  · rw [(hv i).1] at e1; rw [(hv j).1] at e2; exact h.apart i j hi hj hij b e1 e2
/-- How many may wait is written. -/
theorem Pt.putB {w : World} {B g : Nat} {rs : List Rw} (h : Pt w B g rs) (k n : Nat) (hk : k < 8) :
    Pt (w.setCell ⟨g, k * 3 + 1, none⟩ (.int .i64 n)) B g (rs.set k ⟨(rs.getD k Rw.none).v, (rs.getD k Rw.none).l, n, (rs.getD k Rw.none).lost⟩) ∧ Tch g rs w (w.setCell ⟨g, k * 3 + 1, none⟩ (.int .i64 n)) := by
  have hlen : k < rs.length := by rw [h.len]; exact hk
  have hv : ∀ j, ((rs.set k ⟨(rs.getD k Rw.none).v, (rs.getD k Rw.none).l, n, (rs.getD k Rw.none).lost⟩).getD j Rw.none).v = (rs.getD j Rw.none).v ∧ ((rs.set k ⟨(rs.getD k Rw.none).v, (rs.getD k Rw.none).l, n, (rs.getD k Rw.none).lost⟩).getD j Rw.none).l = (rs.getD j Rw.none).l := by
    intro j
    rw [getD_setR _ _ _ _ hlen]
    split
    · rename_i e; subst e; exact ⟨rfl, rfl⟩
    · exact ⟨rfl, rfl⟩
  refine ⟨⟨by rw [List.length_set]; exact h.len, h.base, ?_, fun j hj => ?_, fun j hj b e => ?_, fun i j hi hj hij b e1 e2 => ?_⟩, ⟨rfl, rfl, rfl, by simp [World.setCell], fun b hb hbg hc => heap_setCell_other w ⟨g, k * 3 + 1, none⟩ b _ hbg⟩⟩
  · rw [heap_setCell_same _ _ _ _ _ _ h.at_g, ← rowR_set_b rs k n hlen]
    simp
  · rw [(hv j).1, (hv j).2]
    exact (h.row j hj).blk fun b hb => heap_setCell_other w ⟨g, k * 3 + 1, none⟩ b _ (h.own j hj b hb).2
  · rw [(hv j).1] at e; exact h.own j hj b e
  · rw [(hv i).1] at e1; rw [(hv j).1] at e2; exact h.apart i j hi hj hij b e1 e2
theorem wpList_append_q {w : World} {ops : Array Oper} {rest : List Oper} {o : Oper} {a : Act} {Q : Exit → Act → World → Prop} (hgd : o.guard = none) (s x : Operand)
    (ho : o.op = .call { callee := .builtin .append, args := #[s, x], argTypes := #[27, 27] })
    (v : Value) (l : List Int) (hs : a.eval s = v) (hq : Qe w v l) (ad : Addr) (m c : Nat) (ms : List Int) (hx : a.eval x = .slice (some ad) m c) (hm : m = ms.length) (hms : ∀ j, j < ms.length → w.cell? (ad.add j) = some (.int .i64 (ms.getD j 0)))
    (hsz : l.length + ms.length ≤ 1000000)
    (h : ∀ v' w', Qe w' v' (l ++ ms) → w.grownBy w' v.ownBlock → (v'.ownBlock = v.ownBlock ∨ v'.ownBlock = some w.heap.size) → wpList Try.prog ops Q rest (a.put o.dst v') w') :
    wpList Try.prog ops Q (o :: rest) a w := by
  subst hm
  refine wpList_plain hgd fun K hK => ?_
  obtain ⟨v', w', hr, h2, h3, h4⟩ := hq.append ad c ms o.type hms hsz
  unfold Oper.wp execOp
  simp only [ho, resolve, invoke, builtin, Sem.run_bind, Sem.run_pure, Result.andThen_ok, List.map_toArray, List.map_cons, List.map_nil, hs, hx, hr]
  exact hK _ _ (h v' w' h2 h3 h4)
end Go.Proofs.Ytjfjohbibkidhaa
