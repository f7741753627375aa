
/-
  A block of memory that holds rows of one width, one behind another ('Fl'), perhaps with room behind them; what reading and writing one cell of it is. No Go text. Conditions: those that each theorem names.
-/
import Derived.Test.YtoejoneecanbbaaLawsB
import Derived.Maps.AppendAt
namespace Go.Proofs.Ytoejoneecanbbaa
open Go.RowKit
set_option linter.unusedVariables false

def flat {α : Type} (f : α → List Value) (l : List α) : List Value := l.flatMap f
theorem flat_nil {α : Type} (f : α → List Value) : flat f [] = [] := rfl
theorem flat_cons {α : Type} (f : α → List Value) (x : α) (l : List α) : flat f (x :: l) = f x ++ flat f l := by simp [flat]
theorem flat_app {α : Type} (f : α → List Value) (l m : List α) : flat f (l ++ m) = flat f l ++ flat f m := by simp [flat]
/-- The rows are m cells wide, each cell a cell. -/
structure Wide {α : Type} (f : α → List Value) (m : Nat) : Prop where
  len : ∀ x, (f x).length = m
  one : ∀ x, ∀ u ∈ f x, u.oneCell' = true
theorem flat_length {α : Type} {f : α → List Value} {m : Nat} (hf : Wide f m) : ∀ l : List α, (flat f l).length = l.length * m
  | [] => by simp [flat]
  | x :: l => by rw [flat_cons, List.length_append, hf.len, flat_length hf l, List.length_cons, Nat.add_mul]; omega
theorem flat_one {α : Type} {f : α → List Value} {m : Nat} (hf : Wide f m) (l : List α) : ∀ u ∈ flat f l, u.oneCell' = true := by
  intro u hu
  simp only [flat, List.mem_flatMap] at hu
  obtain ⟨x, _, h⟩ := hu
  exact hf.one x u h
theorem flat_at {α : Type} {f : α → List Value} {m : Nat} (hf : Wide f m) (d : α) : ∀ (l : List α) (i k : Nat), i < l.length → k < m → (flat f l)[i * m + k]? = (f (l.getD i d))[k]?
  | [], i, k, h, _ => by simp at h
  | x :: l, 0, k, _, hk => by rw [flat_cons, Nat.zero_mul, Nat.zero_add, List.getElem?_append_left (by rw [hf.len]; exact hk)]; rfl
  | x :: l, i + 1, k, h, hk => by
    rw [flat_cons, List.getElem?_append_right (by rw [hf.len, Nat.add_mul]; omega), hf.len, show (i + 1) * m + k - m = i * m + k by rw [Nat.add_mul]; omega, List.getD_cons_succ]
    exact flat_at hf d l i k (by simpa using h) hk
theorem flat_set {α : Type} {f : α → List Value} {m : Nat} (hf : Wide f m) (d : α) : ∀ (l : List α) (i k : Nat) (v : Value) (y : α), i < l.length → k < m → (f (l.getD i d)).set k v = f y → (flat f l).set (i * m + k) v = flat f (l.set i y)
  | [], i, k, v, y, h, _, _ => by simp at h
  | x :: l, 0, k, v, y, _, hk, hy => by
    rw [flat_cons, Nat.zero_mul, Nat.zero_add, List.set_append_left _ _ (by rw [hf.len]; exact hk), List.set_cons_zero, flat_cons]
    rw [List.getD_cons_zero] at hy
    rw [hy]
  | x :: l, i + 1, k, v, y, h, hk, hy => by
    rw [flat_cons, List.set_append_right _ _ (by rw [hf.len, Nat.add_mul]; omega), hf.len, show (i + 1) * m + k - m = i * m + k by rw [Nat.add_mul]; omega, List.set_cons_succ, flat_cons]
    rw [flat_set hf d l i k v y (by simpa using h) hk (by rw [List.getD_cons_succ] at hy; exact hy)]
/-- A block that holds these rows, and behind them sp. -/
def Fl {α : Type} (w : World) (b : Nat) (t : TypeId) (f : α → List Value) (l : List α) (sp : List Value) : Prop := w.heap[b]? = some (.cells (flat f l ++ sp).toArray t (0, 0))
theorem Fl.blk {α : Type} {w w' : World} {b : Nat} {t : TypeId} {f : α → List Value} {l : List α} {sp : List Value} (h : Fl w b t f l sp) (hb : w'.heap[b]? = w.heap[b]?) : Fl w' b t f l sp := by unfold Fl; rw [hb]; exact h
theorem Fl.lt {α : Type} {w : World} {b : Nat} {t : TypeId} {f : α → List Value} {l : List α} {sp : List Value} (h : Fl w b t f l sp) : b < w.heap.size := (Array.getElem?_eq_some_iff.1 h).1
theorem Fl.below {α : Type} {w w' : World} {b : Nat} {t : TypeId} {f : α → List Value} {l : List α} {sp : List Value} (h : Fl w b t f l sp) (hb : Below w.heap.size w w') : Fl w' b t f l sp := h.blk (hb.block b h.lt)
theorem Fl.cell {α : Type} {w : World} {b : Nat} {t : TypeId} {f : α → List Value} {l : List α} {sp : List Value} {m : Nat} (h : Fl w b t f l sp) (hf : Wide f m) (d : α) (i k : Nat) (hi : i < l.length) (hk : k < m) : w.cell? ⟨b, i * m + k, none⟩ = (f (l.getD i d))[k]? := by
  have hlt : i * m + k < l.length * m := by
    have := Nat.mul_le_mul_right m (show i + 1 ≤ l.length by omega)
    rw [Nat.add_mul] at this
    omega
  rw [cell_of_row _ _ _ _ _ _ h]
  simp only [List.getElem?_toArray]
  rw [List.getElem?_append_left (by rw [flat_length hf]; exact hlt)]
  exact flat_at hf d l i k hi hk
theorem Fl.frozen {α : Type} {w : World} {b : Nat} {t : TypeId} {f : α → List Value} {l : List α} {sp : List Value} (h : Fl w b t f l sp) (o : Nat) : w.frozen? ⟨b, o, none⟩ = false := by
  have h' : w.heap[b]? = some (.cells (flat f l ++ sp).toArray t (0, 0)) := h
  simp [World.frozen?, h']
theorem Fl.set {α : Type} {w : World} {b : Nat} {t : TypeId} {f : α → List Value} {l : List α} {sp : List Value} {m : Nat} (h : Fl w b t f l sp) (hf : Wide f m) (d : α) (i k : Nat) (v : Value) (y : α) (hi : i < l.length) (hk : k < m) (hy : (f (l.getD i d)).set k v = f y) : Fl (w.setCell ⟨b, i * m + k, none⟩ v) b t f (l.set i y) sp := by
  have hlt : i * m + k < l.length * m := by
    have := Nat.mul_le_mul_right m (show i + 1 ≤ l.length by omega)
    rw [Nat.add_mul] at this
    omega
  unfold Fl
  rw [heap_setCell_same _ _ _ _ _ _ h, ← flat_set hf d l i k v y hi hk hy, ← List.set_append_left _ _ (by rw [flat_length hf]; exact hlt)]
  simp
theorem Fl.new {α : Type} (w : World) (t : TypeId) (f : α → List Value) (l : List α) : Fl (w.alloc (.cells (flat f l).toArray t)) w.heap.size t f l [] := by
  unfold Fl; rw [List.append_nil]; exact heap_alloc_new w _
theorem getD_set {α : Type} (l : List α) (i j : Nat) (y d : α) (hi : i < l.length) : (l.set i y).getD j d = if j = i then y else l.getD j d := by
  simp only [List.getD_eq_getElem?_getD, List.getElem?_set]
  by_cases h : i = j
  · subst h; simp [hi]
  · rw [if_neg h, if_neg (Ne.symm h)]
/-- Some cells of a row are written. -/
def setL (l : List Value) (o : Nat) : List Value → List Value
  | [] => l
  | v :: r => setL (l.set o v) (o + 1) r
theorem setL_length : ∀ (vs l : List Value) (o : Nat), (setL l o vs).length = l.length
  | [], l, o => rfl
  | v :: r, l, o => by rw [setL, setL_length r, List.length_set]
theorem setL_mid : ∀ (vs A B C : List Value) (k : Nat), k + vs.length ≤ B.length → setL (A ++ B ++ C) (A.length + k) vs = A ++ setL B k vs ++ C
  | [], A, B, C, k, _ => rfl
  | v :: r, A, B, C, k, h => by
    simp only [List.length_cons] at h
    rw [setL, setL, List.set_append_left _ _ (by simp; omega), List.set_append_right _ _ (by omega), Nat.add_sub_cancel_left, Nat.add_assoc]
    exact setL_mid r A (B.set k v) C (k + 1) (by rw [List.length_set]; omega)
theorem heap_setCells (b : Nat) (t : TypeId) : ∀ (vs : List Value) (o : Nat) (w : World) (cs : List Value), w.heap[b]? = some (.cells cs.toArray t (0, 0)) → (w.setCells b o vs).heap[b]? = some (.cells (setL cs o vs).toArray t (0, 0))
  | [], o, w, cs, h => h
  | v :: r, o, w, cs, h => by
    rw [World.setCells, setL]
    refine heap_setCells b t r (o + 1) _ _ ?_
    rw [heap_setCell_same _ _ _ _ _ _ h]
    simp
theorem heap_setCells_other (b : Nat) : ∀ (vs : List Value) (o : Nat) (w : World) (k : Nat), k ≠ b → (w.setCells b o vs).heap[k]? = w.heap[k]?
  | [], o, w, k, h => rfl
  | v :: r, o, w, k, h => by
    rw [World.setCells, heap_setCells_other b r (o + 1) _ k h]
    exact heap_setCell_other w ⟨b, o, none⟩ k _ h
theorem below_setCellsF {B b : Nat} {a : World} (hb : B ≤ b) : ∀ (vs : List Value) (o : Nat) (w : World), Below B a w → Below B a (w.setCells b o vs)
  | [], _, _, h => h
  | v :: r, o, w, h => below_setCellsF hb r (o + 1) _ (h.setCell (p := ⟨b, o, none⟩) hb v)
theorem flat_split {α : Type} (f : α → List Value) (d : α) (l : List α) (i : Nat) (hi : i < l.length) : flat f l = flat f (l.take i) ++ f (l.getD i d) ++ flat f (l.drop (i + 1)) := by
  have h : l = l.take i ++ l.getD i d :: l.drop (i + 1) := by
    rw [List.getD_eq_getElem?_getD, List.getElem?_eq_getElem hi, Option.getD_some, ← List.drop_eq_getElem_cons hi, List.take_append_drop]
  conv => lhs; rw [h]
  rw [flat_app, flat_cons, List.append_assoc]
theorem set_split {α : Type} (l : List α) (i : Nat) (y : α) (hi : i < l.length) : l.set i y = l.take i ++ y :: l.drop (i + 1) := by
  rw [List.set_eq_take_append_cons_drop, if_pos hi]
theorem Fl.setn {α : Type} {w : World} {b : Nat} {t : TypeId} {f : α → List Value} {l : List α} {sp : List Value} {m : Nat} (h : Fl w b t f l sp) (hf : Wide f m) (d : α) (i k : Nat) (vs : List Value) (y : α) (hi : i < l.length) (hk : k + vs.length ≤ m) (hy : setL (f (l.getD i d)) k vs = f y) : Fl (w.setCells b (i * m + k) vs) b t f (l.set i y) sp := by
  unfold Fl
  rw [heap_setCells b t vs _ w _ h, flat_split f d l i hi, set_split l i y hi, flat_app, flat_cons, ← hy]
  have hA : i * m + k = (flat f (l.take i)).length + k := by rw [flat_length hf, List.length_take, Nat.min_eq_left (by omega)]
  rw [hA, List.append_assoc (_ ++ _), setL_mid _ _ _ _ _ (by rw [hf.len]; exact hk)]
  simp
theorem Fl.range {α : Type} {w : World} {b : Nat} {t : TypeId} {f : α → List Value} {l : List α} {sp : List Value} {m : Nat} (h : Fl w b t f l sp) (hf : Wide f m) (d : α) (i : Nat) (hi : i < l.length) : w.rangeAt b (i * m) (f (l.getD i d)) := by
  intro j v hj
  have hjm : j < m := by rw [← hf.len (l.getD i d)]; exact (List.getElem?_eq_some_iff.1 hj).1
  rw [h.cell hf d i j hi hjm, hj]
theorem Fl.there {α : Type} {w : World} {b : Nat} {t : TypeId} {f : α → List Value} {l : List α} {sp : List Value} {m : Nat} (h : Fl w b t f l sp) (hf : Wide f m) (d : α) (i k n : Nat) (hi : i < l.length) (hk : k + n ≤ m) : w.there b (i * m + k) n := by
  intro j hj
  refine ⟨?_, h.frozen _⟩
  rw [Nat.add_assoc, h.cell hf d i (k + j) hi (by omega), List.getElem?_eq_getElem (by rw [hf.len]; omega)]
  rfl
/-- A zeroed row of n. -/
theorem made_flat {α : Type} {f : α → List Value} {m : Nat} (hf : Wide f m) (z : α) (hm : 0 < m) (n : Nat) : madeCells (f z).toArray (n * m) = (flat f (List.replicate n z)).toArray := by
  apply Array.ext
  · rw [size_madeCells, List.size_toArray, flat_length hf, List.length_replicate]
  · intro i h1 h2
    have hi : i < n * m := by simpa [size_madeCells] using h1
    have hdm := Nat.div_add_mod i m
    have hq : i / m < n := Nat.div_lt_of_lt_mul (by rw [Nat.mul_comm]; exact hi)
    have hr : (flat f (List.replicate n z))[i]? = (f z)[i % m]? := by
      have e : i = i / m * m + i % m := by rw [Nat.mul_comm]; exact hdm.symm
      conv => lhs; rw [e]
      rw [flat_at hf z _ _ _ (by rw [List.length_replicate]; exact hq) (Nat.mod_lt _ hm)]
      congr 2
      simp [hq]
    have hl : (madeCells (f z).toArray (n * m))[i] = (f z)[i % m]'(by rw [hf.len]; exact Nat.mod_lt _ hm) := by
      simp only [madeCells, Array.getElem_map, Array.getElem_range]
      simp [hf.len, Nat.mod_lt _ hm]
    rw [hl]
    rw [List.getElem?_eq_getElem (by simpa using h2), List.getElem?_eq_getElem (by rw [hf.len]; exact Nat.mod_lt _ hm)] at hr
    simpa using hr.symm
/-- A new block, or none that was there. -/
theorem step_alloc {P : Program} {ops : Array Oper} {o : Oper} {a : Act} {w : World} {K : Act → World → Prop} {Q : Exit → Act → World → Prop} {E : Prop} (hw : Region.wanted o (yielded ops a.tmps) = true) (t : TypeId) (ho : o.op = .alloc t) (ob : Obj)
    (hrun : (Instr.alloc t true (.tuple #[])).run P w = .ok (.pointer (some ⟨w.heap.size, 0, none⟩)) (w.alloc ob))
    (h : K (a.put o.dst (.pointer (some ⟨w.heap.size, 0, none⟩))) (w.alloc ob)) : if Region.wanted o (yielded ops a.tmps) = true then Oper.wp P o a w K Q else E := by
  rw [if_pos hw]
  unfold Oper.wp
  simp only [execOp, ho, Sem.run_bind, Sem.run_pure, Result.andThen_ok, hrun]
  exact h
theorem step_make {P : Program} {ops : Array Oper} {o : Oper} {a : Act} {w : World} {K : Act → World → Prop} {Q : Exit → Act → World → Prop} {E : Prop} (hw : Region.wanted o (yielded ops a.tmps) = true) (t : TypeId) (x y : Operand) (ho : o.op = .makeSlice t x y) (n : Nat) (ob : Obj)
    (hx : a.eval x = .int .i64 n) (hy : a.eval y = .int .i64 n)
    (hrun : (Instr.makeSlice t (.int .i64 n) (.int .i64 n)).run P w = .ok (.slice (some ⟨w.heap.size, 0, none⟩) n n) (w.alloc ob))
    (h : K (a.put o.dst (.slice (some ⟨w.heap.size, 0, none⟩) n n)) (w.alloc ob)) : if Region.wanted o (yielded ops a.tmps) = true then Oper.wp P o a w K Q else E := by
  rw [if_pos hw]
  unfold Oper.wp
  simp only [execOp, ho, hx, hy, Sem.run_bind, Sem.run_pure, Result.andThen_ok, hrun]
  exact h
end Go.Proofs.Ytoejoneecanbbaa
