
/-
  A bridge's part in the tree, in numbers ('Tt') and in memory ('Tr'); what writing a port's field is. Conditions: those that each theorem names.
-/
import Derived.Test.YtoejoneecanbbaaRoleM
import Derived.Test.YtoejoneecanbbaaSls
import Derived.Test.YtoejoneecanbbaaBp3
namespace Go.Proofs.Ytoejoneecanbbaa
open Go.RowKit
set_option linter.unusedVariables false
set_option maxRecDepth 20000

structure Tp where
  (b : Rp) (edge : Bool) (role state age left wait change : Int) (agreed : Bool)
  deriving DecidableEq
@[reducible] def Tp.zero : Tp := ⟨Rp.zero, false, 0, 0, 0, 0, 0, 0, false⟩
instance : Inhabited Tp := ⟨Tp.zero⟩
@[reducible] def fT (p : Tp) : List Value := [.int .i64 p.b.id, .int .u64 p.b.cost, .bool p.b.up, .bool p.b.has, .int .u64 p.b.told.root, .int .u64 p.b.told.cost, .int .u64 p.b.told.bridge, .int .i64 p.b.told.port, .bool p.edge, .int .i64 p.role, .int .i64 p.state, .int .i64 p.age, .int .i64 p.left, .int .i64 p.wait, .int .i64 p.change, .bool p.agreed]
theorem wide_T : Wide fT 16 := ⟨fun _ => rfl, fun x u hu => by simp at hu; rcases hu with rfl | rfl | rfl | rfl | rfl | rfl | rfl | rfl | rfl | rfl | rfl | rfl | rfl | rfl | rfl | rfl <;> rfl⟩
structure Ot where
  (port : Int) (m : Bp)
  deriving DecidableEq
@[reducible] def Ot.zero : Ot := ⟨0, Bp.zero⟩
@[reducible] def fO (o : Ot) : List Value := [.int .i64 o.port, .int .i64 o.m.kind, .int .u64 o.m.root, .int .u64 o.m.cost, .int .u64 o.m.bridge, .int .i64 o.m.port, .bool o.m.change, .bool o.m.ack, .bool o.m.proposal, .bool o.m.agreement, .bool o.m.learning, .bool o.m.forwarding, .int .i64 o.m.role, .int .i64 o.m.age, .int .i64 o.m.maxAge, .int .i64 o.m.hello, .int .i64 o.m.delay]
theorem wide_O : Wide fO 17 := ⟨fun _ => rfl, fun x u hu => by simp at hu; rcases hu with rfl | rfl | rfl | rfl | rfl | rfl | rfl | rfl | rfl | rfl | rfl | rfl | rfl | rfl | rfl | rfl | rfl <;> rfl⟩
def Bp.vec (m : Bp) : Vc := ⟨m.root, m.cost, m.bridge, m.port⟩
structure Tt where
  (id : Int) (ps : List Tp) (y : Vc) (rp : Int) (roles : List Int) (tells : List Vc) (outs : List Ot) (fg : List Bool) (quiet : Int)
  deriving DecidableEq
/-- Where it lies. -/
structure Mt where
  (tb : Nat) (pv ov : Value) (ib vb : Nat)
@[reducible] def treeRow (m : Mt) (T : Tt) : List Value := .int .u64 T.id :: m.pv :: .int .u64 T.y.root :: .int .u64 T.y.cost :: .int .u64 T.y.bridge :: .int .i64 T.y.port :: .int .i64 T.rp :: .slice (some ⟨m.ib, 0, none⟩) T.ps.length T.ps.length :: .slice (some ⟨m.vb, 0, none⟩) T.ps.length T.ps.length :: m.ov :: (T.fg.map Value.bool ++ [.int .i64 T.quiet])
def Mt.foot (m : Mt) (k : Nat) : Prop := k = m.tb ∨ m.pv.ownBlock = some k ∨ m.ov.ownBlock = some k
structure Tr (w : World) (m : Mt) (T : Tt) : Prop where
  row : w.heap[m.tb]? = some (.cells (treeRow m T).toArray 67 (0, 0))
  ports : Sl w m.pv 34 16 fT T.ps
  outs : Sl w m.ov 77 17 fO T.outs
  roles : Fl w m.ib 3 fI T.roles []
  tells : Fl w m.vb 30 fV T.tells []
  fg : T.fg.length = 16
  few : T.ps.length ≤ 16
  rl : T.roles.length = T.ps.length
  tl : T.tells.length = T.ps.length
  a1 : m.pv.ownBlock ≠ some m.tb
  a2 : m.ov.ownBlock ≠ some m.tb
  a3 : ∀ b, m.pv.ownBlock = some b → m.ov.ownBlock ≠ some b
  a4 : ¬ m.foot m.ib
  a5 : ¬ m.foot m.vb
/-- From world to world: of what was there only the tree's own was written, and the tree lies where it lay, or in new blocks. -/
structure Goes (m : Mt) (w : World) (m' : Mt) (w' : World) : Prop where
  tb : m'.tb = m.tb
  pv : m'.pv = m.pv
  foot : ∀ k, m'.foot k → m.foot k ∨ w.heap.size ≤ k
  os : w'.os = w.os
  tape : w'.tape = w.tape
  output : w'.output = w.output
  size : w.heap.size ≤ w'.heap.size
  block : ∀ k, k < w.heap.size → ¬ m.foot k → w'.heap[k]? = w.heap[k]?
theorem Goes.refl (m : Mt) (w : World) : Goes m w m w := ⟨rfl, rfl, fun _ h => .inl h, rfl, rfl, rfl, Nat.le_refl _, fun _ _ _ => rfl⟩
theorem Goes.trans {m m1 m2 : Mt} {w w1 w2 : World} (h : Goes m w m1 w1) (g : Goes m1 w1 m2 w2) : Goes m w m2 w2 := by
  refine ⟨g.tb.trans h.tb, g.pv.trans h.pv, fun k hk => ?_, g.os.trans h.os, g.tape.trans h.tape, g.output.trans h.output, Nat.le_trans h.size g.size, fun k hk hn => ?_⟩
  · rcases g.foot k hk with h1 | h1
    · exact h.foot k h1
    · exact .inr (Nat.le_trans h.size h1)
  · rw [g.block k (Nat.lt_of_lt_of_le hk h.size) (fun e => ?_), h.block k hk hn]
    rcases h.foot k e with h1 | h1
    · exact hn h1
    · omega
theorem Goes.of_below {m : Mt} {w w' : World} (h : Below w.heap.size w w') : Goes m w m w' := ⟨rfl, rfl, fun _ h => .inl h, h.os, h.tape, h.output, h.size, fun k hk _ => h.block k hk⟩
/-- What lies apart from it stays. -/
theorem Goes.below {m m' : Mt} {w w' W : World} {B : Nat} (h : Goes m w m' w') (hb : Below B W w) (hB : B ≤ w.heap.size) (hf : ∀ k, m.foot k → B ≤ k) : Below B W w' :=
  hb.trans ⟨h.os, h.tape, h.output, h.size, fun k hk => h.block k (by omega) (fun e => by have := hf k e; omega)⟩
theorem Goes.base {m m' : Mt} {w w' : World} {B : Nat} (h : Goes m w m' w') (hB : B ≤ w.heap.size) (hf : ∀ k, m.foot k → B ≤ k) : ∀ k, m'.foot k → B ≤ k := fun k hk => by
  rcases h.foot k hk with h1 | h1
  · exact hf k h1
  · omega
theorem Tr.ltb {w : World} {m : Mt} {T : Tt} (h : Tr w m T) : m.tb < w.heap.size := (Array.getElem?_eq_some_iff.1 h.row).1
theorem Tr.lt {w : World} {m : Mt} {T : Tt} (h : Tr w m T) (k : Nat) (hk : m.foot k) : k < w.heap.size := by
  rcases hk with rfl | h1 | h1
  · exact h.ltb
  · exact h.ports.lt h1
  · exact h.outs.lt h1
theorem Tr.blk {w w' : World} {m : Mt} {T : Tt} (h : Tr w m T) (hb : ∀ k, m.foot k ∨ k = m.ib ∨ k = m.vb → w'.heap[k]? = w.heap[k]?) : Tr w' m T :=
  ⟨(hb m.tb (.inl (.inl rfl))).trans h.row, h.ports.blk fun b e => hb b (.inl (.inr (.inl e))), h.outs.blk fun b e => hb b (.inl (.inr (.inr e))), h.roles.blk (hb _ (.inr (.inl rfl))), h.tells.blk (hb _ (.inr (.inr rfl))), h.fg, h.few, h.rl, h.tl, h.a1, h.a2, h.a3, h.a4, h.a5⟩
theorem Tr.below {w w' : World} {m : Mt} {T : Tt} (h : Tr w m T) (hb : Below w.heap.size w w') : Tr w' m T := h.blk fun k hk => hb.block k (by
  rcases hk with h1 | rfl | rfl
  · exact h.lt k h1
  · exact h.roles.lt
  · exact h.tells.lt)
/-- Reading the tree's own cells. -/
theorem Tr.cell {w : World} {m : Mt} {T : Tt} (h : Tr w m T) (o : Nat) : w.cell? ⟨m.tb, o, none⟩ = (treeRow m T)[o]? := by
  rw [cell_of_row _ _ _ _ _ _ h.row]
  simp
theorem Tr.frozen {w : World} {m : Mt} {T : Tt} (h : Tr w m T) (o : Nat) : w.frozen? ⟨m.tb, o, none⟩ = false := by
  simp [World.frozen?, h.row]
theorem treeRow_fg (m : Mt) (T : Tt) (i : Nat) (hi : i < T.fg.length) : (treeRow m T)[10 + i]? = some (.bool (T.fg.getD i false)) := by
  rw [show 10 + i = i + 1 + 1 + 1 + 1 + 1 + 1 + 1 + 1 + 1 + 1 by omega]
  simp only [treeRow, List.getElem?_cons_succ]
  rw [List.getElem?_append_left (by simpa using hi), List.getElem?_map, List.getElem?_eq_getElem hi, List.getD_eq_getElem?_getD, List.getElem?_eq_getElem hi]
  rfl
/-- What a port was, and is. -/
def setP (T : Tt) (i : Nat) (p : Tp) : Tt := { T with ps := T.ps.set i p }
def forgetT (T : Tt) (i : Nat) : Tt := { T with fg := T.fg.set i true }
theorem Fl.at_set {α : Type} {w : World} {b : Nat} {t : TypeId} {f : α → List Value} {l : List α} {sp : List Value} (h : Fl w b t f l sp) (d : α) (i : Nat) (hi : i < l.length) : Fl w b t f (l.set i (l.getD i d)) sp := by
  have : l.set i (l.getD i d) = l := by
    apply List.ext_getElem?
    intro j
    by_cases e : i = j
    · subst e; simp [hi]
    · simp [e]
  rw [this]; exact h
theorem Fl.put {α : Type} {w : World} {b : Nat} {t : TypeId} {f : α → List Value} {l : List α} {sp : List Value} {m : Nat} {y : α} {i : Nat} (h : Fl w b t f (l.set i y) sp) (hf : Wide f m) (k : Nat) (v : Value) (z : α) (hi : i < l.length) (hk : k < m) (hz : (f y).set k v = f z) : Fl (w.setCell ⟨b, i * m + k, none⟩ v) b t f (l.set i z) sp := by
  have := h.set hf y i k v z (by rw [List.length_set]; exact hi) hk (by rw [getD_set _ _ _ _ _ hi, if_pos rfl]; exact hz)
  rwa [List.set_set] at this
theorem Fl.putn {α : Type} {w : World} {b : Nat} {t : TypeId} {f : α → List Value} {l : List α} {sp : List Value} {m : Nat} {y : α} {i : Nat} (h : Fl w b t f (l.set i y) sp) (hf : Wide f m) (k : Nat) (vs : List Value) (z : α) (hi : i < l.length) (hk : k + vs.length ≤ m) (hz : setL (f y) k vs = f z) : Fl (w.setCells b (i * m + k) vs) b t f (l.set i z) sp := by
  have := h.setn hf y i k vs z (by rw [List.length_set]; exact hi) hk (by rw [getD_set _ _ _ _ _ hi, if_pos rfl]; exact hz)
  rwa [List.set_set] at this
/-- A port is there. -/
structure PtAt (w : World) (m : Mt) (T : Tt) (i pb cap : Nat) (sp : List Value) : Prop where
  pv : m.pv = .slice (some ⟨pb, 0, none⟩) T.ps.length cap
  fl : Fl w pb 34 fT T.ps sp
  hi : i < T.ps.length
theorem Tr.at_i {w : World} {m : Mt} {T : Tt} (h : Tr w m T) (i : Nat) (hi : i < T.ps.length) : ∃ pb cap sp, PtAt w m T i pb cap sp ∧ w.cell? ⟨m.tb, 1, none⟩ = some (.slice (some ⟨pb, 0, none⟩) T.ps.length cap) ∧ pb ≠ m.tb ∧ pb < w.heap.size := by
  obtain ⟨pb, cap, sp, h1, h2, h3, h4⟩ := h.ports.at_i (by omega)
  exact ⟨pb, cap, sp, ⟨h1, h2, hi⟩, by rw [h.cell 1]; exact congrArg some h1, fun e => h.a1 (by rw [h1, e]; rfl), h2.lt⟩
theorem PtAt.cell {w : World} {m : Mt} {T : Tt} {i pb cap : Nat} {sp : List Value} (h : PtAt w m T i pb cap sp) (k : Nat) (hk : k < 16) : w.cell? ⟨pb, i * 16 + k, none⟩ = (fT (T.ps.getD i Tp.zero))[k]? := h.fl.cell wide_T Tp.zero i k h.hi hk
theorem PtAt.own {w : World} {m : Mt} {T : Tt} {i pb cap : Nat} {sp : List Value} (h : PtAt w m T i pb cap sp) : m.pv.ownBlock = some pb := by rw [h.pv]; rfl
/-- Its cells are written. -/
theorem Tr.wr {w w' : World} {m : Mt} {T : Tt} (h : Tr w m T) {i pb cap : Nat} {sp : List Value} (hP : PtAt w m T i pb cap sp) (p : Tp) (hF : Fl w' pb 34 fT (T.ps.set i p) sp) (ho : ∀ k, k ≠ pb → w'.heap[k]? = w.heap[k]?) : Tr w' m (setP T i p) := by
  have hne : ∀ k, m.ov.ownBlock = some k → k ≠ pb := fun k e e' => h.a3 pb hP.own (by rw [← e']; exact e)
  have hl : (T.ps.set i p).length = T.ps.length := List.length_set
  refine ⟨?_, ?_, h.outs.blk fun b e => ho b (hne b e), h.roles.blk (ho _ (fun e => h.a4 (.inr (.inl (by rw [e]; exact hP.own))))), h.tells.blk (ho _ (fun e => h.a5 (.inr (.inl (by rw [e]; exact hP.own))))), h.fg, by show (T.ps.set i p).length ≤ 16; rw [hl]; exact h.few, by show _ = (T.ps.set i p).length; rw [hl]; exact h.rl, by show _ = (T.ps.set i p).length; rw [hl]; exact h.tl, h.a1, h.a2, h.a3, h.a4, h.a5⟩
  · rw [ho m.tb (fun e => h.a1 (by rw [hP.own, e])), h.row]
    unfold setP treeRow
    simp only [hl]
  · obtain ⟨b', cap', sp', e1, e2, e3, e4, e5⟩ : ∃ b cap sp, m.pv = .slice (some ⟨b, 0, none⟩) T.ps.length cap ∧ Fl w b 34 fT T.ps sp ∧ T.ps.length ≤ cap ∧ cap ≤ maxLen ∧ T.ps.length * 16 + sp.length = cap * 16 := by
      rcases h.ports with ⟨e, _⟩ | h1
      · rw [hP.pv] at e; simp at e
      · exact h1
    rw [hP.pv] at e1
    simp only [Value.slice.injEq, Option.some.injEq, Addr.mk.injEq, and_true, true_and] at e1
    obtain ⟨rfl, rfl⟩ := e1
    have hsp : sp.length = sp'.length := by
      have a := hP.fl
      unfold Fl at a e2
      rw [a] at e2
      simp only [Option.some.injEq, Obj.cells.injEq, and_true] at e2
      have := congrArg Array.size e2
      simpa using this
    refine .inr ⟨pb, cap, sp, ?_, hF, by show (T.ps.set i p).length ≤ _; rw [hl]; exact e3, e4, by show (T.ps.set i p).length * 16 + _ = _; rw [hl, hsp]; exact e5⟩
    show m.pv = .slice _ (T.ps.set i p).length _
    rw [hl]; exact hP.pv
theorem Goes.wr {w w' : World} {m : Mt} {T : Tt} {i pb cap : Nat} {sp : List Value} (hP : PtAt w m T i pb cap sp) (h1 : w'.os = w.os) (h2 : w'.tape = w.tape) (h3 : w'.output = w.output) (h4 : w.heap.size ≤ w'.heap.size) (ho : ∀ k, k ≠ pb → w'.heap[k]? = w.heap[k]?) : Goes m w m w' :=
  ⟨rfl, rfl, fun _ h => .inl h, h1, h2, h3, h4, fun k _ hn => ho k (fun e => hn (.inr (.inl (by rw [e]; exact hP.own))))⟩
/-- Only block b was written. -/
structure Wr (b : Nat) (w w' : World) : Prop where
  os : w'.os = w.os
  tape : w'.tape = w.tape
  output : w'.output = w.output
  size : w.heap.size = w'.heap.size
  block : ∀ k, k ≠ b → w'.heap[k]? = w.heap[k]?
theorem Wr.refl (b : Nat) (w : World) : Wr b w w := ⟨rfl, rfl, rfl, rfl, fun _ _ => rfl⟩
theorem Wr.cell {b : Nat} {w w' : World} (h : Wr b w w') (o : Nat) (v : Value) : Wr b w (w'.setCell ⟨b, o, none⟩ v) :=
  ⟨h.os, h.tape, h.output, by rw [h.size]; simp [World.setCell], fun k hk => (heap_setCell_other w' ⟨b, o, none⟩ k v hk).trans (h.block k hk)⟩
theorem Wr.cells {b : Nat} {w : World} : ∀ (vs : List Value) (o : Nat) (w' : World), Wr b w w' → Wr b w (w'.setCells b o vs)
  | [], _, _, h => h
  | v :: r, o, w', h => Wr.cells r (o + 1) _ (h.cell o v)
theorem Tr.put {w w' : World} {m : Mt} {T : Tt} (h : Tr w m T) {i pb cap : Nat} {sp : List Value} (hP : PtAt w m T i pb cap sp) (p : Tp) (hF : Fl w' pb 34 fT (T.ps.set i p) sp) (hw : Wr pb w w') : Tr w' m (setP T i p) ∧ Goes m w m w' :=
  ⟨h.wr hP p hF hw.block, Goes.wr hP hw.os hw.tape hw.output (Nat.le_of_eq hw.size) hw.block⟩
/-- A cell of the tree's own block is written, where the tree's numbers follow. -/
theorem Tr.own {w : World} {m : Mt} {T T' : Tt} (h : Tr w m T) (o : Nat) (v : Value) (hr : (treeRow m T).set o v = treeRow m T') (h1 : T'.ps = T.ps) (h2 : T'.outs = T.outs) (h3 : T'.roles = T.roles) (h4 : T'.tells = T.tells) (h5 : T'.fg.length = 16) : Tr (w.setCell ⟨m.tb, o, none⟩ v) m T' ∧ Goes m w m (w.setCell ⟨m.tb, o, none⟩ v) := by
  have ho : ∀ k, k ≠ m.tb → (w.setCell ⟨m.tb, o, none⟩ v).heap[k]? = w.heap[k]? := fun k hk => heap_setCell_other w ⟨m.tb, o, none⟩ k v hk
  refine ⟨⟨?_, ?_, ?_, ?_, ?_, h5, by rw [h1]; exact h.few, by rw [h1, h3]; exact h.rl, by rw [h1, h4]; exact h.tl, h.a1, h.a2, h.a3, h.a4, h.a5⟩, ⟨rfl, rfl, fun _ h => .inl h, rfl, rfl, rfl, by simp [World.setCell], fun k _ hn => ho k (fun e => hn (.inl e))⟩⟩
  · rw [heap_setCell_same _ _ _ _ _ _ h.row, ← hr]
    simp
  · rw [h1]; exact h.ports.blk fun b e => ho b (fun e' => h.a1 (by rw [e, e']))
  · rw [h2]; exact h.outs.blk fun b e => ho b (fun e' => h.a2 (by rw [e, e']))
  · rw [h3]; exact h.roles.blk (ho _ (fun e => h.a4 (.inl e)))
  · rw [h4]; exact h.tells.blk (ho _ (fun e => h.a5 (.inl e)))
theorem treeRow_forget (m : Mt) (T : Tt) (i : Nat) (hi : i < T.fg.length) : (treeRow m T).set (10 + i) (.bool true) = treeRow m (forgetT T i) := by
  rw [show 10 + i = i + 1 + 1 + 1 + 1 + 1 + 1 + 1 + 1 + 1 + 1 by omega]
  simp only [treeRow, forgetT, List.set_cons_succ]
  rw [List.set_append_left _ _ (by simpa using hi), List.map_set]
end Go.Proofs.Ytoejoneecanbbaa
