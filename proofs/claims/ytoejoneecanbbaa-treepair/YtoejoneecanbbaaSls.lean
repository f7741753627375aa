
/-
  A slice of the program's own, of rows of one width ('Sl'), and what append makes of it. No Go text. Conditions: those that each theorem names.
-/
import Derived.Test.YtoejoneecanbbaaFlt
namespace Go.Proofs.Ytoejoneecanbbaa
open Go.RowKit
set_option linter.unusedVariables false

/-- The rows l in a block from its beginning, with room behind; or nothing. -/
def Sl {α : Type} (w : World) (v : Value) (e : TypeId) (m : Nat) (f : α → List Value) (l : List α) : Prop :=
  (v = .slice none 0 0 ∧ l = []) ∨ ∃ b cap sp, v = .slice (some ⟨b, 0, none⟩) l.length cap ∧ Fl w b e f l sp ∧ l.length ≤ cap ∧ cap ≤ maxLen ∧ l.length * m + sp.length = cap * m
theorem Sl.nil {α : Type} (w : World) (e : TypeId) (m : Nat) (f : α → List Value) : Sl w (.slice none 0 0) e m f [] := .inl ⟨rfl, rfl⟩
theorem Sl.blk {α : Type} {w w' : World} {v : Value} {e : TypeId} {m : Nat} {f : α → List Value} {l : List α} (h : Sl w v e m f l) (hb : ∀ b, v.ownBlock = some b → w'.heap[b]? = w.heap[b]?) : Sl w' v e m f l := by
  rcases h with h | ⟨b, cap, sp, rfl, h1, h2⟩
  · exact .inl h
  · exact .inr ⟨b, cap, sp, rfl, h1.blk (hb b rfl), h2⟩
theorem Sl.lt {α : Type} {w : World} {v : Value} {e : TypeId} {m : Nat} {f : α → List Value} {l : List α} (h : Sl w v e m f l) {b : Nat} (hb : v.ownBlock = some b) : b < w.heap.size := by
  rcases h with ⟨rfl, _⟩ | ⟨b', cap, sp, rfl, h1, h2⟩
  · simp [Value.ownBlock] at hb
  · simp only [Value.ownBlock, Option.some.injEq] at hb
    subst hb
    exact h1.lt
theorem Sl.below {α : Type} {w w' : World} {v : Value} {e : TypeId} {m : Nat} {f : α → List Value} {l : List α} (h : Sl w v e m f l) (hb : Below w.heap.size w w') : Sl w' v e m f l := h.blk fun b e => hb.block b (h.lt e)
theorem Sl.shape {α : Type} {w : World} {v : Value} {e : TypeId} {m : Nat} {f : α → List Value} {l : List α} (h : Sl w v e m f l) : ∃ a cap, v = .slice a l.length cap := by
  rcases h with ⟨rfl, rfl⟩ | ⟨b', cap, sp, rfl, h1, h2⟩
  · exact ⟨_, _, rfl⟩
  · exact ⟨_, _, rfl⟩
/-- There is one: then there is a block. -/
theorem Sl.at_i {α : Type} {w : World} {v : Value} {e : TypeId} {m : Nat} {f : α → List Value} {l : List α} (h : Sl w v e m f l) (hl : 0 < l.length) : ∃ b cap sp, v = .slice (some ⟨b, 0, none⟩) l.length cap ∧ Fl w b e f l sp ∧ l.length ≤ cap ∧ cap ≤ maxLen := by
  rcases h with ⟨rfl, rfl⟩ | ⟨b, cap, sp, rfl, h1, h2, h3, h4⟩
  · simp at hl
  · exact ⟨b, cap, sp, rfl, h1, h2, h3⟩
theorem Sl.own {α : Type} {w : World} {v : Value} {e : TypeId} {m : Nat} {f : α → List Value} {l : List α} (h : Sl w v e m f l) (hf : Wide f m) : w.ownsRow 0 e m v l.length (flat f l) := by
  refine ⟨flat_length hf l, ?_⟩
  rcases h with ⟨rfl, rfl⟩ | ⟨b, cap, sp, rfl, h1, h2, h3, h4⟩
  · exact .inl ⟨rfl, rfl⟩
  · refine .inr ⟨b, cap, _, rfl, Nat.zero_le _, h1, h2, h3, ?_, ?_⟩
    · simp [flat_length hf]; exact h4
    · rw [← flat_length hf l]
      exact List.take_left
theorem Sl.of_own {α : Type} {w : World} {v : Value} {e : TypeId} {m : Nat} {f : α → List Value} {l : List α} (hf : Wide f m) (h : w.ownsRow 0 e m v l.length (flat f l)) : Sl w v e m f l := by
  obtain ⟨h0, ⟨rfl, hn⟩ | ⟨g, cap, cur, rfl, _, hg, h1, h2, h3, h4⟩⟩ := h
  · exact .inl ⟨rfl, List.eq_nil_of_length_eq_zero hn⟩
  · refine .inr ⟨g, cap, cur.toList.drop (l.length * m), rfl, ?_, h1, h2, ?_⟩
    · unfold Fl
      rw [← h4, List.take_append_drop, Array.toArray_toList]
      exact hg
    · have := Nat.mul_le_mul_right m h1
      have hcl : cur.toList.length = cap * m := by simpa using h3
      rw [List.length_drop, hcl]
      omega
/-- The type of a slice and that of its elements. -/
structure Sty (P : Program) (t e : TypeId) (m bytes : Nat) : Prop where
  und : P.underlying t = some (.slice e)
  info : ∃ i z, P.info? e = some i ∧ i.zero = some z ∧ i.size = m ∧ i.bytes = bytes ∧ z.cells.size = m
  pos : 0 < m
theorem Sl.append {α : Type} {P : Program} {w : World} {v : Value} {t e : TypeId} {m bytes : Nat} {f : α → List Value} {l : List α} (h : Sl w v e m f l) (hf : Wide f m) (hT : Sty P t e m bytes) (ty : TypeId) (ad : Addr) (c : Nat) (ms : List α) (k : Nat) (hk : k = ms.length) (hms : ∀ j u, (flat f ms)[j]? = some u → w.cell? (ad.add j) = some u)
    (h1 : l.length + ms.length ≤ 1000000) (h2 : bytes ≤ 10000) :
    ∃ v' w', (Builtin.append_ #[t, t] ty #[v, .slice (some ad) k c]).run P w = .ok v' w' ∧ Sl w' v' e m f (l ++ ms) ∧ w.grownBy w' v.ownBlock ∧ (v'.ownBlock = v.ownBlock ∨ v'.ownBlock = some w.heap.size) := by
  subst hk
  obtain ⟨i, z, g1, g2, g3, g4, g5⟩ := hT.info
  have hby : (l.length + ms.length) * bytes ≤ 1000000 * 10000 := Nat.mul_le_mul h1 h2
  obtain ⟨v', w', r1, r2, r3, r4, r5⟩ := run_append_own_at (P := P) w 0 t ty e i z m bytes hT.und g1 g2 g3 g4 g5 hT.pos v l.length (flat f l) (h.own hf) ad ms.length c (flat f ms) (flat_length hf ms) hms (flat_one hf ms) (by unfold maxLen; omega) (by omega) (Nat.zero_le _)
  refine ⟨v', w', r1, Sl.of_own hf ?_, r3, r5⟩
  rw [List.length_append, flat_app]
  exact r2
theorem wpList_append_sl {α : Type} {P : Program} {w : World} {ops : Array Oper} {rest : List Oper} {o : Oper} {a : Act} {Q : Exit → Act → World → Prop} {t e : TypeId} {m bytes : Nat} {f : α → List Value} (hgd : o.guard = none) (s x : Operand)
    (ho : o.op = .call { callee := .builtin .append, args := #[s, x], argTypes := #[t, t] }) (hf : Wide f m) (hT : Sty P t e m bytes)
    (v : Value) (l : List α) (hs : a.eval s = v) (hq : Sl w v e m f l) (ad : Addr) (k c : Nat) (ms : List α) (hx : a.eval x = .slice (some ad) k c) (hk : k = ms.length) (hms : ∀ j u, (flat f ms)[j]? = some u → w.cell? (ad.add j) = some u)
    (h1 : l.length + ms.length ≤ 1000000) (h2 : bytes ≤ 10000)
    (h : ∀ v' w', Sl w' v' e m f (l ++ ms) → w.grownBy w' v.ownBlock → (v'.ownBlock = v.ownBlock ∨ v'.ownBlock = some w.heap.size) → wpList P ops Q rest (a.put o.dst v') w') :
    wpList P ops Q (o :: rest) a w := by
  refine wpList_plain hgd fun K hK => ?_
  obtain ⟨v', w', hr, h2, h3, h4⟩ := hq.append hf hT o.type ad c ms k hk hms h1 h2
  unfold Oper.wp execOp
  simp only [ho, resolve, invoke, builtin, Sem.run_bind, Sem.run_pure, Result.andThen_ok, List.map_toArray, List.map_cons, List.map_nil, hs, hx, hr]
  exact hK _ _ (h v' w' h2 h3 h4)
theorem step_append_sl {α : Type} {P : Program} {w : World} {ops : Array Oper} {o : Oper} {a : Act} {K : Act → World → Prop} {Q : Exit → Act → World → Prop} {E : Prop} {t e : TypeId} {m bytes : Nat} {f : α → List Value} (hw : Region.wanted o (yielded ops a.tmps) = true) (s x : Operand)
    (ho : o.op = .call { callee := .builtin .append, args := #[s, x], argTypes := #[t, t] }) (hf : Wide f m) (hT : Sty P t e m bytes)
    (v : Value) (l : List α) (hs : a.eval s = v) (hq : Sl w v e m f l) (ad : Addr) (k c : Nat) (ms : List α) (hx : a.eval x = .slice (some ad) k c) (hk : k = ms.length) (hms : ∀ j u, (flat f ms)[j]? = some u → w.cell? (ad.add j) = some u)
    (h1 : l.length + ms.length ≤ 1000000) (h2 : bytes ≤ 10000)
    (h : ∀ v' w', Sl w' v' e m f (l ++ ms) → w.grownBy w' v.ownBlock → (v'.ownBlock = v.ownBlock ∨ v'.ownBlock = some w.heap.size) → K (a.put o.dst v') w') :
    if Region.wanted o (yielded ops a.tmps) = true then Oper.wp P o a w K Q else E := by
  rw [if_pos hw]
  obtain ⟨v', w', hr, h2, h3, h4⟩ := hq.append hf hT o.type ad c ms k hk hms h1 h2
  unfold Oper.wp execOp
  simp only [ho, resolve, invoke, builtin, Sem.run_bind, Sem.run_pure, Result.andThen_ok, List.map_toArray, List.map_cons, List.map_nil, hs, hx, hr]
  exact h v' w' h2 h3 h4
/-- Grown, but not what was there. -/
theorem grown_below {w w' : World} {o : Option Nat} {B : Nat} {W : World} (h : w.grownBy w' o) (hb : Below B W w) (hs : B ≤ w.heap.size) (ho : ∀ b, o = some b → B ≤ b) : Below B W w' :=
  hb.trans ⟨h.os, h.tape, h.output, h.size, fun k hk => h.block k (by omega) (fun e => by have := ho k e.symm; omega)⟩
end Go.Proofs.Ytoejoneecanbbaa
