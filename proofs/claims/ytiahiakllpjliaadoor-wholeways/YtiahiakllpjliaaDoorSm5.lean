import Derived.Test.YtiahiakllpjliaaDoorSm3
import Derived.Test.YtiahiakllpjliaaDoorFdb2
import Derived.ArgAppend
/-
  Contract of slices.Delete of one filter. Conditions: those that each theorem names.
-/
namespace Go.Proofs.YtiahiakllpjliaaDoor
open Go.RowKit Go.Maps
set_option linter.unusedVariables false
set_option linter.unusedSimpArgs false
set_option maxRecDepth 20000

theorem setL_front : ∀ (vs P B : List Value), vs.length ≤ B.length → setL (P ++ B) P.length vs = P ++ vs ++ B.drop vs.length
  | [], P, B, _ => by simp [setL]
  | v :: r, P, b :: B, h => by
    rw [setL, List.set_append_right _ _ (Nat.le_refl _), Nat.sub_self, List.set_cons_zero]
    have := setL_front r (P ++ [v]) B (by simpa using h)
    simp only [List.length_append, List.length_singleton, List.append_assoc, List.singleton_append] at this
    rw [this]
    simp
  | v :: r, P, [], h => by simp at h
/-- One row goes: those behind it are moved. -/
theorem Fl.moved {α : Type} {w : World} {b : Nat} {t : TypeId} {f : α → List Value} {l : List α} {sp : List Value} {m : Nat} (h : Fl w b t f l sp) (hf : WideF f m) (d : α) (k : Nat) (hk : k < l.length) : ∃ sp', sp'.length = m + sp.length ∧ Fl (w.setCells b (k * m) (flat f (l.drop (k + 1)))) b t f (l.take k ++ l.drop (k + 1)) sp' := by
  have hl1 : (flat f (l.take k)).length = k * m := by rw [flat_length hf, List.length_take, Nat.min_eq_left (by omega)]
  refine ⟨(f (l.getD k d) ++ flat f (l.drop (k + 1)) ++ sp).drop (flat f (l.drop (k + 1))).length, ?_, ?_⟩
  · simp [hf.len]; omega
  · unfold Fl
    rw [heap_setCells b t _ _ w _ h, flat_split f d l k hk]
    have := setL_front (flat f (l.drop (k + 1))) (flat f (l.take k)) (f (l.getD k d) ++ flat f (l.drop (k + 1)) ++ sp) (by simp; omega)
    rw [hl1] at this
    simp only [List.append_assoc] at this ⊢
    rw [this, flat_app]
    simp
theorem sf_zero (w : World) : (zeroValue 56).run Tryd.prog w = .ok (.agg (fSf Sf.zero).toArray) w := by kernel_rfl
/-- The filters but that at k. -/
def outL (l : List Sf) (k : Nat) : List Sf := l.take k ++ l.drop (k + 1)
theorem outL_len {l : List Sf} {k : Nat} (h : k < l.length) : (outL l k).length + 1 = l.length := by unfold outL; simp; omega
theorem Fl.cells_off {α : Type} {w : World} {b : Nat} {t : TypeId} {f : α → List Value} {l : List α} {sp : List Value} {m : Nat} (h : Fl w b t f l sp) (hf : WideF f m) (k : Nat) (hk : k ≤ l.length) (j : Nat) (u : Value) (hj : (flat f (l.drop k))[j]? = some u) : w.cell? ((⟨b, k * m, none⟩ : Addr).add j) = some u := by
  have e : flat f l = flat f (l.take k) ++ flat f (l.drop k) := by rw [← flat_app, List.take_append_drop]
  have hl1 : (flat f (l.take k)).length = k * m := by rw [flat_length hf, List.length_take, Nat.min_eq_left hk]
  rw [Addr.add_lit, cell_of_row _ _ _ _ _ _ h]
  simp only [List.getElem?_toArray]
  rw [e, List.append_assoc, List.getElem?_append_right (by omega), hl1, Nat.add_sub_cancel_left, List.getElem?_append_left (List.getElem?_eq_some_iff.1 hj).1]
  exact hj
/-- append(s[:k], s[k+1:]...) stays where it is. -/
theorem append_moved {w : World} {b cap : Nat} {l : List Sf} {sp : List Value} (h : Fl w b 56 fSf l sp) (hcap : l.length ≤ cap) (k : Nat) (hk : k < l.length) (a : Addr) (c : Nat) (ha : a = ⟨b, (k + 1) * 9, none⟩ ∨ k + 1 = l.length) :
    ∃ w', (∀ ty, (Builtin.append_ #[51, 51] ty #[.slice (some ⟨b, 0, none⟩) k cap, .slice (some a) (l.length - (k + 1)) c]).run Tryd.prog w = .ok (.slice (some ⟨b, 0, none⟩) (l.length - 1) cap) w') ∧ Ch (· = b) w w' ∧ ∃ sp', sp'.length = 9 + sp.length ∧ Fl w' b 56 fSf (outL l k) sp' := by
  obtain ⟨i, h1, h2, h3, h4⟩ := info_parts Tryd.infoSf
  have hlen : (flat fSf (l.drop (k + 1))).length = (l.length - (k + 1)) * 9 := by rw [flat_length wide_Sf, List.length_drop]
  have hlt : ∀ j, j < (flat fSf (l.drop (k + 1))).length → k * 9 + j < (flat fSf l ++ sp).length := fun j hj => by
    rw [hlen] at hj
    rw [List.length_append, flat_length wide_Sf]
    omega
  obtain ⟨sp', g1, g2⟩ := h.moved wide_Sf Sf.zero k hk
  refine ⟨w.setCells b (k * 9) (flat fSf (l.drop (k + 1))), fun ty => ?_, Ch.setCells _ _ _ _, sp', g1, g2⟩
  have hr := run_append_room_cells (P := Tryd.prog) (w := w) 51 ty 56 i Tryd.underlying51 h1 b 0 k cap a (l.length - (k + 1)) c (flat fSf (l.drop (k + 1))) (by rw [hlen, h3]) (fun j u hj => by
    rcases ha with rfl | e
    · exact h.cells_off wide_Sf (k + 1) (by omega) j u hj
    · have := (List.getElem?_eq_some_iff.1 hj).1
      rw [hlen] at this
      omega) (flat_one wide_Sf _) (by omega) (fun j hj => by
    rw [h3, Nat.zero_add, cell_of_row _ _ _ _ _ _ h, List.getElem?_toArray, List.getElem?_eq_getElem (hlt j hj)]; rfl) (fun j hj => h.frozen _)
  rw [h3, Nat.zero_add, show k + (l.length - (k + 1)) = l.length - 1 by omega] at hr
  exact hr
end Go.Proofs.YtiahiakllpjliaaDoor

/-
  Contracts of slices.Delete (one filter) and of stream's Remove. Conditions: those that each theorem names.
-/
namespace Go.Proofs.YtiahiakllpjliaaDoor
open Go.RowKit Go.Maps
set_option linter.unusedVariables false
set_option linter.unusedSimpArgs false
set_option maxRecDepth 20000

theorem step_append_run {P : Program} {w w' : World} {ops : Array Oper} {o : Oper} {a : Act} {K : Act → World → Prop} {Q : Exit → Act → World → Prop} {E : Prop} {t : TypeId} (hw : Region.wanted o (yielded ops a.tmps) = true) (s x : Operand)
    (ho : o.op = .call { callee := .builtin .append, args := #[s, x], argTypes := #[t, t] }) (vs vx v' : Value) (hs : a.eval s = vs) (hx : a.eval x = vx) (hr : (Builtin.append_ #[t, t] o.type #[vs, vx]).run P w = .ok v' w')
    (h : K (a.put o.dst v') w') : if Region.wanted o (yielded ops a.tmps) = true then Oper.wp P o a w K Q else E := by
  rw [if_pos hw]
  unfold Oper.wp execOp
  simp only [ho, resolve, invoke, builtin, Sem.run_bind, Sem.run_pure, Result.andThen_ok, List.map_toArray, List.map_cons, List.map_nil, hs, hx, hr]
  exact h
end Go.Proofs.YtiahiakllpjliaaDoor

/-
  Contract of stream's Remove. Conditions: those that each theorem names.
-/
namespace Go.Proofs.YtiahiakllpjliaaDoor
open Go.RowKit Go.Maps
set_option linter.unusedVariables false
set_option linter.unusedSimpArgs false
set_option maxRecDepth 20000

/-- What Remove answers, and the filters behind it. -/
def remR (l : List Sf) (kind : Int) (m : M6) (vid : Int) : Int × List Sf := if l.any (thatB kind m vid) = true then (0, l.eraseP (thatB kind m vid)) else (21, l)
theorem any_none {p : Sf → Bool} {l : List Sf} (h : ∀ j, j < l.length → p (l.getD j Sf.zero) = false) : l.any p = false := by
  rw [List.any_eq_false]
  intro e he
  obtain ⟨j, hj, rfl⟩ := List.getElem_of_mem he
  have := h j hj
  rw [List.getD_eq_getElem?_getD, List.getElem?_eq_getElem hj] at this
  simp at this
  rw [this]; decide
theorem any_some {p : Sf → Bool} {l : List Sf} {k : Nat} (hk : k < l.length) (hp : p (l.getD k Sf.zero) = true) : l.any p = true := by
  rw [List.any_eq_true]
  refine ⟨l.getD k Sf.zero, ?_, hp⟩
  rw [List.getD_eq_getElem?_getD, List.getElem?_eq_getElem hk]
  exact List.getElem_mem _
theorem outL_erase {p : Sf → Bool} {l : List Sf} {k : Nat} (hk : k < l.length) (hp : p (l.getD k Sf.zero) = true) (h : ∀ j, j < k → p (l.getD j Sf.zero) = false) : outL l k = l.eraseP p := by
  unfold outL
  induction l generalizing k with
  | nil => simp at hk
  | cons a r ih =>
    cases k with
    | zero => simp at hp; simp [hp]
    | succ k =>
      have h0 := h 0 (by omega)
      simp at h0
      rw [List.eraseP_cons_of_neg (by simp [h0]), List.take_succ_cons, List.drop_succ_cons, List.cons_append, ih (k := k) (by simpa using hk) (by simpa using hp) (fun j hj => by have := h (j + 1) (by omega); simpa using this)]
section
variable {w : World} {t : Nat} {v : Value} {l : List Sf}
end
end Go.Proofs.YtiahiakllpjliaaDoor

/-
  A table of filters of the program's own ('Fso'), beside blocks that stay as they are; layer 14's calls in these words. Conditions: those that each theorem names.
-/
namespace Go.Proofs.YtiahiakllpjliaaDoor
open Go.RowKit Go.Maps
set_option linter.unusedVariables false
set_option linter.unusedSimpArgs false
set_option maxRecDepth 20000

/-- Blocks of A are as they were. -/
def KptS (A : Nat → Prop) (w w' : World) : Prop := ∀ k, A k → w'.heap[k]? = w.heap[k]?
def Fso (K : Nat) (A : Nat → Prop) (w : World) (t : Nat) (l : List Sf) : Prop :=
  ∃ v, Fst w t v l ∧ (∀ k, Fst.foot t v k → K ≤ k ∧ ¬ A k) ∧ (∀ k, A k → k < w.heap.size) ∧ K ≤ w.heap.size
section
variable {K : Nat} {A : Nat → Prop} {w w' : World} {t : Nat} {l : List Sf}
theorem Fso.size (h : Fso K A w t l) : K ≤ w.heap.size := by obtain ⟨v, _, _, _, h⟩ := h; exact h
theorem Fso.sub (h : Fso K A w t l) {A' : Nat → Prop} (hs : ∀ k, A' k → A k) : Fso K A' w t l := by
  obtain ⟨v, h1, h2, h3, h4⟩ := h
  exact ⟨v, h1, fun k hk => ⟨(h2 k hk).1, fun e => (h2 k hk).2 (hs k e)⟩, fun k hk => h3 k (hs k hk), h4⟩
theorem Fso.below (h : Fso K A w t l) (hb : Below w.heap.size w w') : Fso K A w' t l := by
  obtain ⟨v, h1, h2, h3, h4⟩ := h
  exact ⟨v, h1.below hb, h2, fun k hk => Nat.lt_of_lt_of_le (h3 k hk) hb.size, Nat.le_trans h4 hb.size⟩
theorem Fso.more (h : Fso K A w t l) (hb : Below w.heap.size w w') {A' : Nat → Prop} (hs : ∀ k, A' k → A k ∨ (w.heap.size ≤ k ∧ k < w'.heap.size)) : Fso K A' w' t l := by
  obtain ⟨v, h1, h2, h3, h4⟩ := h
  refine ⟨v, h1.below hb, fun k hk => ⟨(h2 k hk).1, fun e => ?_⟩, fun k hk => ?_, Nat.le_trans h4 hb.size⟩
  · rcases hs k e with e | e
    · exact (h2 k hk).2 e
    · have := h1.ltk k hk; omega
  · rcases hs k hk with e | e
    · exact Nat.lt_of_lt_of_le (h3 k e) hb.size
    · exact e.2
theorem Fso.wrote (h : Fso K A w t l) (hC : Ch A w w') : Fso K A w' t l := by
  obtain ⟨v, h1, h2, h3, h4⟩ := h
  exact ⟨v, h1.blk fun k hk => hC.block k (h1.ltk k hk) (h2 k hk).2, h2, fun k hk => Nat.lt_of_lt_of_le (h3 k hk) hC.size, Nat.le_trans h4 hC.size⟩
theorem Fso.of (h : Fso K A w t l) {w' : World} {v v' : Value} {l' : List Sf} (h2 : ∀ k, Fst.foot t v k → K ≤ k ∧ ¬ A k) (h3 : ∀ k, A k → k < w.heap.size) (hC : Ch (Fst.foot t v) w w') (hF : Fst w' t v' l') (hv : ∀ b, v'.ownBlock = some b → v.ownBlock = some b ∨ w.heap.size ≤ b) : Fso K A w' t l' ∧ Below K w w' ∧ KptS A w w' := by
  refine ⟨⟨v', hF, fun k hk => ?_, fun k hk => Nat.lt_of_lt_of_le (h3 k hk) hC.size, Nat.le_trans h.size hC.size⟩, ⟨hC.os, hC.tape, hC.output, hC.size, fun k hk => hC.block k (by have := h.size; omega) fun e => by have := (h2 k e).1; omega⟩, fun k hk => hC.block k (h3 k hk) fun e => (h2 k e).2 hk⟩
  rcases hk with e | e
  · exact h2 k (.inl e)
  · rcases hv k e with e | e
    · exact h2 k (.inr e)
    · exact ⟨Nat.le_trans h.size e, fun e' => by have := h3 k e'; omega⟩
theorem Fso.new (w : World) (K : Nat) (A : Nat → Prop) (hA : ∀ k, A k → k < w.heap.size) (hK : K ≤ w.heap.size) : Fso K A (w.alloc (.cells #[.slice none 0 0] 53)) w.heap.size [] := by
  refine ⟨.slice none 0 0, ⟨heap_alloc_new w _, Sl.nil _ _ _ _, by simp [Value.ownBlock]⟩, fun k hk => ?_, fun k hk => ?_, ?_⟩
  · rcases hk with e | e
    · subst e; exact ⟨hK, fun e => by have := hA _ e; omega⟩
    · simp [Value.ownBlock] at e
  · have := hA k hk; rw [World.size_alloc]; omega
  · rw [World.size_alloc]; omega
theorem SoAdd (h : Fso K A w t l) (hl : Sfs l) (f : Sf) (hf : f.m.wf) :
    Calls Tryd.prog 16 #[.pointer (some ⟨t, 0, none⟩), .agg (fSf f).toArray] w fun r w' => r = .returned (.int .i64 (addR l f).1) ∧ Fso K A w' t (addR l f).2 ∧ Below K w w' ∧ KptS A w w' := by
  have h0 := h
  obtain ⟨v, h1, h2, h3, h4⟩ := h
  refine (AddS_any h1 hl f hf).mono ?_
  rintro r w' ⟨rfl, v', hF, hC, hv⟩
  exact ⟨rfl, h0.of h2 h3 hC hF hv⟩
theorem SoFind (h : Fso K A w t l) (hl : Sfs l) (cs : Array Value) (dst src : M6) (hH : HdMac cs dst src) (vid : Int) (hd : dst.wf) (hs : src.wf) :
    Calls Tryd.prog 18 #[.pointer (some ⟨t, 0, none⟩), .agg cs, .int .i64 vid] w fun r w' => r = .returned (.int .i64 (findS dst src vid l)) ∧ Fso K A w' t l ∧ Below w.heap.size w w' := by
  have h0 := h
  obtain ⟨v, h1, _⟩ := h
  exact (FindS_any h1 hl cs dst src hH vid hd hs).mono fun r w' ⟨e, hb⟩ => ⟨e, h0.below hb, hb⟩
end
theorem Sfs.nil : Sfs [] := ⟨by decide, fun e he => by cases he⟩
theorem Sfs.add {l : List Sf} (h : Sfs l) (hl : l.length < 1000) {f : Sf} (hf : f.m.wf) : Sfs (addR l f).2 := by
  unfold addR
  split
  · exact h
  · split
    · exact h
    · split
      · exact h
      · refine ⟨by simp; omega, fun e he => ?_⟩
        rcases List.mem_append.1 he with he | he
        · exact h.2 e he
        · simp at he; subst he; exact hf
theorem Sfs.rem {l : List Sf} (h : Sfs l) (kind : Int) (m : M6) (vid : Int) : Sfs (remR l kind m vid).2 := by
  unfold remR
  split
  · exact ⟨Nat.le_trans (List.length_eraseP_le) h.1, fun e he => h.2 e (List.mem_of_mem_eraseP he)⟩
  · exact h
end Go.Proofs.YtiahiakllpjliaaDoor
