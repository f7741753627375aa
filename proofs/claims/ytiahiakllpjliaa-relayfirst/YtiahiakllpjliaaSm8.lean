/-
  A table of filters of the program's own ('Fso'), beside blocks that stay as they are; layer 14's calls in these words. Conditions: those that each theorem names.
-/
import Derived.Test.YtiahiakllpjliaaSm7
namespace Go.Proofs.Ytiahiakllpjliaa
open Go.RowKit Go.Maps
set_option linter.unusedVariables false
set_option linter.unusedSimpArgs false
set_option maxRecDepth 20000

/-- Blocks of A are as they were. -/
def KptS (A : Nat → Prop) (w w' : World) : Prop := ∀ k, A k → w'.heap[k]? = w.heap[k]?
def Fso (K : Nat) (A : Nat → Prop) (w : World) (t : Nat) (l : List Sf) : Prop :=
  ∃ v, Fst w t v l ∧ (∀ k, Fst.foot t v k → K ≤ k ∧ ¬ A k) ∧ (∀ k, A k → k < w.heap.size) ∧ K ≤ w.heap.size
section
variable {K : Nat} {A : Nat → Prop} {w w' : World} {t : Nat} {l : List Sf}
theorem Fso.size (h : Fso K A w t l) : K ≤ w.heap.size := by obtain ⟨v, _, _, _, h⟩ := h; exact h
theorem Fso.sub (h : Fso K A w t l) {A' : Nat → Prop} (hs : ∀ k, A' k → A k) : Fso K A' w t l := by
  obtain ⟨v, h1, h2, h3, h4⟩ := h
  exact ⟨v, h1, fun k hk => ⟨(h2 k hk).1, fun e => (h2 k hk).2 (hs k e)⟩, fun k hk => h3 k (hs k hk), h4⟩
theorem Fso.below (h : Fso K A w t l) (hb : Below w.heap.size w w') : Fso K A w' t l := by
  obtain ⟨v, h1, h2, h3, h4⟩ := h
  exact ⟨v, h1.below hb, h2, fun k hk => Nat.lt_of_lt_of_le (h3 k hk) hb.size, Nat.le_trans h4 hb.size⟩
theorem Fso.more (h : Fso K A w t l) (hb : Below w.heap.size w w') {A' : Nat → Prop} (hs : ∀ k, A' k → A k ∨ (w.heap.size ≤ k ∧ k < w'.heap.size)) : Fso K A' w' t l := by
  obtain ⟨v, h1, h2, h3, h4⟩ := h
  refine ⟨v, h1.below hb, fun k hk => ⟨(h2 k hk).1, fun e => ?_⟩, fun k hk => ?_, Nat.le_trans h4 hb.size⟩
  · rcases hs k e with e | e
    · exact (h2 k hk).2 e
    · have := h1.ltk k hk; omega
  · rcases hs k hk with e | e
    · exact Nat.lt_of_lt_of_le (h3 k e) hb.size
    · exact e.2
theorem Fso.wrote (h : Fso K A w t l) (hC : Ch A w w') : Fso K A w' t l := by
  obtain ⟨v, h1, h2, h3, h4⟩ := h
  exact ⟨v, h1.blk fun k hk => hC.block k (h1.ltk k hk) (h2 k hk).2, h2, fun k hk => Nat.lt_of_lt_of_le (h3 k hk) hC.size, Nat.le_trans h4 hC.size⟩
theorem Fso.of (h : Fso K A w t l) {w' : World} {v v' : Value} {l' : List Sf} (h2 : ∀ k, Fst.foot t v k → K ≤ k ∧ ¬ A k) (h3 : ∀ k, A k → k < w.heap.size) (hC : Ch (Fst.foot t v) w w') (hF : Fst w' t v' l') (hv : ∀ b, v'.ownBlock = some b → v.ownBlock = some b ∨ w.heap.size ≤ b) : Fso K A w' t l' ∧ Below K w w' ∧ KptS A w w' := by
  refine ⟨⟨v', hF, fun k hk => ?_, fun k hk => Nat.lt_of_lt_of_le (h3 k hk) hC.size, Nat.le_trans h.size hC.size⟩, ⟨hC.os, hC.tape, hC.output, hC.size, fun k hk => hC.block k (by have := h.size; omega) fun e => by have := (h2 k e).1; omega⟩, fun k hk => hC.block k (h3 k hk) fun e => (h2 k e).2 hk⟩
  rcases hk with e | e
  · exact h2 k (.inl e)
  · rcases hv k e with e | e
    · exact h2 k (.inr e)
    · exact ⟨Nat.le_trans h.size e, fun e' => by have := h3 k e'; omega⟩
theorem Fso.new (w : World) (K : Nat) (A : Nat → Prop) (hA : ∀ k, A k → k < w.heap.size) (hK : K ≤ w.heap.size) : Fso K A (w.alloc (.cells #[.slice none 0 0] 69)) w.heap.size [] := by
  refine ⟨.slice none 0 0, ⟨heap_alloc_new w _, Sl.nil _ _ _ _, by simp [Value.ownBlock]⟩, fun k hk => ?_, fun k hk => ?_, ?_⟩
  · rcases hk with e | e
    · subst e; exact ⟨hK, fun e => by have := hA _ e; omega⟩
    · simp [Value.ownBlock] at e
  · have := hA k hk; rw [World.size_alloc]; omega
  · rw [World.size_alloc]; omega
theorem SoAdd (h : Fso K A w t l) (hl : Sfs l) (f : Sf) (hf : f.m.wf) :
    Calls Try.prog 28 #[.pointer (some ⟨t, 0, none⟩), .agg (fSf f).toArray] w fun r w' => r = .returned (.int .i64 (addR l f).1) ∧ Fso K A w' t (addR l f).2 ∧ Below K w w' ∧ KptS A w w' := by
  have h0 := h
  obtain ⟨v, h1, h2, h3, h4⟩ := h
  refine (AddS_any h1 hl f hf).mono ?_
  rintro r w' ⟨rfl, v', hF, hC, hv⟩
  exact ⟨rfl, h0.of h2 h3 hC hF hv⟩
theorem SoRem (h : Fso K A w t l) (hl : Sfs l) (kind : Int) (m : M6) (vid : Int) (hm : m.wf) :
    Calls Try.prog 30 #[.pointer (some ⟨t, 0, none⟩), .int .i64 kind, .agg m.row, .int .i64 vid] w fun r w' => r = .returned (.int .i64 (remR l kind m vid).1) ∧ Fso K A w' t (remR l kind m vid).2 ∧ Below K w w' ∧ KptS A w w' := by
  have h0 := h
  obtain ⟨v, h1, h2, h3, h4⟩ := h
  refine (RemS_any h1 hl kind m vid hm).mono ?_
  rintro r w' ⟨rfl, v', hF, hC, hv⟩
  exact ⟨rfl, h0.of h2 h3 hC hF (fun b e => .inl (hv b e))⟩
theorem SoFind (h : Fso K A w t l) (hl : Sfs l) (cs : Array Value) (dst src : M6) (hH : HdMac cs dst src) (vid : Int) (hd : dst.wf) (hs : src.wf) :
    Calls Try.prog 32 #[.pointer (some ⟨t, 0, none⟩), .agg cs, .int .i64 vid] w fun r w' => r = .returned (.int .i64 (findS dst src vid l)) ∧ Fso K A w' t l ∧ Below w.heap.size w w' := by
  have h0 := h
  obtain ⟨v, h1, _⟩ := h
  exact (FindS_any h1 hl cs dst src hH vid hd hs).mono fun r w' ⟨e, hb⟩ => ⟨e, h0.below hb, hb⟩
theorem SoAll (h : Fso K A w t l) (hl : Sfs l) : Calls Try.prog 31 #[.pointer (some ⟨t, 0, none⟩)] w fun r w' => ∃ v', r = .returned v' ∧ Sl w' v' 71 9 fSf l ∧ Fso K A w' t l ∧ Below w.heap.size w w' ∧ FreshS w.heap.size v' := by
  have h0 := h
  obtain ⟨v, h1, _⟩ := h
  exact (AllS_any h1 (by have := hl.1; omega)).mono fun r w' ⟨v', e, h2, h3, h4⟩ => ⟨v', e, h2, h0.below h3, h3, h4⟩
end
instance decS (m : M6) : Decidable m.wf := by unfold M6.wf; exact inferInstance
theorem Sfs.nil : Sfs [] := ⟨by decide, fun e he => by cases he⟩
theorem Sfs.add {l : List Sf} (h : Sfs l) (hl : l.length < 1000) {f : Sf} (hf : f.m.wf) : Sfs (addR l f).2 := by
  unfold addR
  split
  · exact h
  · split
    · exact h
    · split
      · exact h
      · refine ⟨by simp; omega, fun e he => ?_⟩
        rcases List.mem_append.1 he with he | he
        · exact h.2 e he
        · simp at he; subst he; exact hf
theorem Sfs.rem {l : List Sf} (h : Sfs l) (kind : Int) (m : M6) (vid : Int) : Sfs (remR l kind m vid).2 := by
  unfold remR
  split
  · exact ⟨Nat.le_trans (List.length_eraseP_le) h.1, fun e he => h.2 e (List.mem_of_mem_eraseP he)⟩
  · exact h
/-- A header's cells. -/
@[reducible] def hdC (d s : M6) (tg : Bool) (pcp : Int) (dei : Bool) (vid ty : Int) (llc : Bool) : Array Value :=
  #[.int .u8 d.a, .int .u8 d.b, .int .u8 d.c, .int .u8 d.d, .int .u8 d.e, .int .u8 d.f, .int .u8 s.a, .int .u8 s.b, .int .u8 s.c, .int .u8 s.d, .int .u8 s.e, .int .u8 s.f, .bool tg, .int .i64 pcp, .bool dei, .int .i64 vid, .int .i64 ty, .bool llc]
theorem hdC_mac (d s : M6) (tg : Bool) (pcp : Int) (dei : Bool) (vid ty : Int) (llc : Bool) : HdMac (hdC d s tg pcp dei vid ty llc) d s := by
  refine ⟨rfl, by simp [Value.oneCell'], fun i u h => ?_, fun i u h => ?_⟩
  · match i, h with
    | 0, h => exact h
    | 1, h => exact h
    | 2, h => exact h
    | 3, h => exact h
    | 4, h => exact h
    | 5, h => exact h
    | i + 6, h => simp at h
  · match i, h with
    | 0, h => exact h
    | 1, h => exact h
    | 2, h => exact h
    | 3, h => exact h
    | 4, h => exact h
    | 5, h => exact h
    | i + 6, h => simp at h
end Go.Proofs.Ytiahiakllpjliaa
