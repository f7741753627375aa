
/-
  A table of stations of the program's own ('Fo'), beside blocks that stay as they are; the contracts of layer 12's calls in these words. Conditions: those that each theorem names.
-/
import Derived.Test.YtiahiakllpjliaaDoorFdb9
namespace Go.Proofs.YtiahiakllpjliaaDoor
open Go.RowKit Go.Maps
set_option linter.unusedVariables false
set_option maxRecDepth 20000

/-- What Learn answers, how many had no room, and what is kept behind it. -/
def learnR (room age lost : Int) (l : List Fe) (vid : Int) (m : M6) (port now : Int) : Int × Int × List Fe :=
  if grpB m then (4, lost, l) else
    let L := aheadL age now vid m l
    if room ≤ (L.length : Int) then (20, lost + 1, L) else (0, lost, L ++ [⟨vid, m, port, now⟩])
/-- Blocks of A are as they were. -/
def Kpt (A : Nat → Prop) (w w' : World) : Prop := ∀ k, A k → w'.heap[k]? = w.heap[k]?
theorem Kpt.refl (A : Nat → Prop) (w : World) : Kpt A w w := fun _ _ => rfl
theorem Kpt.trans {A : Nat → Prop} {w w' w'' : World} (h : Kpt A w w') (h' : Kpt A w' w'') : Kpt A w w'' := fun k hk => (h' k hk).trans (h k hk)
theorem Kpt.sub {A A' : Nat → Prop} {w w' : World} (h : Kpt A w w') (hs : ∀ k, A' k → A k) : Kpt A' w w' := fun k hk => h k (hs k hk)
/-- A table of the program's own: its blocks are not below K, and none of A. -/
def Fo (K : Nat) (A : Nat → Prop) (w : World) (t : Nat) (room age lost : Int) (l : List Fe) : Prop :=
  ∃ v, Ft w t v room age lost l ∧ (∀ k, Ft.foot t v k → K ≤ k ∧ ¬ A k) ∧ (∀ k, A k → k < w.heap.size) ∧ K ≤ w.heap.size
section
variable {K : Nat} {A : Nat → Prop} {w w' : World} {t : Nat} {room age lost : Int} {l : List Fe}
theorem Fo.size (h : Fo K A w t room age lost l) : K ≤ w.heap.size := by obtain ⟨v, _, _, _, h⟩ := h; exact h
theorem Fo.lt (h : Fo K A w t room age lost l) : t < w.heap.size := by obtain ⟨v, h, _⟩ := h; exact h.lt
theorem Fo.sub (h : Fo K A w t room age lost l) {A' : Nat → Prop} (hs : ∀ k, A' k → A k) : Fo K A' w t room age lost l := by
  obtain ⟨v, h1, h2, h3, h4⟩ := h
  exact ⟨v, h1, fun k hk => ⟨(h2 k hk).1, fun e => (h2 k hk).2 (hs k e)⟩, fun k hk => h3 k (hs k hk), h4⟩
theorem Fo.below (h : Fo K A w t room age lost l) (hb : Below w.heap.size w w') : Fo K A w' t room age lost l := by
  obtain ⟨v, h1, h2, h3, h4⟩ := h
  exact ⟨v, h1.below hb, h2, fun k hk => Nat.lt_of_lt_of_le (h3 k hk) hb.size, Nat.le_trans h4 hb.size⟩
/-- New blocks are none of its own. -/
theorem Fo.more (h : Fo K A w t room age lost l) (hb : Below w.heap.size w w') {A' : Nat → Prop} (hs : ∀ k, A' k → A k ∨ (w.heap.size ≤ k ∧ k < w'.heap.size)) : Fo K A' w' t room age lost l := by
  obtain ⟨v, h1, h2, h3, h4⟩ := h
  refine ⟨v, h1.below hb, fun k hk => ⟨(h2 k hk).1, fun e => ?_⟩, fun k hk => ?_, Nat.le_trans h4 hb.size⟩
  · rcases hs k e with e | e
    · exact (h2 k hk).2 e
    · have := h1.ltk k hk; omega
  · rcases hs k hk with e | e
    · exact Nat.lt_of_lt_of_le (h3 k e) hb.size
    · exact e.2
/-- Where only blocks of A are written. -/
theorem Fo.wrote (h : Fo K A w t room age lost l) (hC : Ch A w w') : Fo K A w' t room age lost l := by
  obtain ⟨v, h1, h2, h3, h4⟩ := h
  exact ⟨v, h1.blk fun k hk => hC.block k (h1.ltk k hk) (h2 k hk).2, h2, fun k hk => Nat.lt_of_lt_of_le (h3 k hk) hC.size, Nat.le_trans h4 hC.size⟩
theorem Ch.belowK {S : Nat → Prop} {w w' : World} (h : Ch S w w') (hS : ∀ k, S k → K ≤ k) (hK : K ≤ w.heap.size) : Below K w w' := ⟨h.os, h.tape, h.output, h.size, fun k hk => h.block k (by omega) fun e => by have := hS k e; omega⟩
theorem Ch.kpt {S : Nat → Prop} {w w' : World} (h : Ch S w w') (hS : ∀ k, A k → k < w.heap.size ∧ ¬ S k) : Kpt A w w' := fun k hk => h.block k (hS k hk).1 (hS k hk).2
theorem Fo.of (h : Fo K A w t room age lost l) {w' : World} {v v' : Value} {room' age' lost' : Int} {l' : List Fe} (h2 : ∀ k, Ft.foot t v k → K ≤ k ∧ ¬ A k) (h3 : ∀ k, A k → k < w.heap.size) (hC : Ch (Ft.foot t v) w w') (hF : Ft w' t v' room' age' lost' l') (hv : ∀ b, v'.ownBlock = some b → v.ownBlock = some b ∨ w.heap.size ≤ b) : Fo K A w' t room' age' lost' l' ∧ Below K w w' ∧ Kpt A w w' := by
  refine ⟨⟨v', hF, fun k hk => ?_, fun k hk => Nat.lt_of_lt_of_le (h3 k hk) hC.size, Nat.le_trans h.size hC.size⟩, hC.belowK (fun k hk => (h2 k hk).1) h.size, hC.kpt fun k hk => ⟨h3 k hk, fun e => (h2 k e).2 hk⟩⟩
  rcases hk with e | e
  · exact h2 k (.inl e)
  · rcases hv k e with e | e
    · exact h2 k (.inr e)
    · exact ⟨Nat.le_trans h.size e, fun e' => by have := h3 k e'; omega⟩
theorem FoNew (m a : Int) (w : World) (hA : ∀ k, A k → k < w.heap.size) (hK : K ≤ w.heap.size) : Calls Tryd.prog 13 #[.int .i64 m, .int .i64 a] w fun r w' => r = .returned (.pointer (some ⟨w.heap.size, 0, none⟩)) ∧ Fo K A w' w.heap.size (min (max m 0) 1024) (max a 0) 0 [] ∧ Below w.heap.size w w' :=
  (FNew_any m a w).mono fun r w' ⟨h1, h2, h3⟩ => ⟨h1, ⟨_, h2, fun k hk => by
    rcases hk with e | e
    · subst e; exact ⟨hK, fun e => by have := hA _ e; omega⟩
    · simp [Value.ownBlock] at e, fun k hk => Nat.lt_of_lt_of_le (hA k hk) h3.size, Nat.le_trans hK h3.size⟩, h3⟩
theorem FoLearn (h : Fo K A w t room age lost l) (hl : Fes l) (vid : Int) (m : M6) (port now : Int) (hm : m.wf) (hn : timeOk now) (hlo : 0 ≤ lost ∧ lost ≤ 4611686018427387904) :
    Calls Tryd.prog 43 #[.pointer (some ⟨t, 0, none⟩), .int .i64 vid, .agg m.row, .int .i64 port, .int .i64 now] w fun r w' => r = .returned (.int .i64 (learnR room age lost l vid m port now).1) ∧ Fo K A w' t room age (learnR room age lost l vid m port now).2.1 (learnR room age lost l vid m port now).2.2 ∧ Below K w w' ∧ Kpt A w w' := by
  have h0 := h
  obtain ⟨v, h1, h2, h3, h4⟩ := h
  cases hg : grpB m
  · refine (Learn_any h1 hl vid m port now hm hg hn hlo).mono ?_
    rintro r w' ⟨e, v', rfl, hC, hv, hh⟩
    rcases hh with ⟨g1, rfl, g3⟩ | ⟨g1, rfl, g3⟩
    · have hE : learnR room age lost l vid m port now = (20, lost + 1, aheadL age now vid m l) := by unfold learnR; rw [hg, if_neg (by decide), if_pos g1]
      rw [hE]
      exact ⟨rfl, h0.of h2 h3 hC g3 hv⟩
    · have hE : learnR room age lost l vid m port now = (0, lost, aheadL age now vid m l ++ [⟨vid, m, port, now⟩]) := by unfold learnR; rw [hg, if_neg (by decide), if_neg (by omega)]
      rw [hE]
      exact ⟨rfl, h0.of h2 h3 hC g3 hv⟩
  · refine (Learn_group m hm hg t vid port now w).mono ?_
    rintro r w' ⟨rfl, hb⟩
    have hE : learnR room age lost l vid m port now = (4, lost, l) := by unfold learnR; rw [hg, if_pos rfl]
    rw [hE]
    exact ⟨rfl, h0.below hb, hb.mono h0.size, fun k hk => hb.block k (h3 k hk)⟩
theorem FoFind (h : Fo K A w t room age lost l) (hl : Fes l) (vid : Int) (m : M6) (now : Int) (hm : m.wf) (hn : timeOk now) :
    Calls Tryd.prog 65 #[.pointer (some ⟨t, 0, none⟩), .int .i64 vid, .agg m.row, .int .i64 now] w fun r w' => r = .returned (.tuple #[.int .i64 (findR age now vid m l).1, .int .i64 (findR age now vid m l).2]) ∧ Fo K A w' t room age lost l ∧ Below w.heap.size w w' := by
  have h0 := h
  obtain ⟨v, h1, h2, h3, h4⟩ := h
  exact (Find_any h1 hl vid m now hm hn).mono fun r w' ⟨e, hb⟩ => ⟨e, h0.below hb, hb⟩
theorem FoSweep (h : Fo K A w t room age lost l) (hl : Fes l) (now : Int) (hn : timeOk now) :
    Calls Tryd.prog 61 #[.pointer (some ⟨t, 0, none⟩), .int .i64 now] w fun r w' => r = .returned (.int .i64 ((l.length : Int) - (kept (oldB age now) l).length)) ∧ Fo K A w' t room age lost (kept (oldB age now) l) ∧ Below K w w' ∧ Kpt A w w' := by
  have h0 := h
  obtain ⟨v, h1, h2, h3, h4⟩ := h
  refine (Sweep_any h1 hl now hn).mono ?_
  rintro r w' ⟨rfl, v', hF, ho, hC⟩
  exact ⟨rfl, h0.of h2 h3 hC hF (fun b e => .inl (by rw [← ho]; exact e))⟩
end
theorem Fes.learn {l : List Fe} (h : Fes l) (hl : l.length < 100000) {room age lost vid port now : Int} {m : M6} (hm : m.wf) (hn : timeOk now) : Fes (learnR room age lost l vid m port now).2.2 := by
  unfold learnR
  have h1 : Fes (aheadL age now vid m l) := (h.filter _).filter _
  have h2 : (aheadL age now vid m l).length ≤ l.length := Nat.le_trans (List.length_filter_le _ _) (List.length_filter_le _ _)
  split
  · exact h
  · dsimp only
    split
    · exact h1
    · refine ⟨by simp; omega, fun e he => ?_⟩
      rcases List.mem_append.1 he with he | he
      · exact h1.2 e he
      · simp at he; subst he; exact ⟨hn, hm⟩
end Go.Proofs.YtiahiakllpjliaaDoor
