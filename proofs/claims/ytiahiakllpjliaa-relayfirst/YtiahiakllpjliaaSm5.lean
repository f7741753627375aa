/-
  Contract of slices.Delete of one filter. Conditions: those that each theorem names.
-/
import Derived.Test.YtiahiakllpjliaaSm4
import Derived.Test.YtiahiakllpjliaaFdb3
import Derived.ArgAppend
namespace Go.Proofs.Ytiahiakllpjliaa
open Go.RowKit Go.Maps
set_option linter.unusedVariables false
set_option linter.unusedSimpArgs false
set_option maxRecDepth 20000

theorem setL_front : ∀ (vs P B : List Value), vs.length ≤ B.length → setL (P ++ B) P.length vs = P ++ vs ++ B.drop vs.length
  | [], P, B, _ => by simp [setL]
  | v :: r, P, b :: B, h => by
    rw [setL, List.set_append_right _ _ (Nat.le_refl _), Nat.sub_self, List.set_cons_zero]
    have := setL_front r (P ++ [v]) B (by simpa using h)
    simp only [List.length_append, List.length_singleton, List.append_assoc, List.singleton_append] at this
    rw [this]
    simp
  | v :: r, P, [], h => by simp at h
/-- One row goes: those behind it are moved. -/
theorem Fl.moved {α : Type} {w : World} {b : Nat} {t : TypeId} {f : α → List Value} {l : List α} {sp : List Value} {m : Nat} (h : Fl w b t f l sp) (hf : Wide f m) (d : α) (k : Nat) (hk : k < l.length) : ∃ sp', sp'.length = m + sp.length ∧ Fl (w.setCells b (k * m) (flat f (l.drop (k + 1)))) b t f (l.take k ++ l.drop (k + 1)) sp' := by
  have hl1 : (flat f (l.take k)).length = k * m := by rw [flat_length hf, List.length_take, Nat.min_eq_left (by omega)]
  refine ⟨(f (l.getD k d) ++ flat f (l.drop (k + 1)) ++ sp).drop (flat f (l.drop (k + 1))).length, ?_, ?_⟩
  · simp [hf.len]; omega
  · unfold Fl
    rw [heap_setCells b t _ _ w _ h, flat_split f d l k hk]
    have := setL_front (flat f (l.drop (k + 1))) (flat f (l.take k)) (f (l.getD k d) ++ flat f (l.drop (k + 1)) ++ sp) (by simp; omega)
    rw [hl1] at this
    simp only [List.append_assoc] at this ⊢
    rw [this, flat_app]
    simp
theorem sf_zero (w : World) : (zeroValue 71).run Try.prog w = .ok (.agg (fSf Sf.zero).toArray) w := by kernel_rfl
/-- The filters but that at k. -/
def outL (l : List Sf) (k : Nat) : List Sf := l.take k ++ l.drop (k + 1)
theorem outL_len {l : List Sf} {k : Nat} (h : k < l.length) : (outL l k).length + 1 = l.length := by unfold outL; simp; omega
theorem Fl.cells_off {α : Type} {w : World} {b : Nat} {t : TypeId} {f : α → List Value} {l : List α} {sp : List Value} {m : Nat} (h : Fl w b t f l sp) (hf : Wide f m) (k : Nat) (hk : k ≤ l.length) (j : Nat) (u : Value) (hj : (flat f (l.drop k))[j]? = some u) : w.cell? ((⟨b, k * m, none⟩ : Addr).add j) = some u := by
  have e : flat f l = flat f (l.take k) ++ flat f (l.drop k) := by rw [← flat_app, List.take_append_drop]
  have hl1 : (flat f (l.take k)).length = k * m := by rw [flat_length hf, List.length_take, Nat.min_eq_left hk]
  rw [Addr.add_lit, cell_of_row _ _ _ _ _ _ h]
  simp only [List.getElem?_toArray]
  rw [e, List.append_assoc, List.getElem?_append_right (by omega), hl1, Nat.add_sub_cancel_left, List.getElem?_append_left (List.getElem?_eq_some_iff.1 hj).1]
  exact hj
/-- append(s[:k], s[k+1:]...) stays where it is. -/
theorem append_moved {w : World} {b cap : Nat} {l : List Sf} {sp : List Value} (h : Fl w b 71 fSf l sp) (hcap : l.length ≤ cap) (k : Nat) (hk : k < l.length) (a : Addr) (c : Nat) (ha : a = ⟨b, (k + 1) * 9, none⟩ ∨ k + 1 = l.length) :
    ∃ w', (∀ ty, (Builtin.append_ #[67, 67] ty #[.slice (some ⟨b, 0, none⟩) k cap, .slice (some a) (l.length - (k + 1)) c]).run Try.prog w = .ok (.slice (some ⟨b, 0, none⟩) (l.length - 1) cap) w') ∧ Ch (· = b) w w' ∧ ∃ sp', sp'.length = 9 + sp.length ∧ Fl w' b 71 fSf (outL l k) sp' := by
  obtain ⟨i, h1, h2, h3, h4⟩ := info_parts Try.infoSf
  have hlen : (flat fSf (l.drop (k + 1))).length = (l.length - (k + 1)) * 9 := by rw [flat_length wide_Sf, List.length_drop]
  have hlt : ∀ j, j < (flat fSf (l.drop (k + 1))).length → k * 9 + j < (flat fSf l ++ sp).length := fun j hj => by
    rw [hlen] at hj
    rw [List.length_append, flat_length wide_Sf]
    omega
  obtain ⟨sp', g1, g2⟩ := h.moved wide_Sf Sf.zero k hk
  refine ⟨w.setCells b (k * 9) (flat fSf (l.drop (k + 1))), fun ty => ?_, Ch.setCells _ _ _ _, sp', g1, g2⟩
  have hr := run_append_room_cells (P := Try.prog) (w := w) 67 ty 71 i Try.underlying67 h1 b 0 k cap a (l.length - (k + 1)) c (flat fSf (l.drop (k + 1))) (by rw [hlen, h3]) (fun j u hj => by
    rcases ha with rfl | e
    · exact h.cells_off wide_Sf (k + 1) (by omega) j u hj
    · have := (List.getElem?_eq_some_iff.1 hj).1
      rw [hlen] at this
      omega) (flat_one wide_Sf _) (by omega) (fun j hj => by
    rw [h3, Nat.zero_add, cell_of_row _ _ _ _ _ _ h, List.getElem?_toArray, List.getElem?_eq_getElem (hlt j hj)]; rfl) (fun j hj => h.frozen _)
  rw [h3, Nat.zero_add, show k + (l.length - (k + 1)) = l.length - 1 by omega] at hr
  exact hr
end Go.Proofs.Ytiahiakllpjliaa
