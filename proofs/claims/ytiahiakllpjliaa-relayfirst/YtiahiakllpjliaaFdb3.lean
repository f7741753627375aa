/-
  Contract of slices.DeleteFunc at entries. Conditions: those that each theorem names.
-/
import Derived.Test.YtiahiakllpjliaaFdb2
import Derived.Laws.IdiomCopy
namespace Go.Proofs.Ytiahiakllpjliaa
open Go.RowKit Go.Maps
set_option linter.unusedVariables false
set_option maxRecDepth 20000

/-- What clear makes of the rest of a slice. -/
theorem clear_tail {α : Type} {P : Program} {w : World} {b : Nat} {t e : TypeId} {m : Nat} {f : α → List Value} {l : List α} {sp : List Value} (h : Fl w b e f l sp) (hf : Wide f m) (hm : 0 < m) (z : α) (hz : ∀ w, (zeroValue e).run P w = .ok (.agg (f z).toArray) w) (ht : P.underlying t = some (.slice e)) (n cap : Nat) (hn : n * m ≤ sp.length) :
    ∃ w', (∀ ty, (Builtin.clear_ #[t] ty #[.slice (some ⟨b, l.length * m, none⟩) n cap]).run P w = .ok (.tuple #[]) w') ∧ Ch (· = b) w w' ∧ ∃ sp', sp'.length = sp.length ∧ Fl w' b e f l sp' := by
  rcases Nat.eq_zero_or_pos n with h0 | h0
  · refine ⟨w, fun ty => ?_, Ch.refl _ _, sp, rfl, h⟩
    rw [h0]
    simp [Builtin.clear_, run_underlying ht]
  · have hzc : (Builtin.zeroCells (f z).toArray n).toList = flat f (List.replicate n z) := by
      have := made_flat hf z hm n
      unfold Builtin.zeroCells
      rw [show (f z).toArray.size = m by simp [hf.len]]
      rw [show (Array.map (fun i => (f z).toArray[i % m]!) (Array.range (n * m))) = madeCells (f z).toArray (n * m) by unfold madeCells; simp [hf.len], this]
    have hlt : ∀ j, j < (flat f (List.replicate n z)).length → l.length * m + j < (flat f l ++ sp).length := fun j hj => by
      rw [flat_length hf, List.length_replicate] at hj
      rw [List.length_append, flat_length hf]; omega
    have hst := run_storeCells_cells (P := P) b (l.length * m) (flat f (List.replicate n z)) 0 w (fun j hj => by
      simp only [Nat.add_zero]; rw [cell_of_row _ _ _ _ _ _ h, List.getElem?_toArray, List.getElem?_eq_getElem (hlt j hj)]; rfl) (fun j hj => h.frozen _) (flat_one hf _)
    simp only [Nat.add_zero] at hst
    refine ⟨w.setCells b (l.length * m) (flat f (List.replicate n z)), fun ty => ?_, Ch.setCells _ _ _ _, setL sp 0 (flat f (List.replicate n z)), setL_length _ _ _, ?_⟩
    · obtain ⟨k, hk⟩ : ∃ k, n = k + 1 := ⟨n - 1, by omega⟩
      rw [hk] at hzc hst ⊢
      simp [Builtin.clear_, run_underlying ht, hz, hzc, hst, Value.cells]
    · unfold Fl
      rw [heap_setCells b e _ _ w _ h]
      have := setL_mid (flat f (List.replicate n z)) (flat f l) sp [] 0 (by rw [flat_length hf, List.length_replicate]; omega)
      simp only [List.append_nil, Nat.add_zero, flat_length hf l] at this
      rw [this]
theorem fe_zero (w : World) : (zeroValue 46).run Try.prog w = .ok (.agg (fFe Fe.zero).toArray) w := by kernel_rfl
/-- What is kept of the first i. -/
def keptL (p : Fe → Bool) (l : List Fe) (i : Nat) : List Fe := (l.take i).filter (fun e => !p e)
theorem keptL_le (p : Fe → Bool) (l : List Fe) (i : Nat) : (keptL p l i).length ≤ i := Nat.le_trans (List.length_filter_le _ _) (by rw [List.length_take]; omega)
theorem keptL_succ (p : Fe → Bool) (l : List Fe) (i : Nat) (h : i < l.length) : keptL p l (i + 1) = keptL p l i ++ (if p (l.getD i Fe.zero) then [] else [l.getD i Fe.zero]) := by
  unfold keptL
  rw [List.take_add_one, List.filter_append, List.getD_eq_getElem?_getD, List.getElem?_eq_getElem h]
  simp only [Option.toList_some, Option.getD_some, List.filter_cons, List.filter_nil]
  cases p l[i] <;> rfl
theorem keptL_all (p : Fe → Bool) (l : List Fe) : keptL p l l.length = l.filter (fun e => !p e) := by unfold keptL; rw [List.take_length]
/-- The rows on the way. -/
structure Mid (p : Fe → Bool) (l M : List Fe) (i : Nat) : Prop where
  len : M.length = l.length
  front : M.take (keptL p l i).length = keptL p l i
  back : ∀ q, i ≤ q → q < l.length → M.getD q Fe.zero = l.getD q Fe.zero
  lt : (keptL p l i).length < i
theorem Mid.start {p : Fe → Bool} {l : List Fe} {k : Nat} (hk : k < l.length) (h1 : p (l.getD k Fe.zero) = true) (h2 : ∀ j, j < k → p (l.getD j Fe.zero) = false) : Mid p l l (k + 1) ∧ (keptL p l (k + 1)).length = k := by
  have hkk : keptL p l k = l.take k := by
    unfold keptL
    rw [List.filter_eq_self]
    intro e he
    obtain ⟨j, hj, rfl⟩ := List.getElem_of_mem he
    rw [List.length_take] at hj
    have := h2 j (by omega)
    rw [List.getD_eq_getElem?_getD, List.getElem?_eq_getElem (by omega)] at this
    simp at this ⊢
    exact this
  have hk1 : keptL p l (k + 1) = l.take k := by rw [keptL_succ p l k hk, h1, hkk]; simp
  have hl : (l.take k).length = k := by rw [List.length_take]; omega
  refine ⟨⟨rfl, by rw [hk1, hl], fun _ _ _ => rfl, by rw [hk1, hl]; omega⟩, by rw [hk1, hl]⟩
theorem Mid.skip {p : Fe → Bool} {l M : List Fe} {i : Nat} (h : Mid p l M i) (hi : i < l.length) (hp : p (l.getD i Fe.zero) = true) : Mid p l M (i + 1) ∧ (keptL p l (i + 1)).length = (keptL p l i).length := by
  have e : keptL p l (i + 1) = keptL p l i := by rw [keptL_succ p l i hi, hp]; simp
  have := h.lt
  exact ⟨⟨h.len, by rw [e]; exact h.front, fun q hq hl => h.back q (by omega) hl, by rw [e]; omega⟩, by rw [e]⟩
theorem Mid.keep {p : Fe → Bool} {l M : List Fe} {i : Nat} (h : Mid p l M i) (hi : i < l.length) (hp : p (l.getD i Fe.zero) = false) : Mid p l (M.set (keptL p l i).length (l.getD i Fe.zero)) (i + 1) ∧ (keptL p l (i + 1)).length = (keptL p l i).length + 1 := by
  have e : keptL p l (i + 1) = keptL p l i ++ [l.getD i Fe.zero] := by rw [keptL_succ p l i hi, hp]; simp
  have hlt := h.lt
  have hj : (keptL p l i).length < M.length := by rw [h.len]; omega
  refine ⟨⟨by rw [List.length_set]; exact h.len, ?_, fun q hq hl => ?_, by rw [e, List.length_append]; simp; omega⟩, by rw [e, List.length_append]; rfl⟩
  · rw [e, List.length_append, List.length_singleton, List.take_add_one, List.take_set_of_le (Nat.le_refl _), h.front, List.getElem?_set, if_pos rfl, if_pos hj]
    rfl
  · rw [getD_set _ _ _ _ _ hj, if_neg (by omega)]
    exact h.back q (by omega) hl
end Go.Proofs.Ytiahiakllpjliaa
