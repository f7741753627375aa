/-
  The document's own edges and Next (of layer 16), and that gate's Next is the same. Conditions: those that each theorem names.
-/
import Derived.Test.YtmacdghkbmjdmaaGu1
namespace Go.Proofs.Ytmacdghkbmjdmaa
open Go.RowKit
set_option linter.unusedVariables false
set_option maxRecDepth 20000

@[reducible] def fJ (x : Int) : List Value := [.int .i64 x]
theorem wide_J : Wide fJ 1 := ⟨fun _ => rfl, fun x u hu => by simp at hu; subst hu; rfl⟩
theorem Try.infoJ : (Try.prog.info? 2).map (fun i => (i.zero, i.size, i.bytes)) = some (some (.int .i64 0), 1, 8) := by kernel_rfl
theorem sty_J : Sty Try.prog 77 2 1 8 := by
  obtain ⟨i, h1, h2, h3, h4⟩ := info_parts Try.infoJ
  exact ⟨Try.underlying77, ⟨i, _, h1, h2, h3, h4, rfl⟩, by omega⟩
theorem flat_J (l : List Int) : flat fJ l = l.map (Value.int .i64) := by
  induction l with
  | nil => rfl
  | cons x r ih => rw [flat_cons, ih]; rfl
/-- The beginnings behind so many entries. -/
def outN (c : Int) (es : List En) (j : Nat) : List Int := ((List.range (j + 1)).filter (fun k => decide (preN es k < c))).map (preN es)
theorem outN_zero {c : Int} (hc : 0 < c) (es : List En) : outN c es 0 = [0] := by
  simp [outN, List.range_succ, preN, hc]
theorem outN_succ (c : Int) (es : List En) (j : Nat) : outN c es (j + 1) = outN c es j ++ (if preN es (j + 1) < c then [preN es (j + 1)] else []) := by
  unfold outN
  rw [List.range_succ (n := j + 1), List.filter_append, List.map_append]
  congr 1
  by_cases h : preN es (j + 1) < c
  · simp [h]
  · simp [h]
theorem outN_len (c : Int) (es : List En) (j : Nat) : (outN c es j).length ≤ j + 1 := by
  unfold outN
  rw [List.length_map]
  have := List.length_filter_le (fun k => decide (preN es k < c)) (List.range (j + 1))
  simpa using this
theorem mem_outN {c : Int} {es : List En} {j : Nat} {x : Int} : x ∈ outN c es j ↔ ∃ k, k ≤ j ∧ preN es k < c ∧ x = preN es k := by
  unfold outN
  simp only [List.mem_map, List.mem_filter, List.mem_range, decide_eq_true_eq]
  constructor
  · rintro ⟨k, ⟨h1, h2⟩, h3⟩; exact ⟨k, by omega, h2, h3.symm⟩
  · rintro ⟨k, h1, h2, h3⟩; exact ⟨k, ⟨by omega, h2⟩, h3.symm⟩
theorem preN_mono {es : List En} (h : NsOk es) : ∀ (d j : Nat), preN es j ≤ preN es (j + d)
  | 0, j => Int.le_refl _
  | d + 1, j => by
    have := preN_mono h d j
    have hn : 0 ≤ (es.getD (j + d) En.zero).ns := by
      by_cases hj : j + d < es.length
      · have := (h (j + d) hj).1; omega
      · rw [List.getD_eq_getElem?_getD, List.getElem?_eq_none (by omega)]; exact Int.le_refl _
    rw [← Nat.add_assoc, preN]
    omega
theorem outN_sorted {c : Int} {es : List En} (h : NsOk es) (j : Nat) : (outN c es j).Pairwise (· ≤ ·) := by
  unfold outN
  rw [List.pairwise_map]
  refine List.Pairwise.filter _ ?_
  refine List.Pairwise.imp ?_ List.pairwise_lt_range
  intro a b hab
  have := preN_mono h (b - a) a
  rwa [show a + (b - a) = b by omega] at this
/-- The first edge that is ahead. -/
theorem next_edge {L : Ls} (hm : L.may = true) {t : Int} (hb : L.base ≤ t) {j : Nat} (hj : j < (outN L.cyc L.es (L.es.length - 1) ++ [L.cyc]).length) (h1 : intoN L t < (outN L.cyc L.es (L.es.length - 1) ++ [L.cyc]).getD j 0) (h2 : ∀ k, k < j → (outN L.cyc L.es (L.es.length - 1) ++ [L.cyc]).getD k 0 ≤ intoN L t) : t - intoN L t + (outN L.cyc L.es (L.es.length - 1) ++ [L.cyc]).getD j 0 = nextN L t := by
  have hns : NsOk L.es := fun j hj => (Ls.entry hm hj).2
  obtain ⟨⟨n1, -⟩, ⟨a1, -⟩, ⟨y1, y2⟩, -, -⟩ := L.may_iff.1 hm
  obtain ⟨i1, i2⟩ := intoN_in hm t
  have hso := outN_sorted (c := L.cyc) hns (L.es.length - 1)
  have hmem := fun x => @mem_outN L.cyc L.es (L.es.length - 1) x
  generalize outN L.cyc L.es (L.es.length - 1) = O at *
  unfold nextN
  rw [if_neg (by omega)]
  rw [List.length_append, List.length_singleton] at hj
  have hgl : ∀ k, k < O.length → (O ++ [L.cyc]).getD k 0 = O.getD k 0 := fun k hk => by
    rw [List.getD_eq_getElem?_getD, List.getElem?_append_left hk, ← List.getD_eq_getElem?_getD]
  have hOm : ∀ k, k < O.length → O.getD k 0 ∈ O := fun k hk => by
    rw [List.getD_eq_getElem?_getD, List.getElem?_eq_getElem hk]; exact List.getElem_mem _
  cases hf : findL L.cyc (fun q => decide (intoN L t < q.b)) 0 L.es with
  | none =>
    dsimp only
    have hno := find_none hns (by omega) hf
    rcases (show j < O.length ∨ j = O.length by omega) with h | rfl
    · exfalso
      rw [hgl j h] at h1
      obtain ⟨k, g1, g2, g3⟩ := (hmem _).1 (hOm j h)
      have := hno k (by omega) g2
      simp only [decide_eq_false_iff_not] at this
      have hb' : (pieceN L.cyc L.es k).b = preN L.es k := rfl
      rw [hb', ← g3] at this
      omega
    · rw [List.getD_eq_getElem?_getD, List.getElem?_append_right (Nat.le_refl _)]
      simp
  | some q =>
    dsimp only
    obtain ⟨i, hi, hc, rfl, hp, hno⟩ := find_some hns (by omega) hf
    have hb' : (pieceN L.cyc L.es i).b = preN L.es i := rfl
    rw [hb']
    have hp' : intoN L t < preN L.es i := by simpa [hb'] using hp
    obtain ⟨j1, hj1, hj1e⟩ := List.getElem_of_mem ((hmem (preN L.es i)).2 ⟨i, by omega, hc, rfl⟩)
    have hj1g : O.getD j1 0 = preN L.es i := by rw [List.getD_eq_getElem?_getD, List.getElem?_eq_getElem hj1]; exact hj1e
    have hle : j ≤ j1 := by
      rcases Nat.lt_or_ge j1 j with h | h
      · have := h2 j1 h
        rw [hgl j1 hj1, hj1g] at this
        omega
      · exact h
    rw [hgl j (by omega)] at h1 ⊢
    obtain ⟨k, g1, g2, g3⟩ := (hmem _).1 (hOm j (by omega))
    have hik : i ≤ k := by
      rcases Nat.lt_or_ge k i with h | h
      · have := hno k h
        simp only [decide_eq_false_iff_not] at this
        have hb2 : (pieceN L.cyc L.es k).b = preN L.es k := rfl
        rw [hb2, ← g3] at this
        omega
      · exact h
    have e1 : preN L.es i ≤ O.getD j 0 := by
      rw [g3]
      have := preN_mono hns (k - i) i
      rwa [show i + (k - i) = k by omega] at this
    have e2 : O.getD j 0 ≤ preN L.es i := by
      rcases (show j = j1 ∨ j < j1 by omega) with rfl | h
      · rw [hj1g]; exact Int.le_refl _
      · have := List.pairwise_iff_getElem.1 hso j j1 (by omega) hj1 h
        rw [List.getD_eq_getElem?_getD, List.getElem?_eq_getElem (show j < O.length by omega)]
        rw [hj1e] at this
        exact this
    omega
end Go.Proofs.Ytmacdghkbmjdmaa
