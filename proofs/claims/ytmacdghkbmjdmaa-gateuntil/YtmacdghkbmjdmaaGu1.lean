/-
  What a list opens, and when: the mathematics of Next, Until and From. Conditions: those that each theorem names.
-/
import Derived.Test.YtmacdghkbmjdmaaGr1
namespace Go.Proofs.Ytmacdghkbmjdmaa
open Go.RowKit
set_option linter.unusedVariables false
set_option maxRecDepth 20000

/-- The piece of an entry. -/
def pieceN (c : Int) (es : List En) (i : Nat) : Pi := ⟨preN es i, if i + 1 = es.length then c else min (preN es (i + 1)) c, (es.getD i En.zero).op⟩
def NsOk (es : List En) : Prop := ∀ j, j < es.length → 1 ≤ (es.getD j En.zero).ns ∧ (es.getD j En.zero).ns ≤ 1000000000
theorem find_spec {es : List En} {c : Int} (h : NsOk es) (p : Pi → Bool) : ∀ (d j : Nat), j + d = es.length →
    (∀ q, findL c p (min (preN es j) c) (es.drop j) = some q → ∃ i, j ≤ i ∧ i < es.length ∧ preN es i < c ∧ q = pieceN c es i ∧ p (pieceN c es i) = true ∧ ∀ i', j ≤ i' → i' < i → p (pieceN c es i') = false) ∧
    (findL c p (min (preN es j) c) (es.drop j) = none → ∀ i, j ≤ i → i < es.length → preN es i < c → p (pieceN c es i) = false)
  | 0, j, hj => by
    rw [findL_end (by omega)]
    exact ⟨fun q hq => by simp at hq, fun _ i h1 h2 => by omega⟩
  | d + 1, j, hj => by
    have hjl : j < es.length := by omega
    obtain ⟨ih1, ih2⟩ := find_spec h p d (j + 1) (by omega)
    rw [findL_drop hjl]
    by_cases hc : c ≤ min (preN es j) c
    · rw [if_pos hc]
      refine ⟨fun q hq => by simp at hq, fun _ i h1 h2 h3 => ?_⟩
      have := preN_le h (i - j) j (by omega)
      rw [show j + (i - j) = i by omega] at this
      omega
    · rw [if_neg hc]
      have hb : min (preN es j) c = preN es j := by omega
      have hP : (⟨min (preN es j) c, if j + 1 = es.length then c else min (min (preN es j) c + (es.getD j En.zero).ns) c, (es.getD j En.zero).op⟩ : Pi) = pieceN c es j := by
        rw [hb]; rfl
      have he : (if j + 1 = es.length then c else min (min (preN es j) c + (es.getD j En.zero).ns) c) = if j + 1 = es.length then c else min (preN es (j + 1)) c := by rw [hb]; rfl
      rw [hP]
      by_cases hp : p (pieceN c es j) = true
      · rw [if_pos hp]
        refine ⟨fun q hq => ⟨j, Nat.le_refl _, hjl, by omega, (Option.some.inj hq).symm, hp, fun i' h1 h2 => by omega⟩, fun hq => by simp at hq⟩
      · have hpf : p (pieceN c es j) = false := by simpa using hp
        rw [if_neg hp, he]
        by_cases hl : j + 1 = es.length
        · rw [if_pos hl, findL_end (by omega)]
          refine ⟨fun q hq => by simp at hq, fun _ i h1 h2 h3 => ?_⟩
          obtain rfl : i = j := by omega
          exact hpf
        · rw [if_neg hl]
          refine ⟨fun q hq => ?_, fun hq i h1 h2 h3 => ?_⟩
          · obtain ⟨i, g1, g2, g3, g4, g5, g6⟩ := ih1 q hq
            refine ⟨i, by omega, g2, g3, g4, g5, fun i' h1 h2 => ?_⟩
            rcases (show i' = j ∨ j + 1 ≤ i' by omega) with rfl | h
            · exact hpf
            · exact g6 i' h h2
          · rcases (show i = j ∨ j + 1 ≤ i by omega) with rfl | h
            · exact hpf
            · exact ih2 hq i h h2 h3
theorem find_some {es : List En} {c : Int} (h : NsOk es) (hc : 0 ≤ c) {p : Pi → Bool} {q : Pi} (hq : findL c p 0 es = some q) : ∃ i, i < es.length ∧ preN es i < c ∧ q = pieceN c es i ∧ p (pieceN c es i) = true ∧ ∀ i', i' < i → p (pieceN c es i') = false := by
  have := (find_spec (c := c) h p es.length 0 (by omega)).1 q
  rw [show preN es 0 = 0 from rfl, show min 0 c = 0 by omega, List.drop_zero] at this
  obtain ⟨i, -, h2, h3, h4, h5, h6⟩ := this hq
  exact ⟨i, h2, h3, h4, h5, fun i' hi => h6 i' (Nat.zero_le _) hi⟩
theorem find_none {es : List En} {c : Int} (h : NsOk es) (hc : 0 ≤ c) {p : Pi → Bool} (hq : findL c p 0 es = none) : ∀ i, i < es.length → preN es i < c → p (pieceN c es i) = false := by
  have := (find_spec (c := c) h p es.length 0 (by omega)).2
  rw [show preN es 0 = 0 from rfl, show min 0 c = 0 by omega, List.drop_zero] at this
  exact fun i h2 h3 => this hq i (Nat.zero_le _) h2 h3
/-- The entry in force at a place of the cycle. -/
def InP (c : Int) (es : List En) (i : Nat) (x : Int) : Prop := i < es.length ∧ preN es i ≤ x ∧ x < (pieceN c es i).e
theorem in_ex {es : List En} {c : Int} (h : NsOk es) (hn : 1 ≤ es.length) {x : Int} (h0 : 0 ≤ x) (h1 : x < c) : ∃ i, InP c es i x := by
  have key : ∀ d, d < es.length → (∃ i, InP c es i x) ∨ preN es d ≤ x := by
    intro d
    induction d with
    | zero => intro _; exact .inr h0
    | succ d ih =>
      intro hd
      rcases ih (by omega) with hh | hh
      · exact .inl hh
      · by_cases hx : x < preN es (d + 1)
        · refine .inl ⟨d, by omega, hh, ?_⟩
          show x < (if d + 1 = es.length then c else min (preN es (d + 1)) c)
          rw [if_neg (by omega)]; omega
        · exact .inr (by omega)
  rcases key (es.length - 1) (by omega) with hh | hh
  · exact hh
  · refine ⟨es.length - 1, by omega, hh, ?_⟩
    show x < (if es.length - 1 + 1 = es.length then c else _)
    rw [if_pos (by omega)]; exact h1
theorem state_in {L : Ls} (hm : L.may = true) {t : Int} (ht : L.base ≤ t) {i : Nat} (hi : InP L.cyc L.es i (intoN L t)) : stateN L t = (L.es.getD i En.zero).op := by
  obtain ⟨h1, h2, h3⟩ := hi
  refine (state_at hm ht h1 h2 fun k hk hkn => ?_).symm
  have h4 : intoN L t < (if i + 1 = L.es.length then L.cyc else min (preN L.es (i + 1)) L.cyc) := h3
  rw [if_neg (by omega)] at h4
  have := preN_le (es := L.es) (fun j hj => (Ls.entry hm hj).2) (k - (i + 1)) (i + 1) (by omega)
  rw [show i + 1 + (k - (i + 1)) = k by omega] at this
  omega
theorem into_at {L : Ls} (hm : L.may = true) {T x y : Int} (hT : L.base ≤ T) (h0 : 0 ≤ x) (h1 : x < L.cyc) (hy : y = T - intoN L T + x ∨ y = T - intoN L T + L.cyc + x) : intoN L y = x ∧ L.base ≤ y := by
  obtain ⟨i1, i2⟩ := intoN_in hm T
  have e := Int.mul_ediv_add_emod (T - L.base) L.cyc
  have hq : 0 ≤ (T - L.base) / L.cyc := Int.ediv_nonneg (by omega) (by omega)
  have hqc : 0 ≤ L.cyc * ((T - L.base) / L.cyc) := Int.mul_nonneg (by omega) hq
  have hI : intoN L T = (T - L.base) % L.cyc := rfl
  rcases hy with rfl | rfl
  · refine ⟨?_, by omega⟩
    show (T - intoN L T + x - L.base) % L.cyc = x
    rw [show T - intoN L T + x - L.base = x + L.cyc * ((T - L.base) / L.cyc) by omega, Int.add_mul_emod_self_left, Int.emod_eq_of_lt h0 h1]
  · refine ⟨?_, by omega⟩
    show (T - intoN L T + L.cyc + x - L.base) % L.cyc = x
    rw [show T - intoN L T + L.cyc + x - L.base = x + L.cyc * ((T - L.base) / L.cyc + 1) by rw [Int.mul_add, Int.mul_one]; omega, Int.add_mul_emod_self_left, Int.emod_eq_of_lt h0 h1]
theorem piece_e {L : Ls} (hm : L.may = true) {i : Nat} (hi : i < L.es.length) (hc : preN L.es i < L.cyc) : preN L.es i < (pieceN L.cyc L.es i).e ∧ (pieceN L.cyc L.es i).e ≤ L.cyc := by
  have := (Ls.entry hm hi).2
  show preN L.es i < (if i + 1 = L.es.length then L.cyc else min (preN L.es i + (L.es.getD i En.zero).ns) L.cyc) ∧ (if i + 1 = L.es.length then L.cyc else min (preN L.es i + (L.es.getD i En.zero).ns) L.cyc) ≤ L.cyc
  split <;> omega
/-- What a first time is. -/
structure Fst (L : Ls) (s : Int → Bool) (t X : Int) : Prop where
  ge : X ≠ -1 → t ≤ X
  yes : X ≠ -1 → s (stateN L X) = true
  no : X ≠ -1 → ∀ y, t ≤ y → y < X → s (stateN L y) = false
  never : X = -1 → ∀ y, t ≤ y → s (stateN L y) = false
  le : X ≤ t + 2000000000 ∨ X ≤ L.base + 2000000000
/-- Within a cycle from a place on, and behind it. -/
theorem first_core {L : Ls} (hm : L.may = true) (s : Int → Bool) {T : Int} (hT : L.base ≤ T) (X : Int)
    (hX : X = match findL L.cyc (fun q => decide (intoN L T < q.e) && s q.op) 0 L.es with | some q => T - intoN L T + max q.b (intoN L T) | none => secN (T - intoN L T + L.cyc) (findL L.cyc (fun q => s q.op) 0 L.es)) : Fst L s T X := by
  have hns : NsOk L.es := fun j hj => (Ls.entry hm hj).2
  obtain ⟨⟨n1, -⟩, ⟨a1, -⟩, ⟨y1, y2⟩, -, -⟩ := L.may_iff.1 hm
  obtain ⟨i1, i2⟩ := intoN_in hm T
  have hs : ∀ {y : Int} {i : Nat}, L.base ≤ y → InP L.cyc L.es i (intoN L y) → s (stateN L y) = s (pieceN L.cyc L.es i).op := fun hy hi => by rw [state_in hm hy hi]; rfl
  have hmono : ∀ {i k : Nat}, i ≤ k → k ≤ L.es.length → preN L.es i ≤ preN L.es k := fun {i k} h1 h2 => by
    have := preN_le hns (k - i) i (by omega)
    rwa [show i + (k - i) = k by omega] at this
  cases hf : findL L.cyc (fun q => decide (intoN L T < q.e) && s q.op) 0 L.es with
  | some q =>
    rw [hf] at hX
    dsimp only at hX
    obtain ⟨i, hi, hc, rfl, hp, hno⟩ := find_some hns (by omega) hf
    obtain ⟨e1, e2⟩ := piece_e hm hi hc
    simp only [Bool.and_eq_true, decide_eq_true_eq] at hp
    obtain ⟨m, hmm⟩ : ∃ m, m = max (preN L.es i) (intoN L T) := ⟨_, rfl⟩
    have hX' : X = T - intoN L T + m := by rw [hX, hmm]; rfl
    have hm1 : preN L.es i ≤ m ∧ intoN L T ≤ m ∧ (m = preN L.es i ∨ m = intoN L T) := by omega
    clear hX hmm
    obtain ⟨j1, j2⟩ := into_at hm hT (show 0 ≤ m by omega) (by omega) (.inl hX')
    refine ⟨fun _ => by omega, fun _ => ?_, fun _ y g1 g2 => ?_, fun h => by omega, .inl (by omega)⟩
    · rw [hs j2 ⟨hi, by rw [j1]; omega, by rw [j1]; omega⟩]; exact hp.2
    · obtain ⟨k1, k2⟩ := into_at (y := y) (x := y - (T - intoN L T)) hm hT (by omega) (by omega) (.inl (by omega))
      obtain ⟨i', hi', g3, g4⟩ := in_ex (c := L.cyc) hns n1 (x := y - (T - intoN L T)) (by omega) (by omega)
      have hlt : i' < i := by
        rcases Nat.lt_or_ge i' i with h | h
        · exact h
        · have := hmono h (Nat.le_of_lt hi'); omega
      have := hno i' hlt
      rw [hs k2 ⟨hi', by rw [k1]; exact g3, by rw [k1]; exact g4⟩]
      simp only [Bool.and_eq_false_iff, decide_eq_false_iff_not] at this
      rcases this with h | h
      · omega
      · exact h
  | none =>
    rw [hf] at hX
    dsimp only at hX
    have hno := find_none hns (by omega) hf
    have hfirst : ∀ y, T ≤ y → y < T - intoN L T + L.cyc → s (stateN L y) = false := fun y g1 g2 => by
      obtain ⟨k1, k2⟩ := into_at (y := y) (x := y - (T - intoN L T)) hm hT (by omega) (by omega) (.inl (by omega))
      obtain ⟨i', hi', g3, g4⟩ := in_ex (c := L.cyc) hns n1 (x := y - (T - intoN L T)) (by omega) (by omega)
      have := hno i' hi' (by omega)
      rw [hs k2 ⟨hi', by rw [k1]; exact g3, by rw [k1]; exact g4⟩]
      simp only [Bool.and_eq_false_iff, decide_eq_false_iff_not] at this
      rcases this with h | h
      · omega
      · exact h
    cases hf2 : findL L.cyc (fun q => s q.op) 0 L.es with
    | none =>
      rw [hf2] at hX
      have hno2 := find_none hns (by omega) hf2
      have hX' : X = -1 := hX
      refine ⟨fun h => absurd hX' h, fun h => absurd hX' h, fun h => absurd hX' h, fun _ y g1 => ?_, .inr (by omega)⟩
      have hy : L.base ≤ y := by omega
      obtain ⟨k1, k2⟩ := intoN_in hm y
      obtain ⟨i', hi', g3, g4⟩ := in_ex (c := L.cyc) hns n1 k1 k2
      rw [hs hy ⟨hi', g3, g4⟩]
      exact hno2 i' hi' (by omega)
    | some q =>
      rw [hf2] at hX
      obtain ⟨i, hi, hc, rfl, hp, hno2⟩ := find_some hns (by omega) hf2
      have hX' : X = T - intoN L T + L.cyc + preN L.es i := hX
      obtain ⟨e1, e2⟩ := piece_e hm hi hc
      have h0 := (preN_in hns i (by omega)).1
      obtain ⟨j1, j2⟩ := into_at hm hT h0 hc (.inr hX')
      refine ⟨fun _ => by omega, fun _ => ?_, fun _ y g1 g2 => ?_, fun h => by omega, .inl (by omega)⟩
      · rw [hs j2 ⟨hi, by rw [j1]; exact Int.le_refl _, by rw [j1]; exact e1⟩]; exact hp
      · by_cases hy : y < T - intoN L T + L.cyc
        · exact hfirst y g1 hy
        · obtain ⟨k1, k2⟩ := into_at (y := y) (x := y - (T - intoN L T + L.cyc)) hm hT (by omega) (by omega) (.inr (by omega))
          obtain ⟨i', hi', g3, g4⟩ := in_ex (c := L.cyc) hns n1 (x := y - (T - intoN L T + L.cyc)) (by omega) (by omega)
          have hlt : i' < i := by
            rcases Nat.lt_or_ge i' i with h | h
            · exact h
            · have := hmono h (Nat.le_of_lt hi'); omega
          rw [hs k2 ⟨hi', by rw [k1]; exact g3, by rw [k1]; exact g4⟩]
          exact hno2 i' hlt
theorem first_is {L : Ls} (hm : L.may = true) (s : Int → Bool) {t : Int} (ht : 0 ≤ t) : Fst L s t (firstN L t s) := by
  obtain ⟨-, ⟨a1, -⟩, -, -, -⟩ := L.may_iff.1 hm
  unfold firstN
  have hst : ∀ y, y < L.base → stateN L y = 255 := fun y hy => if_pos hy
  by_cases hb : t < L.base
  · cases h255 : s 255
    · rw [if_neg (by simp)]
      have lift : ∀ X, Fst L s L.base X → Fst L s t X := fun X hc => by
        refine ⟨fun h => by have := hc.ge h; omega, hc.yes, fun h y g1 g2 => ?_, fun h y g1 => ?_, .inr (by rcases hc.le with h | h <;> omega)⟩
        · by_cases hy : y < L.base
          · rw [hst y hy]; exact h255
          · exact hc.no h y (by omega) g2
        · by_cases hy : y < L.base
          · rw [hst y hy]; exact h255
          · exact hc.never h y (by omega)
      rw [show max t L.base = L.base by omega]
      exact lift _ (first_core hm s (Int.le_refl L.base) _ rfl)
    · rw [if_pos ⟨hb, rfl⟩]
      exact ⟨fun _ => Int.le_refl _, fun _ => by rw [hst t hb]; exact h255, fun _ y g1 g2 => by omega, fun h => by omega, .inl (by omega)⟩
  · rw [if_neg (fun h => hb h.1), show max t L.base = t by omega]
    exact first_core hm s (by omega) _ rfl
/-- Up to the next edge nothing changes. -/
theorem state_still {L : Ls} (hm : L.may = true) {t y : Int} (h1 : t ≤ y) (h2 : y < nextN L t) : stateN L y = stateN L t := by
  have hns : NsOk L.es := fun j hj => (Ls.entry hm hj).2
  obtain ⟨⟨n1, -⟩, ⟨a1, -⟩, ⟨y1, y2⟩, -, -⟩ := L.may_iff.1 hm
  unfold nextN at h2
  by_cases hb : t < L.base
  · rw [if_pos hb] at h2
    have e1 : stateN L y = 255 := if_pos h2
    have e2 : stateN L t = 255 := if_pos hb
    rw [e1, e2]
  rw [if_neg hb] at h2
  obtain ⟨i1, i2⟩ := intoN_in hm t
  have hmono : ∀ {i k : Nat}, i ≤ k → k ≤ L.es.length → preN L.es i ≤ preN L.es k := fun {i k} h1 h2 => by
    have := preN_le hns (k - i) i (by omega)
    rwa [show i + (k - i) = k by omega] at this
  have key : ∀ i', InP L.cyc L.es i' (y - (t - intoN L t)) → preN L.es i' ≤ intoN L t → y - (t - intoN L t) < L.cyc → stateN L y = stateN L t := fun i' hi hle hlt => by
    obtain ⟨k1, k2⟩ := into_at (T := t) (y := y) (x := y - (t - intoN L t)) hm (by omega) (by omega) hlt (.inl (by omega))
    rw [state_in hm k2 (by rw [k1]; exact hi), state_in hm (by omega) ⟨hi.1, hle, by have := hi.2.2; omega⟩]
  cases hf : findL L.cyc (fun q => decide (intoN L t < q.b)) 0 L.es with
  | none =>
    rw [hf] at h2
    dsimp only at h2
    have hno := find_none hns (by omega) hf
    obtain ⟨i', hi', g3, g4⟩ := in_ex (c := L.cyc) hns n1 (x := y - (t - intoN L t)) (by omega) (by omega)
    have := hno i' hi' (by omega)
    simp only [decide_eq_false_iff_not] at this
    have hb' : (pieceN L.cyc L.es i').b = preN L.es i' := rfl
    rw [hb'] at this
    exact key i' ⟨hi', g3, g4⟩ (by omega) (by omega)
  | some q =>
    rw [hf] at h2
    dsimp only at h2
    obtain ⟨i, hi, hc, rfl, hp, hno⟩ := find_some hns (by omega) hf
    have hb' : (pieceN L.cyc L.es i).b = preN L.es i := rfl
    rw [hb'] at h2
    obtain ⟨i', hi', g3, g4⟩ := in_ex (c := L.cyc) hns n1 (x := y - (t - intoN L t)) (by omega) (by omega)
    have hlt : i' < i := by
      rcases Nat.lt_or_ge i' i with h | h
      · exact h
      · have := hmono h (Nat.le_of_lt hi'); omega
    have := hno i' hlt
    simp only [decide_eq_false_iff_not] at this
    have hb'' : (pieceN L.cyc L.es i').b = preN L.es i' := rfl
    rw [hb''] at this
    exact key i' ⟨hi', g3, g4⟩ (by omega) (by omega)
theorem next_gt {L : Ls} (hm : L.may = true) (t : Int) : t < nextN L t := by
  obtain ⟨i1, i2⟩ := intoN_in hm t
  unfold nextN
  split
  · assumption
  · cases hf : findL L.cyc (fun q => decide (intoN L t < q.b)) 0 L.es with
    | none => dsimp only; omega
    | some q =>
      have := findL_in (Int.le_refl 0) (Ls.good hm) hf
      have h4 : intoN L t < q.b := by simpa using this.2.2.2
      dsimp only
      omega
/-- The next edge isn't behind a first time that is ahead. -/
theorem next_le {L : Ls} (hm : L.may = true) {s : Int → Bool} {t X : Int} (h : Fst L s t X) (hX : X ≠ -1) {y : Int} (h1 : t ≤ y) (h2 : y < X) : nextN L y ≤ X := by
  rcases Int.lt_or_le X (nextN L y) with hlt | hle
  · have e := state_still hm (Int.le_of_lt h2) hlt
    have a := h.yes hX
    have b := h.no hX y h1 h2
    rw [e, b] at a
    simp at a
  · exact hle
end Go.Proofs.Ytmacdghkbmjdmaa
