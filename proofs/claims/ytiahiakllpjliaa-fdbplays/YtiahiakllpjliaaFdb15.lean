/-
  Stations in a list, and the same in a map ('TieF'): mathematics. No Go text. Conditions: those that each theorem names.
-/
import Derived.Test.YtiahiakllpjliaaFdb14
namespace Go.Proofs.Ytiahiakllpjliaa
open Go.RowKit Go.Maps
set_option linter.unusedVariables false
set_option linter.unusedSimpArgs false
set_option maxRecDepth 20000

def keyF (e : Fe) : Int × M6 := (e.vid, e.m)
theorem isB_iff (k : Int × M6) (e : Fe) : isB k.1 k.2 e = true ↔ keyF e = k := by
  obtain ⟨v, m⟩ := k
  simp [isB, keyF]
theorem isB_not (k : Int × M6) (e : Fe) : isB k.1 k.2 e = false ↔ keyF e ≠ k := by
  rw [← Bool.not_eq_true, isB_iff]
def lookF (l : List Fe) (k : Int × M6) : Option (Int × Int) := (l.find? (isB k.1 k.2)).map fun e => (e.port, e.seen)
def NdF (l : List Fe) : Prop := (l.map keyF).Nodup
theorem lookF_nil (k : Int × M6) : lookF [] k = none := rfl
theorem lookF_cons_eq (e : Fe) (l : List Fe) : lookF (e :: l) (keyF e) = some (e.port, e.seen) := by
  unfold lookF
  rw [List.find?_cons_of_pos ((isB_iff _ _).2 rfl)]; rfl
theorem lookF_cons_ne {e : Fe} {k : Int × M6} (h : keyF e ≠ k) (l : List Fe) : lookF (e :: l) k = lookF l k := by
  unfold lookF
  rw [List.find?_cons_of_neg (by rw [isB_iff]; exact h)]
theorem lookF_none {l : List Fe} {k : Int × M6} : lookF l k = none ↔ k ∉ l.map keyF := by
  induction l with
  | nil => simp [lookF]
  | cons e r ih =>
    by_cases h : keyF e = k
    · subst h; rw [lookF_cons_eq]; simp
    · rw [lookF_cons_ne h, ih]; simp [Ne.symm h]
theorem lookF_some {l : List Fe} {k : Int × M6} : (lookF l k).isSome = true ↔ k ∈ l.map keyF := by
  have := lookF_none (l := l) (k := k)
  cases hl : lookF l k with
  | none => simp only [Option.isSome_none, Bool.false_eq_true, false_iff]; exact this.1 hl
  | some x => simp only [Option.isSome_some, true_iff]; exact Classical.byContradiction fun h => by rw [this.2 h] at hl; cases hl
theorem lookF_mem {l : List Fe} (h : NdF l) {e : Fe} (he : e ∈ l) : lookF l (keyF e) = some (e.port, e.seen) := by
  induction l with
  | nil => cases he
  | cons a r ih =>
    unfold NdF at h
    rw [List.map_cons, List.nodup_cons] at h
    rcases List.mem_cons.1 he with rfl | he
    · exact lookF_cons_eq _ _
    · have hne : keyF a ≠ keyF e := fun e' => h.1 (by rw [e']; exact List.mem_map.2 ⟨e, he, rfl⟩)
      rw [lookF_cons_ne hne]
      exact ih h.2 he
theorem NdF.kept {l : List Fe} (h : NdF l) (p : Fe → Bool) : NdF (kept p l) := by
  unfold NdF at *
  exact List.Sublist.nodup (List.Sublist.map _ (List.filter_sublist)) h
theorem kept_cons (p : Fe → Bool) (e : Fe) (l : List Fe) : kept p (e :: l) = if p e then kept p l else e :: kept p l := by
  unfold kept
  cases h : p e <;> simp [h]
theorem mem_kept {p : Fe → Bool} {e : Fe} {l : List Fe} : e ∈ kept p l ↔ e ∈ l ∧ p e = false := by unfold kept; simp [List.mem_filter]
theorem lookF_kept {l : List Fe} (h : NdF l) {p : Fe → Bool} {q : Int × Int → Bool} (hp : ∀ e, p e = q (e.port, e.seen)) (k : Int × M6) : lookF (kept p l) k = (lookF l k).filter (fun x => !q x) := by
  induction l with
  | nil => rfl
  | cons e r ih =>
    unfold NdF at h
    rw [List.map_cons, List.nodup_cons] at h
    have ih := ih h.2
    rw [kept_cons]
    by_cases hk : keyF e = k
    · subst hk
      rw [lookF_cons_eq]
      have hno : lookF (kept p r) (keyF e) = none := by rw [ih, lookF_none.2 h.1]; rfl
      cases hpe : p e
      · rw [if_neg (by decide), lookF_cons_eq]
        rw [hp] at hpe
        simp [Option.filter, hpe]
      · rw [if_pos rfl, hno]
        rw [hp] at hpe
        simp [Option.filter, hpe]
    · rw [lookF_cons_ne hk]
      cases hpe : p e
      · rw [if_neg (by decide), lookF_cons_ne hk, ih]
      · rw [if_pos rfl, ih]
/-- The list, and the map. -/
structure TieF (now : Int) (l : List Fe) (f : Int × M6 → Option (Int × Int)) : Prop where
  nd : NdF l
  look : ∀ k, kOk k → f k = lookF l k
  ok : ∀ e ∈ l, kOk (keyF e) ∧ 0 ≤ e.seen ∧ e.seen ≤ now
  sorted : l.Pairwise (fun a b => a.seen ≤ b.seen)
theorem TieF.nil (now : Int) : TieF now [] (fun _ => none) := ⟨List.nodup_nil, fun k _ => rfl, fun e he => (by cases he), List.Pairwise.nil⟩
theorem TieF.later {now now' : Int} {l : List Fe} {f : Int × M6 → Option (Int × Int)} (h : TieF now l f) (hn : now ≤ now') : TieF now' l f :=
  ⟨h.nd, h.look, fun e he => ⟨(h.ok e he).1, (h.ok e he).2.1, by have := (h.ok e he).2.2; omega⟩, h.sorted⟩
theorem TieF.rid {now : Int} {l : List Fe} {f f' : Int × M6 → Option (Int × Int)} (h : TieF now l f) {p : Fe → Bool} {q : Int × Int → Bool} (hp : ∀ e, p e = q (e.port, e.seen)) (hf : ∀ k, kOk k → f' k = (f k).filter (fun x => !q x)) : TieF now (kept p l) f' :=
  ⟨h.nd.kept p, fun k hk => by rw [hf k hk, h.look k hk, lookF_kept h.nd hp], fun e he => h.ok e (mem_kept.1 he).1, List.Pairwise.sublist List.filter_sublist h.sorted⟩
theorem TieF.count {now : Int} {l : List Fe} {f : Int × M6 → Option (Int × Int)} (h : TieF now l f) {w : World} {B c : Nat} (hm : Mp Try.prog kT w B c f) : c = l.length := by
  have := hm.count kT_good (l.map keyF) h.nd (fun k hk => by obtain ⟨e, he, rfl⟩ := List.mem_map.1 hk; exact (h.ok e he).1) (fun k hk => by rw [h.look k hk]; exact lookF_some)
  rw [this, List.length_map]
theorem kept_isB {l : List Fe} (h : NdF l) (k : Int × M6) : (lookF l k = none → kept (isB k.1 k.2) l = l) ∧ ((lookF l k).isSome = true → (kept (isB k.1 k.2) l).length + 1 = l.length) := by
  induction l with
  | nil => exact ⟨fun _ => rfl, fun h => by cases h⟩
  | cons e r ih =>
    unfold NdF at h
    rw [List.map_cons, List.nodup_cons] at h
    have ih := ih h.2
    rw [kept_cons]
    by_cases hk : keyF e = k
    · subst hk
      rw [lookF_cons_eq, if_pos ((isB_iff _ _).2 rfl), ih.1 (lookF_none.2 h.1)]
      exact ⟨fun h => (by cases h), fun _ => rfl⟩
    · rw [lookF_cons_ne hk, if_neg (by rw [isB_iff]; exact hk)]
      refine ⟨fun h => by rw [ih.1 h], fun h => ?_⟩
      have := ih.2 h
      simp only [List.length_cons]
      omega
theorem lookF_ahead {l : List Fe} (k k' : Int × M6) (hne : k' ≠ k) : lookF (kept (isB k.1 k.2) l) k' = lookF l k' := by
  induction l with
  | nil => rfl
  | cons e r ih =>
    rw [kept_cons]
    by_cases hk : keyF e = k
    · rw [if_pos ((isB_iff _ _).2 hk), ih, lookF_cons_ne (by rw [hk]; exact Ne.symm hne)]
    · rw [if_neg (by rw [isB_iff]; exact hk)]
      by_cases hk' : keyF e = k'
      · subst hk'; rw [lookF_cons_eq, lookF_cons_eq]
      · rw [lookF_cons_ne hk', lookF_cons_ne hk', ih]
theorem lookF_app (l r : List Fe) (k : Int × M6) : lookF (l ++ r) k = (lookF l k).or (lookF r k) := by
  unfold lookF
  rw [List.find?_append]
  cases l.find? (isB k.1 k.2) <;> rfl
/-- A station is heard (what was old is gone already). -/
theorem TieF.heard {now : Int} {l : List Fe} {f : Int × M6 → Option (Int × Int)} (h : TieF now l f) (vid : Int) (m : M6) (port : Int) (hk : kOk (vid, m)) (hn : 0 ≤ now) : TieF now (kept (isB vid m) l ++ [⟨vid, m, port, now⟩]) (updK f (vid, m) (some (port, now))) := by
  have hno : (vid, m) ∉ (kept (isB vid m) l).map keyF := fun hh => by
    obtain ⟨e, he, e'⟩ := List.mem_map.1 hh
    have h1 := (mem_kept.1 he).2
    rw [(isB_not (vid, m) e)] at h1
    exact h1 e'
  refine ⟨?_, fun k hk' => ?_, fun e he => ?_, ?_⟩
  · unfold NdF
    rw [List.map_append, List.nodup_append]
    refine ⟨h.nd.kept _, by simp, fun a ha b hb => ?_⟩
    simp [keyF] at hb
    subst hb
    rintro rfl
    exact hno ha
  · by_cases e : k = (vid, m)
    · subst e
      rw [updK_same, lookF_app, lookF_none.2 hno, Option.none_or]
      exact (lookF_cons_eq ⟨vid, m, port, now⟩ []).symm
    · rw [updK_other _ _ _ _ e, lookF_app, lookF_ahead (vid, m) k e, h.look k hk', lookF_cons_ne (by exact fun h => e h.symm), lookF_nil, Option.or_none]
  · rcases List.mem_append.1 he with he | he
    · exact h.ok e (mem_kept.1 he).1
    · simp at he; subst he; exact ⟨hk, hn, Int.le_refl _⟩
  · rw [List.pairwise_append]
    refine ⟨List.Pairwise.sublist List.filter_sublist h.sorted, by simp, fun a ha b hb => ?_⟩
    simp at hb
    subst hb
    exact (h.ok a (mem_kept.1 ha).1).2.2
theorem TieF.fes {now : Int} {l : List Fe} {f : Int × M6 → Option (Int × Int)} (h : TieF now l f) (hn : now ≤ 4611686018427387904) (hl : l.length ≤ 100000) : Fes l := ⟨hl, fun e he => by
  obtain ⟨h1, h2, h3⟩ := h.ok e he
  exact ⟨⟨h2, by omega⟩, h1.2⟩⟩
def oldQ (age now : Int) (x : Int × Int) : Bool := decide (age ≤ now - x.2)
def atQ (port : Int) (x : Int × Int) : Bool := x.1 == port
/-- What Find answers, by the map. -/
def findQ (age now : Int) (o : Option (Int × Int)) : Int × Int := match o with | some x => if now - x.2 < age then (x.1, 0) else (0, 21) | none => (0, 21)
theorem find_and {l : List Fe} (h : NdF l) (age now : Int) (k : Int × M6) : findR age now k.1 k.2 l = findQ age now (lookF l k) := by
  unfold findR
  induction l with
  | nil => rfl
  | cons e r ih =>
    unfold NdF at h
    rw [List.map_cons, List.nodup_cons] at h
    have ih := ih h.2
    by_cases hk : keyF e = k
    · have hb : isB k.1 k.2 e = true := (isB_iff _ _).2 hk
      by_cases ho : age ≤ now - e.seen
      · rw [List.find?_cons_of_neg (by simp [findB, oldB, ho]), ih, ← hk, lookF_cons_eq, lookF_none.2 h.1]
        simp only [findQ]
        rw [if_neg (by omega)]
      · rw [List.find?_cons_of_pos (by simp [findB, oldB, hb]; omega), ← hk, lookF_cons_eq]
        simp only [findQ]
        rw [if_pos (by omega)]
    · have hb : isB k.1 k.2 e = false := (isB_not _ _).2 hk
      rw [List.find?_cons_of_neg (by simp [findB, hb]), ih, lookF_cons_ne hk]
end Go.Proofs.Ytiahiakllpjliaa
