
/-
  A copy of a row of ports that came in; a port that is down is nothing to the others. Conditions: those that each theorem names.
-/
import Derived.Test.YtoejoneecanbbaaRoleM
import Derived.Test.YtoejoneecanbbaaSls
import Derived.Test.YtoejoneecanbbaaOpn
namespace Go.Proofs.Ytoejoneecanbbaa
open Go.RowKit
set_option linter.unusedVariables false
set_option maxRecDepth 20000

theorem Try.infoRq : (Try.prog.info? 32).map (fun i => (i.zero, i.size, i.bytes)) = some (some (.agg (fP Rp.zero).toArray), 8, 56) := by kernel_rfl
theorem sty_P : Sty Try.prog 82 32 8 56 := by
  obtain ⟨i, h1, h2, h3, h4⟩ := info_parts Try.infoRq
  exact ⟨Try.underlying82, ⟨i, _, h1, h2, h3, h4, rfl⟩, by omega⟩
theorem flat_split_at {α : Type} {f : α → List Value} {m : Nat} (hf : Wide f m) (hm : 0 < m) (d : α) (l : List α) (j : Nat) (u : Value) (h : (flat f l)[j]? = some u) : j / m < l.length ∧ (f (l.getD (j / m) d))[j % m]? = some u := by
  have hj : j < l.length * m := by rw [← flat_length hf l]; exact (List.getElem?_eq_some_iff.1 h).1
  have hq : j / m < l.length := Nat.div_lt_of_lt_mul (by rw [Nat.mul_comm]; exact hj)
  refine ⟨hq, ?_⟩
  rw [← flat_at hf d l (j / m) (j % m) hq (Nat.mod_lt _ hm), Nat.mul_comm, Nat.div_add_mod]
  exact h
theorem Rps.cells {w : World} {b off n : Nat} {ps : List Rp} (h : Rps w (some ⟨b, off, none⟩) n ps) (j : Nat) (u : Value) (hj : (flat fP ps)[j]? = some u) : w.cell? ((⟨b, off, none⟩ : Addr).add j) = some u := by
  obtain ⟨h1, h2⟩ := flat_split_at wide_P (by omega) Rp.zero ps j u hj
  obtain ⟨b', off', e, hP, _⟩ := h.2 (j / 8) (by rw [← h.1]; exact h1)
  simp only [Option.some.injEq, Addr.mk.injEq, and_true] at e
  obtain ⟨rfl, rfl⟩ := e
  rw [Addr.add_lit]
  have hjj : off + j = off + j / 8 * 8 + j % 8 := by omega
  rw [hjj, ← h2]
  rcases (show j % 8 = 0 ∨ j % 8 = 1 ∨ j % 8 = 2 ∨ j % 8 = 3 ∨ j % 8 = 4 ∨ j % 8 = 5 ∨ j % 8 = 6 ∨ j % 8 = 7 by omega) with e | e | e | e | e | e | e | e
  all_goals rw [e]
  · exact hP.c0
  · exact hP.c1
  · exact hP.c2
  · exact hP.c3
  · exact hP.c4
  · exact hP.c5
  · exact hP.c6
  · exact hP.c7
theorem Sl.rps {w : World} {v : Value} {l : List Rp} (h : Sl w v 32 8 fP l) (hw : ∀ i, i < l.length → (l.getD i Rp.zero).wf) : ∃ a cap, v = .slice a l.length cap ∧ Rps w a l.length l := by
  rcases h with ⟨rfl, rfl⟩ | ⟨b, cap, sp, rfl, h1, h2, h3, h4⟩
  · exact ⟨none, 0, rfl, rfl, fun i hi => by simp at hi⟩
  · refine ⟨_, cap, rfl, rfl, fun i hi => ⟨b, 0, rfl, ?_, hw i hi⟩⟩
    have g := fun k hk => h1.cell wide_P Rp.zero i k hi hk
    rw [Nat.zero_add]
    exact ⟨g 0 (by omega), g 1 (by omega), g 2 (by omega), g 3 (by omega), g 4 (by omega), g 5 (by omega), g 6 (by omega), g 7 (by omega)⟩
/-- The empty row of the program's own. -/
theorem Sl.made0 {α : Type} {w : World} (e : TypeId) (m : Nat) (f : α → List Value) : Sl (w.alloc (.cells #[] e)) (.slice (some ⟨w.heap.size, 0, none⟩) 0 0) e m f [] :=
  .inr ⟨w.heap.size, 0, [], rfl, heap_alloc_new w _, Nat.le_refl _, by simp [maxLen], by simp⟩
theorem Fl.cells {α : Type} {w : World} {b : Nat} {t : TypeId} {f : α → List Value} {l : List α} {sp : List Value} (h : Fl w b t f l sp) (j : Nat) (u : Value) (hj : (flat f l)[j]? = some u) : w.cell? ((⟨b, 0, none⟩ : Addr).add j) = some u := by
  rw [Addr.add_lit, Nat.zero_add, cell_of_row _ _ _ _ _ _ h]
  simp only [List.getElem?_toArray]
  rw [List.getElem?_append_left (List.getElem?_eq_some_iff.1 hj).1]
  exact hj
theorem Fl.rps {w : World} {b : Nat} {l : List Rp} {sp : List Value} (h : Fl w b 32 fP l sp) (hw : ∀ i, i < l.length → (l.getD i Rp.zero).wf) : Rps w (some ⟨b, 0, none⟩) l.length l := by
  refine ⟨rfl, fun i hi => ⟨b, 0, rfl, ?_, hw i hi⟩⟩
  have g := fun k hk => h.cell wide_P Rp.zero i k hi hk
  rw [Nat.zero_add]
  exact ⟨g 0 (by omega), g 1 (by omega), g 2 (by omega), g 3 (by omega), g 4 (by omega), g 5 (by omega), g 6 (by omega), g 7 (by omega)⟩
theorem Fl.put8 {w : World} {pb : Nat} {l : List Rp} {sp : List Value} {i : Nat} {p : Rp} (h : Fl w pb 32 fP (l.set i p) sp) (hi : i < l.length) : RpAt w pb (i * 8) p := by
  have g := fun k hk => h.cell wide_P Rp.zero i k (by rw [List.length_set]; exact hi) hk
  rw [getD_set _ _ _ _ _ hi, if_pos rfl] at g
  exact ⟨g 0 (by omega), g 1 (by omega), g 2 (by omega), g 3 (by omega), g 4 (by omega), g 5 (by omega), g 6 (by omega), g 7 (by omega)⟩
theorem Fl.at_self {α : Type} {w : World} {b : Nat} {t : TypeId} {f : α → List Value} {l : List α} {sp : List Value} (h : Fl w b t f l sp) (d : α) (i : Nat) (hi : i < l.length) : Fl w b t f (l.set i (l.getD i d)) sp := by
  have : l.set i (l.getD i d) = l := by
    apply List.ext_getElem?
    intro j
    by_cases e : i = j
    · subst e; simp [hi]
    · simp [e]
  rw [this]; exact h
theorem Fl.put1 {α : Type} {w : World} {b : Nat} {t : TypeId} {f : α → List Value} {l : List α} {sp : List Value} {m : Nat} {y : α} {i : Nat} (h : Fl w b t f (l.set i y) sp) (hf : Wide f m) (k : Nat) (v : Value) (z : α) (hi : i < l.length) (hk : k < m) (hz : (f y).set k v = f z) : Fl (w.setCell ⟨b, i * m + k, none⟩ v) b t f (l.set i z) sp := by
  have := h.set hf y i k v z (by rw [List.length_set]; exact hi) hk (by rw [getD_set _ _ _ _ _ hi, if_pos rfl]; exact hz)
  rwa [List.set_set] at this
theorem Fl.putm {α : Type} {w : World} {b : Nat} {t : TypeId} {f : α → List Value} {l : List α} {sp : List Value} {m : Nat} {y : α} {i : Nat} (h : Fl w b t f (l.set i y) sp) (hf : Wide f m) (k : Nat) (vs : List Value) (z : α) (hi : i < l.length) (hk : k + vs.length ≤ m) (hz : setL (f y) k vs = f z) : Fl (w.setCells b (i * m + k) vs) b t f (l.set i z) sp := by
  have := h.setn hf y i k vs z (by rw [List.length_set]; exact hi) hk (by rw [getD_set _ _ _ _ _ hi, if_pos rfl]; exact hz)
  rwa [List.set_set] at this
theorem stepW_down (b : Int) (y : Wy) (i : Nat) (p : Rp) (h : p.up = false) : stepW b y i p = y := by
  unfold stepW
  rw [if_neg (by simp [h])]
theorem bestW_down (b : Int) (ps : List Rp) (k : Nat) (p q : Rp) (hk : k < ps.length) (hp : p.up = false) (hq : q.up = false) : ∀ j, bestW b (ps.set k p) j = bestW b (ps.set k q) j
  | 0 => rfl
  | j + 1 => by
    rw [bestW, bestW, bestW_down b ps k p q hk hp hq j, getD_set _ _ _ _ _ hk, getD_set _ _ _ _ _ hk]
    split
    · rw [stepW_down _ _ _ _ hp, stepW_down _ _ _ _ hq]
    · rfl
theorem roles_down (b : Int) (ps : List Rp) (k : Nat) (p q : Rp) (hk : k < ps.length) (hp : p.up = false) (hq : q.up = false) (hid : p.id = q.id) : rolesL b (ps.set k p) = rolesL b (ps.set k q) ∧ tellsL b (ps.set k p) = tellsL b (ps.set k q) := by
  have hY : bestW b (ps.set k p) (ps.set k p).length = bestW b (ps.set k q) (ps.set k q).length := by rw [List.length_set, List.length_set]; exact bestW_down b ps k p q hk hp hq _
  constructor
  · unfold rolesL rolesTo
    rw [hY, List.length_set, List.length_set]
    apply List.map_congr_left
    intro i _
    split
    · rw [getD_set _ _ _ _ _ hk, getD_set _ _ _ _ _ hk]
      split
      · unfold roleV roleN
        rw [if_pos hp, if_pos hq]
      · rfl
    · rfl
  · unfold tellsL tellsTo
    rw [hY, List.length_set, List.length_set]
    apply List.map_congr_left
    intro i _
    split
    · rw [getD_set _ _ _ _ _ hk, getD_set _ _ _ _ _ hk]
      split
      · unfold tellV
        rw [hid]
      · rfl
    · rfl
end Go.Proofs.Ytoejoneecanbbaa
