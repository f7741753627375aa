/-
  What StreamFinds asks beside layer 14's calls: its own 'right', filters' ==, and its list. Conditions: those that each theorem names.
-/
import Derived.Test.YtiahiakllpjliaaOpnS
import Derived.Test.YtiahiakllpjliaaSm9
import Derived.Test.YtiahiakllpjliaaInts
namespace Go.Proofs.Ytiahiakllpjliaa
open Go.RowKit Go.Maps
set_option linter.unusedVariables false
set_option linter.unusedSimpArgs false
set_option maxRecDepth 20000

theorem rightF_any (e : Sf) (w : World) : Calls Try.prog 29 #[.agg (fSf e).toArray] w fun r w' => r = .returned (.bool (mayF e)) ∧ Below w.heap.size w w' := by
  have h0 : (w.alloc (.cells (fSf e).toArray 71)).cell? ⟨w.heap.size, 0, none⟩ = some (.int .i64 e.kind) := (cell_of_row _ _ _ _ _ _ (heap_alloc_new w _)).trans rfl
  have h7 : (w.alloc (.cells (fSf e).toArray 71)).cell? ⟨w.heap.size, 7, none⟩ = some (.int .i64 e.vid) := (cell_of_row _ _ _ _ _ _ (heap_alloc_new w _)).trans rfl
  have h8 : (w.alloc (.cells (fSf e).toArray 71)).cell? ⟨w.heap.size, 8, none⟩ = some (.int .i64 e.num) := (cell_of_row _ _ _ _ _ _ (heap_alloc_new w _)).trans rfl
  have hb := hide (below1 w (.cells (fSf e).toArray 71))
  obtain ⟨R, hR⟩ : ∃ R, R = mayF e := ⟨_, rfl⟩
  rw [← hR]
  unfold mayF at hR
  generalize hC : (fSf e).toArray = C at *
  generalize e.kind = k at *
  generalize e.vid = v at *
  generalize e.num = n at *
  clear hC
  by_cases c1 : 0 ≤ k
  · by_cases c2 : k ≤ 1
    · by_cases c3 : 0 ≤ v
      · by_cases c4 : v ≤ 4094
        · by_cases c5 : 0 ≤ n
          · have c6 : k < 2 := by omega
            obtain rfl : R = true := by rw [hR]; simp [c1, c6, c3, c4, c5]
            clear hR
            go_enter Try.func29, Try.ntmps29
            go_wp2
            go_ret
            exact ⟨rfl, hb.out⟩
          · obtain rfl : R = false := by rw [hR]; simp [c5]
            clear hR
            go_enter Try.func29, Try.ntmps29
            go_wp2
            go_ret
            exact ⟨rfl, hb.out⟩
        · obtain rfl : R = false := by rw [hR]; simp [c4]
          clear hR
          go_enter Try.func29, Try.ntmps29
          go_wp2
          go_ret
          exact ⟨rfl, hb.out⟩
      · obtain rfl : R = false := by rw [hR]; simp [c3]
        clear hR
        go_enter Try.func29, Try.ntmps29
        go_wp2
        go_ret
        exact ⟨rfl, hb.out⟩
    · have c6 : ¬ k < 2 := by omega
      obtain rfl : R = false := by rw [hR]; simp [c6]
      clear hR
      go_enter Try.func29, Try.ntmps29
      go_wp2
      go_ret
      exact ⟨rfl, hb.out⟩
  · obtain rfl : R = false := by rw [hR]; simp [c1]
    clear hR
    go_enter Try.func29, Try.ntmps29
    go_wp2
    go_ret
    exact ⟨rfl, hb.out⟩
theorem lit64S (d : Nat) (n : Int) (h : -9223372036854775808 ≤ n ∧ n ≤ 9223372036854775807) : Try.prog.keyLits (d + 1) 3 [.int .i64 n] = some [.int .i64 n] := by
  have hw : (Lit.int .i64 n).wf = true := by simp [Lit.wf, IntKind.min, IntKind.max, IntKind.signed, IntKind.bits]; omega
  simp [Program.keyLits, Try.underlying3, hw]
def sfLits (e : Sf) : List Lit := .int .i64 e.kind :: (e.m.lits ++ [.int .i64 e.vid, .int .i64 e.num])
theorem sf_lits (d : Nat) (e : Sf) (h : e.wf) : Try.prog.keyLits (d + 3) 71 (fSf e) = some (sfLits e) := by
  have h1 := lit64S (d + 1) _ h.kind
  have h2 := m6_lits d _ h.m
  have h3 := lit64S (d + 1) _ h.vid
  have h4 := lit64S (d + 1) _ h.num
  unfold Program.keyLits
  rw [Try.underlying71]
  simp [cellsF_int, cellsF_sf, cells6_mac, h1, h2, h3, h4, sfLits]
theorem sfLits_inj {a b : Sf} (h : sfLits a = sfLits b) : a = b := by
  obtain ⟨k, m, v, n⟩ := a
  obtain ⟨k', m', v', n'⟩ := b
  have h' := h
  simp [sfLits, M6.lits] at h'
  obtain ⟨rfl, h1, h2, h3, h4, h5, h6, rfl, rfl⟩ := h'
  obtain ⟨a, b, c, d, e, f⟩ := m
  obtain ⟨a', b', c', d', e', f'⟩ := m'
  simp at h1 h2 h3 h4 h5 h6
  subst h1 h2 h3 h4 h5 h6
  rfl
theorem sf_neql (a b : Sf) (ha : a.wf) (hb : b.wf) (w : World) : (binOp .neq 71 (.agg (fSf a).toArray) (.agg (fSf b).toArray)).run Try.prog w = .ok (.bool (!decide (a = b))) w := by
  obtain ⟨r, h1, h2⟩ := run_equalIn_deep (P := Try.prog) 9997 3 71 (by kernel_rfl) w 3 3 (.agg (fSf a).toArray) (.agg (fSf b).toArray) _ _ (by kernel_rfl) (by kernel_rfl) (sf_lits 0 a ha) (sf_lits 0 b hb)
  have hr : r = decide (a = b) := by
    rw [Bool.eq_iff_iff, decide_eq_true_eq]
    exact h2.trans ⟨sfLits_inj, fun e => by rw [e]⟩
  rw [run_neq_struct]
  rw [show (Op.equalIn 10000 71 (.agg (fSf a).toArray) (.agg (fSf b).toArray)).run Try.prog w = .ok r w from h1, hr]
  rfl
/-- No two of one kind, address and VLAN. -/
def thatE (f : Sf) : Sf → Bool := thatB f.kind f.m f.vid
theorem thatE_iff (f e : Sf) : thatE f e = true ↔ e.kind = f.kind ∧ e.m = f.m ∧ e.vid = f.vid := by
  simp [thatE, thatB, and_assoc]
structure Uq (l : List Sf) : Prop where
  one : l.Pairwise (fun a b => thatE a b = false)
  may : ∀ e ∈ l, mayF e = true
  wf : ∀ e ∈ l, e.wf
  len : l.length ≤ 64
theorem Uq.nil : Uq [] := ⟨.nil, fun e h => by simp at h, fun e h => by simp at h, by simp⟩
theorem Uq.sfs {l : List Sf} (h : Uq l) : Sfs l := ⟨by have := h.len; omega, fun e he => (h.wf e he).m⟩
theorem Uq.add {l : List Sf} (h : Uq l) {f : Sf} (h1 : mayF f = true) (h2 : f.wf) (h3 : l.any (thatB f.kind f.m f.vid) = false) (h4 : l.length < 64) : Uq (l ++ [f]) := by
  refine ⟨?_, ?_, ?_, by simp; omega⟩
  · rw [List.pairwise_append]
    refine ⟨h.one, List.pairwise_singleton _ _, fun a ha b hb => ?_⟩
    simp at hb; subst hb
    rw [List.any_eq_false] at h3
    have h5 := h3 a ha
    rw [Bool.eq_false_iff]
    intro h6
    obtain ⟨g1, g2, g3⟩ := (thatE_iff a b).1 h6
    exact h5 ((thatE_iff b a).2 ⟨g1.symm, g2.symm, g3.symm⟩)
  · intro e he
    rcases List.mem_append.1 he with he | he
    · exact h.may e he
    · simp at he; subst he; exact h1
  · intro e he
    rcases List.mem_append.1 he with he | he
    · exact h.wf e he
    · simp at he; subst he; exact h2
theorem Uq.out {l : List Sf} (h : Uq l) (i : Nat) : Uq (l.take i ++ l.drop (i + 1)) := by
  have hs : (l.take i ++ l.drop (i + 1)).Sublist l := by
    rw [← List.eraseIdx_eq_take_drop_succ]; exact List.eraseIdx_sublist _ _
  exact ⟨h.one.sublist hs, fun e he => h.may e (hs.subset he), fun e he => h.wf e (hs.subset he), Nat.le_trans hs.length_le h.len⟩
theorem Uq.rem {l : List Sf} (h : Uq l) {i : Nat} (hi : i < l.length) {f : Sf} (hf : f = l.getD i Sf.zero) : remR l f.kind f.m f.vid = (0, l.take i ++ l.drop (i + 1)) ∧ remR (l.take i ++ l.drop (i + 1)) f.kind f.m f.vid = (21, l.take i ++ l.drop (i + 1)) := by
  have hfl : l[i] = f := by rw [hf]; simp [List.getD, hi]
  have hown : thatE f f = true := (thatE_iff f f).2 ⟨rfl, rfl, rfl⟩
  have hne : ∀ j (hj : j < l.length), j ≠ i → thatE f l[j] = false := by
    intro j hj hji
    rw [Bool.eq_false_iff]
    intro h6
    obtain ⟨g1, g2, g3⟩ := (thatE_iff _ _).1 h6
    rcases Nat.lt_or_gt_of_ne hji with hlt | hlt
    · have := List.pairwise_iff_getElem.1 h.one j i hj hi hlt
      rw [hfl] at this
      rw [(thatE_iff _ _).2 ⟨g1.symm, g2.symm, g3.symm⟩] at this
      cases this
    · have := List.pairwise_iff_getElem.1 h.one i j hi hj hlt
      rw [hfl, h6] at this
      cases this
  have hgD : ∀ j (hj : j < l.length), l.getD j Sf.zero = l[j] := fun j hj => by simp [List.getD, hj]
  constructor
  · unfold remR
    rw [if_pos (any_some (k := i) hi (by rw [← hf]; exact hown))]
    rw [← outL_erase (k := i) hi (by rw [← hf]; exact hown) (fun j hj => by rw [hgD j (by omega)]; exact hne j (by omega) (by omega))]
    rfl
  · unfold remR
    rw [if_neg]
    rw [List.any_append, Bool.or_eq_true]
    rintro (h1 | h1)
    · obtain ⟨e, he, h2⟩ := List.any_eq_true.1 h1
      obtain ⟨j, hj, rfl⟩ := List.getElem_of_mem he
      rw [List.length_take] at hj
      rw [List.getElem_take] at h2
      have := hne j (by omega) (by omega)
      rw [show thatE f l[j] = true from h2] at this
      cases this
    · obtain ⟨e, he, h2⟩ := List.any_eq_true.1 h1
      obtain ⟨j, hj, rfl⟩ := List.getElem_of_mem he
      rw [List.length_drop] at hj
      rw [List.getElem_drop] at h2
      have := hne (i + 1 + j) (by omega) (by omega)
      rw [show thatE f l[i + 1 + j] = true from h2] at this
      cases this
theorem any_upto (p : Sf → Bool) (l : List Sf) (i : Nat) (hi : i < l.length) : (l.take (i + 1)).any p = ((l.take i).any p || p (l.getD i Sf.zero)) := by
  rw [List.take_add_one, List.any_append]
  simp [List.getD, hi]
/-- The table keeps apart from what the list has grown by. -/
theorem Fso.grown {K : Nat} {A A' : Nat → Prop} {w w' : World} {t : Nat} {l : List Sf} {o : Option Nat} (h : Fso K A w t l) (hg : w.grownBy w' o) (ho : ∀ b, o = some b → A b) (hs : ∀ k, A' k → A k ∨ (w.heap.size ≤ k ∧ k < w'.heap.size)) : Fso K A' w' t l := by
  obtain ⟨v, h1, h2, h3, h4⟩ := h
  refine ⟨v, h1.blk fun k hk => hg.block k (h1.ltk k hk) (fun e => (h2 k hk).2 (ho k e.symm)), fun k hk => ⟨(h2 k hk).1, fun e => ?_⟩, fun k hk => ?_, Nat.le_trans h4 hg.size⟩
  · rcases hs k e with e | e
    · exact (h2 k hk).2 e
    · have := h1.ltk k hk; omega
  · rcases hs k hk with e | e
    · exact Nat.lt_of_lt_of_le (h3 k e) hg.size
    · exact e.2
end Go.Proofs.Ytiahiakllpjliaa
