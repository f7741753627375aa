/-
  Contract of stream's Remove. Conditions: those that each theorem names.
-/
import Derived.Test.YtiahiakllpjliaaSm6
namespace Go.Proofs.Ytiahiakllpjliaa
open Go.RowKit Go.Maps
set_option linter.unusedVariables false
set_option linter.unusedSimpArgs false
set_option maxRecDepth 20000

/-- What Remove answers, and the filters behind it. -/
def remR (l : List Sf) (kind : Int) (m : M6) (vid : Int) : Int × List Sf := if l.any (thatB kind m vid) = true then (0, l.eraseP (thatB kind m vid)) else (21, l)
theorem any_none {p : Sf → Bool} {l : List Sf} (h : ∀ j, j < l.length → p (l.getD j Sf.zero) = false) : l.any p = false := by
  rw [List.any_eq_false]
  intro e he
  obtain ⟨j, hj, rfl⟩ := List.getElem_of_mem he
  have := h j hj
  rw [List.getD_eq_getElem?_getD, List.getElem?_eq_getElem hj] at this
  simp at this
  rw [this]; decide
theorem any_some {p : Sf → Bool} {l : List Sf} {k : Nat} (hk : k < l.length) (hp : p (l.getD k Sf.zero) = true) : l.any p = true := by
  rw [List.any_eq_true]
  refine ⟨l.getD k Sf.zero, ?_, hp⟩
  rw [List.getD_eq_getElem?_getD, List.getElem?_eq_getElem hk]
  exact List.getElem_mem _
theorem outL_erase {p : Sf → Bool} {l : List Sf} {k : Nat} (hk : k < l.length) (hp : p (l.getD k Sf.zero) = true) (h : ∀ j, j < k → p (l.getD j Sf.zero) = false) : outL l k = l.eraseP p := by
  unfold outL
  induction l generalizing k with
  | nil => simp at hk
  | cons a r ih =>
    cases k with
    | zero => simp at hp; simp [hp]
    | succ k =>
      have h0 := h 0 (by omega)
      simp at h0
      rw [List.eraseP_cons_of_neg (by simp [h0]), List.take_succ_cons, List.drop_succ_cons, List.cons_append, ih (k := k) (by simpa using hk) (by simpa using hp) (fun j hj => by have := h (j + 1) (by omega); simpa using this)]
section
variable {w : World} {t : Nat} {v : Value} {l : List Sf}
set_option maxHeartbeats 8000000 in
theorem RemS_any (h : Fst w t v l) (hl : Sfs l) (kind : Int) (m : M6) (vid : Int) (hm : m.wf) :
    Calls Try.prog 30 #[.pointer (some ⟨t, 0, none⟩), .int .i64 kind, .agg m.row, .int .i64 vid] w fun r w' => r = .returned (.int .i64 (remR l kind m vid).1) ∧ ∃ v', Fst w' t v' (remR l kind m vid).2 ∧ Ch (Fst.foot t v) w w' ∧ (∀ b, v'.ownBlock = some b → v.ownBlock = some b) := by
  have hb := hide (below1 w (.cells m.row 28))
  have hr := hide (heap_alloc_new w (.cells m.row 28))
  have hF := hide (h.below hb.out)
  obtain ⟨R, hR⟩ : ∃ R, R = remR l kind m vid := ⟨_, rfl⟩
  rw [← hR]
  unfold remR at hR
  replace hR := hide hR
  have hlen1 : l.length ≤ 1000 := hl.1
  have hwfs : Hid (∀ e ∈ l, e.m.wf) := hl.2
  have hv0 := hide (h.sl)
  clear h hl
  generalize hw1 : w.alloc (.cells m.row 28) = w1 at *
  have hw1s : Hid (w1.heap.size = w.heap.size + 1) := by rw [← hw1]; exact World.size_alloc _ _
  obtain ⟨av, capv, rfl⟩ := hF.out.sl.shape
  go_enter Try.func30, Try.ntmps30
  go_wp2_with fail
  have hFr := hF.out
  refine wp_region_noPanic ?_
  refine wp_region_held_drew (S := fun W => Below w1.heap.size w1 W) (by kernel_rfl) (below_drewS (Below.refl _ _)) (fun hHeld => ?_)
  refine wpAnyH_take (i := 0) (oi := { dst := some 10, op := Op.move (Operand.tmp 0), type := 110, pos := "stream.go:60", after := #[], guard := none }) (v := ?v1) rfl (by kernel_rfl) (by kernel_rfl) (by kernel_rfl) (fun _ _ _ h => h) (Or.inl ⟨by rfl, ?y1⟩) (by assumption) ?r1
  case y1 => (intro w hSw; (try dsimp only at hSw); (try (go_split_ands)); go_simp; try with_reducible rfl)
  try simp only [Act.put, List.setIfInBounds_toArray, List.set_cons_zero, List.set_cons_succ]
  refine wpAnyH_take (i := 1) (oi := { dst := some 11, op := Op.nilCheck (Operand.tmp 10), type := 0, pos := "stream.go:60", after := #[{ on := 0, ground := Ground.data }], guard := none }) (v := ?v2) rfl (by kernel_rfl) (by kernel_rfl) (by kernel_rfl) (fun _ _ _ h => h) (Or.inl ⟨by rfl, ?y2⟩) (by assumption) ?r2
  case y2 => (intro w hSw; (try dsimp only at hSw); (try (go_split_ands)); go_simp; try with_reducible rfl)
  try simp only [Act.put, List.setIfInBounds_toArray, List.set_cons_zero, List.set_cons_succ]
  refine wpAnyH_take (i := 2) (oi := { dst := some 12, op := Op.fieldAddr 69 (Operand.tmp 11) 0, type := 0, pos := "stream.go:60", after := #[{ on := 1, ground := Ground.data }], guard := none }) (v := ?v3) rfl (by kernel_rfl) (by kernel_rfl) (by kernel_rfl) (fun _ _ _ h => h) (Or.inl ⟨by rfl, ?y3⟩) (by assumption) ?r3
  case y3 => (intro w hSw; (try dsimp only at hSw); (try (go_split_ands)); go_simp; try with_reducible rfl)
  try simp only [Act.put, List.setIfInBounds_toArray, List.set_cons_zero, List.set_cons_succ]
  refine wpAnyH_take (i := 3) (oi := { dst := some 13, op := Op.load 67 (Operand.tmp 12), type := 67, pos := "stream.go:60", after := #[{ on := 2, ground := Ground.data }], guard := none }) (v := (.slice av l.length capv)) rfl (by kernel_rfl) (by kernel_rfl) (by kernel_rfl) (fun _ _ _ h => h) (.inl ⟨by rfl, fun W hW => by have hca : W.cell? ⟨t, 0, none⟩ = some (.slice av l.length capv) := (hFr.below hW).c0; clear hHeld hFr; go_simp⟩) (by assumption) ?_
  try simp only [Act.put, List.setIfInBounds_toArray, List.set_cons_zero, List.set_cons_succ]
  refine wpAnyH_take (i := 4) (oi := { dst := some 14, op := Op.move (Operand.tmp 1), type := 3, pos := "stream.go:60", after := #[], guard := none }) (v := ?v4) rfl (by kernel_rfl) (by kernel_rfl) (by kernel_rfl) (fun _ _ _ h => h) (Or.inl ⟨by rfl, ?y4⟩) (by assumption) ?r4
  case y4 => (intro w hSw; (try dsimp only at hSw); (try (go_split_ands)); go_simp; try with_reducible rfl)
  try simp only [Act.put, List.setIfInBounds_toArray, List.set_cons_zero, List.set_cons_succ]
  refine wpAnyH_take (i := 5) (oi := { dst := some 15, op := Op.load 28 (Operand.tmp 6), type := 28, pos := "stream.go:60", after := #[], guard := none }) (v := _) rfl (by kernel_rfl) (by kernel_rfl) (by kernel_rfl) (fun _ _ _ h => h) (yieldsIf_load_row (by rfl) 28 (.tmp 6) rfl w.heap.size rfl 28 _ (0, 0) _ (fun W hW => heap_kept hW hr.out) Try.underlying28 rfl (m6Size _)) (by assumption) ?_
  try simp only [Act.put, List.setIfInBounds_toArray, List.set_cons_zero, List.set_cons_succ]
  refine wpAnyH_take (i := 6) (oi := { dst := some 16, op := Op.move (Operand.tmp 3), type := 3, pos := "stream.go:60", after := #[], guard := none }) (v := ?v5) rfl (by kernel_rfl) (by kernel_rfl) (by kernel_rfl) (fun _ _ _ h => h) (Or.inl ⟨by rfl, ?y5⟩) (by assumption) ?r5
  case y5 => (intro w hSw; (try dsimp only at hSw); (try (go_split_ands)); go_simp; try with_reducible rfl)
  try simp only [Act.put, List.setIfInBounds_toArray, List.set_cons_zero, List.set_cons_succ]
  clear hHeld hFr
  refine wpAnyH_ready (rs := [7]) (by kernel_rfl) (by simp) ?_
  refine AllReadyH.cons (o := { dst := some 17, op := Op.call { callee := Callee.value (Operand.func 53), args := #[Operand.tmp 14, Operand.tmp 15, Operand.tmp 16], argTypes := #[3, 28, 3] }, type := 73, pos := "stream.go:60", after := #[{ on := 4, ground := Ground.data }, { on := 5, ground := Ground.data }, { on := 6, ground := Ground.data }], guard := none }) rfl (fun K hK => ?_) AllReadyH.nil
  go_simp
  refine (mkThat_any kind vid m w1.drew hm).mono ?_
  rintro _ w2 ⟨caps, rfl, hb2, hC⟩
  have hb12 : Below w1.heap.size w1 w2 := (below_drewS (Below.refl w1.heap.size w1)).later hb2
  go_wp2_with fail
  refine hK.out _ _ ?_ (fun hHeld7 => ?_)
  · exact hb12
  clear hK K
  try simp only [Act.put, List.setIfInBounds_toArray, List.set_cons_zero, List.set_cons_succ]
  refine wpAnyH_ready (rs := [8]) (by kernel_rfl) (by simp) ?_
  refine AllReadyH.cons (o := { dst := some 18, op := Op.call { callee := Callee.value (Operand.func 54), args := #[Operand.tmp 13, Operand.tmp 17], argTypes := #[67, 73] }, type := 3, pos := "stream.go:60", after := #[{ on := 3, ground := Ground.data }, { on := 7, ground := Ground.data }, { on := 7, ground := Ground.chain }], guard := none }) rfl (fun K hK => ?_) AllReadyH.nil
  go_simp
  refine (IndexF_any (hF.out.below hb12).sl (by omega) hwfs.out (hide hC) go_that).mono ?_
  rintro _ w3 ⟨i, rfl, hb3, hi⟩
  have hb13 := hb12.later hb3
  go_wp2_with fail
  refine hK.out _ _ ?_ (fun hHeld8 => ?_)
  · exact hb13
  clear hK K
  try simp only [Act.put, List.setIfInBounds_toArray, List.set_cons_zero, List.set_cons_succ]
  refine wpAnyH_take (i := 9) (oi := { dst := some 9, op := Op.assign (Operand.tmp 18), type := 3, pos := "stream.go:60", after := #[{ on := 8, ground := Ground.data }, { on := 8, ground := Ground.chain }, { on := 0, ground := Ground.phase }, { on := 1, ground := Ground.phase }, { on := 2, ground := Ground.phase }, { on := 3, ground := Ground.phase }, { on := 4, ground := Ground.phase }, { on := 5, ground := Ground.phase }, { on := 6, ground := Ground.phase }, { on := 7, ground := Ground.phase }, { on := 8, ground := Ground.phase }], guard := none }) (v := ?v6) rfl (by kernel_rfl) (by kernel_rfl) (by kernel_rfl) (fun _ _ _ h => h) (Or.inl ⟨by rfl, ?y6⟩) hb13 ?r6
  case y6 => (intro w hSw; (try dsimp only at hSw); (try (go_split_ands)); go_simp; try with_reducible rfl)
  try simp only [Act.put, List.setIfInBounds_toArray, List.set_cons_zero, List.set_cons_succ]
  refine wpAnyH_done (by kernel_rfl) ?_ _
  refine NoPanic.normal ?_
  have hF3 := hide (hF.out.below hb13)
  have hB3 := hide (hb.out.trans (hb13.mono (by have := hw1s.out; omega)))
  clear hHeld7 hHeld8 hF hb hr hb12 hb13 hC hb2 hb3 hw1 hw1s
  rcases hi with ⟨rfl, hno⟩ | ⟨k, rfl, hk, hpk, hno⟩
  · have hR2 : R = (21, l) := by rw [hR.out, if_neg (by rw [any_none hno]; decide)]
    subst hR2
    have hCz : Hid (Ch (Fst.foot t (.slice av l.length capv)) w w3) := Ch.of_below hB3.out
    clear hR hno
    go_wp2
    go_ret
    exact ⟨rfl, _, hF3.out, hCz.out, fun b e => e⟩
  · have hR2 : R = (0, l.eraseP (thatB kind m vid)) := by rw [hR.out, if_pos (any_some hk hpk)]
    subst hR2
    obtain ⟨b, cap', sp, hv, hFl, g1, g2⟩ := hF3.out.sl.at_i (Nat.lt_of_le_of_lt (Nat.zero_le _) hk)
    simp only [Value.slice.injEq] at hv
    obtain ⟨rfl, _, rfl⟩ := hv
    have g3 : l.length * 9 + sp.length = capv * 9 := by
      rcases hF3.out.sl with ⟨q, _⟩ | ⟨b', cap2, sp2, q1, q2, q3, q4, q5⟩
      · cases q
      · simp only [Value.slice.injEq, Option.some.injEq, Addr.mk.injEq, true_and, and_true] at q1
        obtain ⟨rfl, rfl⟩ := q1
        have h1 : w3.heap[b]? = _ := hFl
        have h2 : w3.heap[b]? = _ := q2
        rw [h1] at h2
        have h3 := congrArg (fun o => match o with | some (Obj.cells cs _ _) => cs.size | _ => 0) h2
        simp at h3
        omega
    have hDl := hide (DelF_any hFl g1 g2 g3 k hk)
    have hoe : Hid (outL l k = l.eraseP (thatB kind m vid)) := outL_erase hk hpk hno
    have hol : Hid ((outL l k).length = l.length - 1) := by have := outL_len hk; exact hide (by omega)
    have cz := hF3.out.c0
    clear hR hno hFl hpk g1 g2 g3 hwfs
    go_wp2_with fail
    refine hDl.out.mono ?_
    rintro _ w4 ⟨rfl, hS4, hC4⟩
    have hbt : b ≠ t := fun e => hF3.out.ne (by rw [e]; rfl)
    have hrow4 := (hC4.block t hF3.out.lt (Ne.symm hbt)).trans hF3.out.row
    have c4 : w4.cell? ⟨t, 0, none⟩ = some (.slice (some ⟨b, 0, none⟩) l.length capv) := cell_of_row _ _ _ _ _ _ hrow4
    have z4 : w4.frozen? ⟨t, 0, none⟩ = false := by simp [World.frozen?, hrow4]
    have hFz : Hid (Fst (w4.setCell ⟨t, 0, none⟩ (.slice (some ⟨b, 0, none⟩) (l.length - 1) capv)) t (.slice (some ⟨b, 0, none⟩) (l.length - 1) capv) (l.eraseP (thatB kind m vid))) := by
      rw [← hoe.out]
      exact ⟨by rw [heap_setCell_same _ _ _ _ _ _ hrow4]; simp, hS4.blk fun b' e => heap_setCell_other w4 ⟨t, 0, none⟩ b' _ (fun e' => hbt (by simp [Value.ownBlock] at e; rw [e]; exact e')), fun e => hbt (by simpa [Value.ownBlock] using e)⟩
    have hCz : Hid (Ch (Fst.foot t (.slice (some ⟨b, 0, none⟩) l.length capv)) w (w4.setCell ⟨t, 0, none⟩ (.slice (some ⟨b, 0, none⟩) (l.length - 1) capv))) := ((Ch.of_below hB3.out).trans (hC4.mono fun k' e => .inr (by rw [e]; rfl))).trans ⟨rfl, rfl, rfl, by simp [World.setCell], fun k' _ hk' => heap_setCell_other w4 ⟨t, 0, none⟩ k' _ (fun e => hk' (.inl e))⟩
    clear hDl hS4 hC4 hF3 hB3 hrow4
    go_wp2
    go_ret
    exact ⟨rfl, _, hFz.out, hCz.out, fun b e => e⟩
end
end Go.Proofs.Ytiahiakllpjliaa
