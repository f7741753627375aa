/-
  A table of filters in memory ('Fst'); contracts of All, Find. Conditions: those that each theorem names.
-/
import Derived.Test.YtiahiakllpjliaaSm2
import Derived.Lib.LazyBuf
namespace Go.Proofs.Ytiahiakllpjliaa
open Go.RowKit Go.Maps
set_option linter.unusedVariables false
set_option linter.unusedSimpArgs false
set_option maxRecDepth 20000

structure Fst (w : World) (t : Nat) (v : Value) (l : List Sf) : Prop where
  row : w.heap[t]? = some (.cells #[v] 69 (0, 0))
  sl : Sl w v 71 9 fSf l
  ne : v.ownBlock ≠ some t
def Fst.foot (t : Nat) (v : Value) (k : Nat) : Prop := k = t ∨ v.ownBlock = some k
section
variable {w : World} {t : Nat} {v : Value} {l : List Sf}
theorem Fst.lt (h : Fst w t v l) : t < w.heap.size := (Array.getElem?_eq_some_iff.1 h.row).1
theorem Fst.ltk (h : Fst w t v l) (k : Nat) (hk : Fst.foot t v k) : k < w.heap.size := by
  rcases hk with rfl | e
  · exact h.lt
  · exact h.sl.lt e
theorem Fst.blk (h : Fst w t v l) {w' : World} (hb : ∀ k, Fst.foot t v k → w'.heap[k]? = w.heap[k]?) : Fst w' t v l :=
  ⟨by rw [hb t (.inl rfl)]; exact h.row, h.sl.blk fun b e => hb b (.inr e), h.ne⟩
theorem Fst.below (h : Fst w t v l) {w' : World} (hb : Below w.heap.size w w') : Fst w' t v l := h.blk fun k hk => hb.block k (h.ltk k hk)
theorem Fst.c0 (h : Fst w t v l) : w.cell? ⟨t, 0, none⟩ = some v := cell_of_row _ _ _ _ _ _ h.row
theorem Fst.fz (h : Fst w t v l) (o : Nat) : w.frozen? ⟨t, o, none⟩ = false := by simp [World.frozen?, h.row]
end
/-- Filters as they should be. -/
def Sfs (l : List Sf) : Prop := l.length ≤ 1000 ∧ ∀ e ∈ l, e.m.wf
theorem below_drewS {B : Nat} {W w : World} (h : Below B W w) : Below B W w.drew := below_drewN h 1
theorem Try.infoSf : (Try.prog.info? 71).map (fun i => (i.zero, i.size, i.bytes)) = some (some (.agg (fSf Sf.zero).toArray), 9, 32) := by kernel_rfl
theorem sty_Sf : Sty Try.prog 67 71 9 32 := by
  obtain ⟨i, h1, h2, h3, h4⟩ := info_parts Try.infoSf
  exact ⟨Try.underlying67, ⟨i, _, h1, h2, h3, h4, rfl⟩, by omega⟩
/-- New memory, or nothing. -/
def FreshS (B : Nat) (v : Value) : Prop := ∀ b, v.ownBlock = some b → B ≤ b
theorem Sl.madeS {α : Type} {w : World} (e : TypeId) (m : Nat) (f : α → List Value) : Sl (w.alloc (.cells #[] e)) (.slice (some ⟨w.heap.size, 0, none⟩) 0 0) e m f [] :=
  .inr ⟨w.heap.size, 0, [], rfl, heap_alloc_new w _, Nat.le_refl _, by simp [maxLen], by simp⟩
theorem Fl.cellsS {α : Type} {w : World} {b : Nat} {t : TypeId} {f : α → List Value} {l : List α} {sp : List Value} (h : Fl w b t f l sp) (j : Nat) (u : Value) (hj : (flat f l)[j]? = some u) : w.cell? ((⟨b, 0, none⟩ : Addr).add j) = some u := by
  rw [Addr.add_lit, Nat.zero_add, cell_of_row _ _ _ _ _ _ h]
  simp only [List.getElem?_toArray]
  rw [List.getElem?_append_left (List.getElem?_eq_some_iff.1 hj).1]
  exact hj
theorem below_grownS {B b : Nat} {W w w' : World} (h : Below B W w) (hg : w.grownBy w' (some b)) (hb : B ≤ b) (hB : B ≤ w.heap.size) : Below B W w' :=
  h.trans ⟨hg.os, hg.tape, hg.output, hg.size, fun k hk => hg.block k (by omega) (fun e => by cases e; omega)⟩
theorem CloneSf_any {w : World} {v : Value} {l : List Sf} (h : Sl w v 71 9 fSf l) (hl : l.length ≤ 900000) :
    Calls Try.prog 56 #[v] w fun r w' => ∃ v', r = .returned v' ∧ Sl w' v' 71 9 fSf l ∧ Below w.heap.size w w' ∧ FreshS w.heap.size v' := by
  rcases h with ⟨rfl, rfl⟩ | ⟨b, cap, sp, rfl, h1, h2, h3, h4⟩
  · have hq := fun (w : World) => run_eql_slice_nil (P := Try.prog) w 67 71 none 0 0 Try.underlying67
    go_enter Try.func56, Try.ntmps56
    go_wp2
    go_ret
    exact ⟨_, rfl, Sl.nil _ _ _ _, Below.refl _ _, fun b e => by simp [Value.ownBlock] at e⟩
  · have hq := fun (w : World) => run_eql_slice_nil (P := Try.prog) w 67 71 (some ⟨b, 0, none⟩) l.length cap Try.underlying67
    have hA := below1 w (.cells #[] 71)
    have hS : Hid (Sl (w.alloc (.cells #[] 71)) (.slice (some ⟨w.heap.size, 0, none⟩) 0 0) 71 9 fSf []) := Sl.madeS _ _ _
    have hms := hide (h1.below hA).cellsS
    replace h1 := hide h1
    go_enter Try.func56, Try.ntmps56
    go_wp2_with (at_builtin; refine wpList_append_sl rfl (.tmp 5) (.tmp 6) rfl wide_Sf sty_Sf _ [] rfl hS.out ⟨b, 0, none⟩ l.length cap l rfl rfl hms.out (by simpa using Nat.le_trans hl (by omega)) (by omega) ?_; intro v' w' hv hg ho)
    obtain ⟨va, vc, rfl⟩ := hv.shape
    have hB : Hid (Below w.heap.size w w') := below_grownS hA hg (Nat.le_refl _) (by rw [World.size_alloc]; omega)
    have hF : Hid (FreshS w.heap.size (.slice va ([] ++ l).length vc)) := fun b e => by
      rcases ho with e' | e'
      · rw [e'] at e; exact Nat.le_of_eq (Option.some.inj e)
      · rw [e'] at e; simp [World.size_alloc] at e; omega
    replace hv := hide hv
    clear hg ho hq hms hS
    go_wp2
    go_ret
    exact ⟨_, rfl, hv.out, hB.out, hF.out⟩
section
variable {w : World} {t : Nat} {v : Value} {l : List Sf}
theorem AllS_any (h : Fst w t v l) (hl : l.length ≤ 900000) :
    Calls Try.prog 31 #[.pointer (some ⟨t, 0, none⟩)] w fun r w' => ∃ v', r = .returned v' ∧ Sl w' v' 71 9 fSf l ∧ Below w.heap.size w w' ∧ FreshS w.heap.size v' := by
  obtain ⟨a, cap, rfl⟩ := h.sl.shape
  have c0 := h.c0
  have hC := hide (CloneSf_any h.sl hl)
  generalize hL : l.length = L at *
  replace hL := hide hL
  clear h
  go_enter Try.func31, Try.ntmps31
  go_wp2_with fail
  refine hC.out.mono ?_
  rintro _ w1 ⟨v', rfl, h1, h2, h3⟩
  obtain ⟨va, vc, rfl⟩ := h1.shape
  replace h1 := hide h1
  replace h2 := hide h2
  replace h3 := hide h3
  clear hC
  go_wp2
  go_ret
  exact ⟨_, rfl, h1.out, h2.out, h3.out⟩
/-- The stream of the first filter that tells. -/
def findS (dst src : M6) (vid : Int) (l : List Sf) : Int := match l.find? (tellB dst src vid) with | some e => e.num | none => -1
theorem findF_none {p : Sf → Bool} {l : List Sf} (h : ∀ j, j < l.length → p (l.getD j Sf.zero) = false) : l.find? p = none := by
  rw [List.find?_eq_none]
  intro e he
  obtain ⟨j, hj, rfl⟩ := List.getElem_of_mem he
  have := h j hj
  rw [List.getD_eq_getElem?_getD, List.getElem?_eq_getElem hj] at this
  simp at this ⊢
  exact this
theorem findF_some {p : Sf → Bool} {l : List Sf} {k : Nat} (hk : k < l.length) (hp : p (l.getD k Sf.zero) = true) (h : ∀ j, j < k → p (l.getD j Sf.zero) = false) : l.find? p = some (l.getD k Sf.zero) := by
  induction l generalizing k with
  | nil => simp at hk
  | cons a r ih =>
    cases k with
    | zero => simp at hp ⊢; simp [hp]
    | succ k =>
      have h0 := h 0 (by omega)
      simp at h0
      rw [List.find?_cons_of_neg (by simp [h0])]
      rw [ih (k := k) (by simpa using hk) (by simpa using hp) (fun j hj => by have := h (j + 1) (by omega); simpa using this)]
      simp
set_option maxHeartbeats 8000000 in
theorem FindS_any (h : Fst w t v l) (hl : Sfs l) (cs : Array Value) (dst src : M6) (hH : HdMac cs dst src) (vid : Int) (hd : dst.wf) (hs : src.wf) :
    Calls Try.prog 32 #[.pointer (some ⟨t, 0, none⟩), .agg cs, .int .i64 vid] w fun r w' => r = .returned (.int .i64 (findS dst src vid l)) ∧ Below w.heap.size w w' := by
  have hb := hide (below1 w (.cells cs 65))
  have hr := hide (heap_alloc_new w (.cells cs 65))
  have hF := hide (h.below hb.out)
  obtain ⟨R, hR⟩ : ∃ R, R = findS dst src vid l := ⟨_, rfl⟩
  rw [← hR]
  replace hR := hide hR
  have hsz : (Try.prog.info? 65).map (·.size) = some cs.size := by rw [hH.size]; kernel_rfl
  have hlen1 : l.length ≤ 100000 := by have := hl.1; omega
  have hwfs : Hid (∀ e ∈ l, e.m.wf) := hl.2
  clear h hl
  generalize hw1 : w.alloc (.cells cs 65) = w1 at *
  obtain ⟨av, capv, rfl⟩ := hF.out.sl.shape
  go_enter Try.func32, Try.ntmps32
  go_wp2_with fail
  have hFr := hF.out
  refine wp_region_noPanic ?_
  refine wp_region_held_drew (S := fun W => Below w1.heap.size w1 W) (by kernel_rfl) (below_drewS (Below.refl _ _)) (fun hHeld => ?_)
  refine wpAnyH_take (i := 0) (oi := { dst := some 8, op := Op.move (Operand.tmp 0), type := 110, pos := "stream.go:70", after := #[], guard := none }) (v := ?v1) rfl (by kernel_rfl) (by kernel_rfl) (by kernel_rfl) (fun _ _ _ h => h) (Or.inl ⟨by rfl, ?y1⟩) (by assumption) ?r1
  case y1 => (intro w hSw; (try dsimp only at hSw); (try (go_split_ands)); go_simp; try with_reducible rfl)
  try simp only [Act.put, List.setIfInBounds_toArray, List.set_cons_zero, List.set_cons_succ]
  refine wpAnyH_take (i := 1) (oi := { dst := some 9, op := Op.nilCheck (Operand.tmp 8), type := 0, pos := "stream.go:70", after := #[{ on := 0, ground := Ground.data }], guard := none }) (v := ?v2) rfl (by kernel_rfl) (by kernel_rfl) (by kernel_rfl) (fun _ _ _ h => h) (Or.inl ⟨by rfl, ?y2⟩) (by assumption) ?r2
  case y2 => (intro w hSw; (try dsimp only at hSw); (try (go_split_ands)); go_simp; try with_reducible rfl)
  try simp only [Act.put, List.setIfInBounds_toArray, List.set_cons_zero, List.set_cons_succ]
  refine wpAnyH_take (i := 2) (oi := { dst := some 10, op := Op.fieldAddr 69 (Operand.tmp 9) 0, type := 0, pos := "stream.go:70", after := #[{ on := 1, ground := Ground.data }], guard := none }) (v := ?v3) rfl (by kernel_rfl) (by kernel_rfl) (by kernel_rfl) (fun _ _ _ h => h) (Or.inl ⟨by rfl, ?y3⟩) (by assumption) ?r3
  case y3 => (intro w hSw; (try dsimp only at hSw); (try (go_split_ands)); go_simp; try with_reducible rfl)
  try simp only [Act.put, List.setIfInBounds_toArray, List.set_cons_zero, List.set_cons_succ]
  refine wpAnyH_take (i := 3) (oi := { dst := some 11, op := Op.load 67 (Operand.tmp 10), type := 67, pos := "stream.go:70", after := #[{ on := 2, ground := Ground.data }], guard := none }) (v := (.slice av l.length capv)) rfl (by kernel_rfl) (by kernel_rfl) (by kernel_rfl) (fun _ _ _ h => h) (.inl ⟨by rfl, fun W hW => by have hca : W.cell? ⟨t, 0, none⟩ = some (.slice av l.length capv) := (hFr.below hW).c0; clear hHeld hFr; go_simp⟩) (by assumption) ?_
  try simp only [Act.put, List.setIfInBounds_toArray, List.set_cons_zero, List.set_cons_succ]
  refine wpAnyH_take (i := 4) (oi := { dst := some 12, op := Op.load 65 (Operand.tmp 4), type := 65, pos := "stream.go:70", after := #[], guard := none }) (v := _) rfl (by kernel_rfl) (by kernel_rfl) (by kernel_rfl) (fun _ _ _ h => h) (yieldsIf_load_row (by rfl) 65 (.tmp 4) rfl w.heap.size rfl 65 _ (0, 0) _ (fun W hW => heap_kept hW hr.out) Try.underlying65 rfl hsz) (by assumption) ?_
  try simp only [Act.put, List.setIfInBounds_toArray, List.set_cons_zero, List.set_cons_succ]
  refine wpAnyH_take (i := 5) (oi := { dst := some 13, op := Op.move (Operand.tmp 2), type := 3, pos := "stream.go:70", after := #[], guard := none }) (v := ?v4) rfl (by kernel_rfl) (by kernel_rfl) (by kernel_rfl) (fun _ _ _ h => h) (Or.inl ⟨by rfl, ?y4⟩) (by assumption) ?r4
  case y4 => (intro w hSw; (try dsimp only at hSw); (try (go_split_ands)); go_simp; try with_reducible rfl)
  try simp only [Act.put, List.setIfInBounds_toArray, List.set_cons_zero, List.set_cons_succ]
  clear hHeld hFr
  refine wpAnyH_ready (rs := [6]) (by kernel_rfl) (by simp) ?_
  refine AllReadyH.cons (o := { dst := some 14, op := Op.call { callee := Callee.value (Operand.func 57), args := #[Operand.tmp 12, Operand.tmp 13], argTypes := #[65, 3] }, type := 73, pos := "stream.go:70", after := #[{ on := 4, ground := Ground.data }, { on := 5, ground := Ground.data }], guard := none }) rfl (fun K hK => ?_) AllReadyH.nil
  go_simp
  refine (mkTells_any cs dst src hH vid w1.drew hd hs).mono ?_
  rintro _ w2 ⟨caps, rfl, hb2, hC⟩
  have hb12 : Below w1.heap.size w1 w2 := (below_drewS (Below.refl w1.heap.size w1)).later hb2
  go_wp2_with fail
  refine hK.out _ _ ?_ (fun hHeld6 => ?_)
  · exact hb12
  clear hK K
  try simp only [Act.put, List.setIfInBounds_toArray, List.set_cons_zero, List.set_cons_succ]
  refine wpAnyH_ready (rs := [7]) (by kernel_rfl) (by simp) ?_
  refine AllReadyH.cons (o := { dst := some 15, op := Op.call { callee := Callee.value (Operand.func 54), args := #[Operand.tmp 11, Operand.tmp 14], argTypes := #[67, 73] }, type := 3, pos := "stream.go:70", after := #[{ on := 3, ground := Ground.data }, { on := 6, ground := Ground.data }, { on := 6, ground := Ground.chain }], guard := none }) rfl (fun K hK => ?_) AllReadyH.nil
  go_simp
  refine (IndexF_any (hF.out.below hb12).sl hlen1 hwfs.out (hide hC) go_tells).mono ?_
  rintro _ w3 ⟨i, rfl, hb3, hi⟩
  have hb13 := hb12.later hb3
  go_wp2_with fail
  refine hK.out _ _ ?_ (fun hHeld7 => ?_)
  · exact hb13
  clear hK K
  try simp only [Act.put, List.setIfInBounds_toArray, List.set_cons_zero, List.set_cons_succ]
  refine wpAnyH_take (i := 8) (oi := { dst := some 7, op := Op.assign (Operand.tmp 15), type := 3, pos := "stream.go:70", after := #[{ on := 7, ground := Ground.data }, { on := 7, ground := Ground.chain }, { on := 0, ground := Ground.phase }, { on := 1, ground := Ground.phase }, { on := 2, ground := Ground.phase }, { on := 3, ground := Ground.phase }, { on := 4, ground := Ground.phase }, { on := 5, ground := Ground.phase }, { on := 6, ground := Ground.phase }, { on := 7, ground := Ground.phase }], guard := none }) (v := ?v5) rfl (by kernel_rfl) (by kernel_rfl) (by kernel_rfl) (fun _ _ _ h => h) (Or.inl ⟨by rfl, ?y5⟩) hb13 ?r5
  case y5 => (intro w hSw; (try dsimp only at hSw); (try (go_split_ands)); go_simp; try with_reducible rfl)
  try simp only [Act.put, List.setIfInBounds_toArray, List.set_cons_zero, List.set_cons_succ]
  refine wpAnyH_done (by kernel_rfl) ?_ _
  refine NoPanic.normal ?_
  have hF3 := hide (hF.out.below hb13)
  have hB3 := hide (hb.out.trans (hb13.mono (by rw [← hw1, World.size_alloc]; omega)))
  clear hHeld6 hHeld7 hF hb hr hb12 hb13 hC hb2 hb3 hw1
  rcases hi with ⟨rfl, hno⟩ | ⟨k, rfl, hk, hpk, hno⟩
  · have hR2 : R = -1 := by rw [hR.out]; unfold findS; rw [findF_none hno]
    subst hR2
    clear hR hno hF3
    go_wp2
    go_ret
    exact ⟨rfl, hB3.out⟩
  · have hR2 : R = (l.getD k Sf.zero).num := by rw [hR.out]; unfold findS; rw [findF_some hk hpk hno]
    obtain ⟨b, cap', sp, hv, hFl, _, _⟩ := hF3.out.sl.at_i (Nat.lt_of_le_of_lt (Nat.zero_le _) hk)
    simp only [Value.slice.injEq] at hv
    obtain ⟨rfl, _, rfl⟩ := hv
    have hc := hFl.cell wide_Sf Sf.zero k 8 hk (by omega)
    have hc2 : w3.cell? ⟨b, k * 9 + 8, none⟩ = some (.int .i64 (l.getD k Sf.zero).num) := hc
    have cz := hF3.out.c0
    clear hF3 hFl hpk hc hno hwfs
    obtain ⟨ep, hep⟩ : ∃ ep, ep = (l.getD k Sf.zero).num := ⟨_, rfl⟩
    rw [← hep] at hR2 hc2
    subst hR2
    clear hR hep
    generalize hL : l.length = L at *
    clear hL
    go_wp2
    go_ret
    exact ⟨rfl, hB3.out⟩
end
end Go.Proofs.Ytiahiakllpjliaa
