import Derived.Test.YtiahiakllpjliaaDoorSm1
import Derived.Lib.LazyBuf
/-
  A table of filters in memory ('Fst'); contracts of All, Find. Conditions: those that each theorem names.
-/
namespace Go.Proofs.YtiahiakllpjliaaDoor
open Go.RowKit Go.Maps
set_option linter.unusedVariables false
set_option linter.unusedSimpArgs false
set_option maxRecDepth 20000

structure Fst (w : World) (t : Nat) (v : Value) (l : List Sf) : Prop where
  row : w.heap[t]? = some (.cells #[v] 53 (0, 0))
  sl : Sl w v 56 9 fSf l
  ne : v.ownBlock ≠ some t
def Fst.foot (t : Nat) (v : Value) (k : Nat) : Prop := k = t ∨ v.ownBlock = some k
section
variable {w : World} {t : Nat} {v : Value} {l : List Sf}
theorem Fst.lt (h : Fst w t v l) : t < w.heap.size := (Array.getElem?_eq_some_iff.1 h.row).1
theorem Fst.ltk (h : Fst w t v l) (k : Nat) (hk : Fst.foot t v k) : k < w.heap.size := by
  rcases hk with rfl | e
  · exact h.lt
  · exact h.sl.lt e
theorem Fst.blk (h : Fst w t v l) {w' : World} (hb : ∀ k, Fst.foot t v k → w'.heap[k]? = w.heap[k]?) : Fst w' t v l :=
  ⟨by rw [hb t (.inl rfl)]; exact h.row, h.sl.blk fun b e => hb b (.inr e), h.ne⟩
theorem Fst.below (h : Fst w t v l) {w' : World} (hb : Below w.heap.size w w') : Fst w' t v l := h.blk fun k hk => hb.block k (h.ltk k hk)
theorem Fst.c0 (h : Fst w t v l) : w.cell? ⟨t, 0, none⟩ = some v := cell_of_row _ _ _ _ _ _ h.row
theorem Fst.fz (h : Fst w t v l) (o : Nat) : w.frozen? ⟨t, o, none⟩ = false := by simp [World.frozen?, h.row]
end
/-- Filters as they should be. -/
def Sfs (l : List Sf) : Prop := l.length ≤ 1000 ∧ ∀ e ∈ l, e.m.wf
theorem below_drewS {B : Nat} {W w : World} (h : Below B W w) : Below B W w.drew := below_drewN h 1
theorem Tryd.infoSf : (Tryd.prog.info? 56).map (fun i => (i.zero, i.size, i.bytes)) = some (some (.agg (fSf Sf.zero).toArray), 9, 32) := by kernel_rfl
theorem sty_Sf : Sty Tryd.prog 51 56 9 32 := by
  obtain ⟨i, h1, h2, h3, h4⟩ := info_parts Tryd.infoSf
  exact ⟨Tryd.underlying51, ⟨i, _, h1, h2, h3, h4, rfl⟩, by omega⟩
/-- New memory, or nothing. -/
def FreshS (B : Nat) (v : Value) : Prop := ∀ b, v.ownBlock = some b → B ≤ b
theorem Sl.madeS {α : Type} {w : World} (e : TypeId) (m : Nat) (f : α → List Value) : Sl (w.alloc (.cells #[] e)) (.slice (some ⟨w.heap.size, 0, none⟩) 0 0) e m f [] :=
  .inr ⟨w.heap.size, 0, [], rfl, heap_alloc_new w _, Nat.le_refl _, by simp [maxLen], by simp⟩
theorem Fl.cellsS {α : Type} {w : World} {b : Nat} {t : TypeId} {f : α → List Value} {l : List α} {sp : List Value} (h : Fl w b t f l sp) (j : Nat) (u : Value) (hj : (flat f l)[j]? = some u) : w.cell? ((⟨b, 0, none⟩ : Addr).add j) = some u := by
  rw [Addr.add_lit, Nat.zero_add, cell_of_row _ _ _ _ _ _ h]
  simp only [List.getElem?_toArray]
  rw [List.getElem?_append_left (List.getElem?_eq_some_iff.1 hj).1]
  exact hj
theorem below_grownS {B b : Nat} {W w w' : World} (h : Below B W w) (hg : w.grownBy w' (some b)) (hb : B ≤ b) (hB : B ≤ w.heap.size) : Below B W w' :=
  h.trans ⟨hg.os, hg.tape, hg.output, hg.size, fun k hk => hg.block k (by omega) (fun e => by cases e; omega)⟩
section
variable {w : World} {t : Nat} {v : Value} {l : List Sf}
/-- The stream of the first filter that tells. -/
def findS (dst src : M6) (vid : Int) (l : List Sf) : Int := match l.find? (tellB dst src vid) with | some e => e.num | none => -1
theorem findF_none {p : Sf → Bool} {l : List Sf} (h : ∀ j, j < l.length → p (l.getD j Sf.zero) = false) : l.find? p = none := by
  rw [List.find?_eq_none]
  intro e he
  obtain ⟨j, hj, rfl⟩ := List.getElem_of_mem he
  have := h j hj
  rw [List.getD_eq_getElem?_getD, List.getElem?_eq_getElem hj] at this
  simp at this ⊢
  exact this
theorem findF_some {p : Sf → Bool} {l : List Sf} {k : Nat} (hk : k < l.length) (hp : p (l.getD k Sf.zero) = true) (h : ∀ j, j < k → p (l.getD j Sf.zero) = false) : l.find? p = some (l.getD k Sf.zero) := by
  induction l generalizing k with
  | nil => simp at hk
  | cons a r ih =>
    cases k with
    | zero => simp at hp ⊢; simp [hp]
    | succ k =>
      have h0 := h 0 (by omega)
      simp at h0
      rw [List.find?_cons_of_neg (by simp [h0])]
      rw [ih (k := k) (by simpa using hk) (by simpa using hp) (fun j hj => by have := h (j + 1) (by omega); simpa using this)]
      simp
set_option maxHeartbeats 8000000 in
theorem FindS_any (h : Fst w t v l) (hl : Sfs l) (cs : Array Value) (dst src : M6) (hH : HdMac cs dst src) (vid : Int) (hd : dst.wf) (hs : src.wf) :
    Calls Tryd.prog 18 #[.pointer (some ⟨t, 0, none⟩), .agg cs, .int .i64 vid] w fun r w' => r = .returned (.int .i64 (findS dst src vid l)) ∧ Below w.heap.size w w' := by
  have hb := hide (below1 w (.cells cs 25))
  have hr := hide (heap_alloc_new w (.cells cs 25))
  have hF := hide (h.below hb.out)
  obtain ⟨R, hR⟩ : ∃ R, R = findS dst src vid l := ⟨_, rfl⟩
  rw [← hR]
  replace hR := hide hR
  have hsz : (Tryd.prog.info? 25).map (·.size) = some cs.size := by rw [hH.size]; kernel_rfl
  have hlen1 : l.length ≤ 100000 := by have := hl.1; omega
  have hwfs : Hid (∀ e ∈ l, e.m.wf) := hl.2
  clear h hl
  generalize hw1 : w.alloc (.cells cs 25) = w1 at *
  obtain ⟨av, capv, rfl⟩ := hF.out.sl.shape
  go_enter Tryd.func18, Tryd.ntmps18
  go_wp2_with fail
  have hFr := hF.out
  refine wp_region_noPanic ?_
  refine wp_region_held_drew (S := fun W => Below w1.heap.size w1 W) (by kernel_rfl) (below_drewS (Below.refl _ _)) (fun hHeld => ?_)
  refine wpAnyH_take (i := 0) (oi := { dst := some 8, op := Op.move (Operand.tmp 0), type := 89, pos := "stream.go:70", after := #[], guard := none }) (v := ?v1) rfl (by kernel_rfl) (by kernel_rfl) (by kernel_rfl) (fun _ _ _ h => h) (Or.inl ⟨by rfl, ?y1⟩) (by assumption) ?r1
  case y1 => (intro w hSw; (try dsimp only at hSw); (try (go_split_ands)); go_simp; try with_reducible rfl)
  try simp only [Act.put, List.setIfInBounds_toArray, List.set_cons_zero, List.set_cons_succ]
  refine wpAnyH_take (i := 1) (oi := { dst := some 9, op := Op.nilCheck (Operand.tmp 8), type := 0, pos := "stream.go:70", after := #[{ on := 0, ground := Ground.data }], guard := none }) (v := ?v2) rfl (by kernel_rfl) (by kernel_rfl) (by kernel_rfl) (fun _ _ _ h => h) (Or.inl ⟨by rfl, ?y2⟩) (by assumption) ?r2
  case y2 => (intro w hSw; (try dsimp only at hSw); (try (go_split_ands)); go_simp; try with_reducible rfl)
  try simp only [Act.put, List.setIfInBounds_toArray, List.set_cons_zero, List.set_cons_succ]
  refine wpAnyH_take (i := 2) (oi := { dst := some 10, op := Op.fieldAddr 53 (Operand.tmp 9) 0, type := 0, pos := "stream.go:70", after := #[{ on := 1, ground := Ground.data }], guard := none }) (v := ?v3) rfl (by kernel_rfl) (by kernel_rfl) (by kernel_rfl) (fun _ _ _ h => h) (Or.inl ⟨by rfl, ?y3⟩) (by assumption) ?r3
  case y3 => (intro w hSw; (try dsimp only at hSw); (try (go_split_ands)); go_simp; try with_reducible rfl)
  try simp only [Act.put, List.setIfInBounds_toArray, List.set_cons_zero, List.set_cons_succ]
  refine wpAnyH_take (i := 3) (oi := { dst := some 11, op := Op.load 51 (Operand.tmp 10), type := 51, pos := "stream.go:70", after := #[{ on := 2, ground := Ground.data }], guard := none }) (v := (.slice av l.length capv)) rfl (by kernel_rfl) (by kernel_rfl) (by kernel_rfl) (fun _ _ _ h => h) (.inl ⟨by rfl, fun W hW => by have hca : W.cell? ⟨t, 0, none⟩ = some (.slice av l.length capv) := (hFr.below hW).c0; clear hHeld hFr; go_simp⟩) (by assumption) ?_
  try simp only [Act.put, List.setIfInBounds_toArray, List.set_cons_zero, List.set_cons_succ]
  refine wpAnyH_take (i := 4) (oi := { dst := some 12, op := Op.load 25 (Operand.tmp 4), type := 25, pos := "stream.go:70", after := #[], guard := none }) (v := _) rfl (by kernel_rfl) (by kernel_rfl) (by kernel_rfl) (fun _ _ _ h => h) (yieldsIf_load_row (by rfl) 25 (.tmp 4) rfl w.heap.size rfl 25 _ (0, 0) _ (fun W hW => heap_kept hW hr.out) Tryd.underlying25 rfl hsz) (by assumption) ?_
  try simp only [Act.put, List.setIfInBounds_toArray, List.set_cons_zero, List.set_cons_succ]
  refine wpAnyH_take (i := 5) (oi := { dst := some 13, op := Op.move (Operand.tmp 2), type := 3, pos := "stream.go:70", after := #[], guard := none }) (v := ?v4) rfl (by kernel_rfl) (by kernel_rfl) (by kernel_rfl) (fun _ _ _ h => h) (Or.inl ⟨by rfl, ?y4⟩) (by assumption) ?r4
  case y4 => (intro w hSw; (try dsimp only at hSw); (try (go_split_ands)); go_simp; try with_reducible rfl)
  try simp only [Act.put, List.setIfInBounds_toArray, List.set_cons_zero, List.set_cons_succ]
  clear hHeld hFr
  refine wpAnyH_ready (rs := [6]) (by kernel_rfl) (by simp) ?_
  refine AllReadyH.cons (o := { dst := some 14, op := Op.call { callee := Callee.value (Operand.func 46), args := #[Operand.tmp 12, Operand.tmp 13], argTypes := #[25, 3] }, type := 91, pos := "stream.go:70", after := #[{ on := 4, ground := Ground.data }, { on := 5, ground := Ground.data }], guard := none }) rfl (fun K hK => ?_) AllReadyH.nil
  go_simp
  refine (mkTells_any cs dst src hH vid w1.drew hd hs).mono ?_
  rintro _ w2 ⟨caps, rfl, hb2, hC⟩
  have hb12 : Below w1.heap.size w1 w2 := (below_drewS (Below.refl w1.heap.size w1)).later hb2
  go_wp2_with fail
  refine hK.out _ _ ?_ (fun hHeld6 => ?_)
  · exact hb12
  clear hK K
  try simp only [Act.put, List.setIfInBounds_toArray, List.set_cons_zero, List.set_cons_succ]
  refine wpAnyH_ready (rs := [7]) (by kernel_rfl) (by simp) ?_
  refine AllReadyH.cons (o := { dst := some 15, op := Op.call { callee := Callee.value (Operand.func 45), args := #[Operand.tmp 11, Operand.tmp 14], argTypes := #[51, 91] }, type := 3, pos := "stream.go:70", after := #[{ on := 3, ground := Ground.data }, { on := 6, ground := Ground.data }, { on := 6, ground := Ground.chain }], guard := none }) rfl (fun K hK => ?_) AllReadyH.nil
  go_simp
  refine (IndexF_any (hF.out.below hb12).sl hlen1 hwfs.out (hide hC) go_tells).mono ?_
  rintro _ w3 ⟨i, rfl, hb3, hi⟩
  have hb13 := hb12.later hb3
  go_wp2_with fail
  refine hK.out _ _ ?_ (fun hHeld7 => ?_)
  · exact hb13
  clear hK K
  try simp only [Act.put, List.setIfInBounds_toArray, List.set_cons_zero, List.set_cons_succ]
  refine wpAnyH_take (i := 8) (oi := { dst := some 7, op := Op.assign (Operand.tmp 15), type := 3, pos := "stream.go:70", after := #[{ on := 7, ground := Ground.data }, { on := 7, ground := Ground.chain }, { on := 0, ground := Ground.phase }, { on := 1, ground := Ground.phase }, { on := 2, ground := Ground.phase }, { on := 3, ground := Ground.phase }, { on := 4, ground := Ground.phase }, { on := 5, ground := Ground.phase }, { on := 6, ground := Ground.phase }, { on := 7, ground := Ground.phase }], guard := none }) (v := ?v5) rfl (by kernel_rfl) (by kernel_rfl) (by kernel_rfl) (fun _ _ _ h => h) (Or.inl ⟨by rfl, ?y5⟩) hb13 ?r5
  case y5 => (intro w hSw; (try dsimp only at hSw); (try (go_split_ands)); go_simp; try with_reducible rfl)
  try simp only [Act.put, List.setIfInBounds_toArray, List.set_cons_zero, List.set_cons_succ]
  refine wpAnyH_done (by kernel_rfl) ?_ _
  refine NoPanic.normal ?_
  have hF3 := hide (hF.out.below hb13)
  have hB3 := hide (hb.out.trans (hb13.mono (by rw [← hw1, World.size_alloc]; omega)))
  clear hHeld6 hHeld7 hF hb hr hb12 hb13 hC hb2 hb3 hw1
  rcases hi with ⟨rfl, hno⟩ | ⟨k, rfl, hk, hpk, hno⟩
  · have hR2 : R = -1 := by rw [hR.out]; unfold findS; rw [findF_none hno]
    subst hR2
    clear hR hno hF3
    go_wp2
    go_ret
    exact ⟨rfl, hB3.out⟩
  · have hR2 : R = (l.getD k Sf.zero).num := by rw [hR.out]; unfold findS; rw [findF_some hk hpk hno]
    obtain ⟨b, cap', sp, hv, hFl, _, _⟩ := hF3.out.sl.at_i (Nat.lt_of_le_of_lt (Nat.zero_le _) hk)
    simp only [Value.slice.injEq] at hv
    obtain ⟨rfl, _, rfl⟩ := hv
    have hc := hFl.cell wide_Sf Sf.zero k 8 hk (by omega)
    have hc2 : w3.cell? ⟨b, k * 9 + 8, none⟩ = some (.int .i64 (l.getD k Sf.zero).num) := hc
    have cz := hF3.out.c0
    clear hF3 hFl hpk hc hno hwfs
    obtain ⟨ep, hep⟩ : ∃ ep, ep = (l.getD k Sf.zero).num := ⟨_, rfl⟩
    rw [← hep] at hR2 hc2
    subst hR2
    clear hR hep
    generalize hL : l.length = L at *
    clear hL
    go_wp2
    go_ret
    exact ⟨rfl, hB3.out⟩
end
end Go.Proofs.YtiahiakllpjliaaDoor

/-
  Contract of stream's Add. Conditions: those that each theorem names.
-/
namespace Go.Proofs.YtiahiakllpjliaaDoor
open Go.RowKit Go.Maps
set_option linter.unusedVariables false
set_option linter.unusedSimpArgs false
set_option maxRecDepth 20000

/-- What Add answers, and the filters behind it. -/
def addR (l : List Sf) (f : Sf) : Int × List Sf :=
  if mayF f = false then (1, l) else if l.any (thatB f.kind f.m f.vid) = true then (22, l) else if 64 ≤ l.length then (20, l) else (0, l ++ [f])
section
variable {w : World} {t : Nat} {v : Value} {l : List Sf}
set_option maxHeartbeats 8000000 in
theorem AddS_any (h : Fst w t v l) (hl : Sfs l) (f : Sf) (hf : f.m.wf) :
    Calls Tryd.prog 16 #[.pointer (some ⟨t, 0, none⟩), .agg (fSf f).toArray] w fun r w' => r = .returned (.int .i64 (addR l f).1) ∧ ∃ v', Fst w' t v' (addR l f).2 ∧ Ch (Fst.foot t v) w w' ∧ (∀ b, v'.ownBlock = some b → v.ownBlock = some b ∨ w.heap.size ≤ b) := by
  have hb := hide (below1 w (.cells (fSf f).toArray 56))
  have hr := hide (heap_alloc_new w (.cells (fSf f).toArray 56))
  have hM := hide (fun w => mayF_any f w)
  have hF := hide (h.below hb.out)
  have hlt := hide h.ltk
  have hsz := sfSize f
  obtain ⟨R, hR⟩ : ∃ R, R = addR l f := ⟨_, rfl⟩
  rw [← hR]
  unfold addR at hR
  replace hR := hide hR
  have hlen1 : l.length ≤ 1000 := hl.1
  have hwfs : Hid (∀ e ∈ l, e.m.wf) := hl.2
  replace hf := hide hf
  clear h hl
  obtain ⟨av, capv, rfl⟩ := hF.out.sl.shape
  have hmr := hide (fun (W : World) (hW : Below (w.alloc (.cells (fSf f).toArray 56)).heap.size (w.alloc (.cells (fSf f).toArray 56)) W) => sf_mac f (heap_kept hW hr.out))
  have hcr := hide (fun (W : World) (hW : Below (w.alloc (.cells (fSf f).toArray 56)).heap.size (w.alloc (.cells (fSf f).toArray 56)) W) => show W.cell? ⟨w.heap.size, 0, none⟩ = some (.int .i64 f.kind) ∧ W.cell? ⟨w.heap.size, 7, none⟩ = some (.int .i64 f.vid) from ⟨(cell_of_row _ _ _ _ _ _ (heap_kept hW hr.out)).trans rfl, (cell_of_row _ _ _ _ _ _ (heap_kept hW hr.out)).trans rfl⟩)
  have hin : Hid (∀ (b : Bool), mayF f = b → True) := fun _ _ => trivial
  generalize hw1 : w.alloc (.cells (fSf f).toArray 56) = w1 at *
  have hw1s : Hid (w1.heap.size = w.heap.size + 1) := by rw [← hw1]; exact World.size_alloc _ _
  go_enter Tryd.func16, Tryd.ntmps16
  go_wp2_with ((with_reducible change wpList _ _ _ _ _ _); refine wpList_load_row rfl 56 (.tmp 3) rfl w.heap.size rfl 56 _ _ _ hr.out Tryd.underlying56 rfl hsz ?_)
  refine (hM.out _).mono ?_
  rintro _ w2 ⟨rfl, hb2⟩
  have hB2 := hide (hb.out.trans (hb2.mono (by have := hw1s.out; omega)))
  clear hM
  cases hmf : mayF f
  · have hR2 : R = (1, l) := by rw [hR.out, if_pos hmf]
    subst hR2
    have hCz : Hid (Ch (Fst.foot t (.slice av l.length capv)) w w2) := Ch.of_below hB2.out
    have hFz := hide (hF.out.below hb2)
    clear hR hmr hcr hb2 hb hr hF hB2 hmf
    go_wp2
    go_ret
    exact ⟨rfl, _, hFz.out, hCz.out, fun b e => .inl e⟩
  · replace hmf := hide hmf
    have hF2 := hide (hF.out.below hb2)
    have hr2 := hide (heap_kept hb2 hr.out)
    have hmr2 := hide (fun (W : World) (hW : Below w2.heap.size w2 W) => sf_mac f (heap_kept hW hr2.out))
    have hcr2 := hide (fun (W : World) (hW : Below w2.heap.size w2 W) => show W.cell? ⟨w.heap.size, 0, none⟩ = some (.int .i64 f.kind) ∧ W.cell? ⟨w.heap.size, 7, none⟩ = some (.int .i64 f.vid) from ⟨(cell_of_row _ _ _ _ _ _ (heap_kept hW hr2.out)).trans rfl, (cell_of_row _ _ _ _ _ _ (heap_kept hW hr2.out)).trans rfl⟩)
    clear hmr hcr hb2 hb hr hF hw1s hw1
    go_wp2_with fail
    refine wp_region_noPanic ?_
    refine wp_region_held_drew (S := fun W => Below w2.heap.size w2 W) (by kernel_rfl) (below_drewS (Below.refl _ _)) (fun hHeld => ?_)
    refine wpAnyH_take (i := 0) (oi := { dst := some 10, op := Op.move (Operand.tmp 0), type := 89, pos := "stream.go:49", after := #[], guard := none }) (v := ?v1) rfl (by kernel_rfl) (by kernel_rfl) (by kernel_rfl) (fun _ _ _ h => h) (Or.inl ⟨by rfl, ?y1⟩) (by assumption) ?r1
    case y1 => (intro w hSw; (try dsimp only at hSw); (try (go_split_ands)); go_simp; try with_reducible rfl)
    try simp only [Act.put, List.setIfInBounds_toArray, List.set_cons_zero, List.set_cons_succ]
    refine wpAnyH_take (i := 1) (oi := { dst := some 11, op := Op.nilCheck (Operand.tmp 10), type := 0, pos := "stream.go:49", after := #[{ on := 0, ground := Ground.data }], guard := none }) (v := ?v2) rfl (by kernel_rfl) (by kernel_rfl) (by kernel_rfl) (fun _ _ _ h => h) (Or.inl ⟨by rfl, ?y2⟩) (by assumption) ?r2
    case y2 => (intro w hSw; (try dsimp only at hSw); (try (go_split_ands)); go_simp; try with_reducible rfl)
    try simp only [Act.put, List.setIfInBounds_toArray, List.set_cons_zero, List.set_cons_succ]
    refine wpAnyH_take (i := 2) (oi := { dst := some 12, op := Op.fieldAddr 53 (Operand.tmp 11) 0, type := 0, pos := "stream.go:49", after := #[{ on := 1, ground := Ground.data }], guard := none }) (v := ?v3) rfl (by kernel_rfl) (by kernel_rfl) (by kernel_rfl) (fun _ _ _ h => h) (Or.inl ⟨by rfl, ?y3⟩) (by assumption) ?r3
    case y3 => (intro w hSw; (try dsimp only at hSw); (try (go_split_ands)); go_simp; try with_reducible rfl)
    try simp only [Act.put, List.setIfInBounds_toArray, List.set_cons_zero, List.set_cons_succ]
    refine wpAnyH_take (i := 3) (oi := { dst := some 13, op := Op.load 51 (Operand.tmp 12), type := 51, pos := "stream.go:49", after := #[{ on := 2, ground := Ground.data }], guard := none }) (v := (.slice av l.length capv)) rfl (by kernel_rfl) (by kernel_rfl) (by kernel_rfl) (fun _ _ _ h => h) (.inl ⟨by rfl, fun W hW => by have hca : W.cell? ⟨t, 0, none⟩ = some (.slice av l.length capv) := (hF2.out.below hW).c0; clear hHeld; go_simp⟩) (by assumption) ?_
    try simp only [Act.put, List.setIfInBounds_toArray, List.set_cons_zero, List.set_cons_succ]
    refine wpAnyH_take (i := 4) (oi := { dst := some 14, op := Op.fieldAddr 56 (Operand.tmp 3) 0, type := 0, pos := "stream.go:49", after := #[], guard := none }) (v := ?v4) rfl (by kernel_rfl) (by kernel_rfl) (by kernel_rfl) (fun _ _ _ h => h) (Or.inl ⟨by rfl, ?y4⟩) (by assumption) ?r4
    case y4 => (intro w hSw; (try dsimp only at hSw); (try (go_split_ands)); go_simp; try with_reducible rfl)
    try simp only [Act.put, List.setIfInBounds_toArray, List.set_cons_zero, List.set_cons_succ]
    refine wpAnyH_take (i := 5) (oi := { dst := some 15, op := Op.load 3 (Operand.tmp 14), type := 3, pos := "stream.go:49", after := #[{ on := 4, ground := Ground.data }], guard := none }) (v := (.int .i64 f.kind)) rfl (by kernel_rfl) (by kernel_rfl) (by kernel_rfl) (fun _ _ _ h => h) (.inl ⟨by rfl, fun W hW => by have hca := (hcr2.out W hW).1; clear hHeld; go_simp⟩) (by assumption) ?_
    try simp only [Act.put, List.setIfInBounds_toArray, List.set_cons_zero, List.set_cons_succ]
    refine wpAnyH_take (i := 6) (oi := { dst := some 16, op := Op.fieldAddr 56 (Operand.tmp 3) 1, type := 0, pos := "stream.go:49", after := #[], guard := none }) (v := ?v5) rfl (by kernel_rfl) (by kernel_rfl) (by kernel_rfl) (fun _ _ _ h => h) (Or.inl ⟨by rfl, ?y5⟩) (by assumption) ?r5
    case y5 => (intro w hSw; (try dsimp only at hSw); (try (go_split_ands)); go_simp; try with_reducible rfl)
    try simp only [Act.put, List.setIfInBounds_toArray, List.set_cons_zero, List.set_cons_succ]
    refine wpAnyH_take (i := 7) (oi := { dst := some 17, op := Op.load 23 (Operand.tmp 16), type := 23, pos := "stream.go:49", after := #[{ on := 6, ground := Ground.data }], guard := none }) (v := _) rfl (by kernel_rfl) (by kernel_rfl) (by kernel_rfl) (fun _ _ _ h => h) (yieldsIf_load_mid (by rfl) 23 (.tmp 16) rfl w.heap.size 1 rfl f.m.row.toList _ (fun W hW => hmr2.out W hW) Tryd.underlying23 rfl (m6Len _)) (by assumption) ?_
    try simp only [Act.put, List.setIfInBounds_toArray, List.set_cons_zero, List.set_cons_succ]
    refine wpAnyH_take (i := 8) (oi := { dst := some 18, op := Op.fieldAddr 56 (Operand.tmp 3) 2, type := 0, pos := "stream.go:49", after := #[], guard := none }) (v := ?v6) rfl (by kernel_rfl) (by kernel_rfl) (by kernel_rfl) (fun _ _ _ h => h) (Or.inl ⟨by rfl, ?y6⟩) (by assumption) ?r6
    case y6 => (intro w hSw; (try dsimp only at hSw); (try (go_split_ands)); go_simp; try with_reducible rfl)
    try simp only [Act.put, List.setIfInBounds_toArray, List.set_cons_zero, List.set_cons_succ]
    refine wpAnyH_take (i := 9) (oi := { dst := some 19, op := Op.load 3 (Operand.tmp 18), type := 3, pos := "stream.go:49", after := #[{ on := 8, ground := Ground.data }], guard := none }) (v := (.int .i64 f.vid)) rfl (by kernel_rfl) (by kernel_rfl) (by kernel_rfl) (fun _ _ _ h => h) (.inl ⟨by rfl, fun W hW => by have hca := (hcr2.out W hW).2; clear hHeld; go_simp⟩) (by assumption) ?_
    try simp only [Act.put, List.setIfInBounds_toArray, List.set_cons_zero, List.set_cons_succ]
    clear hHeld hcr2 hmr2
    refine wpAnyH_ready (rs := [10]) (by kernel_rfl) (by simp) ?_
    refine AllReadyH.cons (o := { dst := some 20, op := Op.call { callee := Callee.value (Operand.func 38), args := #[Operand.tmp 15, Operand.tmp 17, Operand.tmp 19], argTypes := #[3, 23, 3] }, type := 91, pos := "stream.go:49", after := #[{ on := 5, ground := Ground.data }, { on := 7, ground := Ground.data }, { on := 9, ground := Ground.data }], guard := none }) rfl (fun K hK => ?_) AllReadyH.nil
    go_simp
    refine (mkThat_any f.kind f.vid f.m w2.drew hf.out).mono ?_
    rintro _ w3 ⟨caps, rfl, hb3, hC3⟩
    have hb23 : Below w2.heap.size w2 w3 := (below_drewS (Below.refl w2.heap.size w2)).later hb3
    go_wp2_with fail
    refine hK.out _ _ ?_ (fun hHeld10 => ?_)
    · exact hb23
    clear hK K
    try simp only [Act.put, List.setIfInBounds_toArray, List.set_cons_zero, List.set_cons_succ]
    refine wpAnyH_ready (rs := [11]) (by kernel_rfl) (by simp) ?_
    refine AllReadyH.cons (o := { dst := some 21, op := Op.call { callee := Callee.value (Operand.func 37), args := #[Operand.tmp 13, Operand.tmp 20], argTypes := #[51, 91] }, type := 4, pos := "stream.go:49", after := #[{ on := 3, ground := Ground.data }, { on := 10, ground := Ground.data }, { on := 10, ground := Ground.chain }], guard := none }) rfl (fun K hK => ?_) AllReadyH.nil
    go_simp
    refine (ContainsF_any (hF2.out.below hb23).sl (by omega) hwfs.out (hide hC3) go_that).mono ?_
    rintro _ w4 ⟨rfl, hb4⟩
    have hb24 := hb23.later hb4
    go_wp2_with fail
    refine hK.out _ _ ?_ (fun hHeld11 => ?_)
    · exact hb24
    clear hK K
    try simp only [Act.put, List.setIfInBounds_toArray, List.set_cons_zero, List.set_cons_succ]
    refine wpAnyH_take (i := 12) (oi := { dst := some 9, op := Op.assign (Operand.tmp 21), type := 4, pos := "stream.go:49", after := #[{ on := 11, ground := Ground.data }, { on := 11, ground := Ground.chain }], guard := none }) (v := ?v7) rfl (by kernel_rfl) (by kernel_rfl) (by kernel_rfl) (fun _ _ _ h => h) (Or.inl ⟨by rfl, ?y7⟩) hb24 ?r7
    case y7 => (intro w hSw; (try dsimp only at hSw); (try (go_split_ands)); go_simp; try with_reducible rfl)
    try simp only [Act.put, List.setIfInBounds_toArray, List.set_cons_zero, List.set_cons_succ]
    refine wpAnyH_done (by kernel_rfl) ?_ _
    refine NoPanic.normal ?_
    have hF4 := hide (hF2.out.below hb24)
    have hB4 := hide (hB2.out.trans (hb24.mono hB2.out.size))
    have hr4 := hide (heap_kept hb24 hr2.out)
    clear hHeld10 hHeld11 hF2 hr2 hb23 hb24 hC3 hb3 hb4 hB2
    cases hany : l.any (thatB f.kind f.m f.vid)
    · replace hany := hide hany
      by_cases hfull : 64 ≤ l.length
      · have hR2 : R = (20, l) := by rw [hR.out, if_neg (by rw [hmf.out]; decide), if_neg (by rw [hany.out]; decide), if_pos hfull]
        subst hR2
        have hCz : Hid (Ch (Fst.foot t (.slice av l.length capv)) w w4) := Ch.of_below hB4.out
        have hfull' : decide ((64 : Int) ≤ (l.length : Int)) = true := decide_eq_true (by omega)
        have c0 := hF4.out.c0
        clear hR hB4 hr4
        go_wp2
        go_ret
        exact ⟨rfl, _, hF4.out, hCz.out, fun b e => .inl e⟩
      · have hR2 : R = (0, l ++ [f]) := by rw [hR.out, if_neg (by rw [hmf.out]; decide), if_neg (by rw [hany.out]; decide), if_neg hfull]
        subst hR2
        have hfull' : decide ((64 : Int) ≤ (l.length : Int)) = false := decide_eq_false (by omega)
        have c0 := hF4.out.c0
        clear hR
        generalize hL : l.length = L at *
        replace hL := hide hL
        go_wp2_with fail
        have hrq : Hid (w4.heap[w.heap.size]? = some (.cells (fSf f).toArray 56 (0, 0))) := hr4.out
        have htw : t ≠ w.heap.size := by
          have h1 := hlt.out t (.inl rfl)
          omega
        have hmb : Hid (∀ k, Fst.foot t (.slice av L capv) k → k ≠ w.heap.size) := fun k hk e => by have := hlt.out k hk; omega
        have htl := hF4.out.lt
        have hwl : w.heap.size < w4.heap.size := (Array.getElem?_eq_some_iff.1 hrq.out).1
        refine wp_region_noPanic ?_
        refine wp_region_held_drew (S := fun W => W.heap[w.heap.size]? = some (.cells (fSf f).toArray 56 (0, 0))) (by kernel_rfl) hrq.out (fun hHeld => ?_)
        refine wpAnyH_take (i := 0) (oi := { dst := some 29, op := Op.move (Operand.tmp 0), type := 89, pos := "stream.go:54", after := #[], guard := none }) (v := ?v8) rfl (by kernel_rfl) (by kernel_rfl) (by kernel_rfl) (fun _ _ _ h => h) (Or.inl ⟨by rfl, ?y8⟩) (by assumption) ?r8
        case y8 => (intro w hSw; (try dsimp only at hSw); (try (go_split_ands)); go_simp; try with_reducible rfl)
        try simp only [Act.put, List.setIfInBounds_toArray, List.set_cons_zero, List.set_cons_succ]
        refine wpAnyH_take (i := 1) (oi := { dst := some 30, op := Op.move (Operand.tmp 0), type := 89, pos := "stream.go:54", after := #[], guard := none }) (v := ?v9) rfl (by kernel_rfl) (by kernel_rfl) (by kernel_rfl) (fun _ _ _ h => h) (Or.inl ⟨by rfl, ?y9⟩) (by assumption) ?r9
        case y9 => (intro w hSw; (try dsimp only at hSw); (try (go_split_ands)); go_simp; try with_reducible rfl)
        try simp only [Act.put, List.setIfInBounds_toArray, List.set_cons_zero, List.set_cons_succ]
        refine wpAnyH_take (i := 2) (oi := { dst := some 31, op := Op.nilCheck (Operand.tmp 30), type := 0, pos := "stream.go:54", after := #[{ on := 1, ground := Ground.data }], guard := none }) (v := ?v10) rfl (by kernel_rfl) (by kernel_rfl) (by kernel_rfl) (fun _ _ _ h => h) (Or.inl ⟨by rfl, ?y10⟩) (by assumption) ?r10
        case y10 => (intro w hSw; (try dsimp only at hSw); (try (go_split_ands)); go_simp; try with_reducible rfl)
        try simp only [Act.put, List.setIfInBounds_toArray, List.set_cons_zero, List.set_cons_succ]
        refine wpAnyH_take (i := 3) (oi := { dst := some 32, op := Op.fieldAddr 53 (Operand.tmp 31) 0, type := 0, pos := "stream.go:54", after := #[{ on := 2, ground := Ground.data }], guard := none }) (v := ?v11) rfl (by kernel_rfl) (by kernel_rfl) (by kernel_rfl) (fun _ _ _ h => h) (Or.inl ⟨by rfl, ?y11⟩) (by assumption) ?r11
        case y11 => (intro w hSw; (try dsimp only at hSw); (try (go_split_ands)); go_simp; try with_reducible rfl)
        try simp only [Act.put, List.setIfInBounds_toArray, List.set_cons_zero, List.set_cons_succ]
        refine wpAnyH_take (i := 5) (oi := { dst := some 34, op := Op.load 56 (Operand.tmp 3), type := 56, pos := "stream.go:54", after := #[], guard := none }) (v := _) rfl (by kernel_rfl) (by kernel_rfl) (by kernel_rfl) (fun _ _ _ h => h) (yieldsIf_load_row (by rfl) 56 (.tmp 3) rfl w.heap.size rfl 56 _ (0, 0) _ (fun W hW => hW) Tryd.underlying56 rfl hsz) (by assumption) ?_
        try simp only [Act.put, List.setIfInBounds_toArray, List.set_cons_zero, List.set_cons_succ]
        refine (fun (key2 : Hid (?T2 : Prop)) => ?main2) ?kp2
        case main2 =>
          have hb7 : Below w4.heap.size w4 (w4.alloc (.cells (fSf f).toArray 56)).drew := by
            have h := below1 w4 (.cells (fSf f).toArray 56)
            exact ⟨h.os, h.tape, h.output, h.size, h.block⟩
          have hr7 : (w4.alloc (.cells (fSf f).toArray 56)).drew.heap[w4.heap.size]? = some (.cells (fSf f).toArray 56 (0, 0)) := heap_alloc_new w4 _
          have hs7 : (w4.alloc (.cells (fSf f).toArray 56)).drew.heap.size = w4.heap.size + 1 := World.size_alloc w4 _
          have c2d : w4.drew.cell? ⟨t, 0, none⟩ = some (.slice av L capv) := c0
          refine wpAnyH_ready (rs := [4, 6]) (by kernel_rfl) (by simp) ?_
          refine AllReadyH.cons (o := { dst := some 33, op := Op.load 51 (Operand.tmp 32), type := 51, pos := "stream.go:54", after := #[{ on := 3, ground := Ground.data }], guard := none }) rfl (fun K hK => ?_) (AllReadyH.cons (o := { dst := some 35, op := Op.buildSlice 51 1 #[(0, Operand.tmp 34)], type := 51, pos := "stream.go:54", after := #[{ on := 5, ground := Ground.data }], guard := none }) rfl (fun K hK => ?_) AllReadyH.nil)
          · go_simp
            refine hK.out _ _ hrq.out (fun hHeld4 => ?_)
            clear hK K
            try simp only [Act.put, List.setIfInBounds_toArray, List.set_cons_zero, List.set_cons_succ]
            refine wpAnyH_ready (rs := [6]) (by kernel_rfl) (by simp) ?_
            refine AllReadyH.cons (o := { dst := some 35, op := Op.buildSlice 51 1 #[(0, Operand.tmp 34)], type := 51, pos := "stream.go:54", after := #[{ on := 5, ground := Ground.data }], guard := none }) rfl (fun K hK => ?_) AllReadyH.nil
            go_simp
            refine hK.out _ _ ((hb7.block _ hwl).trans hrq.out) (fun hHeld6 => ?_)
            clear hK K
            try simp only [Act.put, List.setIfInBounds_toArray, List.set_cons_zero, List.set_cons_succ]
            clear hHeld4 hHeld6
            revert hs7
            revert hr7
            revert hb7
            generalize (w4.alloc (.cells (fSf f).toArray 56)).drew = w7 at *
            revert w7
            exact key2.out
          · go_simp
            refine hK.out _ _ ((hb7.block _ hwl).trans hrq.out) (fun hHeld6 => ?_)
            clear hK K
            try simp only [Act.put, List.setIfInBounds_toArray, List.set_cons_zero, List.set_cons_succ]
            have c2e : (w4.alloc (.cells (fSf f).toArray 56)).drew.cell? ⟨t, 0, none⟩ = some (.slice av L capv) := (cell_laterS (hb7.block t htl) 0).trans c0
            refine wpAnyH_ready (rs := [4]) (by kernel_rfl) (by simp) ?_
            refine AllReadyH.cons (o := { dst := some 33, op := Op.load 51 (Operand.tmp 32), type := 51, pos := "stream.go:54", after := #[{ on := 3, ground := Ground.data }], guard := none }) rfl (fun K hK => ?_) AllReadyH.nil
            go_simp
            refine hK.out _ _ ((hb7.block _ hwl).trans hrq.out) (fun hHeld4 => ?_)
            clear hK K
            try simp only [Act.put, List.setIfInBounds_toArray, List.set_cons_zero, List.set_cons_succ]
            clear hHeld4 hHeld6 c2e
            revert hs7
            revert hr7
            revert hb7
            generalize (w4.alloc (.cells (fSf f).toArray 56)).drew = w7 at *
            revert w7
            exact key2.out
        refine hide ?_
        intro w7 hb7 hr7 hs7
        have hF7 := hide (hF4.out.below hb7)
        have hC7 : Hid (Ch (Fst.foot t (.slice av L capv)) w w7) := (Ch.of_below hB4.out).trans (Ch.of_below hb7)
        refine wpAnyH_ready (rs := [7]) (by kernel_rfl) (by simp) ?_
        refine AllReadyH.cons (o := { dst := some 36, op := Op.call { callee := Callee.builtin Builtin.append, args := #[Operand.tmp 33, Operand.tmp 35], argTypes := #[51, 51] }, type := 51, pos := "stream.go:54", after := #[{ on := 4, ground := Ground.data }, { on := 6, ground := Ground.data }], guard := none }) rfl (fun K hK => ?_) AllReadyH.nil
        have hL1 : ([f] : List Sf).length = 1 := rfl
        refine step_append_sl rfl (.tmp 33) (.tmp 35) rfl wide_Sf sty_Sf (.slice av L capv) l rfl hF7.out.sl ⟨w4.heap.size, 0, none⟩ 1 1 [f] rfl rfl (fun x u hx => ?_) (by have h1 := hL.out; omega) (by omega) ?_
        · rw [Addr.add_lit, cell_of_row _ _ _ _ _ _ hr7, ← hx]
          simp [flat]
        intro v' w9 hS9 hg9 ho9
        have hk9 : ∀ k, k < w4.heap.size → (Value.slice av L capv).ownBlock ≠ some k → w9.heap[k]? = w4.heap[k]? := fun k hk hne => (hg9.block k (by rw [hs7]; omega) (fun e => hne e.symm)).trans (hb7.block k hk)
        have hvt : (Value.slice av L capv).ownBlock ≠ some t := hF4.out.ne
        have hvw : (Value.slice av L capv).ownBlock ≠ some w.heap.size := fun e => hmb.out w.heap.size (.inr e) rfl
        have d2 : w9.cell? ⟨t, 0, none⟩ = some (.slice av L capv) := (cell_laterS (hk9 t htl hvt) 0).trans c0
        refine hK.out _ _ ((hk9 _ hwl hvw).trans hrq.out) (fun hHeld7 => ?_)
        clear hK K
        try simp only [Act.put, List.setIfInBounds_toArray, List.set_cons_zero, List.set_cons_succ]
        refine wpAnyH_take (i := 8) (oi := { dst := some 37, op := Op.nilCheck (Operand.tmp 29), type := 0, pos := "stream.go:54", after := #[{ on := 0, ground := Ground.data }, { on := 0, ground := Ground.phase }, { on := 1, ground := Ground.phase }, { on := 2, ground := Ground.phase }, { on := 3, ground := Ground.phase }, { on := 4, ground := Ground.phase }, { on := 5, ground := Ground.phase }, { on := 6, ground := Ground.phase }, { on := 7, ground := Ground.phase }], guard := none }) (v := ?v12) rfl (by kernel_rfl) (by kernel_rfl) (by kernel_rfl) (fun _ _ _ h => h) (Or.inl ⟨by rfl, ?y12⟩) (by assumption) ?r12
        case y12 => (intro w hSw; (try dsimp only at hSw); (try (go_split_ands)); go_simp; try with_reducible rfl)
        try simp only [Act.put, List.setIfInBounds_toArray, List.set_cons_zero, List.set_cons_succ]
        refine wpAnyH_take (i := 9) (oi := { dst := some 38, op := Op.fieldAddr 53 (Operand.tmp 37) 0, type := 0, pos := "stream.go:54", after := #[{ on := 8, ground := Ground.data }, { on := 0, ground := Ground.phase }, { on := 1, ground := Ground.phase }, { on := 2, ground := Ground.phase }, { on := 3, ground := Ground.phase }, { on := 4, ground := Ground.phase }, { on := 5, ground := Ground.phase }, { on := 6, ground := Ground.phase }, { on := 7, ground := Ground.phase }], guard := none }) (v := ?v13) rfl (by kernel_rfl) (by kernel_rfl) (by kernel_rfl) (fun _ _ _ h => h) (Or.inl ⟨by rfl, ?y13⟩) (by assumption) ?r13
        case y13 => (intro w hSw; (try dsimp only at hSw); (try (go_split_ands)); go_simp; try with_reducible rfl)
        try simp only [Act.put, List.setIfInBounds_toArray, List.set_cons_zero, List.set_cons_succ]
        have hrow9 := (hk9 t htl hvt).trans hF4.out.row
        have z2 : w9.frozen? ⟨t, 0, none⟩ = false := by simp [World.frozen?, hrow9]
        have hnt : v'.ownBlock ≠ some t := fun e => by
          rcases ho9 with e1 | e1
          · rw [e1] at e; exact hvt e
          · rw [e1, hs7] at e; simp at e; omega
        have hFz : Hid (Fst (w9.setCell ⟨t, 0, none⟩ v') t v' (l ++ [f])) :=
          ⟨by rw [heap_setCell_same _ _ _ _ _ _ hrow9]; simp, hS9.blk fun b e => heap_setCell_other w9 ⟨t, 0, none⟩ b _ (fun e' => hnt (by rw [e]; exact congrArg some e')), hnt⟩
        have hCz : Hid (Ch (Fst.foot t (.slice av L capv)) w (w9.setCell ⟨t, 0, none⟩ v')) := (hC7.out.trans ⟨hg9.os, hg9.tape, hg9.output, hg9.size, fun k hk hf => hg9.block k hk (fun e => hf (.inr e.symm))⟩).trans ⟨rfl, rfl, rfl, by simp [World.setCell], fun k _ hk => heap_setCell_other w9 ⟨t, 0, none⟩ k _ (fun e => hk (.inl e))⟩
        have hfo : Hid (∀ b, v'.ownBlock = some b → (Value.slice av L capv).ownBlock = some b ∨ w.heap.size ≤ b) := fun b e => by
          rcases ho9 with e1 | e1
          · exact .inl (by rw [← e1]; exact e)
          · rw [e1, hs7] at e; simp at e; exact .inr (by omega)
        obtain ⟨av', cv', hv'⟩ := hS9.shape
        have hlen1 : (l ++ [f]).length = L + 1 := by rw [← hL.out]; simp
        rw [hlen1] at hv'
        subst hv'
        refine wpAnyH_ready (rs := [10]) (by kernel_rfl) (by simp) ?_
        refine AllReadyH.cons (o := { dst := none, op := Op.store 51 (Operand.tmp 38) (Operand.tmp 36), type := 0, pos := "stream.go:54", after := #[{ on := 9, ground := Ground.data }, { on := 7, ground := Ground.data }, { on := 7, ground := Ground.chain }, { on := 0, ground := Ground.phase }, { on := 1, ground := Ground.phase }, { on := 2, ground := Ground.phase }, { on := 3, ground := Ground.phase }, { on := 4, ground := Ground.phase }, { on := 5, ground := Ground.phase }, { on := 6, ground := Ground.phase }, { on := 7, ground := Ground.phase }], guard := none }) rfl (fun K hK => ?_) AllReadyH.nil
        go_simp
        refine hK.out _ _ ((heap_setCell_other w9 ⟨t, 0, none⟩ w.heap.size _ (Ne.symm htw)).trans ((hk9 _ hwl hvw).trans hrq.out)) (fun hHeld10 => ?_)
        clear hK K
        try simp only [Act.put]
        refine wpAnyH_done (by kernel_rfl) ?_ _
        refine NoPanic.normal ?_
        clear hHeld10 hHeld7 hS9 hg9 ho9 hk9 d2 z2 hrow9 hnt hF7 hC7 hr7 hb7 hs7 hF4 hrq c0
        generalize w9.setCell ⟨t, 0, none⟩ (.slice av' (L + 1) cv') = wz at *
        go_wp2
        go_ret
        exact ⟨rfl, _, hFz.out, by rw [hL.out]; exact hCz.out, by rw [hL.out]; exact hfo.out⟩
    · have hR2 : R = (22, l) := by rw [hR.out, if_neg (by rw [hmf.out]; decide), if_pos hany]
      subst hR2
      have hCz : Hid (Ch (Fst.foot t (.slice av l.length capv)) w w4) := Ch.of_below hB4.out
      clear hR hB4 hr4 hany
      go_wp2
      go_ret
      exact ⟨rfl, _, hF4.out, hCz.out, fun b e => .inl e⟩
end
end Go.Proofs.YtiahiakllpjliaaDoor
