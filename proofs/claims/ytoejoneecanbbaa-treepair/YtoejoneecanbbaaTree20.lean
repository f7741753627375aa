
/-
  Contracts of slices.Clone at tree's types, of tree's Ports and Outs; what clear makes of a slice. Conditions: those that each theorem names.
-/
import Derived.Test.YtoejoneecanbbaaTree19
import Derived.Test.YtoejoneecanbbaaRoleA
import Derived.Lib.LazyBuf
import Derived.Laws.IdiomCopy
namespace Go.Proofs.Ytoejoneecanbbaa
open Go.RowKit
set_option linter.unusedVariables false
set_option maxRecDepth 20000

theorem Try.infoTp : (Try.prog.info? 34).map (fun i => (i.zero, i.size, i.bytes)) = some (some (.agg (fT Tp.zero).toArray), 16, 120) := by kernel_rfl
theorem sty_T : Sty Try.prog 23 34 16 120 := by
  refine ⟨Try.underlying23, ?_, by omega⟩
  have h := Try.infoTp
  cases hi : Try.prog.info? 34 with
  | none => rw [hi] at h; simp at h
  | some i =>
    rw [hi] at h
    simp only [Option.map_some, Option.some.injEq, Prod.mk.injEq] at h
    exact ⟨i, _, rfl, h.1, h.2.1, h.2.2, by rfl⟩
/-- A copy: new memory, or nothing. -/
def Fresh (B : Nat) (v : Value) : Prop := ∀ b, v.ownBlock = some b → B ≤ b
theorem ClonePort_any {w : World} {v : Value} {l : List Tp} (h : Sl w v 34 16 fT l) (hl : l.length ≤ 900000) :
    Calls Try.prog 43 #[v] w fun r w' => ∃ v', r = .returned v' ∧ Sl w' v' 34 16 fT l ∧ Below w.heap.size w w' ∧ Fresh w.heap.size v' := by
  rcases h with ⟨rfl, rfl⟩ | ⟨b, cap, sp, rfl, h1, h2, h3, h4⟩
  · have hq := fun (w : World) => run_eql_slice_nil (P := Try.prog) w 23 34 none 0 0 Try.underlying23
    go_enter Try.func43, Try.ntmps43
    go_wp2
    go_ret
    exact ⟨_, rfl, Sl.nil _ _ _ _, Below.refl _ _, fun b e => by simp [Value.ownBlock] at e⟩
  · have hq := fun (w : World) => run_eql_slice_nil (P := Try.prog) w 23 34 (some ⟨b, 0, none⟩) l.length cap Try.underlying23
    have hA := below1 w (.cells #[] 34)
    have hS : Hid (Sl (w.alloc (.cells #[] 34)) (.slice (some ⟨w.heap.size, 0, none⟩) 0 0) 34 16 fT []) := Sl.made0 _ _ _
    have hms := hide (h1.below hA).cells
    replace h1 := hide h1
    go_enter Try.func43, Try.ntmps43
    go_wp2_with (at_builtin; refine wpList_append_sl rfl (.tmp 5) (.tmp 6) rfl wide_T sty_T _ [] rfl hS.out ⟨b, 0, none⟩ l.length cap l rfl rfl hms.out (by simpa using Nat.le_trans hl (by omega)) (by omega) ?_; intro v' w' hv hg ho)
    obtain ⟨va, vc, rfl⟩ := hv.shape
    have hB : Hid (Below w.heap.size w w') := grown_below hg hA (by rw [World.size_alloc]; omega) (fun b e => Nat.le_of_eq (Option.some.inj e))
    have hF : Hid (Fresh w.heap.size (.slice va ([] ++ l).length vc)) := fun b e => by
      rcases ho with e' | e'
      · rw [e'] at e; exact Nat.le_of_eq (Option.some.inj e)
      · rw [e'] at e; simp [World.size_alloc] at e; omega
    replace hv := hide hv
    clear hg ho hq hms hS
    go_wp2
    go_ret
    exact ⟨_, rfl, hv.out, hB.out, hF.out⟩
theorem CloneOut_any {w : World} {v : Value} {l : List Ot} (h : Sl w v 77 17 fO l) (hl : l.length ≤ 900000) :
    Calls Try.prog 44 #[v] w fun r w' => ∃ v', r = .returned v' ∧ Sl w' v' 77 17 fO l ∧ Below w.heap.size w w' ∧ Fresh w.heap.size v' := by
  rcases h with ⟨rfl, rfl⟩ | ⟨b, cap, sp, rfl, h1, h2, h3, h4⟩
  · have hq := fun (w : World) => run_eql_slice_nil (P := Try.prog) w 59 77 none 0 0 Try.underlying59
    go_enter Try.func44, Try.ntmps44
    go_wp2
    go_ret
    exact ⟨_, rfl, Sl.nil _ _ _ _, Below.refl _ _, fun b e => by simp [Value.ownBlock] at e⟩
  · have hq := fun (w : World) => run_eql_slice_nil (P := Try.prog) w 59 77 (some ⟨b, 0, none⟩) l.length cap Try.underlying59
    have hA := below1 w (.cells #[] 77)
    have hS : Hid (Sl (w.alloc (.cells #[] 77)) (.slice (some ⟨w.heap.size, 0, none⟩) 0 0) 77 17 fO []) := Sl.made0 _ _ _
    have hms := hide (h1.below hA).cells
    replace h1 := hide h1
    go_enter Try.func44, Try.ntmps44
    go_wp2_with (at_builtin; refine wpList_append_sl rfl (.tmp 5) (.tmp 6) rfl wide_O sty_O _ [] rfl hS.out ⟨b, 0, none⟩ l.length cap l rfl rfl hms.out (by simpa using Nat.le_trans hl (by omega)) (by omega) ?_; intro v' w' hv hg ho)
    obtain ⟨va, vc, rfl⟩ := hv.shape
    have hB : Hid (Below w.heap.size w w') := grown_below hg hA (by rw [World.size_alloc]; omega) (fun b e => Nat.le_of_eq (Option.some.inj e))
    have hF : Hid (Fresh w.heap.size (.slice va ([] ++ l).length vc)) := fun b e => by
      rcases ho with e' | e'
      · rw [e'] at e; exact Nat.le_of_eq (Option.some.inj e)
      · rw [e'] at e; simp [World.size_alloc] at e; omega
    replace hv := hide hv
    clear hg ho hq hms hS
    go_wp2
    go_ret
    exact ⟨_, rfl, hv.out, hB.out, hF.out⟩
theorem Ports_any {w : World} {m : Mt} {T : Tt} (h : Tr w m T) :
    Calls Try.prog 20 #[.pointer (some ⟨m.tb, 0, none⟩)] w fun r w' => ∃ v', r = .returned v' ∧ Sl w' v' 34 16 fT T.ps ∧ Below w.heap.size w w' ∧ Fresh w.heap.size v' := by
  have hfew := h.few
  have hC := hide (ClonePort_any h.ports (by omega))
  obtain ⟨a, cap0, hv⟩ := h.ports.shape
  have c1 := h.cell 1
  simp only [treeRow, List.getElem?_cons_succ, List.getElem?_cons_zero] at c1
  rw [hv] at c1 hC
  clear hv h
  generalize T.ps.length = n at *
  go_enter Try.func20, Try.ntmps20
  go_wp2_with fail
  refine hC.out.mono ?_
  rintro e w1 ⟨v', rfl, h1, h2, h3⟩
  obtain ⟨va, vc, rfl⟩ := h1.shape
  replace h1 := hide h1
  replace h2 := hide h2
  replace h3 := hide h3
  clear hC c1
  go_wp2
  go_ret
  exact ⟨_, rfl, h1.out, h2.out, h3.out⟩
/-- What clear makes of a slice. -/
theorem clear_rows {α : Type} {P : Program} {w : World} {b : Nat} {t e : TypeId} {m : Nat} {f : α → List Value} {l : List α} {sp : List Value} (h : Fl w b e f l sp) (hf : Wide f m) (hm : 0 < m) (z : α) (hz : ∀ w, (zeroValue e).run P w = .ok (.agg (f z).toArray) w) (ht : P.underlying t = some (.slice e)) (cap : Nat) :
    ∃ w', (∀ ty, (Builtin.clear_ #[t] ty #[.slice (some ⟨b, 0, none⟩) l.length cap]).run P w = .ok (.tuple #[]) w') ∧ Wr b w w' ∧ ∃ cs : List Value, cs.length = l.length * m + sp.length ∧ w'.heap[b]? = some (.cells cs.toArray e (0, 0)) := by
  rcases Nat.eq_zero_or_pos l.length with h0 | h0
  · refine ⟨w, fun ty => ?_, Wr.refl _ _, flat f l ++ sp, by rw [List.length_append, flat_length hf], h⟩
    rw [h0]
    simp [Builtin.clear_, run_underlying ht]
  · have hzc : (Builtin.zeroCells (f z).toArray l.length).toList = flat f (List.replicate l.length z) := by
      have := made_flat hf z hm l.length
      unfold Builtin.zeroCells
      rw [show (f z).toArray.size = m by simp [hf.len]]
      rw [show (Array.map (fun i => (f z).toArray[i % m]!) (Array.range (l.length * m))) = madeCells (f z).toArray (l.length * m) by unfold madeCells; simp [hf.len], this]
    have hlt : ∀ j, j < (flat f (List.replicate l.length z)).length → j < (flat f l ++ sp).length := fun j hj => by
      rw [flat_length hf, List.length_replicate] at hj
      rw [List.length_append, flat_length hf]; omega
    have hst := run_storeCells_cells (P := P) b 0 (flat f (List.replicate l.length z)) 0 w (fun j hj => by
      simp only [Nat.zero_add]; rw [cell_of_row _ _ _ _ _ _ h, List.getElem?_toArray, List.getElem?_eq_getElem (hlt j hj)]; rfl) (fun j hj => h.frozen _) (flat_one hf _)
    simp only [Nat.add_zero] at hst
    refine ⟨w.setCells b 0 (flat f (List.replicate l.length z)), fun ty => ?_, Wr.cells _ _ _ (Wr.refl _ _), _, ?_, heap_setCells b e _ 0 w _ h⟩
    · obtain ⟨k, hk⟩ : ∃ k, l.length = k + 1 := ⟨l.length - 1, by omega⟩
      rw [hk] at hzc hst ⊢
      simp [Builtin.clear_, run_underlying ht, hz, hzc, hst, Value.cells]
    · rw [setL_length, List.length_append, flat_length hf]
def tookT (T : Tt) : Tt := { T with outs := [] }
theorem tookT_ok {T : Tt} (h : T.ok) : (tookT T).ok := ⟨h.id, h.port, h.rp, h.tells⟩
/-- The outs are another slice in the same block, or nothing. -/
theorem Tr.outs_cut {w w' : World} {m : Mt} {T : Tt} (h : Tr w m T) (v : Value) (hS : Sl w' v 77 17 fO []) (hv : v.ownBlock = m.ov.ownBlock) (h1 : w'.os = w.os) (h2 : w'.tape = w.tape) (h3 : w'.output = w.output) (h4 : w.heap.size ≤ w'.heap.size) (ho : ∀ k, k < w.heap.size → m.ov.ownBlock ≠ some k → w'.heap[k]? = w.heap[k]?) :
    Tr (w'.setCell ⟨m.tb, 9, none⟩ v) ⟨m.tb, m.pv, v, m.ib, m.vb⟩ (tookT T) ∧ Goes m w ⟨m.tb, m.pv, v, m.ib, m.vb⟩ (w'.setCell ⟨m.tb, 9, none⟩ v) := by
  have hso : ∀ k, k ≠ m.tb → (w'.setCell ⟨m.tb, 9, none⟩ v).heap[k]? = w'.heap[k]? := fun k hk => heap_setCell_other w' ⟨m.tb, 9, none⟩ k v hk
  have hft : ∀ k, (⟨m.tb, m.pv, v, m.ib, m.vb⟩ : Mt).foot k → m.foot k := fun k hk => by
    rcases hk with e | e | e
    · exact .inl e
    · exact .inr (.inl e)
    · exact .inr (.inr (by rw [← hv]; exact e))
  have hib := h.roles.lt
  have hvb := h.tells.lt
  have hkeep : ∀ k, k < w.heap.size → k ≠ m.tb → m.ov.ownBlock ≠ some k → (w'.setCell ⟨m.tb, 9, none⟩ v).heap[k]? = w.heap[k]? := fun k hk hn hm => (hso k hn).trans (ho k hk hm)
  refine ⟨⟨?_, ?_, ?_, h.roles.blk (hkeep _ hib (fun e => h.a4 (.inl e)) (fun e => h.a4 (.inr (.inr e)))), h.tells.blk (hkeep _ hvb (fun e => h.a5 (.inl e)) (fun e => h.a5 (.inr (.inr e)))), h.fg, h.few, h.rl, h.tl, h.a1, by show v.ownBlock ≠ _; rw [hv]; exact h.a2, fun b e => by show v.ownBlock ≠ _; rw [hv]; exact h.a3 b e, fun e => h.a4 (hft _ e), fun e => h.a5 (hft _ e)⟩, ⟨rfl, rfl, fun k hk => .inl (hft k hk), h1, h2, h3, by simp only [World.setCell]; simpa using h4, fun k hk hn => hkeep k hk (fun e => hn (.inl e)) (fun e => hn (.inr (.inr e)))⟩⟩
  · rw [heap_setCell_same _ _ _ _ _ _ ((ho m.tb h.ltb h.a2).trans h.row)]
    simp [tookT]
  · exact h.ports.blk fun b e => hkeep b (h.ports.lt e) (fun e' => h.a1 (by rw [e, e'])) (h.a3 b e)
  · exact hS.blk fun b e => hso b (fun e' => h.a2 (by rw [← hv, e, e']))
theorem Outs_any {w : World} {m : Mt} {T : Tt} (h : Tr w m T) (ho : T.outs.length ≤ 900000) :
    Calls Try.prog 21 #[.pointer (some ⟨m.tb, 0, none⟩)] w fun r w' => ∃ v', r = .returned v' ∧ Sl w' v' 77 17 fO T.outs ∧ Fresh w.heap.size v' ∧ ∃ m', Tr w' m' (tookT T) ∧ Goes m w m' w' ∧ ∀ k, m'.foot k → m.foot k := by
  have hC := hide (CloneOut_any h.outs ho)
  have c9 := h.cell 9
  simp only [treeRow, List.getElem?_cons_succ, List.getElem?_cons_zero] at c9
  have hltb := h.ltb
  have z9 := h.frozen 9
  rcases h.outs with ⟨hv, hl⟩ | ⟨ob, cap, sp, hv, h1, h2, h3, h4⟩
  · rw [hv] at c9 hC
    have hfin := hide (fun (W : World) (hb : Below w.heap.size w W) => (h.below hb).outs_cut (w' := W) (.slice none 0 0) (Sl.nil _ _ _ _) (by rw [hv]) rfl rfl rfl (Nat.le_refl _) (fun k _ _ => rfl))
    rw [hl] at hC
    rw [hl]
    have hov : Hid (m.ov = .slice none 0 0) := hv
    have hcl : ∀ (ty : TypeId) (W : World), (Builtin.clear_ #[59] ty #[.slice none 0 0]).run Try.prog W = .ok (.tuple #[]) W := fun ty W => by simp [Builtin.clear_, run_underlying Try.underlying59]
    replace h := hide h
    clear hv hl
    go_enter Try.func21, Try.ntmps21
    go_wp2_with fail
    refine hC.out.mono ?_
    rintro e w1 ⟨v', rfl, g1, g2, g3⟩
    obtain ⟨va, vc, rfl⟩ := g1.shape
    have d9 : w1.cell? ⟨m.tb, 9, none⟩ = _ := ((bcell g2).1 _ 9 hltb).trans c9
    have y9 : w1.frozen? ⟨m.tb, 9, none⟩ = false := ((bcell g2).2 _ 9 hltb).trans z9
    obtain ⟨hT, hG⟩ := hfin.out _ g2
    have hF : Hid (∃ m', Tr (w1.setCell ⟨m.tb, 9, none⟩ (.slice none 0 0)) m' (tookT T) ∧ Goes m w m' (w1.setCell ⟨m.tb, 9, none⟩ (.slice none 0 0)) ∧ ∀ k, m'.foot k → m.foot k) := ⟨_, hT, (Goes.of_below g2).trans hG, fun k hk => by
      rcases hk with e | e | e
      · exact .inl e
      · exact .inr (.inl e)
      · simp [Value.ownBlock] at e⟩
    have hS1 : Hid (Sl (w1.setCell ⟨m.tb, 9, none⟩ (.slice none 0 0)) (.slice va ([] : List Ot).length vc) 77 17 fO []) := g1.blk fun b e => heap_setCell_other w1 ⟨m.tb, 9, none⟩ b _ (fun e' => by have := g3 b e; dsimp only at e'; omega)
    replace g3 := hide g3
    clear hC hfin hT hG g1 g2 c9 z9
    go_wp2
    go_ret
    exact ⟨_, rfl, hS1.out, g3.out, hF.out⟩
  · rw [hv] at c9 hC
    have hna : m.tb ≠ ob := fun e => h.a2 (by rw [hv, e]; rfl)
    have hzv : ∀ w, (zeroValue 77).run Try.prog w = .ok (.agg (fO Ot.zero).toArray) w := fun w => by rfl
    have hcl := hide (fun (W : World) (hb : Below w.heap.size w W) => clear_rows (P := Try.prog) (t := 59) (h1.below hb) wide_O (by omega) Ot.zero hzv Try.underlying59 cap)
    have hobl := h1.lt
    have hov : Hid (m.ov.ownBlock = some ob) := by show _ = _; rw [hv]; rfl
    have hnum := hide h4
    have hcm := hide h3
    have hlc := hide h2
    generalize hn : T.outs.length = n at *
    replace hn := hide hn
    have hn1 : n ≤ cap := hlc.out
    replace h := hide h
    clear hv h1 h2 h3 h4
    go_enter Try.func21, Try.ntmps21
    go_wp2_with fail
    refine hC.out.mono ?_
    rintro e w1 ⟨v', rfl, g1, g2, g3⟩
    obtain ⟨va, vc, rfl⟩ := g1.shape
    have d9 : w1.cell? ⟨m.tb, 9, none⟩ = _ := ((bcell g2).1 _ 9 hltb).trans c9
    have y9 : w1.frozen? ⟨m.tb, 9, none⟩ = false := ((bcell g2).2 _ 9 hltb).trans z9
    obtain ⟨w2, hr2, hW2, cs, hcs, hb2⟩ := hcl.out _ g2
    have e9 : w2.cell? ⟨m.tb, 9, none⟩ = _ := (World.cell?_of_block (a := ⟨m.tb, 9, none⟩) (hW2.block m.tb hna)).trans d9
    have x9 : w2.frozen? ⟨m.tb, 9, none⟩ = false := (World.frozen?_of_block (a := ⟨m.tb, 9, none⟩) (hW2.block m.tb hna)).trans y9
    have hSv : Sl w2 (.slice (some ⟨ob, 0, none⟩) 0 cap) 77 17 fO [] := .inr ⟨ob, cap, cs, rfl, hb2, Nat.zero_le _, hcm.out, by rw [hcs]; simpa using hnum.out⟩
    obtain ⟨hT, hG⟩ := h.out.outs_cut (.slice (some ⟨ob, 0, none⟩) 0 cap) hSv hov.out.symm (hW2.os.trans g2.os) (hW2.tape.trans g2.tape) (hW2.output.trans g2.output) (by rw [← hW2.size]; exact g2.size) (fun k hk hne => (hW2.block k (fun e => hne (by rw [e]; exact hov.out))).trans (g2.block k hk))
    have hF : Hid (∃ m', Tr (w2.setCell ⟨m.tb, 9, none⟩ (.slice (some ⟨ob, 0, none⟩) 0 cap)) m' (tookT T) ∧ Goes m w m' (w2.setCell ⟨m.tb, 9, none⟩ (.slice (some ⟨ob, 0, none⟩) 0 cap)) ∧ ∀ k, m'.foot k → m.foot k) := ⟨_, hT, hG, fun k hk => by
      rcases hk with e | e | e
      · exact .inl e
      · exact .inr (.inl e)
      · exact .inr (.inr (by rw [hov.out]; exact e))⟩
    have hS1 : Hid (Sl (w2.setCell ⟨m.tb, 9, none⟩ (.slice (some ⟨ob, 0, none⟩) 0 cap)) (.slice va T.outs.length vc) 77 17 fO T.outs) := g1.blk fun b e => (heap_setCell_other w2 ⟨m.tb, 9, none⟩ b _ (fun e' => by have := g3 b e; dsimp only at e'; omega)).trans (hW2.block b (fun e' => by have := g3 b e; omega))
    have g3' : Hid (Fresh w.heap.size (.slice va T.outs.length vc)) := g3
    rw [hn.out] at g3' hS1 ⊢
    clear hC hcl hT hG g1 g2 g3 c9 z9 hSv hW2 hb2 hcs
    go_wp2
    go_ret
    exact ⟨_, rfl, hS1.out, g3'.out, hF.out⟩
end Go.Proofs.Ytoejoneecanbbaa
