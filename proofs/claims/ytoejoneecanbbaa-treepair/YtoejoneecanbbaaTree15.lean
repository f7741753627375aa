
/-
  The contract of a tree's port's take. Conditions: those that each theorem names.
-/
import Derived.Test.YtoejoneecanbbaaTree14
namespace Go.Proofs.Ytoejoneecanbbaa
open Go.RowKit
set_option linter.unusedVariables false
set_option maxRecDepth 20000

theorem step_store_mid {P : Program} {ops : Array Oper} {o : Oper} {a : Act} {w : World} {K : Act → World → Prop} {Q : Exit → Act → World → Prop} {E : Prop} (hw : Region.wanted o (yielded ops a.tmps) = true) (ty : TypeId) (x y : Operand) (ho : o.op = .store ty x y)
    (b of : Nat) (cells : Array Value) (hx : a.eval x = .pointer (some ⟨b, of, none⟩)) (hy : a.eval y = .agg cells)
    (ht : w.there b of cells.size) (hi : (P.info? ty).map (·.size) = some cells.size) (h1 : cells.all (·.oneCell') = true)
    (h : K (a.put o.dst undef) (w.setCells b of cells.toList)) : if Region.wanted o (yielded ops a.tmps) = true then Oper.wp P o a w K Q else E := by
  rw [if_pos hw]
  exact wp_store_mid ty x y ho b of cells hx hy ht hi h1 h
def gotP (p : Tp) (m : Bp) : Tp := ⟨⟨p.b.id, p.b.cost, p.b.up, true, m.vec⟩, p.edge, p.role, p.state, m.age + 256, 6, p.wait, p.change, p.agreed⟩
def tookP (p : Tp) (m : Bp) : Tp := if m.age + 256 < m.maxAge then gotP p m else dropP p
theorem tookP_ok {p : Tp} (h : p.ok) {m : Bp} (hm : m.wf) (ha : 0 ≤ m.age ∧ m.age ≤ 65535) : (tookP p m).ok := by
  unfold tookP
  split
  · exact ⟨⟨h.b.id, h.b.cost, ⟨hm.root, hm.cost, hm.bridge, hm.port⟩⟩, by show 0 ≤ m.age + 256 ∧ m.age + 256 ≤ 66000; omega, by show (0 : Int) ≤ 6 ∧ (6 : Int) ≤ 6; omega, h.wait, h.change, h.role, h.state⟩
  · exact dropP_ok h
set_option maxHeartbeats 4000000 in
theorem take_any {w : World} {m : Mt} {T : Tt} (h : Tr w m T) {i pb cap : Nat} {sp : List Value} (hP : PtAt w m T i pb cap sp) (b : Bp) (hag : 0 ≤ b.age ∧ b.age ≤ 65535) :
    Calls Try.prog 61 #[.pointer (some ⟨pb, i * 16, none⟩), .agg b.row] w fun e w' => e = .returned (.tuple #[]) ∧ Tr w' m (setP T i (tookP (T.at i) b)) ∧ Goes m w m w' := by
  have hE : Hid (tookP (T.at i) b = if b.age + 256 < b.maxAge then gotP (T.at i) b else dropP (T.at i)) := rfl
  obtain ⟨kd, r0, r1, r2, r3, b5, b6, b7, b8, b9, b10, ro, ag, mx, he, de⟩ := b
  dsimp only at *
  obtain ⟨hag0, hag1⟩ := hag
  have hA := below1 w (.cells (Bp.row ⟨kd, r0, r1, r2, r3, b5, b6, b7, b8, b9, b10, ro, ag, mx, he, de⟩) 40)
  have hM0 := heap_alloc_new w (.cells (Bp.row ⟨kd, r0, r1, r2, r3, b5, b6, b7, b8, b9, b10, ro, ag, mx, he, de⟩) 40)
  have hPA : PtAt (w.alloc (.cells (Bp.row ⟨kd, r0, r1, r2, r3, b5, b6, b7, b8, b9, b10, ro, ag, mx, he, de⟩) 40)) m T i pb cap sp := ⟨hP.pv, hP.fl.below hA, hP.hi⟩
  have hTA := h.below hA
  have hdr := hide (dropTold_any hTA hPA)
  have hnf : ¬ m.foot w.heap.size := fun e => by have := h.lt _ e; omega
  have hsz := World.size_alloc w (.cells (Bp.row ⟨kd, r0, r1, r2, r3, b5, b6, b7, b8, b9, b10, ro, ag, mx, he, de⟩) 40)
  have hi := hP.hi
  have hpbw := hP.fl.lt
  have hG0 : Hid (Goes m w m (w.alloc (.cells (Bp.row ⟨kd, r0, r1, r2, r3, b5, b6, b7, b8, b9, b10, ro, ag, mx, he, de⟩) 40))) := Goes.of_below hA
  have hpv := hide hP.pv
  clear hTA hPA hA hP
  replace h := hide h
  go_enter Try.func61, Try.ntmps61
  go_wp2_with fail
  refine hdr.out.mono ?_
  rintro e w2 ⟨rfl, hT2, hG2⟩
  have hM2 := hide ((hG2.block w.heap.size (by rw [hsz]; omega) hnf).trans hM0)
  have hG3 := hide (hG0.out.trans hG2)
  have k9 : w2.cell? ⟨w.heap.size, 12, none⟩ = some (.int .i64 ag) := (cell_of_row _ _ _ _ _ _ hM2.out).trans rfl
  have k10 : w2.cell? ⟨w.heap.size, 13, none⟩ = some (.int .i64 mx) := (cell_of_row _ _ _ _ _ _ hM2.out).trans rfl
  obtain ⟨pb2, cap2, sp2, hP2, _, hne2, hlp2⟩ := hT2.at_i i (by rw [setP_len]; exact hi)
  have hpe : pb2 = pb := by
    have e1 := hP2.pv
    rw [hpv.out] at e1
    simp only [Value.slice.injEq, Option.some.injEq, Addr.mk.injEq, and_true] at e1
    exact e1.1.symm
  subst hpe
  have hi2 : i < (setP T i (dropP (T.ps.getD i Tp.zero))).ps.length := by rw [setP_len]; exact hi
  have F0 : Fl w2 pb2 34 fT ((setP T i (dropP (T.ps.getD i Tp.zero))).ps.set i (dropP (T.at i))) sp2 := by
    have := hP2.fl.at_set Tp.zero i hi2
    rwa [show (setP T i (dropP (T.ps.getD i Tp.zero))).ps.getD i Tp.zero = dropP (T.at i) from (setP_at T i i _ hi).trans (if_pos rfl)] at this
  by_cases hlt : ag + 256 < mx
  rotate_left
  · have hV : tookP (T.at i) ⟨kd, r0, r1, r2, r3, b5, b6, b7, b8, b9, b10, ro, ag, mx, he, de⟩ = dropP (T.at i) := hE.out.trans (if_neg hlt)
    replace hV := hide hV
    replace hT2 := hide hT2
    clear hP2 F0 hdr hG2
    go_wp2
    exact v_end rfl rfl ⟨rfl, by rw [hV.out]; exact hT2.out, hG3.out⟩
  · have hV : tookP (T.at i) ⟨kd, r0, r1, r2, r3, b5, b6, b7, b8, b9, b10, ro, ag, mx, he, de⟩ = gotP (T.at i) ⟨kd, r0, r1, r2, r3, b5, b6, b7, b8, b9, b10, ro, ag, mx, he, de⟩ := hE.out.trans (if_pos hlt)
    replace hV := hide hV
    have F1 := F0.put wide_T 3 (.bool true) { dropP (T.at i) with b := { (dropP (T.at i)).b with has := true } } hi2 (by omega) rfl
    have F1d : Fl (w2.setCell ⟨pb2, i * 16 + 3, none⟩ (.bool true)).drew pb2 34 fT _ sp2 := F1
    have W1 := (Wr.refl pb2 w2).cell (i * 16 + 3) (.bool true)
    have W1d : Wr pb2 w2 (w2.setCell ⟨pb2, i * 16 + 3, none⟩ (.bool true)).drew := ⟨W1.os, W1.tape, W1.output, W1.size, W1.block⟩
    have F2 := F1d.putn wide_T 4 (fV ⟨r0, r1, r2, r3⟩) { dropP (T.at i) with b := { (dropP (T.at i)).b with has := true, told := ⟨r0, r1, r2, r3⟩ } } hi2 (by simp) rfl
    have F4 := (F2.put wide_T 11 (.int .i64 (ag + 256)) { dropP (T.at i) with b := { (dropP (T.at i)).b with has := true, told := ⟨r0, r1, r2, r3⟩ }, age := ag + 256 } hi2 (by omega) rfl).put wide_T 12 (.int .i64 6) (gotP (T.at i) ⟨kd, r0, r1, r2, r3, b5, b6, b7, b8, b9, b10, ro, ag, mx, he, de⟩) hi2 (by omega) rfl
    have W2 : Wr pb2 w2 ((w2.setCell ⟨pb2, i * 16 + 3, none⟩ (.bool true)).drew.setCells pb2 (i * 16 + 4) (fV ⟨r0, r1, r2, r3⟩)) := Wr.cells _ _ _ W1d
    have hfin := hide (hT2.put hP2 _ F4 ((W2.cell _ _).cell _ _))
    rw [setP_setP] at hfin
    have c3 := (F0.tp_set hi2).c3
    have z3 := F0.frozen (i * 16 + 3)
    have hth := hide (F1.there wide_T Tp.zero i 4 4 (by rw [List.length_set]; exact hi2) (by omega))
    have D := F2.tp_set hi2
    have c11 := hide D.c11
    have c12 := hide D.c12
    have z11 := hide (F2.frozen (i * 16 + 11))
    have z12 := hide (F2.frozen (i * 16 + 12))
    have hwp : w.heap.size ≠ pb2 := by omega
    have hSS : Hid (∀ W : World, W.heap[w.heap.size]? = w2.heap[w.heap.size]? → W.cell? ⟨w.heap.size, 1, none⟩ = some (.int .u64 r0) ∧ W.cell? ⟨w.heap.size, 2, none⟩ = some (.int .u64 r1) ∧ W.cell? ⟨w.heap.size, 3, none⟩ = some (.int .u64 r2) ∧ W.cell? ⟨w.heap.size, 4, none⟩ = some (.int .i64 r3)) := fun W hW => by
      have hk := hW.trans hM2.out
      exact ⟨(cell_of_row _ _ _ _ _ _ hk).trans rfl, (cell_of_row _ _ _ _ _ _ hk).trans rfl, (cell_of_row _ _ _ _ _ _ hk).trans rfl, (cell_of_row _ _ _ _ _ _ hk).trans rfl⟩
    clear F0 F1 F2 F4 D W2 F1d W1 W1d hP2 hT2 hdr hG2
    go_wp2_with fail
    refine wp_region_noPanic ?_
    refine wp_region_held_drew (S := fun W => W.cell? ⟨w.heap.size, 1, none⟩ = some (.int .u64 r0) ∧ W.cell? ⟨w.heap.size, 2, none⟩ = some (.int .u64 r1) ∧ W.cell? ⟨w.heap.size, 3, none⟩ = some (.int .u64 r2) ∧ W.cell? ⟨w.heap.size, 4, none⟩ = some (.int .i64 r3)) (by kernel_rfl) (hSS.out _ rfl) (fun hHeld => ?_)
    refine wpAnyH_take (i := 0) (oi := { dst := some 14, op := Op.move (Operand.tmp 0), type := 89, pos := "tree.go:289", after := #[], guard := none }) (v := ?v1) rfl (by kernel_rfl) (by kernel_rfl) (by kernel_rfl) (fun _ _ _ h => h) (Or.inl ⟨by rfl, ?y1⟩) (by assumption) ?r1
    case y1 => (intro w hSw; (try dsimp only at hSw); (try (go_split_ands)); go_simp; try with_reducible rfl)
    try simp only [Act.put, List.setIfInBounds_toArray, List.set_cons_zero, List.set_cons_succ]
    refine wpAnyH_take (i := 1) (oi := { dst := some 15, op := Op.move (Operand.tmp 0), type := 89, pos := "tree.go:289", after := #[{ on := 7, ground := Ground.gcOnly Departure.lateStores }], guard := none }) (v := ?v2) rfl (by kernel_rfl) (by kernel_rfl) (by kernel_rfl) (fun _ _ _ h => h) (Or.inl ⟨by rfl, ?y2⟩) (by assumption) ?r2
    case y2 => (intro w hSw; (try dsimp only at hSw); (try (go_split_ands)); go_simp; try with_reducible rfl)
    try simp only [Act.put, List.setIfInBounds_toArray, List.set_cons_zero, List.set_cons_succ]
    refine wpAnyH_take (i := 2) (oi := { dst := some 16, op := Op.fieldAddr 40 (Operand.tmp 3) 1, type := 0, pos := "tree.go:289", after := #[{ on := 7, ground := Ground.gcOnly Departure.lateStores }], guard := none }) (v := ?v3) rfl (by kernel_rfl) (by kernel_rfl) (by kernel_rfl) (fun _ _ _ h => h) (Or.inl ⟨by rfl, ?y3⟩) (by assumption) ?r3
    case y3 => (intro w hSw; (try dsimp only at hSw); (try (go_split_ands)); go_simp; try with_reducible rfl)
    try simp only [Act.put, List.setIfInBounds_toArray, List.set_cons_zero, List.set_cons_succ]
    refine wpAnyH_take (i := 3) (oi := { dst := some 17, op := Op.load 30 (Operand.tmp 16), type := 30, pos := "tree.go:289", after := #[{ on := 2, ground := Ground.data }, { on := 7, ground := Ground.gcOnly Departure.lateStores }], guard := none }) (v := ?v4) rfl (by kernel_rfl) (by kernel_rfl) (by kernel_rfl) (fun _ _ _ h => h) (Or.inl ⟨by rfl, ?y4⟩) (by assumption) ?r4
    case y4 => (intro w hSw; (try dsimp only at hSw); (try (go_split_ands)); go_simp; try with_reducible rfl)
    try simp only [Act.put, List.setIfInBounds_toArray, List.set_cons_zero, List.set_cons_succ]
    refine wpAnyH_take (i := 4) (oi := { dst := some 18, op := Op.nilCheck (Operand.tmp 14), type := 0, pos := "tree.go:289", after := #[{ on := 0, ground := Ground.data }, { on := 0, ground := Ground.phase }, { on := 1, ground := Ground.textOnly Departure.lateStores }, { on := 2, ground := Ground.textOnly Departure.lateStores }, { on := 3, ground := Ground.textOnly Departure.lateStores }], guard := none }) (v := ?v5) rfl (by kernel_rfl) (by kernel_rfl) (by kernel_rfl) (fun _ _ _ h => h) (Or.inl ⟨by rfl, ?y5⟩) (by assumption) ?r5
    case y5 => (intro w hSw; (try dsimp only at hSw); (try (go_split_ands)); go_simp; try with_reducible rfl)
    try simp only [Act.put, List.setIfInBounds_toArray, List.set_cons_zero, List.set_cons_succ]
    refine wpAnyH_take (i := 5) (oi := { dst := some 19, op := Op.fieldAddr 34 (Operand.tmp 18) 0, type := 0, pos := "tree.go:289", after := #[{ on := 4, ground := Ground.data }, { on := 0, ground := Ground.phase }, { on := 1, ground := Ground.textOnly Departure.lateStores }, { on := 2, ground := Ground.textOnly Departure.lateStores }, { on := 3, ground := Ground.textOnly Departure.lateStores }], guard := none }) (v := ?v6) rfl (by kernel_rfl) (by kernel_rfl) (by kernel_rfl) (fun _ _ _ h => h) (Or.inl ⟨by rfl, ?y6⟩) (by assumption) ?r6
    case y6 => (intro w hSw; (try dsimp only at hSw); (try (go_split_ands)); go_simp; try with_reducible rfl)
    try simp only [Act.put, List.setIfInBounds_toArray, List.set_cons_zero, List.set_cons_succ]
    refine wpAnyH_take (i := 6) (oi := { dst := some 20, op := Op.fieldAddr 32 (Operand.tmp 19) 3, type := 0, pos := "tree.go:289", after := #[{ on := 5, ground := Ground.data }, { on := 0, ground := Ground.phase }, { on := 1, ground := Ground.textOnly Departure.lateStores }, { on := 2, ground := Ground.textOnly Departure.lateStores }, { on := 3, ground := Ground.textOnly Departure.lateStores }], guard := none }) (v := ?v7) rfl (by kernel_rfl) (by kernel_rfl) (by kernel_rfl) (fun _ _ _ h => h) (Or.inl ⟨by rfl, ?y7⟩) (by assumption) ?r7
    case y7 => (intro w hSw; (try dsimp only at hSw); (try (go_split_ands)); go_simp; try with_reducible rfl)
    try simp only [Act.put, List.setIfInBounds_toArray, List.set_cons_zero, List.set_cons_succ]
    have c3d : w2.drew.cell? ⟨pb2, i * 16 + 3, none⟩ = _ := c3
    have z3d : w2.drew.frozen? ⟨pb2, i * 16 + 3, none⟩ = false := z3
    refine wpAnyH_ready (rs := [7]) (by kernel_rfl) (by simp) ?_
    refine AllReadyH.cons (o := { dst := none, op := Op.store 4 (Operand.tmp 20) (Operand.const (Value.bool true)), type := 0, pos := "tree.go:289", after := #[{ on := 6, ground := Ground.data }, { on := 0, ground := Ground.phase }, { on := 1, ground := Ground.textOnly Departure.lateStores }, { on := 2, ground := Ground.textOnly Departure.lateStores }, { on := 3, ground := Ground.textOnly Departure.lateStores }], guard := none }) rfl (fun K hK => ?_) AllReadyH.nil
    go_simp
    refine hK.out _ _ (hSS.out _ (heap_setCell_other w2 ⟨pb2, i * 16 + 3, none⟩ w.heap.size _ hwp)) (fun hHeld7 => ?_)
    clear hK K
    try simp only [Act.put]
    refine wpAnyH_take (i := 8) (oi := { dst := some 21, op := Op.nilCheck (Operand.tmp 15), type := 0, pos := "tree.go:289", after := #[{ on := 1, ground := Ground.data }, { on := 0, ground := Ground.phase }, { on := 1, ground := Ground.phase }, { on := 2, ground := Ground.phase }, { on := 3, ground := Ground.phase }, { on := 4, ground := Ground.phase }, { on := 5, ground := Ground.phase }, { on := 6, ground := Ground.phase }, { on := 7, ground := Ground.phase }], guard := none }) (v := ?v8) rfl (by kernel_rfl) (by kernel_rfl) (by kernel_rfl) (fun _ _ _ h => h) (Or.inl ⟨by rfl, ?y8⟩) (by assumption) ?r8
    case y8 => (intro w hSw; (try dsimp only at hSw); (try (go_split_ands)); go_simp; try with_reducible rfl)
    try simp only [Act.put, List.setIfInBounds_toArray, List.set_cons_zero, List.set_cons_succ]
    refine wpAnyH_take (i := 9) (oi := { dst := some 22, op := Op.fieldAddr 34 (Operand.tmp 21) 0, type := 0, pos := "tree.go:289", after := #[{ on := 8, ground := Ground.data }, { on := 0, ground := Ground.phase }, { on := 1, ground := Ground.phase }, { on := 2, ground := Ground.phase }, { on := 3, ground := Ground.phase }, { on := 4, ground := Ground.phase }, { on := 5, ground := Ground.phase }, { on := 6, ground := Ground.phase }, { on := 7, ground := Ground.phase }], guard := none }) (v := ?v9) rfl (by kernel_rfl) (by kernel_rfl) (by kernel_rfl) (fun _ _ _ h => h) (Or.inl ⟨by rfl, ?y9⟩) (by assumption) ?r9
    case y9 => (intro w hSw; (try dsimp only at hSw); (try (go_split_ands)); go_simp; try with_reducible rfl)
    try simp only [Act.put, List.setIfInBounds_toArray, List.set_cons_zero, List.set_cons_succ]
    refine wpAnyH_take (i := 10) (oi := { dst := some 23, op := Op.fieldAddr 32 (Operand.tmp 22) 4, type := 0, pos := "tree.go:289", after := #[{ on := 9, ground := Ground.data }, { on := 0, ground := Ground.phase }, { on := 1, ground := Ground.phase }, { on := 2, ground := Ground.phase }, { on := 3, ground := Ground.phase }, { on := 4, ground := Ground.phase }, { on := 5, ground := Ground.phase }, { on := 6, ground := Ground.phase }, { on := 7, ground := Ground.phase }], guard := none }) (v := ?v10) rfl (by kernel_rfl) (by kernel_rfl) (by kernel_rfl) (fun _ _ _ h => h) (Or.inl ⟨by rfl, ?y10⟩) (by assumption) ?r10
    case y10 => (intro w hSw; (try dsimp only at hSw); (try (go_split_ands)); go_simp; try with_reducible rfl)
    try simp only [Act.put, List.setIfInBounds_toArray, List.set_cons_zero, List.set_cons_succ]
    refine wpAnyH_ready (rs := [11]) (by kernel_rfl) (by simp) ?_
    refine AllReadyH.cons (o := { dst := none, op := Op.store 30 (Operand.tmp 23) (Operand.tmp 17), type := 0, pos := "tree.go:289", after := #[{ on := 10, ground := Ground.data }, { on := 3, ground := Ground.data }, { on := 7, ground := Ground.chain }, { on := 0, ground := Ground.phase }, { on := 1, ground := Ground.phase }, { on := 2, ground := Ground.phase }, { on := 3, ground := Ground.phase }, { on := 4, ground := Ground.phase }, { on := 5, ground := Ground.phase }, { on := 6, ground := Ground.phase }, { on := 7, ground := Ground.phase }], guard := none }) rfl (fun K hK => ?_) AllReadyH.nil
    refine step_store_mid rfl 30 (.tmp 23) (.tmp 17) rfl pb2 (i * 16 + 4) (Vc.row ⟨r0, r1, r2, r3⟩) rfl rfl hth.out (vecSize Vc.zero) (Vc.row_all _) ?_
    refine hK.out _ _ (hSS.out _ ((heap_setCells_other pb2 _ (i * 16 + 4) _ w.heap.size hwp).trans (heap_setCell_other w2 ⟨pb2, i * 16 + 3, none⟩ w.heap.size _ hwp))) (fun hHeld11 => ?_)
    clear hK K
    try simp only [Act.put]
    refine wpAnyH_done (by kernel_rfl) ?_ _
    refine NoPanic.normal ?_
    have d11 := c11.out
    have d12 := c12.out
    have y11 := z11.out
    have y12 := z12.out
    clear c11 c12 z11 z12 c3 z3 c3d z3d hth hHeld hHeld7 hHeld11 hSS k9 k10
    generalize (w2.setCell ⟨pb2, i * 16 + 3, none⟩ (.bool true)).drew.setCells pb2 (i * 16 + 4) (fV ⟨r0, r1, r2, r3⟩) = w5 at *
    go_wp2
    exact v_end rfl rfl ⟨rfl, by rw [hV.out]; exact hfin.out.1, hG3.out.trans hfin.out.2⟩
end Go.Proofs.Ytoejoneecanbbaa
