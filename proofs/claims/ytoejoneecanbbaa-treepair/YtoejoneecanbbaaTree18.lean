
/-
  The contract of tree's hearRoot. Conditions: those that each theorem names.
-/
import Derived.Test.YtoejoneecanbbaaTree17
namespace Go.Proofs.Ytoejoneecanbbaa
open Go.RowKit
set_option linter.unusedVariables false
set_option maxRecDepth 20000

def gotT (T : Tt) (i : Nat) (b : Bp) : Tt := if b.proposal = true then propT (renewT (setP T i (tookP (T.at i) b)) false) i else renewT (setP T i (tookP (T.at i) b)) false
def toldT (T : Tt) (i : Nat) (b : Bp) : Tt := if (!(T.at i).b.has || supB b.vec (T.at i).b.told) = true then gotT T i b else T
def rootHT (T : Tt) (i : Nat) (b : Bp) : Tt := if (decide (((toldT T i b).at i).role = 2) && betB ((toldT T i b).tells.getD i Vc.zero) b.vec) = true then tellT (toldT T i b) i false else toldT T i b
theorem propT_outs (T : Tt) (i : Nat) : (propT T i).outs.length ≤ T.outs.length + T.ps.length + 1 := by
  unfold propT
  repeat' split
  · have := tellT_outs T i true; omega
  · have h1 := (allTo_ps (tellT (holdT T i) i true) (tellT (holdT T i) i true).ps.length).2
    have h2 := tellT_outs (holdT T i) i true
    have h3 : (holdT T i).outs = T.outs := (same_holdTo T i _).outs
    have h4 : (tellT (holdT T i) i true).ps.length = T.ps.length := by rw [(tellT_ps (holdT T i) i true).1, holdT_len]
    rw [h3] at h2
    show (allTo (tellT (holdT T i) i true) (tellT (holdT T i) i true).ps.length).outs.length ≤ _
    rw [h4] at h1 ⊢
    omega
  · omega
theorem toldT_len (T : Tt) (i : Nat) (b : Bp) : (toldT T i b).ps.length = T.ps.length := by
  unfold toldT gotT
  repeat' split
  · rw [propT_len, renewT_len, setP_len]
  · rw [renewT_len, setP_len]
  · rfl
theorem toldT_ok {T : Tt} (h : T.ok) (i : Nat) {b : Bp} (hb : b.wf) (ha : 0 ≤ b.age ∧ b.age ≤ 65535) : (toldT T i b).ok := by
  have h1 := renewT_ok (setP_ok h i _ (tookP_ok (at_ok h i) hb ha)) false
  unfold toldT gotT
  repeat' split
  · exact propT_ok h1 i
  · exact h1
  · exact h
theorem toldT_outs (T : Tt) (i : Nat) (b : Bp) : (toldT T i b).outs.length ≤ T.outs.length + 2 * T.ps.length + 1 := by
  have h1 := (renewT_outs (setP T i (tookP (T.at i) b)) false).1
  have h2 := propT_outs (renewT (setP T i (tookP (T.at i) b)) false) i
  rw [renewT_len] at h2
  rw [setP_len] at h1 h2
  have h3 : (setP T i (tookP (T.at i) b)).outs = T.outs := rfl
  rw [h3] at h1
  unfold toldT gotT
  repeat' split
  · omega
  · omega
  · omega
theorem rootHT_len (T : Tt) (i : Nat) (b : Bp) : (rootHT T i b).ps.length = T.ps.length := by
  unfold rootHT
  split
  · rw [(tellT_ps _ i false).1, toldT_len]
  · exact toldT_len _ _ _
theorem rootHT_ok {T : Tt} (h : T.ok) (i : Nat) {b : Bp} (hb : b.wf) (ha : 0 ≤ b.age ∧ b.age ≤ 65535) : (rootHT T i b).ok := by
  unfold rootHT
  split
  · exact tellT_ok (toldT_ok h i hb ha) i false
  · exact toldT_ok h i hb ha
theorem rootHT_outs (T : Tt) (i : Nat) (b : Bp) : (rootHT T i b).outs.length ≤ T.outs.length + 2 * T.ps.length + 2 := by
  have h1 := toldT_outs T i b
  unfold rootHT
  split
  · have := tellT_outs (toldT T i b) i false; omega
  · omega
set_option maxHeartbeats 8000000 in
theorem hearRoot_any {w : World} {m : Mt} {T : Tt} (h : Tr w m T) (hok : T.ok) (ho : T.outs.length ≤ 600000) (i : Nat) (hi : i < T.ps.length) (b : Bp) (hwf : b.wf) (hag : 0 ≤ b.age ∧ b.age ≤ 65535) :
    Calls Try.prog 49 #[.pointer (some ⟨m.tb, 0, none⟩), .int .i64 i, .agg b.row] w fun e w' => e = .returned (.tuple #[]) ∧ ∃ m', Tr w' m' (rootHT T i b) ∧ Goes m w m' w' := by
  have hE : Hid (rootHT T i b = if (decide (((toldT T i b).ps.getD i Tp.zero).role = 2) && betB ((toldT T i b).tells.getD i Vc.zero) b.vec) = true then tellT (toldT T i b) i false else toldT T i b) := rfl
  have hX : Hid (toldT T i b = if (!(T.ps.getD i Tp.zero).b.has || supB b.vec (T.ps.getD i Tp.zero).b.told) = true then (if b.proposal = true then propT (renewT (setP T i (tookP (T.at i) b)) false) i else renewT (setP T i (tookP (T.at i) b)) false) else T) := rfl
  have hfew := h.few
  have hXok := hide (toldT_ok hok i hwf hag)
  have hXl := hide (toldT_len T i b)
  have hXo : Hid ((toldT T i b).outs.length ≤ 900000) := by have := toldT_outs T i b; exact (show _ ≤ _ by omega)
  have hSok := hide (setP_ok hok i _ (tookP_ok (at_ok hok i) hwf hag))
  have hRok := hide (renewT_ok hSok.out false)
  have hRo := hide (renewT_outs (setP T i (tookP (T.at i) b)) false).1
  have hRl : Hid ((renewT (setP T i (tookP (T.at i) b)) false).ps.length = T.ps.length) := by show _ = _; rw [renewT_len, setP_len]
  have htk := hide (fun (W : World) (hW : Tr W m T) (pb cap : Nat) (sp : List Value) (hP : PtAt W m T i pb cap sp) => take_any hW hP b hag)
  have hSo : Hid ((setP T i (tookP (T.at i) b)).outs.length ≤ 650000) := (show T.outs.length ≤ 650000 by omega)
  have hSl : Hid ((setP T i (tookP (T.at i) b)).ps.length = T.ps.length) := setP_len _ _ _
  generalize hXX : toldT T i b = X at *
  clear hXX
  generalize rootHT T i b = V at *
  generalize setP T i (tookP (T.at i) b) = U1 at *
  obtain ⟨kd, r0, r1, r2, r3, b5, b6, b7, b8, b9, b10, ro, ag, mx, he, de⟩ := b
  have hvec : (Bp.vec ⟨kd, r0, r1, r2, r3, b5, b6, b7, b8, b9, b10, ro, ag, mx, he, de⟩) = ⟨r0, r1, r2, r3⟩ := rfl
  rw [hvec] at hE hX
  dsimp only at *
  clear hvec hag hwf
  have hA := below1 w (.cells (Bp.row ⟨kd, r0, r1, r2, r3, b5, b6, b7, b8, b9, b10, ro, ag, mx, he, de⟩) 40)
  have hM0 := hide (heap_alloc_new w (.cells (Bp.row ⟨kd, r0, r1, r2, r3, b5, b6, b7, b8, b9, b10, ro, ag, mx, he, de⟩) 40))
  have hTA := h.below hA
  have hGA : Hid (Goes m w m (w.alloc (.cells (Bp.row ⟨kd, r0, r1, r2, r3, b5, b6, b7, b8, b9, b10, ro, ag, mx, he, de⟩) 40))) := Goes.of_below hA
  have hnf : Hid (¬ m.foot w.heap.size) := fun e => by have := h.lt _ e; omega
  have hgl : Hid (w.heap.size < (w.alloc (.cells (Bp.row ⟨kd, r0, r1, r2, r3, b5, b6, b7, b8, b9, b10, ro, ag, mx, he, de⟩) 40)).heap.size) := by show _ < _; rw [World.size_alloc]; omega
  clear h hA
  obtain ⟨pb, cap, sp, hP, c1, hne, hlp⟩ := hTA.at_i i hi
  have hpv := hide hP.pv
  have hc := hP.fl.tp i hi
  have c3 := hc.c3
  have c4 := hc.c4
  have c5 := hc.c5
  have c6 := hc.c6
  have c7 := hc.c7
  have k1 : (w.alloc (.cells (Bp.row ⟨kd, r0, r1, r2, r3, b5, b6, b7, b8, b9, b10, ro, ag, mx, he, de⟩) 40)).cell? ⟨w.heap.size, 1, none⟩ = some (.int .u64 r0) := (cell_of_row _ _ _ _ _ _ hM0.out).trans rfl
  have k2 : (w.alloc (.cells (Bp.row ⟨kd, r0, r1, r2, r3, b5, b6, b7, b8, b9, b10, ro, ag, mx, he, de⟩) 40)).cell? ⟨w.heap.size, 2, none⟩ = some (.int .u64 r1) := (cell_of_row _ _ _ _ _ _ hM0.out).trans rfl
  have k3 : (w.alloc (.cells (Bp.row ⟨kd, r0, r1, r2, r3, b5, b6, b7, b8, b9, b10, ro, ag, mx, he, de⟩) 40)).cell? ⟨w.heap.size, 3, none⟩ = some (.int .u64 r2) := (cell_of_row _ _ _ _ _ _ hM0.out).trans rfl
  have k4 : (w.alloc (.cells (Bp.row ⟨kd, r0, r1, r2, r3, b5, b6, b7, b8, b9, b10, ro, ag, mx, he, de⟩) 40)).cell? ⟨w.heap.size, 4, none⟩ = some (.int .i64 r3) := (cell_of_row _ _ _ _ _ _ hM0.out).trans rfl
  have hPb := hide (fun (W : World) (hb : Below (w.alloc (.cells (Bp.row ⟨kd, r0, r1, r2, r3, b5, b6, b7, b8, b9, b10, ro, ag, mx, he, de⟩) 40)).heap.size (w.alloc (.cells (Bp.row ⟨kd, r0, r1, r2, r3, b5, b6, b7, b8, b9, b10, ro, ag, mx, he, de⟩) 40)) W) => (⟨hP.pv, hP.fl.below hb, hi⟩ : PtAt W m T i pb cap sp))
  generalize (T.ps.getD i Tp.zero).b.has = hs at *
  generalize hto : (T.ps.getD i Tp.zero).b.told = to at *
  obtain ⟨t0, t1, t2, t3⟩ := to
  replace hto := hide hto
  dsimp only at c4 c5 c6 c7
  replace hTA := hide hTA
  have hin := hide hi
  generalize hn : T.ps.length = n at *
  replace hn := hide hn
  clear hP hc
  go_enter Try.func49, Try.ntmps49
  go_wp2_with fail
  generalize hg : w.heap.size = g at *
  replace hg := hide hg
  generalize w.alloc (.cells (Bp.row ⟨kd, r0, r1, r2, r3, b5, b6, b7, b8, b9, b10, ro, ag, mx, he, de⟩) 40) = w1 at *
  have hSS : Hid (∀ W : World, Below w1.heap.size w1 W → W.cell? ⟨pb, i * 16 + 3, none⟩ = some (.bool hs) ∧ W.cell? ⟨pb, i * 16 + 4, none⟩ = some (.int .u64 t0) ∧ W.cell? ⟨pb, i * 16 + 5, none⟩ = some (.int .u64 t1) ∧ W.cell? ⟨pb, i * 16 + 6, none⟩ = some (.int .u64 t2) ∧ W.cell? ⟨pb, i * 16 + 7, none⟩ = some (.int .i64 t3) ∧ W.cell? ⟨g, 1, none⟩ = some (.int .u64 r0) ∧ W.cell? ⟨g, 2, none⟩ = some (.int .u64 r1) ∧ W.cell? ⟨g, 3, none⟩ = some (.int .u64 r2) ∧ W.cell? ⟨g, 4, none⟩ = some (.int .i64 r3)) := fun W hb => by
    have hq := (bcell hb).1
    exact ⟨(hq _ _ hlp).trans c3, (hq _ _ hlp).trans c4, (hq _ _ hlp).trans c5, (hq _ _ hlp).trans c6, (hq _ _ hlp).trans c7, (hq _ _ hgl.out).trans k1, (hq _ _ hgl.out).trans k2, (hq _ _ hgl.out).trans k3, (hq _ _ hgl.out).trans k4⟩
  have hbd : Below w1.heap.size w1 w1.drew := below_drewN (Below.refl _ _) 1
  clear c3 c4 c5 c6 c7 k1 k2 k3 k4 c1
  refine wp_region_noPanic ?_
  refine wp_region_held_drew (S := fun W => W.cell? ⟨pb, i * 16 + 3, none⟩ = some (.bool hs) ∧ W.cell? ⟨pb, i * 16 + 4, none⟩ = some (.int .u64 t0) ∧ W.cell? ⟨pb, i * 16 + 5, none⟩ = some (.int .u64 t1) ∧ W.cell? ⟨pb, i * 16 + 6, none⟩ = some (.int .u64 t2) ∧ W.cell? ⟨pb, i * 16 + 7, none⟩ = some (.int .i64 t3) ∧ W.cell? ⟨g, 1, none⟩ = some (.int .u64 r0) ∧ W.cell? ⟨g, 2, none⟩ = some (.int .u64 r1) ∧ W.cell? ⟨g, 3, none⟩ = some (.int .u64 r2) ∧ W.cell? ⟨g, 4, none⟩ = some (.int .i64 r3)) (by kernel_rfl) (hSS.out _ hbd) (fun hHeld => ?_)
  cases hs
  ·
    refine wpAnyH_take (i := 0) (oi := { dst := some 13, op := Op.move (Operand.tmp 6), type := 89, pos := "tree.go:273", after := #[], guard := none }) (v := ?v1) rfl (by kernel_rfl) (by kernel_rfl) (by kernel_rfl) (fun _ _ _ h => h) (Or.inl ⟨by rfl, ?y1⟩) (by assumption) ?r1
    case y1 => (intro w hSw; (try dsimp only at hSw); (try (go_split_ands)); go_simp; try with_reducible rfl)
    try simp only [Act.put, List.setIfInBounds_toArray, List.set_cons_zero, List.set_cons_succ]
    refine wpAnyH_take (i := 1) (oi := { dst := some 14, op := Op.nilCheck (Operand.tmp 13), type := 0, pos := "tree.go:273", after := #[{ on := 0, ground := Ground.data }], guard := none }) (v := ?v2) rfl (by kernel_rfl) (by kernel_rfl) (by kernel_rfl) (fun _ _ _ h => h) (Or.inl ⟨by rfl, ?y2⟩) (by assumption) ?r2
    case y2 => (intro w hSw; (try dsimp only at hSw); (try (go_split_ands)); go_simp; try with_reducible rfl)
    try simp only [Act.put, List.setIfInBounds_toArray, List.set_cons_zero, List.set_cons_succ]
    refine wpAnyH_take (i := 2) (oi := { dst := some 15, op := Op.fieldAddr 34 (Operand.tmp 14) 0, type := 0, pos := "tree.go:273", after := #[{ on := 1, ground := Ground.data }], guard := none }) (v := ?v3) rfl (by kernel_rfl) (by kernel_rfl) (by kernel_rfl) (fun _ _ _ h => h) (Or.inl ⟨by rfl, ?y3⟩) (by assumption) ?r3
    case y3 => (intro w hSw; (try dsimp only at hSw); (try (go_split_ands)); go_simp; try with_reducible rfl)
    try simp only [Act.put, List.setIfInBounds_toArray, List.set_cons_zero, List.set_cons_succ]
    refine wpAnyH_take (i := 3) (oi := { dst := some 16, op := Op.fieldAddr 32 (Operand.tmp 15) 3, type := 0, pos := "tree.go:273", after := #[{ on := 2, ground := Ground.data }], guard := none }) (v := ?v4) rfl (by kernel_rfl) (by kernel_rfl) (by kernel_rfl) (fun _ _ _ h => h) (Or.inl ⟨by rfl, ?y4⟩) (by assumption) ?r4
    case y4 => (intro w hSw; (try dsimp only at hSw); (try (go_split_ands)); go_simp; try with_reducible rfl)
    try simp only [Act.put, List.setIfInBounds_toArray, List.set_cons_zero, List.set_cons_succ]
    refine wpAnyH_take (i := 4) (oi := { dst := some 17, op := Op.load 4 (Operand.tmp 16), type := 4, pos := "tree.go:273", after := #[{ on := 3, ground := Ground.data }], guard := none }) (v := ?v5) rfl (by kernel_rfl) (by kernel_rfl) (by kernel_rfl) (fun _ _ _ h => h) (Or.inl ⟨by rfl, ?y5⟩) (by assumption) ?r5
    case y5 => (intro w hSw; (try dsimp only at hSw); (try (go_split_ands)); go_simp; try with_reducible rfl)
    try simp only [Act.put, List.setIfInBounds_toArray, List.set_cons_zero, List.set_cons_succ]
    refine wpAnyH_take (i := 5) (oi := { dst := some 18, op := Op.unOp UnOp.not 4 (Operand.tmp 17), type := 4, pos := "tree.go:273", after := #[{ on := 4, ground := Ground.data }], guard := none }) (v := ?v6) rfl (by kernel_rfl) (by kernel_rfl) (by kernel_rfl) (fun _ _ _ h => h) (Or.inl ⟨by rfl, ?y6⟩) (by assumption) ?r6
    case y6 => (intro w hSw; (try dsimp only at hSw); (try (go_split_ands)); go_simp; try with_reducible rfl)
    try simp only [Act.put, List.setIfInBounds_toArray, List.set_cons_zero, List.set_cons_succ]
    refine wpAnyH_take (i := 6) (oi := { dst := some 19, op := Op.move (Operand.tmp 18), type := 4, pos := "tree.go:273", after := #[{ on := 5, ground := Ground.data }], guard := none }) (v := ?v7) rfl (by kernel_rfl) (by kernel_rfl) (by kernel_rfl) (fun _ _ _ h => h) (Or.inl ⟨by rfl, ?y7⟩) (by assumption) ?r7
    case y7 => (intro w hSw; (try dsimp only at hSw); (try (go_split_ands)); go_simp; try with_reducible rfl)
    try simp only [Act.put, List.setIfInBounds_toArray, List.set_cons_zero, List.set_cons_succ]
    refine wpAnyH_take (i := 7) (oi := { dst := some 20, op := Op.fieldAddr 40 (Operand.tmp 5) 1, type := 0, pos := "tree.go:273", after := #[{ on := 6, ground := Ground.guard }], guard := some (6, false) }) (v := undef) rfl (by kernel_rfl) (by kernel_rfl) (by kernel_rfl) (fun _ _ _ h => h) (Or.inr ⟨by rfl, rfl⟩) (by assumption) ?_
    try simp only [Act.put, List.setIfInBounds_toArray, List.set_cons_zero, List.set_cons_succ]
    refine wpAnyH_take (i := 8) (oi := { dst := some 21, op := Op.load 30 (Operand.tmp 20), type := 30, pos := "tree.go:273", after := #[{ on := 7, ground := Ground.data }, { on := 6, ground := Ground.guard }], guard := some (6, false) }) (v := undef) rfl (by kernel_rfl) (by kernel_rfl) (by kernel_rfl) (fun _ _ _ h => h) (Or.inr ⟨by rfl, rfl⟩) (by assumption) ?_
    try simp only [Act.put, List.setIfInBounds_toArray, List.set_cons_zero, List.set_cons_succ]
    refine wpAnyH_take (i := 9) (oi := { dst := some 22, op := Op.move (Operand.tmp 6), type := 89, pos := "tree.go:273", after := #[{ on := 6, ground := Ground.guard }], guard := some (6, false) }) (v := undef) rfl (by kernel_rfl) (by kernel_rfl) (by kernel_rfl) (fun _ _ _ h => h) (Or.inr ⟨by rfl, rfl⟩) (by assumption) ?_
    try simp only [Act.put, List.setIfInBounds_toArray, List.set_cons_zero, List.set_cons_succ]
    refine wpAnyH_take (i := 10) (oi := { dst := some 23, op := Op.nilCheck (Operand.tmp 22), type := 0, pos := "tree.go:273", after := #[{ on := 9, ground := Ground.data }, { on := 6, ground := Ground.guard }], guard := some (6, false) }) (v := undef) rfl (by kernel_rfl) (by kernel_rfl) (by kernel_rfl) (fun _ _ _ h => h) (Or.inr ⟨by rfl, rfl⟩) (by assumption) ?_
    try simp only [Act.put, List.setIfInBounds_toArray, List.set_cons_zero, List.set_cons_succ]
    refine wpAnyH_take (i := 11) (oi := { dst := some 24, op := Op.fieldAddr 34 (Operand.tmp 23) 0, type := 0, pos := "tree.go:273", after := #[{ on := 10, ground := Ground.data }, { on := 6, ground := Ground.guard }], guard := some (6, false) }) (v := undef) rfl (by kernel_rfl) (by kernel_rfl) (by kernel_rfl) (fun _ _ _ h => h) (Or.inr ⟨by rfl, rfl⟩) (by assumption) ?_
    try simp only [Act.put, List.setIfInBounds_toArray, List.set_cons_zero, List.set_cons_succ]
    refine wpAnyH_take (i := 12) (oi := { dst := some 25, op := Op.fieldAddr 32 (Operand.tmp 24) 4, type := 0, pos := "tree.go:273", after := #[{ on := 11, ground := Ground.data }, { on := 6, ground := Ground.guard }], guard := some (6, false) }) (v := undef) rfl (by kernel_rfl) (by kernel_rfl) (by kernel_rfl) (fun _ _ _ h => h) (Or.inr ⟨by rfl, rfl⟩) (by assumption) ?_
    try simp only [Act.put, List.setIfInBounds_toArray, List.set_cons_zero, List.set_cons_succ]
    refine wpAnyH_take (i := 13) (oi := { dst := some 26, op := Op.load 30 (Operand.tmp 25), type := 30, pos := "tree.go:273", after := #[{ on := 12, ground := Ground.data }, { on := 6, ground := Ground.guard }], guard := some (6, false) }) (v := undef) rfl (by kernel_rfl) (by kernel_rfl) (by kernel_rfl) (fun _ _ _ h => h) (Or.inr ⟨by rfl, rfl⟩) (by assumption) ?_
    try simp only [Act.put, List.setIfInBounds_toArray, List.set_cons_zero, List.set_cons_succ]
    refine wpAnyH_take (i := 14) (oi := { dst := some 27, op := Op.call { callee := Callee.value (Operand.func 60), args := #[Operand.tmp 21, Operand.tmp 26], argTypes := #[30, 30] }, type := 4, pos := "tree.go:273", after := #[{ on := 8, ground := Ground.data }, { on := 13, ground := Ground.data }, { on := 6, ground := Ground.chain }, { on := 6, ground := Ground.guard }], guard := some (6, false) }) (v := undef) rfl (by kernel_rfl) (by kernel_rfl) (by kernel_rfl) (fun _ _ _ h => h) (Or.inr ⟨by rfl, rfl⟩) (by assumption) ?_
    try simp only [Act.put, List.setIfInBounds_toArray, List.set_cons_zero, List.set_cons_succ]
    refine wpAnyH_take (i := 15) (oi := { dst := some 28, op := Op.pick (Operand.tmp 19) (Operand.const (Value.bool true)) (Operand.tmp 27), type := 4, pos := "tree.go:273", after := #[{ on := 6, ground := Ground.data }, { on := 14, ground := Ground.data }], guard := none }) (v := ?v8) rfl (by kernel_rfl) (by kernel_rfl) (by kernel_rfl) (fun _ _ _ h => h) (Or.inl ⟨by rfl, ?y8⟩) (by assumption) ?r8
    case y8 => (intro w hSw; (try dsimp only at hSw); (try (go_split_ands)); go_simp; try with_reducible rfl)
    try simp only [Act.put, List.setIfInBounds_toArray, List.set_cons_zero, List.set_cons_succ]
    refine wpAnyH_done (by kernel_rfl) ?_ _
    refine NoPanic.normal ?_
    clear hHeld hSS
    have hba := hbd
    generalize w1.drew = wa at *
    clear hbd
    have hX2 : Hid (X = if b7 = true then propT (renewT U1 false) i else renewT U1 false) := hX.out.trans (if_pos (rfl))
    have hTa := hTA.out.below hba
    have hMa := hide (heap_kept hba hM0.out)
    have ht3 := hide (htk.out _ hTa pb cap sp (hPb.out _ hba))
    have hGa : Hid (Goes m w1 m wa) := Goes.of_below hba
    clear hX hTA htk hPb hba hTa
    go_wp2_with ((with_reducible change wpList _ _ _ _ _ _); refine wpList_load_row rfl 40 (.tmp 5) rfl g rfl 40 _ _ _ hMa.out Try.underlying40 rfl (bpSize Bp.zero) ?_)
    refine ht3.out.mono ?_
    rintro e w3 ⟨rfl, hT3, hG3⟩
    have hr3 := hide (renew_any hT3 hSok.out (Nat.le_trans hSo.out (by omega)) false)
    have hG4 := hide (hGa.out.trans hG3)
    clear ht3 hT3 hG3 hGa hMa
    go_wp2_with fail
    refine hr3.out.mono ?_
    rintro e w4 ⟨rfl, m4, hT4, hG5⟩
    have hG := hide (hG4.out.trans hG5)
    clear hr3 hG5 hG4
    have k7 : w4.cell? ⟨g, 7, none⟩ = some (.bool b7) := (cell_of_row _ _ _ _ _ _ ((hG.out.block g hgl.out hnf.out).trans hM0.out)).trans rfl
    cases b7
    · have hXE : Hid (X = renewT U1 false) := hX2.out
      have hT := hide hT4
      rw [← hXE.out] at hT
      clear hT4 hX2 hXE
      go_wp2_with fail
      clear k7
      have htb := hG.out.tb
      have hM5 := hide ((hG.out.block g hgl.out hnf.out).trans hM0.out)
      obtain ⟨pb5, cap5, sp5, hP5, -, -, hlp5⟩ := hT.out.at_i i (by rw [hXl.out]; exact hin.out)
      have hpe : pb5 = pb := by
        have e1 := hP5.pv
        rw [hG.out.pv, hpv.out] at e1
        simp only [Value.slice.injEq, Option.some.injEq, Addr.mk.injEq, and_true] at e1
        exact e1.1.symm
      subst hpe
      have q9 := (hP5.fl.tp i hP5.hi).c9
      obtain ⟨q8, e0, e1, e2, e3⟩ := hT.out.tell i (by rw [hXl.out]; exact hin.out)
      rw [htb, hXl.out] at q8
      have hte := hide (tell_any hT.out i (by rw [hXl.out]; exact hin.out) false (by have := hXok.out.rp; omega) (msgT_wf hXok.out i (by rw [hXl.out]; exact hin.out) false) hXo.out)
      rw [htb] at hte
      have hvl : m4.vb < w4.heap.size := hT.out.tells.lt
      have hvtb : m.tb < w4.heap.size := by rw [← htb]; exact hT.out.ltb
      have hgl5 : g < w4.heap.size := (Array.getElem?_eq_some_iff.1 hM5.out).1
      clear hP5
      generalize (X.ps.getD i Tp.zero).role = rl at *
      generalize hvv : X.tells.getD i Vc.zero = vv at *
      replace hvv := hide hvv
      obtain ⟨v0, v1, v2, v3⟩ := vv
      dsimp only at e0 e1 e2 e3
      have hbd5 : Below w4.heap.size w4 w4.drew := below_drewN (Below.refl _ _) 1
      have hS5 : Hid (∀ W : World, Below w4.heap.size w4 W → W.cell? ⟨pb5, i * 16 + 9, none⟩ = some (.int .i64 rl) ∧ W.cell? ⟨m.tb, 8, none⟩ = some (.slice (some ⟨m4.vb, 0, none⟩) n n) ∧ W.cell? ⟨m4.vb, i * 4, none⟩ = some (.int .u64 v0) ∧ W.cell? ⟨m4.vb, i * 4 + 1, none⟩ = some (.int .u64 v1) ∧ W.cell? ⟨m4.vb, i * 4 + 2, none⟩ = some (.int .u64 v2) ∧ W.cell? ⟨m4.vb, i * 4 + 3, none⟩ = some (.int .i64 v3) ∧ W.cell? ⟨g, 1, none⟩ = some (.int .u64 r0) ∧ W.cell? ⟨g, 2, none⟩ = some (.int .u64 r1) ∧ W.cell? ⟨g, 3, none⟩ = some (.int .u64 r2) ∧ W.cell? ⟨g, 4, none⟩ = some (.int .i64 r3)) := fun W hb => by
        have hq := (bcell hb).1
        exact ⟨(hq _ _ hlp5).trans q9, (hq _ _ hvtb).trans q8, (hq _ _ hvl).trans e0, (hq _ _ hvl).trans e1, (hq _ _ hvl).trans e2, (hq _ _ hvl).trans e3, (hq _ _ hgl5).trans ((cell_of_row _ _ _ _ _ _ hM5.out).trans rfl), (hq _ _ hgl5).trans ((cell_of_row _ _ _ _ _ _ hM5.out).trans rfl), (hq _ _ hgl5).trans ((cell_of_row _ _ _ _ _ _ hM5.out).trans rfl), (hq _ _ hgl5).trans ((cell_of_row _ _ _ _ _ _ hM5.out).trans rfl)⟩
      clear q9 q8 e0 e1 e2 e3
      go_wp2_with fail
      refine wp_region_noPanic ?_
      refine wp_region_held_drew (S := fun W => W.cell? ⟨pb5, i * 16 + 9, none⟩ = some (.int .i64 rl) ∧ W.cell? ⟨m.tb, 8, none⟩ = some (.slice (some ⟨m4.vb, 0, none⟩) n n) ∧ W.cell? ⟨m4.vb, i * 4, none⟩ = some (.int .u64 v0) ∧ W.cell? ⟨m4.vb, i * 4 + 1, none⟩ = some (.int .u64 v1) ∧ W.cell? ⟨m4.vb, i * 4 + 2, none⟩ = some (.int .u64 v2) ∧ W.cell? ⟨m4.vb, i * 4 + 3, none⟩ = some (.int .i64 v3) ∧ W.cell? ⟨g, 1, none⟩ = some (.int .u64 r0) ∧ W.cell? ⟨g, 2, none⟩ = some (.int .u64 r1) ∧ W.cell? ⟨g, 3, none⟩ = some (.int .u64 r2) ∧ W.cell? ⟨g, 4, none⟩ = some (.int .i64 r3)) (by kernel_rfl) (hS5.out _ hbd5) (fun hHeld5 => ?_)
      by_cases h2 : rl = 2
      rotate_left
      · have hV : Hid (V = X) := hE.out.trans (if_neg (by simp [h2]))
        have h2q : (rl == 2) = false := by rw [beq_eq_false_iff_ne]; exact h2
        clear hE h2
        refine wpAnyH_take (i := 0) (oi := { dst := some 39, op := Op.move (Operand.tmp 6), type := 89, pos := "tree.go:280", after := #[], guard := none }) (v := ?v9) rfl (by kernel_rfl) (by kernel_rfl) (by kernel_rfl) (fun _ _ _ h => h) (Or.inl ⟨by rfl, ?y9⟩) (by assumption) ?r9
        case y9 => (intro w hSw; (try dsimp only at hSw); (try (go_split_ands)); go_simp; try with_reducible rfl)
        try simp only [Act.put, List.setIfInBounds_toArray, List.set_cons_zero, List.set_cons_succ]
        refine wpAnyH_take (i := 1) (oi := { dst := some 40, op := Op.nilCheck (Operand.tmp 39), type := 0, pos := "tree.go:280", after := #[{ on := 0, ground := Ground.data }], guard := none }) (v := ?v10) rfl (by kernel_rfl) (by kernel_rfl) (by kernel_rfl) (fun _ _ _ h => h) (Or.inl ⟨by rfl, ?y10⟩) (by assumption) ?r10
        case y10 => (intro w hSw; (try dsimp only at hSw); (try (go_split_ands)); go_simp; try with_reducible rfl)
        try simp only [Act.put, List.setIfInBounds_toArray, List.set_cons_zero, List.set_cons_succ]
        refine wpAnyH_take (i := 2) (oi := { dst := some 41, op := Op.fieldAddr 34 (Operand.tmp 40) 2, type := 0, pos := "tree.go:280", after := #[{ on := 1, ground := Ground.data }], guard := none }) (v := ?v11) rfl (by kernel_rfl) (by kernel_rfl) (by kernel_rfl) (fun _ _ _ h => h) (Or.inl ⟨by rfl, ?y11⟩) (by assumption) ?r11
        case y11 => (intro w hSw; (try dsimp only at hSw); (try (go_split_ands)); go_simp; try with_reducible rfl)
        try simp only [Act.put, List.setIfInBounds_toArray, List.set_cons_zero, List.set_cons_succ]
        refine wpAnyH_take (i := 3) (oi := { dst := some 42, op := Op.load 3 (Operand.tmp 41), type := 3, pos := "tree.go:280", after := #[{ on := 2, ground := Ground.data }], guard := none }) (v := ?v12) rfl (by kernel_rfl) (by kernel_rfl) (by kernel_rfl) (fun _ _ _ h => h) (Or.inl ⟨by rfl, ?y12⟩) (by assumption) ?r12
        case y12 => (intro w hSw; (try dsimp only at hSw); (try (go_split_ands)); go_simp; try with_reducible rfl)
        try simp only [Act.put, List.setIfInBounds_toArray, List.set_cons_zero, List.set_cons_succ]
        refine wpAnyH_take (i := 4) (oi := { dst := some 43, op := Op.binOp BinOp.eql 3 (Operand.tmp 42) (Operand.const (Value.int IntKind.i64 2)) 3, type := 4, pos := "tree.go:280", after := #[{ on := 3, ground := Ground.data }], guard := none }) (v := ?v13) rfl (by kernel_rfl) (by kernel_rfl) (by kernel_rfl) (fun _ _ _ h => h) (Or.inl ⟨by rfl, ?y13⟩) (by assumption) ?r13
        case y13 => (intro w hSw; (try dsimp only at hSw); (try (go_split_ands)); go_simp; try with_reducible rfl)
        try simp only [Act.put, List.setIfInBounds_toArray, List.set_cons_zero, List.set_cons_succ]
        refine wpAnyH_take (i := 5) (oi := { dst := some 44, op := Op.move (Operand.tmp 43), type := 4, pos := "tree.go:280", after := #[{ on := 4, ground := Ground.data }], guard := none }) (v := ?v14) rfl (by kernel_rfl) (by kernel_rfl) (by kernel_rfl) (fun _ _ _ h => h) (Or.inl ⟨by rfl, ?y14⟩) (by assumption) ?r14
        case y14 => (intro w hSw; (try dsimp only at hSw); (try (go_split_ands)); go_simp; try with_reducible rfl)
        try simp only [Act.put, List.setIfInBounds_toArray, List.set_cons_zero, List.set_cons_succ]
        refine wpAnyH_take (i := 6) (oi := { dst := some 45, op := Op.move (Operand.tmp 0), type := 35, pos := "tree.go:280", after := #[{ on := 5, ground := Ground.guard }], guard := some (5, true) }) (v := undef) rfl (by kernel_rfl) (by kernel_rfl) (by kernel_rfl) (fun _ _ _ h => h) (Or.inr ⟨by rfl, rfl⟩) (by assumption) ?_
        try simp only [Act.put, List.setIfInBounds_toArray, List.set_cons_zero, List.set_cons_succ]
        refine wpAnyH_take (i := 7) (oi := { dst := some 46, op := Op.nilCheck (Operand.tmp 45), type := 0, pos := "tree.go:280", after := #[{ on := 6, ground := Ground.data }, { on := 5, ground := Ground.guard }], guard := some (5, true) }) (v := undef) rfl (by kernel_rfl) (by kernel_rfl) (by kernel_rfl) (fun _ _ _ h => h) (Or.inr ⟨by rfl, rfl⟩) (by assumption) ?_
        try simp only [Act.put, List.setIfInBounds_toArray, List.set_cons_zero, List.set_cons_succ]
        refine wpAnyH_take (i := 8) (oi := { dst := some 47, op := Op.fieldAddr 67 (Operand.tmp 46) 2, type := 0, pos := "tree.go:280", after := #[{ on := 7, ground := Ground.data }, { on := 5, ground := Ground.guard }], guard := some (5, true) }) (v := undef) rfl (by kernel_rfl) (by kernel_rfl) (by kernel_rfl) (fun _ _ _ h => h) (Or.inr ⟨by rfl, rfl⟩) (by assumption) ?_
        try simp only [Act.put, List.setIfInBounds_toArray, List.set_cons_zero, List.set_cons_succ]
        refine wpAnyH_take (i := 9) (oi := { dst := some 48, op := Op.fieldAddr 64 (Operand.tmp 47) 3, type := 0, pos := "tree.go:280", after := #[{ on := 8, ground := Ground.data }, { on := 5, ground := Ground.guard }], guard := some (5, true) }) (v := undef) rfl (by kernel_rfl) (by kernel_rfl) (by kernel_rfl) (fun _ _ _ h => h) (Or.inr ⟨by rfl, rfl⟩) (by assumption) ?_
        try simp only [Act.put, List.setIfInBounds_toArray, List.set_cons_zero, List.set_cons_succ]
        refine wpAnyH_take (i := 10) (oi := { dst := some 49, op := Op.load 62 (Operand.tmp 48), type := 62, pos := "tree.go:280", after := #[{ on := 9, ground := Ground.data }, { on := 5, ground := Ground.guard }], guard := some (5, true) }) (v := undef) rfl (by kernel_rfl) (by kernel_rfl) (by kernel_rfl) (fun _ _ _ h => h) (Or.inr ⟨by rfl, rfl⟩) (by assumption) ?_
        try simp only [Act.put, List.setIfInBounds_toArray, List.set_cons_zero, List.set_cons_succ]
        refine wpAnyH_take (i := 11) (oi := { dst := some 50, op := Op.move (Operand.tmp 1), type := 3, pos := "tree.go:280", after := #[{ on := 5, ground := Ground.guard }], guard := some (5, true) }) (v := undef) rfl (by kernel_rfl) (by kernel_rfl) (by kernel_rfl) (fun _ _ _ h => h) (Or.inr ⟨by rfl, rfl⟩) (by assumption) ?_
        try simp only [Act.put, List.setIfInBounds_toArray, List.set_cons_zero, List.set_cons_succ]
        refine wpAnyH_take (i := 12) (oi := { dst := some 51, op := Op.indexAddr 62 (Operand.tmp 49) (Operand.tmp 50), type := 0, pos := "tree.go:280", after := #[{ on := 10, ground := Ground.data }, { on := 11, ground := Ground.data }, { on := 5, ground := Ground.guard }], guard := some (5, true) }) (v := undef) rfl (by kernel_rfl) (by kernel_rfl) (by kernel_rfl) (fun _ _ _ h => h) (Or.inr ⟨by rfl, rfl⟩) (by assumption) ?_
        try simp only [Act.put, List.setIfInBounds_toArray, List.set_cons_zero, List.set_cons_succ]
        refine wpAnyH_take (i := 13) (oi := { dst := some 52, op := Op.load 30 (Operand.tmp 51), type := 30, pos := "tree.go:280", after := #[{ on := 12, ground := Ground.data }, { on := 5, ground := Ground.guard }], guard := some (5, true) }) (v := undef) rfl (by kernel_rfl) (by kernel_rfl) (by kernel_rfl) (fun _ _ _ h => h) (Or.inr ⟨by rfl, rfl⟩) (by assumption) ?_
        try simp only [Act.put, List.setIfInBounds_toArray, List.set_cons_zero, List.set_cons_succ]
        refine wpAnyH_take (i := 14) (oi := { dst := some 53, op := Op.fieldAddr 40 (Operand.tmp 5) 1, type := 0, pos := "tree.go:280", after := #[{ on := 5, ground := Ground.guard }], guard := some (5, true) }) (v := undef) rfl (by kernel_rfl) (by kernel_rfl) (by kernel_rfl) (fun _ _ _ h => h) (Or.inr ⟨by rfl, rfl⟩) (by assumption) ?_
        try simp only [Act.put, List.setIfInBounds_toArray, List.set_cons_zero, List.set_cons_succ]
        refine wpAnyH_take (i := 15) (oi := { dst := some 54, op := Op.load 30 (Operand.tmp 53), type := 30, pos := "tree.go:280", after := #[{ on := 14, ground := Ground.data }, { on := 5, ground := Ground.guard }], guard := some (5, true) }) (v := undef) rfl (by kernel_rfl) (by kernel_rfl) (by kernel_rfl) (fun _ _ _ h => h) (Or.inr ⟨by rfl, rfl⟩) (by assumption) ?_
        try simp only [Act.put, List.setIfInBounds_toArray, List.set_cons_zero, List.set_cons_succ]
        refine wpAnyH_take (i := 16) (oi := { dst := some 55, op := Op.call { callee := Callee.value (Operand.func 63), args := #[Operand.tmp 52, Operand.tmp 54], argTypes := #[30, 30] }, type := 4, pos := "tree.go:280", after := #[{ on := 13, ground := Ground.data }, { on := 15, ground := Ground.data }, { on := 5, ground := Ground.chain }, { on := 5, ground := Ground.guard }], guard := some (5, true) }) (v := undef) rfl (by kernel_rfl) (by kernel_rfl) (by kernel_rfl) (fun _ _ _ h => h) (Or.inr ⟨by rfl, rfl⟩) (by assumption) ?_
        try simp only [Act.put, List.setIfInBounds_toArray, List.set_cons_zero, List.set_cons_succ]
        refine wpAnyH_take (i := 17) (oi := { dst := some 56, op := Op.pick (Operand.tmp 44) (Operand.tmp 55) (Operand.const (Value.bool false)), type := 4, pos := "tree.go:280", after := #[{ on := 5, ground := Ground.data }, { on := 16, ground := Ground.data }], guard := none }) (v := ?v15) rfl (by kernel_rfl) (by kernel_rfl) (by kernel_rfl) (fun _ _ _ h => h) (Or.inl ⟨by rfl, ?y15⟩) (by assumption) ?r15
        case y15 => (intro w hSw; (try dsimp only at hSw); (try (go_split_ands)); go_simp; try with_reducible rfl)
        try simp only [Act.put, List.setIfInBounds_toArray, List.set_cons_zero, List.set_cons_succ]
        refine wpAnyH_done (by kernel_rfl) ?_ _
        refine NoPanic.normal ?_
        have hT6 := hide (hT.out.below hbd5)
        have hG6 := hide (hG.out.trans (Goes.of_below hbd5))
        clear hHeld5 hS5 hte hT hG hbd5
        go_wp2
        exact v_end rfl rfl ⟨rfl, m4, by rw [hV.out]; exact hT6.out, hGA.out.trans hG6.out⟩
      subst h2
      refine wpAnyH_take (i := 0) (oi := { dst := some 39, op := Op.move (Operand.tmp 6), type := 89, pos := "tree.go:280", after := #[], guard := none }) (v := ?v16) rfl (by kernel_rfl) (by kernel_rfl) (by kernel_rfl) (fun _ _ _ h => h) (Or.inl ⟨by rfl, ?y16⟩) (by assumption) ?r16
      case y16 => (intro w hSw; (try dsimp only at hSw); (try (go_split_ands)); go_simp; try with_reducible rfl)
      try simp only [Act.put, List.setIfInBounds_toArray, List.set_cons_zero, List.set_cons_succ]
      refine wpAnyH_take (i := 1) (oi := { dst := some 40, op := Op.nilCheck (Operand.tmp 39), type := 0, pos := "tree.go:280", after := #[{ on := 0, ground := Ground.data }], guard := none }) (v := ?v17) rfl (by kernel_rfl) (by kernel_rfl) (by kernel_rfl) (fun _ _ _ h => h) (Or.inl ⟨by rfl, ?y17⟩) (by assumption) ?r17
      case y17 => (intro w hSw; (try dsimp only at hSw); (try (go_split_ands)); go_simp; try with_reducible rfl)
      try simp only [Act.put, List.setIfInBounds_toArray, List.set_cons_zero, List.set_cons_succ]
      refine wpAnyH_take (i := 2) (oi := { dst := some 41, op := Op.fieldAddr 34 (Operand.tmp 40) 2, type := 0, pos := "tree.go:280", after := #[{ on := 1, ground := Ground.data }], guard := none }) (v := ?v18) rfl (by kernel_rfl) (by kernel_rfl) (by kernel_rfl) (fun _ _ _ h => h) (Or.inl ⟨by rfl, ?y18⟩) (by assumption) ?r18
      case y18 => (intro w hSw; (try dsimp only at hSw); (try (go_split_ands)); go_simp; try with_reducible rfl)
      try simp only [Act.put, List.setIfInBounds_toArray, List.set_cons_zero, List.set_cons_succ]
      refine wpAnyH_take (i := 3) (oi := { dst := some 42, op := Op.load 3 (Operand.tmp 41), type := 3, pos := "tree.go:280", after := #[{ on := 2, ground := Ground.data }], guard := none }) (v := ?v19) rfl (by kernel_rfl) (by kernel_rfl) (by kernel_rfl) (fun _ _ _ h => h) (Or.inl ⟨by rfl, ?y19⟩) (by assumption) ?r19
      case y19 => (intro w hSw; (try dsimp only at hSw); (try (go_split_ands)); go_simp; try with_reducible rfl)
      try simp only [Act.put, List.setIfInBounds_toArray, List.set_cons_zero, List.set_cons_succ]
      refine wpAnyH_take (i := 4) (oi := { dst := some 43, op := Op.binOp BinOp.eql 3 (Operand.tmp 42) (Operand.const (Value.int IntKind.i64 2)) 3, type := 4, pos := "tree.go:280", after := #[{ on := 3, ground := Ground.data }], guard := none }) (v := ?v20) rfl (by kernel_rfl) (by kernel_rfl) (by kernel_rfl) (fun _ _ _ h => h) (Or.inl ⟨by rfl, ?y20⟩) (by assumption) ?r20
      case y20 => (intro w hSw; (try dsimp only at hSw); (try (go_split_ands)); go_simp; try with_reducible rfl)
      try simp only [Act.put, List.setIfInBounds_toArray, List.set_cons_zero, List.set_cons_succ]
      refine wpAnyH_take (i := 5) (oi := { dst := some 44, op := Op.move (Operand.tmp 43), type := 4, pos := "tree.go:280", after := #[{ on := 4, ground := Ground.data }], guard := none }) (v := ?v21) rfl (by kernel_rfl) (by kernel_rfl) (by kernel_rfl) (fun _ _ _ h => h) (Or.inl ⟨by rfl, ?y21⟩) (by assumption) ?r21
      case y21 => (intro w hSw; (try dsimp only at hSw); (try (go_split_ands)); go_simp; try with_reducible rfl)
      try simp only [Act.put, List.setIfInBounds_toArray, List.set_cons_zero, List.set_cons_succ]
      refine wpAnyH_take (i := 6) (oi := { dst := some 45, op := Op.move (Operand.tmp 0), type := 35, pos := "tree.go:280", after := #[{ on := 5, ground := Ground.guard }], guard := some (5, true) }) (v := ?v22) rfl (by kernel_rfl) (by kernel_rfl) (by kernel_rfl) (fun _ _ _ h => h) (Or.inl ⟨by rfl, ?y22⟩) (by assumption) ?r22
      case y22 => (intro w hSw; (try dsimp only at hSw); (try (go_split_ands)); go_simp; try with_reducible rfl)
      try simp only [Act.put, List.setIfInBounds_toArray, List.set_cons_zero, List.set_cons_succ]
      refine wpAnyH_take (i := 7) (oi := { dst := some 46, op := Op.nilCheck (Operand.tmp 45), type := 0, pos := "tree.go:280", after := #[{ on := 6, ground := Ground.data }, { on := 5, ground := Ground.guard }], guard := some (5, true) }) (v := ?v23) rfl (by kernel_rfl) (by kernel_rfl) (by kernel_rfl) (fun _ _ _ h => h) (Or.inl ⟨by rfl, ?y23⟩) (by assumption) ?r23
      case y23 => (intro w hSw; (try dsimp only at hSw); (try (go_split_ands)); go_simp; try with_reducible rfl)
      try simp only [Act.put, List.setIfInBounds_toArray, List.set_cons_zero, List.set_cons_succ]
      refine wpAnyH_take (i := 8) (oi := { dst := some 47, op := Op.fieldAddr 67 (Operand.tmp 46) 2, type := 0, pos := "tree.go:280", after := #[{ on := 7, ground := Ground.data }, { on := 5, ground := Ground.guard }], guard := some (5, true) }) (v := ?v24) rfl (by kernel_rfl) (by kernel_rfl) (by kernel_rfl) (fun _ _ _ h => h) (Or.inl ⟨by rfl, ?y24⟩) (by assumption) ?r24
      case y24 => (intro w hSw; (try dsimp only at hSw); (try (go_split_ands)); go_simp; try with_reducible rfl)
      try simp only [Act.put, List.setIfInBounds_toArray, List.set_cons_zero, List.set_cons_succ]
      refine wpAnyH_take (i := 9) (oi := { dst := some 48, op := Op.fieldAddr 64 (Operand.tmp 47) 3, type := 0, pos := "tree.go:280", after := #[{ on := 8, ground := Ground.data }, { on := 5, ground := Ground.guard }], guard := some (5, true) }) (v := ?v25) rfl (by kernel_rfl) (by kernel_rfl) (by kernel_rfl) (fun _ _ _ h => h) (Or.inl ⟨by rfl, ?y25⟩) (by assumption) ?r25
      case y25 => (intro w hSw; (try dsimp only at hSw); (try (go_split_ands)); go_simp; try with_reducible rfl)
      try simp only [Act.put, List.setIfInBounds_toArray, List.set_cons_zero, List.set_cons_succ]
      refine wpAnyH_take (i := 10) (oi := { dst := some 49, op := Op.load 62 (Operand.tmp 48), type := 62, pos := "tree.go:280", after := #[{ on := 9, ground := Ground.data }, { on := 5, ground := Ground.guard }], guard := some (5, true) }) (v := ?v26) rfl (by kernel_rfl) (by kernel_rfl) (by kernel_rfl) (fun _ _ _ h => h) (Or.inl ⟨by rfl, ?y26⟩) (by assumption) ?r26
      case y26 => (intro w hSw; (try dsimp only at hSw); (try (go_split_ands)); go_simp; try with_reducible rfl)
      try simp only [Act.put, List.setIfInBounds_toArray, List.set_cons_zero, List.set_cons_succ]
      refine wpAnyH_take (i := 11) (oi := { dst := some 50, op := Op.move (Operand.tmp 1), type := 3, pos := "tree.go:280", after := #[{ on := 5, ground := Ground.guard }], guard := some (5, true) }) (v := ?v27) rfl (by kernel_rfl) (by kernel_rfl) (by kernel_rfl) (fun _ _ _ h => h) (Or.inl ⟨by rfl, ?y27⟩) (by assumption) ?r27
      case y27 => (intro w hSw; (try dsimp only at hSw); (try (go_split_ands)); go_simp; try with_reducible rfl)
      try simp only [Act.put, List.setIfInBounds_toArray, List.set_cons_zero, List.set_cons_succ]
      refine wpAnyH_take (i := 12) (oi := { dst := some 51, op := Op.indexAddr 62 (Operand.tmp 49) (Operand.tmp 50), type := 0, pos := "tree.go:280", after := #[{ on := 10, ground := Ground.data }, { on := 11, ground := Ground.data }, { on := 5, ground := Ground.guard }], guard := some (5, true) }) (v := ?v28) rfl (by kernel_rfl) (by kernel_rfl) (by kernel_rfl) (fun _ _ _ h => h) (Or.inl ⟨by rfl, ?y28⟩) (by assumption) ?r28
      case y28 => (intro w hSw; (try dsimp only at hSw); (try (go_split_ands)); go_simp; try with_reducible rfl)
      try simp only [Act.put, List.setIfInBounds_toArray, List.set_cons_zero, List.set_cons_succ]
      refine wpAnyH_take (i := 13) (oi := { dst := some 52, op := Op.load 30 (Operand.tmp 51), type := 30, pos := "tree.go:280", after := #[{ on := 12, ground := Ground.data }, { on := 5, ground := Ground.guard }], guard := some (5, true) }) (v := ?v29) rfl (by kernel_rfl) (by kernel_rfl) (by kernel_rfl) (fun _ _ _ h => h) (Or.inl ⟨by rfl, ?y29⟩) (by assumption) ?r29
      case y29 => (intro w hSw; (try dsimp only at hSw); (try (go_split_ands)); go_simp; try with_reducible rfl)
      try simp only [Act.put, List.setIfInBounds_toArray, List.set_cons_zero, List.set_cons_succ]
      refine wpAnyH_take (i := 14) (oi := { dst := some 53, op := Op.fieldAddr 40 (Operand.tmp 5) 1, type := 0, pos := "tree.go:280", after := #[{ on := 5, ground := Ground.guard }], guard := some (5, true) }) (v := ?v30) rfl (by kernel_rfl) (by kernel_rfl) (by kernel_rfl) (fun _ _ _ h => h) (Or.inl ⟨by rfl, ?y30⟩) (by assumption) ?r30
      case y30 => (intro w hSw; (try dsimp only at hSw); (try (go_split_ands)); go_simp; try with_reducible rfl)
      try simp only [Act.put, List.setIfInBounds_toArray, List.set_cons_zero, List.set_cons_succ]
      refine wpAnyH_take (i := 15) (oi := { dst := some 54, op := Op.load 30 (Operand.tmp 53), type := 30, pos := "tree.go:280", after := #[{ on := 14, ground := Ground.data }, { on := 5, ground := Ground.guard }], guard := some (5, true) }) (v := ?v31) rfl (by kernel_rfl) (by kernel_rfl) (by kernel_rfl) (fun _ _ _ h => h) (Or.inl ⟨by rfl, ?y31⟩) (by assumption) ?r31
      case y31 => (intro w hSw; (try dsimp only at hSw); (try (go_split_ands)); go_simp; try with_reducible rfl)
      try simp only [Act.put, List.setIfInBounds_toArray, List.set_cons_zero, List.set_cons_succ]
      refine wpAnyH_ready (rs := [16]) (by kernel_rfl) (by simp) ?_
      refine AllReadyH.cons (o := { dst := some 55, op := Op.call { callee := Callee.value (Operand.func 63), args := #[Operand.tmp 52, Operand.tmp 54], argTypes := #[30, 30] }, type := 4, pos := "tree.go:280", after := #[{ on := 13, ground := Ground.data }, { on := 15, ground := Ground.data }, { on := 5, ground := Ground.chain }, { on := 5, ground := Ground.guard }], guard := some (5, true) }) rfl (fun K hK => ?_) AllReadyH.nil
      go_simp
      refine (Better_any ⟨v0, v1, v2, v3⟩ ⟨r0, r1, r2, r3⟩ _).mono ?_
      rintro e w6 ⟨rfl, hb6⟩
      have hb7 := hbd5.later hb6
      clear hb6
      generalize hbb : betB ⟨v0, v1, v2, v3⟩ ⟨r0, r1, r2, r3⟩ = bb at *
      replace hbb := hide hbb
      go_wp2_with fail
      refine hK.out _ _ ?_ (fun hHeld16 => ?_)
      · exact hS5.out _ hb7
      clear hK K
      try simp only [Act.put, List.setIfInBounds_toArray, List.set_cons_zero, List.set_cons_succ]
      refine wpAnyH_take (i := 17) (oi := { dst := some 56, op := Op.pick (Operand.tmp 44) (Operand.tmp 55) (Operand.const (Value.bool false)), type := 4, pos := "tree.go:280", after := #[{ on := 5, ground := Ground.data }, { on := 16, ground := Ground.data }], guard := none }) (v := ?v32) rfl (by kernel_rfl) (by kernel_rfl) (by kernel_rfl) (fun _ _ _ h => h) (Or.inl ⟨by rfl, ?y32⟩) (by assumption) ?r32
      case y32 => (intro w hSw; (try dsimp only at hSw); (try (go_split_ands)); go_simp; try with_reducible rfl)
      try simp only [Act.put, List.setIfInBounds_toArray, List.set_cons_zero, List.set_cons_succ]
      refine wpAnyH_done (by kernel_rfl) ?_ _
      refine NoPanic.normal ?_
      have hT7 := hT.out.below hb7
      have hG7 := hide (hG.out.trans (Goes.of_below hb7))
      have ht7 := hide (tell_any hT7 i (by rw [hXl.out]; exact hin.out) false (by have := hXok.out.rp; omega) (msgT_wf hXok.out i (by rw [hXl.out]; exact hin.out) false) hXo.out)
      rw [htb] at ht7
      replace hT7 := hide hT7
      clear hHeld5 hHeld16 hS5 hte hT hG hbd5 hb7
      cases bb
      · have hV : Hid (V = X) := hE.out.trans (if_neg (by simp))
        clear hE ht7
        go_wp2
        exact v_end rfl rfl ⟨rfl, m4, by rw [hV.out]; exact hT7.out, hGA.out.trans hG7.out⟩
      · have hV : Hid (V = tellT X i false) := hE.out.trans (if_pos rfl)
        clear hE hT7
        go_wp2_with fail
        refine ht7.out.mono ?_
        rintro e w8 ⟨rfl, m8, hT8, hG8⟩
        replace hT8 := hide hT8
        have hG9 := hide (hG7.out.trans hG8)
        clear ht7 hG7 hG8
        go_wp2
        exact v_end rfl rfl ⟨rfl, m8, by rw [hV.out]; exact hT8.out, hGA.out.trans hG9.out⟩
    · have hXE : Hid (X = propT (renewT U1 false) i) := hX2.out
      have hp4 := hide (hearProposal_any hT4 hRok.out (by have := hRo.out; have := hSo.out; have := hSl.out; omega) i (by rw [hRl.out]; exact hin.out))
      rw [hG.out.tb, ← hXE.out] at hp4
      have hGq := hG
      clear hT4 hX2 hXE hG
      go_wp2_with fail
      clear k7
      refine hp4.out.mono ?_
      rintro e w5 ⟨rfl, m5, hT5, hG5⟩
      have hT := hide hT5
      have hG := hide (hGq.out.trans hG5)
      clear hp4 hT5 hG5 hGq
      have htb := hG.out.tb
      have hM5 := hide ((hG.out.block g hgl.out hnf.out).trans hM0.out)
      obtain ⟨pb5, cap5, sp5, hP5, -, -, hlp5⟩ := hT.out.at_i i (by rw [hXl.out]; exact hin.out)
      have hpe : pb5 = pb := by
        have e1 := hP5.pv
        rw [hG.out.pv, hpv.out] at e1
        simp only [Value.slice.injEq, Option.some.injEq, Addr.mk.injEq, and_true] at e1
        exact e1.1.symm
      subst hpe
      have q9 := (hP5.fl.tp i hP5.hi).c9
      obtain ⟨q8, e0, e1, e2, e3⟩ := hT.out.tell i (by rw [hXl.out]; exact hin.out)
      rw [htb, hXl.out] at q8
      have hte := hide (tell_any hT.out i (by rw [hXl.out]; exact hin.out) false (by have := hXok.out.rp; omega) (msgT_wf hXok.out i (by rw [hXl.out]; exact hin.out) false) hXo.out)
      rw [htb] at hte
      have hvl : m5.vb < w5.heap.size := hT.out.tells.lt
      have hvtb : m.tb < w5.heap.size := by rw [← htb]; exact hT.out.ltb
      have hgl5 : g < w5.heap.size := (Array.getElem?_eq_some_iff.1 hM5.out).1
      clear hP5
      generalize (X.ps.getD i Tp.zero).role = rl at *
      generalize hvv : X.tells.getD i Vc.zero = vv at *
      replace hvv := hide hvv
      obtain ⟨v0, v1, v2, v3⟩ := vv
      dsimp only at e0 e1 e2 e3
      have hbd5 : Below w5.heap.size w5 w5.drew := below_drewN (Below.refl _ _) 1
      have hS5 : Hid (∀ W : World, Below w5.heap.size w5 W → W.cell? ⟨pb5, i * 16 + 9, none⟩ = some (.int .i64 rl) ∧ W.cell? ⟨m.tb, 8, none⟩ = some (.slice (some ⟨m5.vb, 0, none⟩) n n) ∧ W.cell? ⟨m5.vb, i * 4, none⟩ = some (.int .u64 v0) ∧ W.cell? ⟨m5.vb, i * 4 + 1, none⟩ = some (.int .u64 v1) ∧ W.cell? ⟨m5.vb, i * 4 + 2, none⟩ = some (.int .u64 v2) ∧ W.cell? ⟨m5.vb, i * 4 + 3, none⟩ = some (.int .i64 v3) ∧ W.cell? ⟨g, 1, none⟩ = some (.int .u64 r0) ∧ W.cell? ⟨g, 2, none⟩ = some (.int .u64 r1) ∧ W.cell? ⟨g, 3, none⟩ = some (.int .u64 r2) ∧ W.cell? ⟨g, 4, none⟩ = some (.int .i64 r3)) := fun W hb => by
        have hq := (bcell hb).1
        exact ⟨(hq _ _ hlp5).trans q9, (hq _ _ hvtb).trans q8, (hq _ _ hvl).trans e0, (hq _ _ hvl).trans e1, (hq _ _ hvl).trans e2, (hq _ _ hvl).trans e3, (hq _ _ hgl5).trans ((cell_of_row _ _ _ _ _ _ hM5.out).trans rfl), (hq _ _ hgl5).trans ((cell_of_row _ _ _ _ _ _ hM5.out).trans rfl), (hq _ _ hgl5).trans ((cell_of_row _ _ _ _ _ _ hM5.out).trans rfl), (hq _ _ hgl5).trans ((cell_of_row _ _ _ _ _ _ hM5.out).trans rfl)⟩
      clear q9 q8 e0 e1 e2 e3
      go_wp2_with fail
      refine wp_region_noPanic ?_
      refine wp_region_held_drew (S := fun W => W.cell? ⟨pb5, i * 16 + 9, none⟩ = some (.int .i64 rl) ∧ W.cell? ⟨m.tb, 8, none⟩ = some (.slice (some ⟨m5.vb, 0, none⟩) n n) ∧ W.cell? ⟨m5.vb, i * 4, none⟩ = some (.int .u64 v0) ∧ W.cell? ⟨m5.vb, i * 4 + 1, none⟩ = some (.int .u64 v1) ∧ W.cell? ⟨m5.vb, i * 4 + 2, none⟩ = some (.int .u64 v2) ∧ W.cell? ⟨m5.vb, i * 4 + 3, none⟩ = some (.int .i64 v3) ∧ W.cell? ⟨g, 1, none⟩ = some (.int .u64 r0) ∧ W.cell? ⟨g, 2, none⟩ = some (.int .u64 r1) ∧ W.cell? ⟨g, 3, none⟩ = some (.int .u64 r2) ∧ W.cell? ⟨g, 4, none⟩ = some (.int .i64 r3)) (by kernel_rfl) (hS5.out _ hbd5) (fun hHeld5 => ?_)
      by_cases h2 : rl = 2
      rotate_left
      · have hV : Hid (V = X) := hE.out.trans (if_neg (by simp [h2]))
        have h2q : (rl == 2) = false := by rw [beq_eq_false_iff_ne]; exact h2
        clear hE h2
        refine wpAnyH_take (i := 0) (oi := { dst := some 39, op := Op.move (Operand.tmp 6), type := 89, pos := "tree.go:280", after := #[], guard := none }) (v := ?v33) rfl (by kernel_rfl) (by kernel_rfl) (by kernel_rfl) (fun _ _ _ h => h) (Or.inl ⟨by rfl, ?y33⟩) (by assumption) ?r33
        case y33 => (intro w hSw; (try dsimp only at hSw); (try (go_split_ands)); go_simp; try with_reducible rfl)
        try simp only [Act.put, List.setIfInBounds_toArray, List.set_cons_zero, List.set_cons_succ]
        refine wpAnyH_take (i := 1) (oi := { dst := some 40, op := Op.nilCheck (Operand.tmp 39), type := 0, pos := "tree.go:280", after := #[{ on := 0, ground := Ground.data }], guard := none }) (v := ?v34) rfl (by kernel_rfl) (by kernel_rfl) (by kernel_rfl) (fun _ _ _ h => h) (Or.inl ⟨by rfl, ?y34⟩) (by assumption) ?r34
        case y34 => (intro w hSw; (try dsimp only at hSw); (try (go_split_ands)); go_simp; try with_reducible rfl)
        try simp only [Act.put, List.setIfInBounds_toArray, List.set_cons_zero, List.set_cons_succ]
        refine wpAnyH_take (i := 2) (oi := { dst := some 41, op := Op.fieldAddr 34 (Operand.tmp 40) 2, type := 0, pos := "tree.go:280", after := #[{ on := 1, ground := Ground.data }], guard := none }) (v := ?v35) rfl (by kernel_rfl) (by kernel_rfl) (by kernel_rfl) (fun _ _ _ h => h) (Or.inl ⟨by rfl, ?y35⟩) (by assumption) ?r35
        case y35 => (intro w hSw; (try dsimp only at hSw); (try (go_split_ands)); go_simp; try with_reducible rfl)
        try simp only [Act.put, List.setIfInBounds_toArray, List.set_cons_zero, List.set_cons_succ]
        refine wpAnyH_take (i := 3) (oi := { dst := some 42, op := Op.load 3 (Operand.tmp 41), type := 3, pos := "tree.go:280", after := #[{ on := 2, ground := Ground.data }], guard := none }) (v := ?v36) rfl (by kernel_rfl) (by kernel_rfl) (by kernel_rfl) (fun _ _ _ h => h) (Or.inl ⟨by rfl, ?y36⟩) (by assumption) ?r36
        case y36 => (intro w hSw; (try dsimp only at hSw); (try (go_split_ands)); go_simp; try with_reducible rfl)
        try simp only [Act.put, List.setIfInBounds_toArray, List.set_cons_zero, List.set_cons_succ]
        refine wpAnyH_take (i := 4) (oi := { dst := some 43, op := Op.binOp BinOp.eql 3 (Operand.tmp 42) (Operand.const (Value.int IntKind.i64 2)) 3, type := 4, pos := "tree.go:280", after := #[{ on := 3, ground := Ground.data }], guard := none }) (v := ?v37) rfl (by kernel_rfl) (by kernel_rfl) (by kernel_rfl) (fun _ _ _ h => h) (Or.inl ⟨by rfl, ?y37⟩) (by assumption) ?r37
        case y37 => (intro w hSw; (try dsimp only at hSw); (try (go_split_ands)); go_simp; try with_reducible rfl)
        try simp only [Act.put, List.setIfInBounds_toArray, List.set_cons_zero, List.set_cons_succ]
        refine wpAnyH_take (i := 5) (oi := { dst := some 44, op := Op.move (Operand.tmp 43), type := 4, pos := "tree.go:280", after := #[{ on := 4, ground := Ground.data }], guard := none }) (v := ?v38) rfl (by kernel_rfl) (by kernel_rfl) (by kernel_rfl) (fun _ _ _ h => h) (Or.inl ⟨by rfl, ?y38⟩) (by assumption) ?r38
        case y38 => (intro w hSw; (try dsimp only at hSw); (try (go_split_ands)); go_simp; try with_reducible rfl)
        try simp only [Act.put, List.setIfInBounds_toArray, List.set_cons_zero, List.set_cons_succ]
        refine wpAnyH_take (i := 6) (oi := { dst := some 45, op := Op.move (Operand.tmp 0), type := 35, pos := "tree.go:280", after := #[{ on := 5, ground := Ground.guard }], guard := some (5, true) }) (v := undef) rfl (by kernel_rfl) (by kernel_rfl) (by kernel_rfl) (fun _ _ _ h => h) (Or.inr ⟨by rfl, rfl⟩) (by assumption) ?_
        try simp only [Act.put, List.setIfInBounds_toArray, List.set_cons_zero, List.set_cons_succ]
        refine wpAnyH_take (i := 7) (oi := { dst := some 46, op := Op.nilCheck (Operand.tmp 45), type := 0, pos := "tree.go:280", after := #[{ on := 6, ground := Ground.data }, { on := 5, ground := Ground.guard }], guard := some (5, true) }) (v := undef) rfl (by kernel_rfl) (by kernel_rfl) (by kernel_rfl) (fun _ _ _ h => h) (Or.inr ⟨by rfl, rfl⟩) (by assumption) ?_
        try simp only [Act.put, List.setIfInBounds_toArray, List.set_cons_zero, List.set_cons_succ]
        refine wpAnyH_take (i := 8) (oi := { dst := some 47, op := Op.fieldAddr 67 (Operand.tmp 46) 2, type := 0, pos := "tree.go:280", after := #[{ on := 7, ground := Ground.data }, { on := 5, ground := Ground.guard }], guard := some (5, true) }) (v := undef) rfl (by kernel_rfl) (by kernel_rfl) (by kernel_rfl) (fun _ _ _ h => h) (Or.inr ⟨by rfl, rfl⟩) (by assumption) ?_
        try simp only [Act.put, List.setIfInBounds_toArray, List.set_cons_zero, List.set_cons_succ]
        refine wpAnyH_take (i := 9) (oi := { dst := some 48, op := Op.fieldAddr 64 (Operand.tmp 47) 3, type := 0, pos := "tree.go:280", after := #[{ on := 8, ground := Ground.data }, { on := 5, ground := Ground.guard }], guard := some (5, true) }) (v := undef) rfl (by kernel_rfl) (by kernel_rfl) (by kernel_rfl) (fun _ _ _ h => h) (Or.inr ⟨by rfl, rfl⟩) (by assumption) ?_
        try simp only [Act.put, List.setIfInBounds_toArray, List.set_cons_zero, List.set_cons_succ]
        refine wpAnyH_take (i := 10) (oi := { dst := some 49, op := Op.load 62 (Operand.tmp 48), type := 62, pos := "tree.go:280", after := #[{ on := 9, ground := Ground.data }, { on := 5, ground := Ground.guard }], guard := some (5, true) }) (v := undef) rfl (by kernel_rfl) (by kernel_rfl) (by kernel_rfl) (fun _ _ _ h => h) (Or.inr ⟨by rfl, rfl⟩) (by assumption) ?_
        try simp only [Act.put, List.setIfInBounds_toArray, List.set_cons_zero, List.set_cons_succ]
        refine wpAnyH_take (i := 11) (oi := { dst := some 50, op := Op.move (Operand.tmp 1), type := 3, pos := "tree.go:280", after := #[{ on := 5, ground := Ground.guard }], guard := some (5, true) }) (v := undef) rfl (by kernel_rfl) (by kernel_rfl) (by kernel_rfl) (fun _ _ _ h => h) (Or.inr ⟨by rfl, rfl⟩) (by assumption) ?_
        try simp only [Act.put, List.setIfInBounds_toArray, List.set_cons_zero, List.set_cons_succ]
        refine wpAnyH_take (i := 12) (oi := { dst := some 51, op := Op.indexAddr 62 (Operand.tmp 49) (Operand.tmp 50), type := 0, pos := "tree.go:280", after := #[{ on := 10, ground := Ground.data }, { on := 11, ground := Ground.data }, { on := 5, ground := Ground.guard }], guard := some (5, true) }) (v := undef) rfl (by kernel_rfl) (by kernel_rfl) (by kernel_rfl) (fun _ _ _ h => h) (Or.inr ⟨by rfl, rfl⟩) (by assumption) ?_
        try simp only [Act.put, List.setIfInBounds_toArray, List.set_cons_zero, List.set_cons_succ]
        refine wpAnyH_take (i := 13) (oi := { dst := some 52, op := Op.load 30 (Operand.tmp 51), type := 30, pos := "tree.go:280", after := #[{ on := 12, ground := Ground.data }, { on := 5, ground := Ground.guard }], guard := some (5, true) }) (v := undef) rfl (by kernel_rfl) (by kernel_rfl) (by kernel_rfl) (fun _ _ _ h => h) (Or.inr ⟨by rfl, rfl⟩) (by assumption) ?_
        try simp only [Act.put, List.setIfInBounds_toArray, List.set_cons_zero, List.set_cons_succ]
        refine wpAnyH_take (i := 14) (oi := { dst := some 53, op := Op.fieldAddr 40 (Operand.tmp 5) 1, type := 0, pos := "tree.go:280", after := #[{ on := 5, ground := Ground.guard }], guard := some (5, true) }) (v := undef) rfl (by kernel_rfl) (by kernel_rfl) (by kernel_rfl) (fun _ _ _ h => h) (Or.inr ⟨by rfl, rfl⟩) (by assumption) ?_
        try simp only [Act.put, List.setIfInBounds_toArray, List.set_cons_zero, List.set_cons_succ]
        refine wpAnyH_take (i := 15) (oi := { dst := some 54, op := Op.load 30 (Operand.tmp 53), type := 30, pos := "tree.go:280", after := #[{ on := 14, ground := Ground.data }, { on := 5, ground := Ground.guard }], guard := some (5, true) }) (v := undef) rfl (by kernel_rfl) (by kernel_rfl) (by kernel_rfl) (fun _ _ _ h => h) (Or.inr ⟨by rfl, rfl⟩) (by assumption) ?_
        try simp only [Act.put, List.setIfInBounds_toArray, List.set_cons_zero, List.set_cons_succ]
        refine wpAnyH_take (i := 16) (oi := { dst := some 55, op := Op.call { callee := Callee.value (Operand.func 63), args := #[Operand.tmp 52, Operand.tmp 54], argTypes := #[30, 30] }, type := 4, pos := "tree.go:280", after := #[{ on := 13, ground := Ground.data }, { on := 15, ground := Ground.data }, { on := 5, ground := Ground.chain }, { on := 5, ground := Ground.guard }], guard := some (5, true) }) (v := undef) rfl (by kernel_rfl) (by kernel_rfl) (by kernel_rfl) (fun _ _ _ h => h) (Or.inr ⟨by rfl, rfl⟩) (by assumption) ?_
        try simp only [Act.put, List.setIfInBounds_toArray, List.set_cons_zero, List.set_cons_succ]
        refine wpAnyH_take (i := 17) (oi := { dst := some 56, op := Op.pick (Operand.tmp 44) (Operand.tmp 55) (Operand.const (Value.bool false)), type := 4, pos := "tree.go:280", after := #[{ on := 5, ground := Ground.data }, { on := 16, ground := Ground.data }], guard := none }) (v := ?v39) rfl (by kernel_rfl) (by kernel_rfl) (by kernel_rfl) (fun _ _ _ h => h) (Or.inl ⟨by rfl, ?y39⟩) (by assumption) ?r39
        case y39 => (intro w hSw; (try dsimp only at hSw); (try (go_split_ands)); go_simp; try with_reducible rfl)
        try simp only [Act.put, List.setIfInBounds_toArray, List.set_cons_zero, List.set_cons_succ]
        refine wpAnyH_done (by kernel_rfl) ?_ _
        refine NoPanic.normal ?_
        have hT6 := hide (hT.out.below hbd5)
        have hG6 := hide (hG.out.trans (Goes.of_below hbd5))
        clear hHeld5 hS5 hte hT hG hbd5
        go_wp2
        exact v_end rfl rfl ⟨rfl, m5, by rw [hV.out]; exact hT6.out, hGA.out.trans hG6.out⟩
      subst h2
      refine wpAnyH_take (i := 0) (oi := { dst := some 39, op := Op.move (Operand.tmp 6), type := 89, pos := "tree.go:280", after := #[], guard := none }) (v := ?v40) rfl (by kernel_rfl) (by kernel_rfl) (by kernel_rfl) (fun _ _ _ h => h) (Or.inl ⟨by rfl, ?y40⟩) (by assumption) ?r40
      case y40 => (intro w hSw; (try dsimp only at hSw); (try (go_split_ands)); go_simp; try with_reducible rfl)
      try simp only [Act.put, List.setIfInBounds_toArray, List.set_cons_zero, List.set_cons_succ]
      refine wpAnyH_take (i := 1) (oi := { dst := some 40, op := Op.nilCheck (Operand.tmp 39), type := 0, pos := "tree.go:280", after := #[{ on := 0, ground := Ground.data }], guard := none }) (v := ?v41) rfl (by kernel_rfl) (by kernel_rfl) (by kernel_rfl) (fun _ _ _ h => h) (Or.inl ⟨by rfl, ?y41⟩) (by assumption) ?r41
      case y41 => (intro w hSw; (try dsimp only at hSw); (try (go_split_ands)); go_simp; try with_reducible rfl)
      try simp only [Act.put, List.setIfInBounds_toArray, List.set_cons_zero, List.set_cons_succ]
      refine wpAnyH_take (i := 2) (oi := { dst := some 41, op := Op.fieldAddr 34 (Operand.tmp 40) 2, type := 0, pos := "tree.go:280", after := #[{ on := 1, ground := Ground.data }], guard := none }) (v := ?v42) rfl (by kernel_rfl) (by kernel_rfl) (by kernel_rfl) (fun _ _ _ h => h) (Or.inl ⟨by rfl, ?y42⟩) (by assumption) ?r42
      case y42 => (intro w hSw; (try dsimp only at hSw); (try (go_split_ands)); go_simp; try with_reducible rfl)
      try simp only [Act.put, List.setIfInBounds_toArray, List.set_cons_zero, List.set_cons_succ]
      refine wpAnyH_take (i := 3) (oi := { dst := some 42, op := Op.load 3 (Operand.tmp 41), type := 3, pos := "tree.go:280", after := #[{ on := 2, ground := Ground.data }], guard := none }) (v := ?v43) rfl (by kernel_rfl) (by kernel_rfl) (by kernel_rfl) (fun _ _ _ h => h) (Or.inl ⟨by rfl, ?y43⟩) (by assumption) ?r43
      case y43 => (intro w hSw; (try dsimp only at hSw); (try (go_split_ands)); go_simp; try with_reducible rfl)
      try simp only [Act.put, List.setIfInBounds_toArray, List.set_cons_zero, List.set_cons_succ]
      refine wpAnyH_take (i := 4) (oi := { dst := some 43, op := Op.binOp BinOp.eql 3 (Operand.tmp 42) (Operand.const (Value.int IntKind.i64 2)) 3, type := 4, pos := "tree.go:280", after := #[{ on := 3, ground := Ground.data }], guard := none }) (v := ?v44) rfl (by kernel_rfl) (by kernel_rfl) (by kernel_rfl) (fun _ _ _ h => h) (Or.inl ⟨by rfl, ?y44⟩) (by assumption) ?r44
      case y44 => (intro w hSw; (try dsimp only at hSw); (try (go_split_ands)); go_simp; try with_reducible rfl)
      try simp only [Act.put, List.setIfInBounds_toArray, List.set_cons_zero, List.set_cons_succ]
      refine wpAnyH_take (i := 5) (oi := { dst := some 44, op := Op.move (Operand.tmp 43), type := 4, pos := "tree.go:280", after := #[{ on := 4, ground := Ground.data }], guard := none }) (v := ?v45) rfl (by kernel_rfl) (by kernel_rfl) (by kernel_rfl) (fun _ _ _ h => h) (Or.inl ⟨by rfl, ?y45⟩) (by assumption) ?r45
      case y45 => (intro w hSw; (try dsimp only at hSw); (try (go_split_ands)); go_simp; try with_reducible rfl)
      try simp only [Act.put, List.setIfInBounds_toArray, List.set_cons_zero, List.set_cons_succ]
      refine wpAnyH_take (i := 6) (oi := { dst := some 45, op := Op.move (Operand.tmp 0), type := 35, pos := "tree.go:280", after := #[{ on := 5, ground := Ground.guard }], guard := some (5, true) }) (v := ?v46) rfl (by kernel_rfl) (by kernel_rfl) (by kernel_rfl) (fun _ _ _ h => h) (Or.inl ⟨by rfl, ?y46⟩) (by assumption) ?r46
      case y46 => (intro w hSw; (try dsimp only at hSw); (try (go_split_ands)); go_simp; try with_reducible rfl)
      try simp only [Act.put, List.setIfInBounds_toArray, List.set_cons_zero, List.set_cons_succ]
      refine wpAnyH_take (i := 7) (oi := { dst := some 46, op := Op.nilCheck (Operand.tmp 45), type := 0, pos := "tree.go:280", after := #[{ on := 6, ground := Ground.data }, { on := 5, ground := Ground.guard }], guard := some (5, true) }) (v := ?v47) rfl (by kernel_rfl) (by kernel_rfl) (by kernel_rfl) (fun _ _ _ h => h) (Or.inl ⟨by rfl, ?y47⟩) (by assumption) ?r47
      case y47 => (intro w hSw; (try dsimp only at hSw); (try (go_split_ands)); go_simp; try with_reducible rfl)
      try simp only [Act.put, List.setIfInBounds_toArray, List.set_cons_zero, List.set_cons_succ]
      refine wpAnyH_take (i := 8) (oi := { dst := some 47, op := Op.fieldAddr 67 (Operand.tmp 46) 2, type := 0, pos := "tree.go:280", after := #[{ on := 7, ground := Ground.data }, { on := 5, ground := Ground.guard }], guard := some (5, true) }) (v := ?v48) rfl (by kernel_rfl) (by kernel_rfl) (by kernel_rfl) (fun _ _ _ h => h) (Or.inl ⟨by rfl, ?y48⟩) (by assumption) ?r48
      case y48 => (intro w hSw; (try dsimp only at hSw); (try (go_split_ands)); go_simp; try with_reducible rfl)
      try simp only [Act.put, List.setIfInBounds_toArray, List.set_cons_zero, List.set_cons_succ]
      refine wpAnyH_take (i := 9) (oi := { dst := some 48, op := Op.fieldAddr 64 (Operand.tmp 47) 3, type := 0, pos := "tree.go:280", after := #[{ on := 8, ground := Ground.data }, { on := 5, ground := Ground.guard }], guard := some (5, true) }) (v := ?v49) rfl (by kernel_rfl) (by kernel_rfl) (by kernel_rfl) (fun _ _ _ h => h) (Or.inl ⟨by rfl, ?y49⟩) (by assumption) ?r49
      case y49 => (intro w hSw; (try dsimp only at hSw); (try (go_split_ands)); go_simp; try with_reducible rfl)
      try simp only [Act.put, List.setIfInBounds_toArray, List.set_cons_zero, List.set_cons_succ]
      refine wpAnyH_take (i := 10) (oi := { dst := some 49, op := Op.load 62 (Operand.tmp 48), type := 62, pos := "tree.go:280", after := #[{ on := 9, ground := Ground.data }, { on := 5, ground := Ground.guard }], guard := some (5, true) }) (v := ?v50) rfl (by kernel_rfl) (by kernel_rfl) (by kernel_rfl) (fun _ _ _ h => h) (Or.inl ⟨by rfl, ?y50⟩) (by assumption) ?r50
      case y50 => (intro w hSw; (try dsimp only at hSw); (try (go_split_ands)); go_simp; try with_reducible rfl)
      try simp only [Act.put, List.setIfInBounds_toArray, List.set_cons_zero, List.set_cons_succ]
      refine wpAnyH_take (i := 11) (oi := { dst := some 50, op := Op.move (Operand.tmp 1), type := 3, pos := "tree.go:280", after := #[{ on := 5, ground := Ground.guard }], guard := some (5, true) }) (v := ?v51) rfl (by kernel_rfl) (by kernel_rfl) (by kernel_rfl) (fun _ _ _ h => h) (Or.inl ⟨by rfl, ?y51⟩) (by assumption) ?r51
      case y51 => (intro w hSw; (try dsimp only at hSw); (try (go_split_ands)); go_simp; try with_reducible rfl)
      try simp only [Act.put, List.setIfInBounds_toArray, List.set_cons_zero, List.set_cons_succ]
      refine wpAnyH_take (i := 12) (oi := { dst := some 51, op := Op.indexAddr 62 (Operand.tmp 49) (Operand.tmp 50), type := 0, pos := "tree.go:280", after := #[{ on := 10, ground := Ground.data }, { on := 11, ground := Ground.data }, { on := 5, ground := Ground.guard }], guard := some (5, true) }) (v := ?v52) rfl (by kernel_rfl) (by kernel_rfl) (by kernel_rfl) (fun _ _ _ h => h) (Or.inl ⟨by rfl, ?y52⟩) (by assumption) ?r52
      case y52 => (intro w hSw; (try dsimp only at hSw); (try (go_split_ands)); go_simp; try with_reducible rfl)
      try simp only [Act.put, List.setIfInBounds_toArray, List.set_cons_zero, List.set_cons_succ]
      refine wpAnyH_take (i := 13) (oi := { dst := some 52, op := Op.load 30 (Operand.tmp 51), type := 30, pos := "tree.go:280", after := #[{ on := 12, ground := Ground.data }, { on := 5, ground := Ground.guard }], guard := some (5, true) }) (v := ?v53) rfl (by kernel_rfl) (by kernel_rfl) (by kernel_rfl) (fun _ _ _ h => h) (Or.inl ⟨by rfl, ?y53⟩) (by assumption) ?r53
      case y53 => (intro w hSw; (try dsimp only at hSw); (try (go_split_ands)); go_simp; try with_reducible rfl)
      try simp only [Act.put, List.setIfInBounds_toArray, List.set_cons_zero, List.set_cons_succ]
      refine wpAnyH_take (i := 14) (oi := { dst := some 53, op := Op.fieldAddr 40 (Operand.tmp 5) 1, type := 0, pos := "tree.go:280", after := #[{ on := 5, ground := Ground.guard }], guard := some (5, true) }) (v := ?v54) rfl (by kernel_rfl) (by kernel_rfl) (by kernel_rfl) (fun _ _ _ h => h) (Or.inl ⟨by rfl, ?y54⟩) (by assumption) ?r54
      case y54 => (intro w hSw; (try dsimp only at hSw); (try (go_split_ands)); go_simp; try with_reducible rfl)
      try simp only [Act.put, List.setIfInBounds_toArray, List.set_cons_zero, List.set_cons_succ]
      refine wpAnyH_take (i := 15) (oi := { dst := some 54, op := Op.load 30 (Operand.tmp 53), type := 30, pos := "tree.go:280", after := #[{ on := 14, ground := Ground.data }, { on := 5, ground := Ground.guard }], guard := some (5, true) }) (v := ?v55) rfl (by kernel_rfl) (by kernel_rfl) (by kernel_rfl) (fun _ _ _ h => h) (Or.inl ⟨by rfl, ?y55⟩) (by assumption) ?r55
      case y55 => (intro w hSw; (try dsimp only at hSw); (try (go_split_ands)); go_simp; try with_reducible rfl)
      try simp only [Act.put, List.setIfInBounds_toArray, List.set_cons_zero, List.set_cons_succ]
      refine wpAnyH_ready (rs := [16]) (by kernel_rfl) (by simp) ?_
      refine AllReadyH.cons (o := { dst := some 55, op := Op.call { callee := Callee.value (Operand.func 63), args := #[Operand.tmp 52, Operand.tmp 54], argTypes := #[30, 30] }, type := 4, pos := "tree.go:280", after := #[{ on := 13, ground := Ground.data }, { on := 15, ground := Ground.data }, { on := 5, ground := Ground.chain }, { on := 5, ground := Ground.guard }], guard := some (5, true) }) rfl (fun K hK => ?_) AllReadyH.nil
      go_simp
      refine (Better_any ⟨v0, v1, v2, v3⟩ ⟨r0, r1, r2, r3⟩ _).mono ?_
      rintro e w6 ⟨rfl, hb6⟩
      have hb7 := hbd5.later hb6
      clear hb6
      generalize hbb : betB ⟨v0, v1, v2, v3⟩ ⟨r0, r1, r2, r3⟩ = bb at *
      replace hbb := hide hbb
      go_wp2_with fail
      refine hK.out _ _ ?_ (fun hHeld16 => ?_)
      · exact hS5.out _ hb7
      clear hK K
      try simp only [Act.put, List.setIfInBounds_toArray, List.set_cons_zero, List.set_cons_succ]
      refine wpAnyH_take (i := 17) (oi := { dst := some 56, op := Op.pick (Operand.tmp 44) (Operand.tmp 55) (Operand.const (Value.bool false)), type := 4, pos := "tree.go:280", after := #[{ on := 5, ground := Ground.data }, { on := 16, ground := Ground.data }], guard := none }) (v := ?v56) rfl (by kernel_rfl) (by kernel_rfl) (by kernel_rfl) (fun _ _ _ h => h) (Or.inl ⟨by rfl, ?y56⟩) (by assumption) ?r56
      case y56 => (intro w hSw; (try dsimp only at hSw); (try (go_split_ands)); go_simp; try with_reducible rfl)
      try simp only [Act.put, List.setIfInBounds_toArray, List.set_cons_zero, List.set_cons_succ]
      refine wpAnyH_done (by kernel_rfl) ?_ _
      refine NoPanic.normal ?_
      have hT7 := hT.out.below hb7
      have hG7 := hide (hG.out.trans (Goes.of_below hb7))
      have ht7 := hide (tell_any hT7 i (by rw [hXl.out]; exact hin.out) false (by have := hXok.out.rp; omega) (msgT_wf hXok.out i (by rw [hXl.out]; exact hin.out) false) hXo.out)
      rw [htb] at ht7
      replace hT7 := hide hT7
      clear hHeld5 hHeld16 hS5 hte hT hG hbd5 hb7
      cases bb
      · have hV : Hid (V = X) := hE.out.trans (if_neg (by simp))
        clear hE ht7
        go_wp2
        exact v_end rfl rfl ⟨rfl, m5, by rw [hV.out]; exact hT7.out, hGA.out.trans hG7.out⟩
      · have hV : Hid (V = tellT X i false) := hE.out.trans (if_pos rfl)
        clear hE hT7
        go_wp2_with fail
        refine ht7.out.mono ?_
        rintro e w8 ⟨rfl, m8, hT8, hG8⟩
        replace hT8 := hide hT8
        have hG9 := hide (hG7.out.trans hG8)
        clear ht7 hG7 hG8
        go_wp2
        exact v_end rfl rfl ⟨rfl, m8, by rw [hV.out]; exact hT8.out, hGA.out.trans hG9.out⟩
  ·
    refine wpAnyH_take (i := 0) (oi := { dst := some 13, op := Op.move (Operand.tmp 6), type := 89, pos := "tree.go:273", after := #[], guard := none }) (v := ?v57) rfl (by kernel_rfl) (by kernel_rfl) (by kernel_rfl) (fun _ _ _ h => h) (Or.inl ⟨by rfl, ?y57⟩) (by assumption) ?r57
    case y57 => (intro w hSw; (try dsimp only at hSw); (try (go_split_ands)); go_simp; try with_reducible rfl)
    try simp only [Act.put, List.setIfInBounds_toArray, List.set_cons_zero, List.set_cons_succ]
    refine wpAnyH_take (i := 1) (oi := { dst := some 14, op := Op.nilCheck (Operand.tmp 13), type := 0, pos := "tree.go:273", after := #[{ on := 0, ground := Ground.data }], guard := none }) (v := ?v58) rfl (by kernel_rfl) (by kernel_rfl) (by kernel_rfl) (fun _ _ _ h => h) (Or.inl ⟨by rfl, ?y58⟩) (by assumption) ?r58
    case y58 => (intro w hSw; (try dsimp only at hSw); (try (go_split_ands)); go_simp; try with_reducible rfl)
    try simp only [Act.put, List.setIfInBounds_toArray, List.set_cons_zero, List.set_cons_succ]
    refine wpAnyH_take (i := 2) (oi := { dst := some 15, op := Op.fieldAddr 34 (Operand.tmp 14) 0, type := 0, pos := "tree.go:273", after := #[{ on := 1, ground := Ground.data }], guard := none }) (v := ?v59) rfl (by kernel_rfl) (by kernel_rfl) (by kernel_rfl) (fun _ _ _ h => h) (Or.inl ⟨by rfl, ?y59⟩) (by assumption) ?r59
    case y59 => (intro w hSw; (try dsimp only at hSw); (try (go_split_ands)); go_simp; try with_reducible rfl)
    try simp only [Act.put, List.setIfInBounds_toArray, List.set_cons_zero, List.set_cons_succ]
    refine wpAnyH_take (i := 3) (oi := { dst := some 16, op := Op.fieldAddr 32 (Operand.tmp 15) 3, type := 0, pos := "tree.go:273", after := #[{ on := 2, ground := Ground.data }], guard := none }) (v := ?v60) rfl (by kernel_rfl) (by kernel_rfl) (by kernel_rfl) (fun _ _ _ h => h) (Or.inl ⟨by rfl, ?y60⟩) (by assumption) ?r60
    case y60 => (intro w hSw; (try dsimp only at hSw); (try (go_split_ands)); go_simp; try with_reducible rfl)
    try simp only [Act.put, List.setIfInBounds_toArray, List.set_cons_zero, List.set_cons_succ]
    refine wpAnyH_take (i := 4) (oi := { dst := some 17, op := Op.load 4 (Operand.tmp 16), type := 4, pos := "tree.go:273", after := #[{ on := 3, ground := Ground.data }], guard := none }) (v := ?v61) rfl (by kernel_rfl) (by kernel_rfl) (by kernel_rfl) (fun _ _ _ h => h) (Or.inl ⟨by rfl, ?y61⟩) (by assumption) ?r61
    case y61 => (intro w hSw; (try dsimp only at hSw); (try (go_split_ands)); go_simp; try with_reducible rfl)
    try simp only [Act.put, List.setIfInBounds_toArray, List.set_cons_zero, List.set_cons_succ]
    refine wpAnyH_take (i := 5) (oi := { dst := some 18, op := Op.unOp UnOp.not 4 (Operand.tmp 17), type := 4, pos := "tree.go:273", after := #[{ on := 4, ground := Ground.data }], guard := none }) (v := ?v62) rfl (by kernel_rfl) (by kernel_rfl) (by kernel_rfl) (fun _ _ _ h => h) (Or.inl ⟨by rfl, ?y62⟩) (by assumption) ?r62
    case y62 => (intro w hSw; (try dsimp only at hSw); (try (go_split_ands)); go_simp; try with_reducible rfl)
    try simp only [Act.put, List.setIfInBounds_toArray, List.set_cons_zero, List.set_cons_succ]
    refine wpAnyH_take (i := 6) (oi := { dst := some 19, op := Op.move (Operand.tmp 18), type := 4, pos := "tree.go:273", after := #[{ on := 5, ground := Ground.data }], guard := none }) (v := ?v63) rfl (by kernel_rfl) (by kernel_rfl) (by kernel_rfl) (fun _ _ _ h => h) (Or.inl ⟨by rfl, ?y63⟩) (by assumption) ?r63
    case y63 => (intro w hSw; (try dsimp only at hSw); (try (go_split_ands)); go_simp; try with_reducible rfl)
    try simp only [Act.put, List.setIfInBounds_toArray, List.set_cons_zero, List.set_cons_succ]
    refine wpAnyH_take (i := 7) (oi := { dst := some 20, op := Op.fieldAddr 40 (Operand.tmp 5) 1, type := 0, pos := "tree.go:273", after := #[{ on := 6, ground := Ground.guard }], guard := some (6, false) }) (v := ?v64) rfl (by kernel_rfl) (by kernel_rfl) (by kernel_rfl) (fun _ _ _ h => h) (Or.inl ⟨by rfl, ?y64⟩) (by assumption) ?r64
    case y64 => (intro w hSw; (try dsimp only at hSw); (try (go_split_ands)); go_simp; try with_reducible rfl)
    try simp only [Act.put, List.setIfInBounds_toArray, List.set_cons_zero, List.set_cons_succ]
    refine wpAnyH_take (i := 8) (oi := { dst := some 21, op := Op.load 30 (Operand.tmp 20), type := 30, pos := "tree.go:273", after := #[{ on := 7, ground := Ground.data }, { on := 6, ground := Ground.guard }], guard := some (6, false) }) (v := ?v65) rfl (by kernel_rfl) (by kernel_rfl) (by kernel_rfl) (fun _ _ _ h => h) (Or.inl ⟨by rfl, ?y65⟩) (by assumption) ?r65
    case y65 => (intro w hSw; (try dsimp only at hSw); (try (go_split_ands)); go_simp; try with_reducible rfl)
    try simp only [Act.put, List.setIfInBounds_toArray, List.set_cons_zero, List.set_cons_succ]
    refine wpAnyH_take (i := 9) (oi := { dst := some 22, op := Op.move (Operand.tmp 6), type := 89, pos := "tree.go:273", after := #[{ on := 6, ground := Ground.guard }], guard := some (6, false) }) (v := ?v66) rfl (by kernel_rfl) (by kernel_rfl) (by kernel_rfl) (fun _ _ _ h => h) (Or.inl ⟨by rfl, ?y66⟩) (by assumption) ?r66
    case y66 => (intro w hSw; (try dsimp only at hSw); (try (go_split_ands)); go_simp; try with_reducible rfl)
    try simp only [Act.put, List.setIfInBounds_toArray, List.set_cons_zero, List.set_cons_succ]
    refine wpAnyH_take (i := 10) (oi := { dst := some 23, op := Op.nilCheck (Operand.tmp 22), type := 0, pos := "tree.go:273", after := #[{ on := 9, ground := Ground.data }, { on := 6, ground := Ground.guard }], guard := some (6, false) }) (v := ?v67) rfl (by kernel_rfl) (by kernel_rfl) (by kernel_rfl) (fun _ _ _ h => h) (Or.inl ⟨by rfl, ?y67⟩) (by assumption) ?r67
    case y67 => (intro w hSw; (try dsimp only at hSw); (try (go_split_ands)); go_simp; try with_reducible rfl)
    try simp only [Act.put, List.setIfInBounds_toArray, List.set_cons_zero, List.set_cons_succ]
    refine wpAnyH_take (i := 11) (oi := { dst := some 24, op := Op.fieldAddr 34 (Operand.tmp 23) 0, type := 0, pos := "tree.go:273", after := #[{ on := 10, ground := Ground.data }, { on := 6, ground := Ground.guard }], guard := some (6, false) }) (v := ?v68) rfl (by kernel_rfl) (by kernel_rfl) (by kernel_rfl) (fun _ _ _ h => h) (Or.inl ⟨by rfl, ?y68⟩) (by assumption) ?r68
    case y68 => (intro w hSw; (try dsimp only at hSw); (try (go_split_ands)); go_simp; try with_reducible rfl)
    try simp only [Act.put, List.setIfInBounds_toArray, List.set_cons_zero, List.set_cons_succ]
    refine wpAnyH_take (i := 12) (oi := { dst := some 25, op := Op.fieldAddr 32 (Operand.tmp 24) 4, type := 0, pos := "tree.go:273", after := #[{ on := 11, ground := Ground.data }, { on := 6, ground := Ground.guard }], guard := some (6, false) }) (v := ?v69) rfl (by kernel_rfl) (by kernel_rfl) (by kernel_rfl) (fun _ _ _ h => h) (Or.inl ⟨by rfl, ?y69⟩) (by assumption) ?r69
    case y69 => (intro w hSw; (try dsimp only at hSw); (try (go_split_ands)); go_simp; try with_reducible rfl)
    try simp only [Act.put, List.setIfInBounds_toArray, List.set_cons_zero, List.set_cons_succ]
    refine wpAnyH_take (i := 13) (oi := { dst := some 26, op := Op.load 30 (Operand.tmp 25), type := 30, pos := "tree.go:273", after := #[{ on := 12, ground := Ground.data }, { on := 6, ground := Ground.guard }], guard := some (6, false) }) (v := ?v70) rfl (by kernel_rfl) (by kernel_rfl) (by kernel_rfl) (fun _ _ _ h => h) (Or.inl ⟨by rfl, ?y70⟩) (by assumption) ?r70
    case y70 => (intro w hSw; (try dsimp only at hSw); (try (go_split_ands)); go_simp; try with_reducible rfl)
    try simp only [Act.put, List.setIfInBounds_toArray, List.set_cons_zero, List.set_cons_succ]
    refine wpAnyH_ready (rs := [14]) (by kernel_rfl) (by simp) ?_
    refine AllReadyH.cons (o := { dst := some 27, op := Op.call { callee := Callee.value (Operand.func 60), args := #[Operand.tmp 21, Operand.tmp 26], argTypes := #[30, 30] }, type := 4, pos := "tree.go:273", after := #[{ on := 8, ground := Ground.data }, { on := 13, ground := Ground.data }, { on := 6, ground := Ground.chain }, { on := 6, ground := Ground.guard }], guard := some (6, false) }) rfl (fun K hK => ?_) AllReadyH.nil
    go_simp
    refine (Sup_any ⟨r0, r1, r2, r3⟩ ⟨t0, t1, t2, t3⟩ _).mono ?_
    rintro e wa ⟨rfl, hb6⟩
    have hba := hbd.later hb6
    clear hb6
    generalize hbb : supB ⟨r0, r1, r2, r3⟩ ⟨t0, t1, t2, t3⟩ = bb at *
    replace hbb := hide hbb
    go_wp2_with fail
    refine hK.out _ _ ?_ (fun hHeld14 => ?_)
    · exact hSS.out _ hba
    clear hK K
    try simp only [Act.put, List.setIfInBounds_toArray, List.set_cons_zero, List.set_cons_succ]
    refine wpAnyH_take (i := 15) (oi := { dst := some 28, op := Op.pick (Operand.tmp 19) (Operand.const (Value.bool true)) (Operand.tmp 27), type := 4, pos := "tree.go:273", after := #[{ on := 6, ground := Ground.data }, { on := 14, ground := Ground.data }], guard := none }) (v := ?v71) rfl (by kernel_rfl) (by kernel_rfl) (by kernel_rfl) (fun _ _ _ h => h) (Or.inl ⟨by rfl, ?y71⟩) (by assumption) ?r71
    case y71 => (intro w hSw; (try dsimp only at hSw); (try (go_split_ands)); go_simp; try with_reducible rfl)
    try simp only [Act.put, List.setIfInBounds_toArray, List.set_cons_zero, List.set_cons_succ]
    refine wpAnyH_done (by kernel_rfl) ?_ _
    refine NoPanic.normal ?_
    clear hHeld hHeld14 hSS hbd
    cases bb
    · have hXE : Hid (X = T) := hX.out.trans (if_neg (by simp))
      have hT := hide (hTA.out.below hba)
      rw [← hXE.out] at hT
      have hG : Hid (Goes m w1 m wa) := Goes.of_below hba
      clear hX hXE hba hTA htk hPb
      go_wp2_with fail
      have hM5 := hide ((hG.out.block g hgl.out hnf.out).trans hM0.out)
      obtain ⟨pb5, cap5, sp5, hP5, -, -, hlp5⟩ := hT.out.at_i i (by rw [hXl.out]; exact hin.out)
      have hpe : pb5 = pb := by
        have e1 := hP5.pv
        rw [hG.out.pv, hpv.out] at e1
        simp only [Value.slice.injEq, Option.some.injEq, Addr.mk.injEq, and_true] at e1
        exact e1.1.symm
      subst hpe
      have q9 := (hP5.fl.tp i hP5.hi).c9
      obtain ⟨q8, e0, e1, e2, e3⟩ := hT.out.tell i (by rw [hXl.out]; exact hin.out)
      rw [hXl.out] at q8
      have hte := hide (tell_any hT.out i (by rw [hXl.out]; exact hin.out) false (by have := hXok.out.rp; omega) (msgT_wf hXok.out i (by rw [hXl.out]; exact hin.out) false) hXo.out)
      have hvl : m.vb < wa.heap.size := hT.out.tells.lt
      have hvtb : m.tb < wa.heap.size := hT.out.ltb
      have hgl5 : g < wa.heap.size := (Array.getElem?_eq_some_iff.1 hM5.out).1
      clear hP5
      generalize (X.ps.getD i Tp.zero).role = rl at *
      generalize hvv : X.tells.getD i Vc.zero = vv at *
      replace hvv := hide hvv
      obtain ⟨v0, v1, v2, v3⟩ := vv
      dsimp only at e0 e1 e2 e3
      have hbd5 : Below wa.heap.size wa wa.drew := below_drewN (Below.refl _ _) 1
      have hS5 : Hid (∀ W : World, Below wa.heap.size wa W → W.cell? ⟨pb5, i * 16 + 9, none⟩ = some (.int .i64 rl) ∧ W.cell? ⟨m.tb, 8, none⟩ = some (.slice (some ⟨m.vb, 0, none⟩) n n) ∧ W.cell? ⟨m.vb, i * 4, none⟩ = some (.int .u64 v0) ∧ W.cell? ⟨m.vb, i * 4 + 1, none⟩ = some (.int .u64 v1) ∧ W.cell? ⟨m.vb, i * 4 + 2, none⟩ = some (.int .u64 v2) ∧ W.cell? ⟨m.vb, i * 4 + 3, none⟩ = some (.int .i64 v3) ∧ W.cell? ⟨g, 1, none⟩ = some (.int .u64 r0) ∧ W.cell? ⟨g, 2, none⟩ = some (.int .u64 r1) ∧ W.cell? ⟨g, 3, none⟩ = some (.int .u64 r2) ∧ W.cell? ⟨g, 4, none⟩ = some (.int .i64 r3)) := fun W hb => by
        have hq := (bcell hb).1
        exact ⟨(hq _ _ hlp5).trans q9, (hq _ _ hvtb).trans q8, (hq _ _ hvl).trans e0, (hq _ _ hvl).trans e1, (hq _ _ hvl).trans e2, (hq _ _ hvl).trans e3, (hq _ _ hgl5).trans ((cell_of_row _ _ _ _ _ _ hM5.out).trans rfl), (hq _ _ hgl5).trans ((cell_of_row _ _ _ _ _ _ hM5.out).trans rfl), (hq _ _ hgl5).trans ((cell_of_row _ _ _ _ _ _ hM5.out).trans rfl), (hq _ _ hgl5).trans ((cell_of_row _ _ _ _ _ _ hM5.out).trans rfl)⟩
      clear q9 q8 e0 e1 e2 e3
      go_wp2_with fail
      refine wp_region_noPanic ?_
      refine wp_region_held_drew (S := fun W => W.cell? ⟨pb5, i * 16 + 9, none⟩ = some (.int .i64 rl) ∧ W.cell? ⟨m.tb, 8, none⟩ = some (.slice (some ⟨m.vb, 0, none⟩) n n) ∧ W.cell? ⟨m.vb, i * 4, none⟩ = some (.int .u64 v0) ∧ W.cell? ⟨m.vb, i * 4 + 1, none⟩ = some (.int .u64 v1) ∧ W.cell? ⟨m.vb, i * 4 + 2, none⟩ = some (.int .u64 v2) ∧ W.cell? ⟨m.vb, i * 4 + 3, none⟩ = some (.int .i64 v3) ∧ W.cell? ⟨g, 1, none⟩ = some (.int .u64 r0) ∧ W.cell? ⟨g, 2, none⟩ = some (.int .u64 r1) ∧ W.cell? ⟨g, 3, none⟩ = some (.int .u64 r2) ∧ W.cell? ⟨g, 4, none⟩ = some (.int .i64 r3)) (by kernel_rfl) (hS5.out _ hbd5) (fun hHeld5 => ?_)
      by_cases h2 : rl = 2
      rotate_left
      · have hV : Hid (V = X) := hE.out.trans (if_neg (by simp [h2]))
        have h2q : (rl == 2) = false := by rw [beq_eq_false_iff_ne]; exact h2
        clear hE h2
        refine wpAnyH_take (i := 0) (oi := { dst := some 39, op := Op.move (Operand.tmp 6), type := 89, pos := "tree.go:280", after := #[], guard := none }) (v := ?v72) rfl (by kernel_rfl) (by kernel_rfl) (by kernel_rfl) (fun _ _ _ h => h) (Or.inl ⟨by rfl, ?y72⟩) (by assumption) ?r72
        case y72 => (intro w hSw; (try dsimp only at hSw); (try (go_split_ands)); go_simp; try with_reducible rfl)
        try simp only [Act.put, List.setIfInBounds_toArray, List.set_cons_zero, List.set_cons_succ]
        refine wpAnyH_take (i := 1) (oi := { dst := some 40, op := Op.nilCheck (Operand.tmp 39), type := 0, pos := "tree.go:280", after := #[{ on := 0, ground := Ground.data }], guard := none }) (v := ?v73) rfl (by kernel_rfl) (by kernel_rfl) (by kernel_rfl) (fun _ _ _ h => h) (Or.inl ⟨by rfl, ?y73⟩) (by assumption) ?r73
        case y73 => (intro w hSw; (try dsimp only at hSw); (try (go_split_ands)); go_simp; try with_reducible rfl)
        try simp only [Act.put, List.setIfInBounds_toArray, List.set_cons_zero, List.set_cons_succ]
        refine wpAnyH_take (i := 2) (oi := { dst := some 41, op := Op.fieldAddr 34 (Operand.tmp 40) 2, type := 0, pos := "tree.go:280", after := #[{ on := 1, ground := Ground.data }], guard := none }) (v := ?v74) rfl (by kernel_rfl) (by kernel_rfl) (by kernel_rfl) (fun _ _ _ h => h) (Or.inl ⟨by rfl, ?y74⟩) (by assumption) ?r74
        case y74 => (intro w hSw; (try dsimp only at hSw); (try (go_split_ands)); go_simp; try with_reducible rfl)
        try simp only [Act.put, List.setIfInBounds_toArray, List.set_cons_zero, List.set_cons_succ]
        refine wpAnyH_take (i := 3) (oi := { dst := some 42, op := Op.load 3 (Operand.tmp 41), type := 3, pos := "tree.go:280", after := #[{ on := 2, ground := Ground.data }], guard := none }) (v := ?v75) rfl (by kernel_rfl) (by kernel_rfl) (by kernel_rfl) (fun _ _ _ h => h) (Or.inl ⟨by rfl, ?y75⟩) (by assumption) ?r75
        case y75 => (intro w hSw; (try dsimp only at hSw); (try (go_split_ands)); go_simp; try with_reducible rfl)
        try simp only [Act.put, List.setIfInBounds_toArray, List.set_cons_zero, List.set_cons_succ]
        refine wpAnyH_take (i := 4) (oi := { dst := some 43, op := Op.binOp BinOp.eql 3 (Operand.tmp 42) (Operand.const (Value.int IntKind.i64 2)) 3, type := 4, pos := "tree.go:280", after := #[{ on := 3, ground := Ground.data }], guard := none }) (v := ?v76) rfl (by kernel_rfl) (by kernel_rfl) (by kernel_rfl) (fun _ _ _ h => h) (Or.inl ⟨by rfl, ?y76⟩) (by assumption) ?r76
        case y76 => (intro w hSw; (try dsimp only at hSw); (try (go_split_ands)); go_simp; try with_reducible rfl)
        try simp only [Act.put, List.setIfInBounds_toArray, List.set_cons_zero, List.set_cons_succ]
        refine wpAnyH_take (i := 5) (oi := { dst := some 44, op := Op.move (Operand.tmp 43), type := 4, pos := "tree.go:280", after := #[{ on := 4, ground := Ground.data }], guard := none }) (v := ?v77) rfl (by kernel_rfl) (by kernel_rfl) (by kernel_rfl) (fun _ _ _ h => h) (Or.inl ⟨by rfl, ?y77⟩) (by assumption) ?r77
        case y77 => (intro w hSw; (try dsimp only at hSw); (try (go_split_ands)); go_simp; try with_reducible rfl)
        try simp only [Act.put, List.setIfInBounds_toArray, List.set_cons_zero, List.set_cons_succ]
        refine wpAnyH_take (i := 6) (oi := { dst := some 45, op := Op.move (Operand.tmp 0), type := 35, pos := "tree.go:280", after := #[{ on := 5, ground := Ground.guard }], guard := some (5, true) }) (v := undef) rfl (by kernel_rfl) (by kernel_rfl) (by kernel_rfl) (fun _ _ _ h => h) (Or.inr ⟨by rfl, rfl⟩) (by assumption) ?_
        try simp only [Act.put, List.setIfInBounds_toArray, List.set_cons_zero, List.set_cons_succ]
        refine wpAnyH_take (i := 7) (oi := { dst := some 46, op := Op.nilCheck (Operand.tmp 45), type := 0, pos := "tree.go:280", after := #[{ on := 6, ground := Ground.data }, { on := 5, ground := Ground.guard }], guard := some (5, true) }) (v := undef) rfl (by kernel_rfl) (by kernel_rfl) (by kernel_rfl) (fun _ _ _ h => h) (Or.inr ⟨by rfl, rfl⟩) (by assumption) ?_
        try simp only [Act.put, List.setIfInBounds_toArray, List.set_cons_zero, List.set_cons_succ]
        refine wpAnyH_take (i := 8) (oi := { dst := some 47, op := Op.fieldAddr 67 (Operand.tmp 46) 2, type := 0, pos := "tree.go:280", after := #[{ on := 7, ground := Ground.data }, { on := 5, ground := Ground.guard }], guard := some (5, true) }) (v := undef) rfl (by kernel_rfl) (by kernel_rfl) (by kernel_rfl) (fun _ _ _ h => h) (Or.inr ⟨by rfl, rfl⟩) (by assumption) ?_
        try simp only [Act.put, List.setIfInBounds_toArray, List.set_cons_zero, List.set_cons_succ]
        refine wpAnyH_take (i := 9) (oi := { dst := some 48, op := Op.fieldAddr 64 (Operand.tmp 47) 3, type := 0, pos := "tree.go:280", after := #[{ on := 8, ground := Ground.data }, { on := 5, ground := Ground.guard }], guard := some (5, true) }) (v := undef) rfl (by kernel_rfl) (by kernel_rfl) (by kernel_rfl) (fun _ _ _ h => h) (Or.inr ⟨by rfl, rfl⟩) (by assumption) ?_
        try simp only [Act.put, List.setIfInBounds_toArray, List.set_cons_zero, List.set_cons_succ]
        refine wpAnyH_take (i := 10) (oi := { dst := some 49, op := Op.load 62 (Operand.tmp 48), type := 62, pos := "tree.go:280", after := #[{ on := 9, ground := Ground.data }, { on := 5, ground := Ground.guard }], guard := some (5, true) }) (v := undef) rfl (by kernel_rfl) (by kernel_rfl) (by kernel_rfl) (fun _ _ _ h => h) (Or.inr ⟨by rfl, rfl⟩) (by assumption) ?_
        try simp only [Act.put, List.setIfInBounds_toArray, List.set_cons_zero, List.set_cons_succ]
        refine wpAnyH_take (i := 11) (oi := { dst := some 50, op := Op.move (Operand.tmp 1), type := 3, pos := "tree.go:280", after := #[{ on := 5, ground := Ground.guard }], guard := some (5, true) }) (v := undef) rfl (by kernel_rfl) (by kernel_rfl) (by kernel_rfl) (fun _ _ _ h => h) (Or.inr ⟨by rfl, rfl⟩) (by assumption) ?_
        try simp only [Act.put, List.setIfInBounds_toArray, List.set_cons_zero, List.set_cons_succ]
        refine wpAnyH_take (i := 12) (oi := { dst := some 51, op := Op.indexAddr 62 (Operand.tmp 49) (Operand.tmp 50), type := 0, pos := "tree.go:280", after := #[{ on := 10, ground := Ground.data }, { on := 11, ground := Ground.data }, { on := 5, ground := Ground.guard }], guard := some (5, true) }) (v := undef) rfl (by kernel_rfl) (by kernel_rfl) (by kernel_rfl) (fun _ _ _ h => h) (Or.inr ⟨by rfl, rfl⟩) (by assumption) ?_
        try simp only [Act.put, List.setIfInBounds_toArray, List.set_cons_zero, List.set_cons_succ]
        refine wpAnyH_take (i := 13) (oi := { dst := some 52, op := Op.load 30 (Operand.tmp 51), type := 30, pos := "tree.go:280", after := #[{ on := 12, ground := Ground.data }, { on := 5, ground := Ground.guard }], guard := some (5, true) }) (v := undef) rfl (by kernel_rfl) (by kernel_rfl) (by kernel_rfl) (fun _ _ _ h => h) (Or.inr ⟨by rfl, rfl⟩) (by assumption) ?_
        try simp only [Act.put, List.setIfInBounds_toArray, List.set_cons_zero, List.set_cons_succ]
        refine wpAnyH_take (i := 14) (oi := { dst := some 53, op := Op.fieldAddr 40 (Operand.tmp 5) 1, type := 0, pos := "tree.go:280", after := #[{ on := 5, ground := Ground.guard }], guard := some (5, true) }) (v := undef) rfl (by kernel_rfl) (by kernel_rfl) (by kernel_rfl) (fun _ _ _ h => h) (Or.inr ⟨by rfl, rfl⟩) (by assumption) ?_
        try simp only [Act.put, List.setIfInBounds_toArray, List.set_cons_zero, List.set_cons_succ]
        refine wpAnyH_take (i := 15) (oi := { dst := some 54, op := Op.load 30 (Operand.tmp 53), type := 30, pos := "tree.go:280", after := #[{ on := 14, ground := Ground.data }, { on := 5, ground := Ground.guard }], guard := some (5, true) }) (v := undef) rfl (by kernel_rfl) (by kernel_rfl) (by kernel_rfl) (fun _ _ _ h => h) (Or.inr ⟨by rfl, rfl⟩) (by assumption) ?_
        try simp only [Act.put, List.setIfInBounds_toArray, List.set_cons_zero, List.set_cons_succ]
        refine wpAnyH_take (i := 16) (oi := { dst := some 55, op := Op.call { callee := Callee.value (Operand.func 63), args := #[Operand.tmp 52, Operand.tmp 54], argTypes := #[30, 30] }, type := 4, pos := "tree.go:280", after := #[{ on := 13, ground := Ground.data }, { on := 15, ground := Ground.data }, { on := 5, ground := Ground.chain }, { on := 5, ground := Ground.guard }], guard := some (5, true) }) (v := undef) rfl (by kernel_rfl) (by kernel_rfl) (by kernel_rfl) (fun _ _ _ h => h) (Or.inr ⟨by rfl, rfl⟩) (by assumption) ?_
        try simp only [Act.put, List.setIfInBounds_toArray, List.set_cons_zero, List.set_cons_succ]
        refine wpAnyH_take (i := 17) (oi := { dst := some 56, op := Op.pick (Operand.tmp 44) (Operand.tmp 55) (Operand.const (Value.bool false)), type := 4, pos := "tree.go:280", after := #[{ on := 5, ground := Ground.data }, { on := 16, ground := Ground.data }], guard := none }) (v := ?v78) rfl (by kernel_rfl) (by kernel_rfl) (by kernel_rfl) (fun _ _ _ h => h) (Or.inl ⟨by rfl, ?y78⟩) (by assumption) ?r78
        case y78 => (intro w hSw; (try dsimp only at hSw); (try (go_split_ands)); go_simp; try with_reducible rfl)
        try simp only [Act.put, List.setIfInBounds_toArray, List.set_cons_zero, List.set_cons_succ]
        refine wpAnyH_done (by kernel_rfl) ?_ _
        refine NoPanic.normal ?_
        have hT6 := hide (hT.out.below hbd5)
        have hG6 := hide (hG.out.trans (Goes.of_below hbd5))
        clear hHeld5 hS5 hte hT hG hbd5
        go_wp2
        exact v_end rfl rfl ⟨rfl, m, by rw [hV.out]; exact hT6.out, hGA.out.trans hG6.out⟩
      subst h2
      refine wpAnyH_take (i := 0) (oi := { dst := some 39, op := Op.move (Operand.tmp 6), type := 89, pos := "tree.go:280", after := #[], guard := none }) (v := ?v79) rfl (by kernel_rfl) (by kernel_rfl) (by kernel_rfl) (fun _ _ _ h => h) (Or.inl ⟨by rfl, ?y79⟩) (by assumption) ?r79
      case y79 => (intro w hSw; (try dsimp only at hSw); (try (go_split_ands)); go_simp; try with_reducible rfl)
      try simp only [Act.put, List.setIfInBounds_toArray, List.set_cons_zero, List.set_cons_succ]
      refine wpAnyH_take (i := 1) (oi := { dst := some 40, op := Op.nilCheck (Operand.tmp 39), type := 0, pos := "tree.go:280", after := #[{ on := 0, ground := Ground.data }], guard := none }) (v := ?v80) rfl (by kernel_rfl) (by kernel_rfl) (by kernel_rfl) (fun _ _ _ h => h) (Or.inl ⟨by rfl, ?y80⟩) (by assumption) ?r80
      case y80 => (intro w hSw; (try dsimp only at hSw); (try (go_split_ands)); go_simp; try with_reducible rfl)
      try simp only [Act.put, List.setIfInBounds_toArray, List.set_cons_zero, List.set_cons_succ]
      refine wpAnyH_take (i := 2) (oi := { dst := some 41, op := Op.fieldAddr 34 (Operand.tmp 40) 2, type := 0, pos := "tree.go:280", after := #[{ on := 1, ground := Ground.data }], guard := none }) (v := ?v81) rfl (by kernel_rfl) (by kernel_rfl) (by kernel_rfl) (fun _ _ _ h => h) (Or.inl ⟨by rfl, ?y81⟩) (by assumption) ?r81
      case y81 => (intro w hSw; (try dsimp only at hSw); (try (go_split_ands)); go_simp; try with_reducible rfl)
      try simp only [Act.put, List.setIfInBounds_toArray, List.set_cons_zero, List.set_cons_succ]
      refine wpAnyH_take (i := 3) (oi := { dst := some 42, op := Op.load 3 (Operand.tmp 41), type := 3, pos := "tree.go:280", after := #[{ on := 2, ground := Ground.data }], guard := none }) (v := ?v82) rfl (by kernel_rfl) (by kernel_rfl) (by kernel_rfl) (fun _ _ _ h => h) (Or.inl ⟨by rfl, ?y82⟩) (by assumption) ?r82
      case y82 => (intro w hSw; (try dsimp only at hSw); (try (go_split_ands)); go_simp; try with_reducible rfl)
      try simp only [Act.put, List.setIfInBounds_toArray, List.set_cons_zero, List.set_cons_succ]
      refine wpAnyH_take (i := 4) (oi := { dst := some 43, op := Op.binOp BinOp.eql 3 (Operand.tmp 42) (Operand.const (Value.int IntKind.i64 2)) 3, type := 4, pos := "tree.go:280", after := #[{ on := 3, ground := Ground.data }], guard := none }) (v := ?v83) rfl (by kernel_rfl) (by kernel_rfl) (by kernel_rfl) (fun _ _ _ h => h) (Or.inl ⟨by rfl, ?y83⟩) (by assumption) ?r83
      case y83 => (intro w hSw; (try dsimp only at hSw); (try (go_split_ands)); go_simp; try with_reducible rfl)
      try simp only [Act.put, List.setIfInBounds_toArray, List.set_cons_zero, List.set_cons_succ]
      refine wpAnyH_take (i := 5) (oi := { dst := some 44, op := Op.move (Operand.tmp 43), type := 4, pos := "tree.go:280", after := #[{ on := 4, ground := Ground.data }], guard := none }) (v := ?v84) rfl (by kernel_rfl) (by kernel_rfl) (by kernel_rfl) (fun _ _ _ h => h) (Or.inl ⟨by rfl, ?y84⟩) (by assumption) ?r84
      case y84 => (intro w hSw; (try dsimp only at hSw); (try (go_split_ands)); go_simp; try with_reducible rfl)
      try simp only [Act.put, List.setIfInBounds_toArray, List.set_cons_zero, List.set_cons_succ]
      refine wpAnyH_take (i := 6) (oi := { dst := some 45, op := Op.move (Operand.tmp 0), type := 35, pos := "tree.go:280", after := #[{ on := 5, ground := Ground.guard }], guard := some (5, true) }) (v := ?v85) rfl (by kernel_rfl) (by kernel_rfl) (by kernel_rfl) (fun _ _ _ h => h) (Or.inl ⟨by rfl, ?y85⟩) (by assumption) ?r85
      case y85 => (intro w hSw; (try dsimp only at hSw); (try (go_split_ands)); go_simp; try with_reducible rfl)
      try simp only [Act.put, List.setIfInBounds_toArray, List.set_cons_zero, List.set_cons_succ]
      refine wpAnyH_take (i := 7) (oi := { dst := some 46, op := Op.nilCheck (Operand.tmp 45), type := 0, pos := "tree.go:280", after := #[{ on := 6, ground := Ground.data }, { on := 5, ground := Ground.guard }], guard := some (5, true) }) (v := ?v86) rfl (by kernel_rfl) (by kernel_rfl) (by kernel_rfl) (fun _ _ _ h => h) (Or.inl ⟨by rfl, ?y86⟩) (by assumption) ?r86
      case y86 => (intro w hSw; (try dsimp only at hSw); (try (go_split_ands)); go_simp; try with_reducible rfl)
      try simp only [Act.put, List.setIfInBounds_toArray, List.set_cons_zero, List.set_cons_succ]
      refine wpAnyH_take (i := 8) (oi := { dst := some 47, op := Op.fieldAddr 67 (Operand.tmp 46) 2, type := 0, pos := "tree.go:280", after := #[{ on := 7, ground := Ground.data }, { on := 5, ground := Ground.guard }], guard := some (5, true) }) (v := ?v87) rfl (by kernel_rfl) (by kernel_rfl) (by kernel_rfl) (fun _ _ _ h => h) (Or.inl ⟨by rfl, ?y87⟩) (by assumption) ?r87
      case y87 => (intro w hSw; (try dsimp only at hSw); (try (go_split_ands)); go_simp; try with_reducible rfl)
      try simp only [Act.put, List.setIfInBounds_toArray, List.set_cons_zero, List.set_cons_succ]
      refine wpAnyH_take (i := 9) (oi := { dst := some 48, op := Op.fieldAddr 64 (Operand.tmp 47) 3, type := 0, pos := "tree.go:280", after := #[{ on := 8, ground := Ground.data }, { on := 5, ground := Ground.guard }], guard := some (5, true) }) (v := ?v88) rfl (by kernel_rfl) (by kernel_rfl) (by kernel_rfl) (fun _ _ _ h => h) (Or.inl ⟨by rfl, ?y88⟩) (by assumption) ?r88
      case y88 => (intro w hSw; (try dsimp only at hSw); (try (go_split_ands)); go_simp; try with_reducible rfl)
      try simp only [Act.put, List.setIfInBounds_toArray, List.set_cons_zero, List.set_cons_succ]
      refine wpAnyH_take (i := 10) (oi := { dst := some 49, op := Op.load 62 (Operand.tmp 48), type := 62, pos := "tree.go:280", after := #[{ on := 9, ground := Ground.data }, { on := 5, ground := Ground.guard }], guard := some (5, true) }) (v := ?v89) rfl (by kernel_rfl) (by kernel_rfl) (by kernel_rfl) (fun _ _ _ h => h) (Or.inl ⟨by rfl, ?y89⟩) (by assumption) ?r89
      case y89 => (intro w hSw; (try dsimp only at hSw); (try (go_split_ands)); go_simp; try with_reducible rfl)
      try simp only [Act.put, List.setIfInBounds_toArray, List.set_cons_zero, List.set_cons_succ]
      refine wpAnyH_take (i := 11) (oi := { dst := some 50, op := Op.move (Operand.tmp 1), type := 3, pos := "tree.go:280", after := #[{ on := 5, ground := Ground.guard }], guard := some (5, true) }) (v := ?v90) rfl (by kernel_rfl) (by kernel_rfl) (by kernel_rfl) (fun _ _ _ h => h) (Or.inl ⟨by rfl, ?y90⟩) (by assumption) ?r90
      case y90 => (intro w hSw; (try dsimp only at hSw); (try (go_split_ands)); go_simp; try with_reducible rfl)
      try simp only [Act.put, List.setIfInBounds_toArray, List.set_cons_zero, List.set_cons_succ]
      refine wpAnyH_take (i := 12) (oi := { dst := some 51, op := Op.indexAddr 62 (Operand.tmp 49) (Operand.tmp 50), type := 0, pos := "tree.go:280", after := #[{ on := 10, ground := Ground.data }, { on := 11, ground := Ground.data }, { on := 5, ground := Ground.guard }], guard := some (5, true) }) (v := ?v91) rfl (by kernel_rfl) (by kernel_rfl) (by kernel_rfl) (fun _ _ _ h => h) (Or.inl ⟨by rfl, ?y91⟩) (by assumption) ?r91
      case y91 => (intro w hSw; (try dsimp only at hSw); (try (go_split_ands)); go_simp; try with_reducible rfl)
      try simp only [Act.put, List.setIfInBounds_toArray, List.set_cons_zero, List.set_cons_succ]
      refine wpAnyH_take (i := 13) (oi := { dst := some 52, op := Op.load 30 (Operand.tmp 51), type := 30, pos := "tree.go:280", after := #[{ on := 12, ground := Ground.data }, { on := 5, ground := Ground.guard }], guard := some (5, true) }) (v := ?v92) rfl (by kernel_rfl) (by kernel_rfl) (by kernel_rfl) (fun _ _ _ h => h) (Or.inl ⟨by rfl, ?y92⟩) (by assumption) ?r92
      case y92 => (intro w hSw; (try dsimp only at hSw); (try (go_split_ands)); go_simp; try with_reducible rfl)
      try simp only [Act.put, List.setIfInBounds_toArray, List.set_cons_zero, List.set_cons_succ]
      refine wpAnyH_take (i := 14) (oi := { dst := some 53, op := Op.fieldAddr 40 (Operand.tmp 5) 1, type := 0, pos := "tree.go:280", after := #[{ on := 5, ground := Ground.guard }], guard := some (5, true) }) (v := ?v93) rfl (by kernel_rfl) (by kernel_rfl) (by kernel_rfl) (fun _ _ _ h => h) (Or.inl ⟨by rfl, ?y93⟩) (by assumption) ?r93
      case y93 => (intro w hSw; (try dsimp only at hSw); (try (go_split_ands)); go_simp; try with_reducible rfl)
      try simp only [Act.put, List.setIfInBounds_toArray, List.set_cons_zero, List.set_cons_succ]
      refine wpAnyH_take (i := 15) (oi := { dst := some 54, op := Op.load 30 (Operand.tmp 53), type := 30, pos := "tree.go:280", after := #[{ on := 14, ground := Ground.data }, { on := 5, ground := Ground.guard }], guard := some (5, true) }) (v := ?v94) rfl (by kernel_rfl) (by kernel_rfl) (by kernel_rfl) (fun _ _ _ h => h) (Or.inl ⟨by rfl, ?y94⟩) (by assumption) ?r94
      case y94 => (intro w hSw; (try dsimp only at hSw); (try (go_split_ands)); go_simp; try with_reducible rfl)
      try simp only [Act.put, List.setIfInBounds_toArray, List.set_cons_zero, List.set_cons_succ]
      refine wpAnyH_ready (rs := [16]) (by kernel_rfl) (by simp) ?_
      refine AllReadyH.cons (o := { dst := some 55, op := Op.call { callee := Callee.value (Operand.func 63), args := #[Operand.tmp 52, Operand.tmp 54], argTypes := #[30, 30] }, type := 4, pos := "tree.go:280", after := #[{ on := 13, ground := Ground.data }, { on := 15, ground := Ground.data }, { on := 5, ground := Ground.chain }, { on := 5, ground := Ground.guard }], guard := some (5, true) }) rfl (fun K hK => ?_) AllReadyH.nil
      go_simp
      refine (Better_any ⟨v0, v1, v2, v3⟩ ⟨r0, r1, r2, r3⟩ _).mono ?_
      rintro e w6 ⟨rfl, hb6⟩
      have hb7 := hbd5.later hb6
      clear hb6
      generalize hbb : betB ⟨v0, v1, v2, v3⟩ ⟨r0, r1, r2, r3⟩ = bb at *
      replace hbb := hide hbb
      go_wp2_with fail
      refine hK.out _ _ ?_ (fun hHeld16 => ?_)
      · exact hS5.out _ hb7
      clear hK K
      try simp only [Act.put, List.setIfInBounds_toArray, List.set_cons_zero, List.set_cons_succ]
      refine wpAnyH_take (i := 17) (oi := { dst := some 56, op := Op.pick (Operand.tmp 44) (Operand.tmp 55) (Operand.const (Value.bool false)), type := 4, pos := "tree.go:280", after := #[{ on := 5, ground := Ground.data }, { on := 16, ground := Ground.data }], guard := none }) (v := ?v95) rfl (by kernel_rfl) (by kernel_rfl) (by kernel_rfl) (fun _ _ _ h => h) (Or.inl ⟨by rfl, ?y95⟩) (by assumption) ?r95
      case y95 => (intro w hSw; (try dsimp only at hSw); (try (go_split_ands)); go_simp; try with_reducible rfl)
      try simp only [Act.put, List.setIfInBounds_toArray, List.set_cons_zero, List.set_cons_succ]
      refine wpAnyH_done (by kernel_rfl) ?_ _
      refine NoPanic.normal ?_
      have hT7 := hT.out.below hb7
      have hG7 := hide (hG.out.trans (Goes.of_below hb7))
      have ht7 := hide (tell_any hT7 i (by rw [hXl.out]; exact hin.out) false (by have := hXok.out.rp; omega) (msgT_wf hXok.out i (by rw [hXl.out]; exact hin.out) false) hXo.out)
      replace hT7 := hide hT7
      clear hHeld5 hHeld16 hS5 hte hT hG hbd5 hb7
      cases bb
      · have hV : Hid (V = X) := hE.out.trans (if_neg (by simp))
        clear hE ht7
        go_wp2
        exact v_end rfl rfl ⟨rfl, m, by rw [hV.out]; exact hT7.out, hGA.out.trans hG7.out⟩
      · have hV : Hid (V = tellT X i false) := hE.out.trans (if_pos rfl)
        clear hE hT7
        go_wp2_with fail
        refine ht7.out.mono ?_
        rintro e w8 ⟨rfl, m8, hT8, hG8⟩
        replace hT8 := hide hT8
        have hG9 := hide (hG7.out.trans hG8)
        clear ht7 hG7 hG8
        go_wp2
        exact v_end rfl rfl ⟨rfl, m8, by rw [hV.out]; exact hT8.out, hGA.out.trans hG9.out⟩
    · have hX2 : Hid (X = if b7 = true then propT (renewT U1 false) i else renewT U1 false) := hX.out.trans (if_pos (rfl))
      have hTa := hTA.out.below hba
      have hMa := hide (heap_kept hba hM0.out)
      have ht3 := hide (htk.out _ hTa pb cap sp (hPb.out _ hba))
      have hGa : Hid (Goes m w1 m wa) := Goes.of_below hba
      clear hX hTA htk hPb hba hTa
      go_wp2_with ((with_reducible change wpList _ _ _ _ _ _); refine wpList_load_row rfl 40 (.tmp 5) rfl g rfl 40 _ _ _ hMa.out Try.underlying40 rfl (bpSize Bp.zero) ?_)
      refine ht3.out.mono ?_
      rintro e w3 ⟨rfl, hT3, hG3⟩
      have hr3 := hide (renew_any hT3 hSok.out (Nat.le_trans hSo.out (by omega)) false)
      have hG4 := hide (hGa.out.trans hG3)
      clear ht3 hT3 hG3 hGa hMa
      go_wp2_with fail
      refine hr3.out.mono ?_
      rintro e w4 ⟨rfl, m4, hT4, hG5⟩
      have hG := hide (hG4.out.trans hG5)
      clear hr3 hG5 hG4
      have k7 : w4.cell? ⟨g, 7, none⟩ = some (.bool b7) := (cell_of_row _ _ _ _ _ _ ((hG.out.block g hgl.out hnf.out).trans hM0.out)).trans rfl
      cases b7
      · have hXE : Hid (X = renewT U1 false) := hX2.out
        have hT := hide hT4
        rw [← hXE.out] at hT
        clear hT4 hX2 hXE
        go_wp2_with fail
        clear k7
        have htb := hG.out.tb
        have hM5 := hide ((hG.out.block g hgl.out hnf.out).trans hM0.out)
        obtain ⟨pb5, cap5, sp5, hP5, -, -, hlp5⟩ := hT.out.at_i i (by rw [hXl.out]; exact hin.out)
        have hpe : pb5 = pb := by
          have e1 := hP5.pv
          rw [hG.out.pv, hpv.out] at e1
          simp only [Value.slice.injEq, Option.some.injEq, Addr.mk.injEq, and_true] at e1
          exact e1.1.symm
        subst hpe
        have q9 := (hP5.fl.tp i hP5.hi).c9
        obtain ⟨q8, e0, e1, e2, e3⟩ := hT.out.tell i (by rw [hXl.out]; exact hin.out)
        rw [htb, hXl.out] at q8
        have hte := hide (tell_any hT.out i (by rw [hXl.out]; exact hin.out) false (by have := hXok.out.rp; omega) (msgT_wf hXok.out i (by rw [hXl.out]; exact hin.out) false) hXo.out)
        rw [htb] at hte
        have hvl : m4.vb < w4.heap.size := hT.out.tells.lt
        have hvtb : m.tb < w4.heap.size := by rw [← htb]; exact hT.out.ltb
        have hgl5 : g < w4.heap.size := (Array.getElem?_eq_some_iff.1 hM5.out).1
        clear hP5
        generalize (X.ps.getD i Tp.zero).role = rl at *
        generalize hvv : X.tells.getD i Vc.zero = vv at *
        replace hvv := hide hvv
        obtain ⟨v0, v1, v2, v3⟩ := vv
        dsimp only at e0 e1 e2 e3
        have hbd5 : Below w4.heap.size w4 w4.drew := below_drewN (Below.refl _ _) 1
        have hS5 : Hid (∀ W : World, Below w4.heap.size w4 W → W.cell? ⟨pb5, i * 16 + 9, none⟩ = some (.int .i64 rl) ∧ W.cell? ⟨m.tb, 8, none⟩ = some (.slice (some ⟨m4.vb, 0, none⟩) n n) ∧ W.cell? ⟨m4.vb, i * 4, none⟩ = some (.int .u64 v0) ∧ W.cell? ⟨m4.vb, i * 4 + 1, none⟩ = some (.int .u64 v1) ∧ W.cell? ⟨m4.vb, i * 4 + 2, none⟩ = some (.int .u64 v2) ∧ W.cell? ⟨m4.vb, i * 4 + 3, none⟩ = some (.int .i64 v3) ∧ W.cell? ⟨g, 1, none⟩ = some (.int .u64 r0) ∧ W.cell? ⟨g, 2, none⟩ = some (.int .u64 r1) ∧ W.cell? ⟨g, 3, none⟩ = some (.int .u64 r2) ∧ W.cell? ⟨g, 4, none⟩ = some (.int .i64 r3)) := fun W hb => by
          have hq := (bcell hb).1
          exact ⟨(hq _ _ hlp5).trans q9, (hq _ _ hvtb).trans q8, (hq _ _ hvl).trans e0, (hq _ _ hvl).trans e1, (hq _ _ hvl).trans e2, (hq _ _ hvl).trans e3, (hq _ _ hgl5).trans ((cell_of_row _ _ _ _ _ _ hM5.out).trans rfl), (hq _ _ hgl5).trans ((cell_of_row _ _ _ _ _ _ hM5.out).trans rfl), (hq _ _ hgl5).trans ((cell_of_row _ _ _ _ _ _ hM5.out).trans rfl), (hq _ _ hgl5).trans ((cell_of_row _ _ _ _ _ _ hM5.out).trans rfl)⟩
        clear q9 q8 e0 e1 e2 e3
        go_wp2_with fail
        refine wp_region_noPanic ?_
        refine wp_region_held_drew (S := fun W => W.cell? ⟨pb5, i * 16 + 9, none⟩ = some (.int .i64 rl) ∧ W.cell? ⟨m.tb, 8, none⟩ = some (.slice (some ⟨m4.vb, 0, none⟩) n n) ∧ W.cell? ⟨m4.vb, i * 4, none⟩ = some (.int .u64 v0) ∧ W.cell? ⟨m4.vb, i * 4 + 1, none⟩ = some (.int .u64 v1) ∧ W.cell? ⟨m4.vb, i * 4 + 2, none⟩ = some (.int .u64 v2) ∧ W.cell? ⟨m4.vb, i * 4 + 3, none⟩ = some (.int .i64 v3) ∧ W.cell? ⟨g, 1, none⟩ = some (.int .u64 r0) ∧ W.cell? ⟨g, 2, none⟩ = some (.int .u64 r1) ∧ W.cell? ⟨g, 3, none⟩ = some (.int .u64 r2) ∧ W.cell? ⟨g, 4, none⟩ = some (.int .i64 r3)) (by kernel_rfl) (hS5.out _ hbd5) (fun hHeld5 => ?_)
        by_cases h2 : rl = 2
        rotate_left
        · have hV : Hid (V = X) := hE.out.trans (if_neg (by simp [h2]))
          have h2q : (rl == 2) = false := by rw [beq_eq_false_iff_ne]; exact h2
          clear hE h2
          refine wpAnyH_take (i := 0) (oi := { dst := some 39, op := Op.move (Operand.tmp 6), type := 89, pos := "tree.go:280", after := #[], guard := none }) (v := ?v96) rfl (by kernel_rfl) (by kernel_rfl) (by kernel_rfl) (fun _ _ _ h => h) (Or.inl ⟨by rfl, ?y96⟩) (by assumption) ?r96
          case y96 => (intro w hSw; (try dsimp only at hSw); (try (go_split_ands)); go_simp; try with_reducible rfl)
          try simp only [Act.put, List.setIfInBounds_toArray, List.set_cons_zero, List.set_cons_succ]
          refine wpAnyH_take (i := 1) (oi := { dst := some 40, op := Op.nilCheck (Operand.tmp 39), type := 0, pos := "tree.go:280", after := #[{ on := 0, ground := Ground.data }], guard := none }) (v := ?v97) rfl (by kernel_rfl) (by kernel_rfl) (by kernel_rfl) (fun _ _ _ h => h) (Or.inl ⟨by rfl, ?y97⟩) (by assumption) ?r97
          case y97 => (intro w hSw; (try dsimp only at hSw); (try (go_split_ands)); go_simp; try with_reducible rfl)
          try simp only [Act.put, List.setIfInBounds_toArray, List.set_cons_zero, List.set_cons_succ]
          refine wpAnyH_take (i := 2) (oi := { dst := some 41, op := Op.fieldAddr 34 (Operand.tmp 40) 2, type := 0, pos := "tree.go:280", after := #[{ on := 1, ground := Ground.data }], guard := none }) (v := ?v98) rfl (by kernel_rfl) (by kernel_rfl) (by kernel_rfl) (fun _ _ _ h => h) (Or.inl ⟨by rfl, ?y98⟩) (by assumption) ?r98
          case y98 => (intro w hSw; (try dsimp only at hSw); (try (go_split_ands)); go_simp; try with_reducible rfl)
          try simp only [Act.put, List.setIfInBounds_toArray, List.set_cons_zero, List.set_cons_succ]
          refine wpAnyH_take (i := 3) (oi := { dst := some 42, op := Op.load 3 (Operand.tmp 41), type := 3, pos := "tree.go:280", after := #[{ on := 2, ground := Ground.data }], guard := none }) (v := ?v99) rfl (by kernel_rfl) (by kernel_rfl) (by kernel_rfl) (fun _ _ _ h => h) (Or.inl ⟨by rfl, ?y99⟩) (by assumption) ?r99
          case y99 => (intro w hSw; (try dsimp only at hSw); (try (go_split_ands)); go_simp; try with_reducible rfl)
          try simp only [Act.put, List.setIfInBounds_toArray, List.set_cons_zero, List.set_cons_succ]
          refine wpAnyH_take (i := 4) (oi := { dst := some 43, op := Op.binOp BinOp.eql 3 (Operand.tmp 42) (Operand.const (Value.int IntKind.i64 2)) 3, type := 4, pos := "tree.go:280", after := #[{ on := 3, ground := Ground.data }], guard := none }) (v := ?v100) rfl (by kernel_rfl) (by kernel_rfl) (by kernel_rfl) (fun _ _ _ h => h) (Or.inl ⟨by rfl, ?y100⟩) (by assumption) ?r100
          case y100 => (intro w hSw; (try dsimp only at hSw); (try (go_split_ands)); go_simp; try with_reducible rfl)
          try simp only [Act.put, List.setIfInBounds_toArray, List.set_cons_zero, List.set_cons_succ]
          refine wpAnyH_take (i := 5) (oi := { dst := some 44, op := Op.move (Operand.tmp 43), type := 4, pos := "tree.go:280", after := #[{ on := 4, ground := Ground.data }], guard := none }) (v := ?v101) rfl (by kernel_rfl) (by kernel_rfl) (by kernel_rfl) (fun _ _ _ h => h) (Or.inl ⟨by rfl, ?y101⟩) (by assumption) ?r101
          case y101 => (intro w hSw; (try dsimp only at hSw); (try (go_split_ands)); go_simp; try with_reducible rfl)
          try simp only [Act.put, List.setIfInBounds_toArray, List.set_cons_zero, List.set_cons_succ]
          refine wpAnyH_take (i := 6) (oi := { dst := some 45, op := Op.move (Operand.tmp 0), type := 35, pos := "tree.go:280", after := #[{ on := 5, ground := Ground.guard }], guard := some (5, true) }) (v := undef) rfl (by kernel_rfl) (by kernel_rfl) (by kernel_rfl) (fun _ _ _ h => h) (Or.inr ⟨by rfl, rfl⟩) (by assumption) ?_
          try simp only [Act.put, List.setIfInBounds_toArray, List.set_cons_zero, List.set_cons_succ]
          refine wpAnyH_take (i := 7) (oi := { dst := some 46, op := Op.nilCheck (Operand.tmp 45), type := 0, pos := "tree.go:280", after := #[{ on := 6, ground := Ground.data }, { on := 5, ground := Ground.guard }], guard := some (5, true) }) (v := undef) rfl (by kernel_rfl) (by kernel_rfl) (by kernel_rfl) (fun _ _ _ h => h) (Or.inr ⟨by rfl, rfl⟩) (by assumption) ?_
          try simp only [Act.put, List.setIfInBounds_toArray, List.set_cons_zero, List.set_cons_succ]
          refine wpAnyH_take (i := 8) (oi := { dst := some 47, op := Op.fieldAddr 67 (Operand.tmp 46) 2, type := 0, pos := "tree.go:280", after := #[{ on := 7, ground := Ground.data }, { on := 5, ground := Ground.guard }], guard := some (5, true) }) (v := undef) rfl (by kernel_rfl) (by kernel_rfl) (by kernel_rfl) (fun _ _ _ h => h) (Or.inr ⟨by rfl, rfl⟩) (by assumption) ?_
          try simp only [Act.put, List.setIfInBounds_toArray, List.set_cons_zero, List.set_cons_succ]
          refine wpAnyH_take (i := 9) (oi := { dst := some 48, op := Op.fieldAddr 64 (Operand.tmp 47) 3, type := 0, pos := "tree.go:280", after := #[{ on := 8, ground := Ground.data }, { on := 5, ground := Ground.guard }], guard := some (5, true) }) (v := undef) rfl (by kernel_rfl) (by kernel_rfl) (by kernel_rfl) (fun _ _ _ h => h) (Or.inr ⟨by rfl, rfl⟩) (by assumption) ?_
          try simp only [Act.put, List.setIfInBounds_toArray, List.set_cons_zero, List.set_cons_succ]
          refine wpAnyH_take (i := 10) (oi := { dst := some 49, op := Op.load 62 (Operand.tmp 48), type := 62, pos := "tree.go:280", after := #[{ on := 9, ground := Ground.data }, { on := 5, ground := Ground.guard }], guard := some (5, true) }) (v := undef) rfl (by kernel_rfl) (by kernel_rfl) (by kernel_rfl) (fun _ _ _ h => h) (Or.inr ⟨by rfl, rfl⟩) (by assumption) ?_
          try simp only [Act.put, List.setIfInBounds_toArray, List.set_cons_zero, List.set_cons_succ]
          refine wpAnyH_take (i := 11) (oi := { dst := some 50, op := Op.move (Operand.tmp 1), type := 3, pos := "tree.go:280", after := #[{ on := 5, ground := Ground.guard }], guard := some (5, true) }) (v := undef) rfl (by kernel_rfl) (by kernel_rfl) (by kernel_rfl) (fun _ _ _ h => h) (Or.inr ⟨by rfl, rfl⟩) (by assumption) ?_
          try simp only [Act.put, List.setIfInBounds_toArray, List.set_cons_zero, List.set_cons_succ]
          refine wpAnyH_take (i := 12) (oi := { dst := some 51, op := Op.indexAddr 62 (Operand.tmp 49) (Operand.tmp 50), type := 0, pos := "tree.go:280", after := #[{ on := 10, ground := Ground.data }, { on := 11, ground := Ground.data }, { on := 5, ground := Ground.guard }], guard := some (5, true) }) (v := undef) rfl (by kernel_rfl) (by kernel_rfl) (by kernel_rfl) (fun _ _ _ h => h) (Or.inr ⟨by rfl, rfl⟩) (by assumption) ?_
          try simp only [Act.put, List.setIfInBounds_toArray, List.set_cons_zero, List.set_cons_succ]
          refine wpAnyH_take (i := 13) (oi := { dst := some 52, op := Op.load 30 (Operand.tmp 51), type := 30, pos := "tree.go:280", after := #[{ on := 12, ground := Ground.data }, { on := 5, ground := Ground.guard }], guard := some (5, true) }) (v := undef) rfl (by kernel_rfl) (by kernel_rfl) (by kernel_rfl) (fun _ _ _ h => h) (Or.inr ⟨by rfl, rfl⟩) (by assumption) ?_
          try simp only [Act.put, List.setIfInBounds_toArray, List.set_cons_zero, List.set_cons_succ]
          refine wpAnyH_take (i := 14) (oi := { dst := some 53, op := Op.fieldAddr 40 (Operand.tmp 5) 1, type := 0, pos := "tree.go:280", after := #[{ on := 5, ground := Ground.guard }], guard := some (5, true) }) (v := undef) rfl (by kernel_rfl) (by kernel_rfl) (by kernel_rfl) (fun _ _ _ h => h) (Or.inr ⟨by rfl, rfl⟩) (by assumption) ?_
          try simp only [Act.put, List.setIfInBounds_toArray, List.set_cons_zero, List.set_cons_succ]
          refine wpAnyH_take (i := 15) (oi := { dst := some 54, op := Op.load 30 (Operand.tmp 53), type := 30, pos := "tree.go:280", after := #[{ on := 14, ground := Ground.data }, { on := 5, ground := Ground.guard }], guard := some (5, true) }) (v := undef) rfl (by kernel_rfl) (by kernel_rfl) (by kernel_rfl) (fun _ _ _ h => h) (Or.inr ⟨by rfl, rfl⟩) (by assumption) ?_
          try simp only [Act.put, List.setIfInBounds_toArray, List.set_cons_zero, List.set_cons_succ]
          refine wpAnyH_take (i := 16) (oi := { dst := some 55, op := Op.call { callee := Callee.value (Operand.func 63), args := #[Operand.tmp 52, Operand.tmp 54], argTypes := #[30, 30] }, type := 4, pos := "tree.go:280", after := #[{ on := 13, ground := Ground.data }, { on := 15, ground := Ground.data }, { on := 5, ground := Ground.chain }, { on := 5, ground := Ground.guard }], guard := some (5, true) }) (v := undef) rfl (by kernel_rfl) (by kernel_rfl) (by kernel_rfl) (fun _ _ _ h => h) (Or.inr ⟨by rfl, rfl⟩) (by assumption) ?_
          try simp only [Act.put, List.setIfInBounds_toArray, List.set_cons_zero, List.set_cons_succ]
          refine wpAnyH_take (i := 17) (oi := { dst := some 56, op := Op.pick (Operand.tmp 44) (Operand.tmp 55) (Operand.const (Value.bool false)), type := 4, pos := "tree.go:280", after := #[{ on := 5, ground := Ground.data }, { on := 16, ground := Ground.data }], guard := none }) (v := ?v102) rfl (by kernel_rfl) (by kernel_rfl) (by kernel_rfl) (fun _ _ _ h => h) (Or.inl ⟨by rfl, ?y102⟩) (by assumption) ?r102
          case y102 => (intro w hSw; (try dsimp only at hSw); (try (go_split_ands)); go_simp; try with_reducible rfl)
          try simp only [Act.put, List.setIfInBounds_toArray, List.set_cons_zero, List.set_cons_succ]
          refine wpAnyH_done (by kernel_rfl) ?_ _
          refine NoPanic.normal ?_
          have hT6 := hide (hT.out.below hbd5)
          have hG6 := hide (hG.out.trans (Goes.of_below hbd5))
          clear hHeld5 hS5 hte hT hG hbd5
          go_wp2
          exact v_end rfl rfl ⟨rfl, m4, by rw [hV.out]; exact hT6.out, hGA.out.trans hG6.out⟩
        subst h2
        refine wpAnyH_take (i := 0) (oi := { dst := some 39, op := Op.move (Operand.tmp 6), type := 89, pos := "tree.go:280", after := #[], guard := none }) (v := ?v103) rfl (by kernel_rfl) (by kernel_rfl) (by kernel_rfl) (fun _ _ _ h => h) (Or.inl ⟨by rfl, ?y103⟩) (by assumption) ?r103
        case y103 => (intro w hSw; (try dsimp only at hSw); (try (go_split_ands)); go_simp; try with_reducible rfl)
        try simp only [Act.put, List.setIfInBounds_toArray, List.set_cons_zero, List.set_cons_succ]
        refine wpAnyH_take (i := 1) (oi := { dst := some 40, op := Op.nilCheck (Operand.tmp 39), type := 0, pos := "tree.go:280", after := #[{ on := 0, ground := Ground.data }], guard := none }) (v := ?v104) rfl (by kernel_rfl) (by kernel_rfl) (by kernel_rfl) (fun _ _ _ h => h) (Or.inl ⟨by rfl, ?y104⟩) (by assumption) ?r104
        case y104 => (intro w hSw; (try dsimp only at hSw); (try (go_split_ands)); go_simp; try with_reducible rfl)
        try simp only [Act.put, List.setIfInBounds_toArray, List.set_cons_zero, List.set_cons_succ]
        refine wpAnyH_take (i := 2) (oi := { dst := some 41, op := Op.fieldAddr 34 (Operand.tmp 40) 2, type := 0, pos := "tree.go:280", after := #[{ on := 1, ground := Ground.data }], guard := none }) (v := ?v105) rfl (by kernel_rfl) (by kernel_rfl) (by kernel_rfl) (fun _ _ _ h => h) (Or.inl ⟨by rfl, ?y105⟩) (by assumption) ?r105
        case y105 => (intro w hSw; (try dsimp only at hSw); (try (go_split_ands)); go_simp; try with_reducible rfl)
        try simp only [Act.put, List.setIfInBounds_toArray, List.set_cons_zero, List.set_cons_succ]
        refine wpAnyH_take (i := 3) (oi := { dst := some 42, op := Op.load 3 (Operand.tmp 41), type := 3, pos := "tree.go:280", after := #[{ on := 2, ground := Ground.data }], guard := none }) (v := ?v106) rfl (by kernel_rfl) (by kernel_rfl) (by kernel_rfl) (fun _ _ _ h => h) (Or.inl ⟨by rfl, ?y106⟩) (by assumption) ?r106
        case y106 => (intro w hSw; (try dsimp only at hSw); (try (go_split_ands)); go_simp; try with_reducible rfl)
        try simp only [Act.put, List.setIfInBounds_toArray, List.set_cons_zero, List.set_cons_succ]
        refine wpAnyH_take (i := 4) (oi := { dst := some 43, op := Op.binOp BinOp.eql 3 (Operand.tmp 42) (Operand.const (Value.int IntKind.i64 2)) 3, type := 4, pos := "tree.go:280", after := #[{ on := 3, ground := Ground.data }], guard := none }) (v := ?v107) rfl (by kernel_rfl) (by kernel_rfl) (by kernel_rfl) (fun _ _ _ h => h) (Or.inl ⟨by rfl, ?y107⟩) (by assumption) ?r107
        case y107 => (intro w hSw; (try dsimp only at hSw); (try (go_split_ands)); go_simp; try with_reducible rfl)
        try simp only [Act.put, List.setIfInBounds_toArray, List.set_cons_zero, List.set_cons_succ]
        refine wpAnyH_take (i := 5) (oi := { dst := some 44, op := Op.move (Operand.tmp 43), type := 4, pos := "tree.go:280", after := #[{ on := 4, ground := Ground.data }], guard := none }) (v := ?v108) rfl (by kernel_rfl) (by kernel_rfl) (by kernel_rfl) (fun _ _ _ h => h) (Or.inl ⟨by rfl, ?y108⟩) (by assumption) ?r108
        case y108 => (intro w hSw; (try dsimp only at hSw); (try (go_split_ands)); go_simp; try with_reducible rfl)
        try simp only [Act.put, List.setIfInBounds_toArray, List.set_cons_zero, List.set_cons_succ]
        refine wpAnyH_take (i := 6) (oi := { dst := some 45, op := Op.move (Operand.tmp 0), type := 35, pos := "tree.go:280", after := #[{ on := 5, ground := Ground.guard }], guard := some (5, true) }) (v := ?v109) rfl (by kernel_rfl) (by kernel_rfl) (by kernel_rfl) (fun _ _ _ h => h) (Or.inl ⟨by rfl, ?y109⟩) (by assumption) ?r109
        case y109 => (intro w hSw; (try dsimp only at hSw); (try (go_split_ands)); go_simp; try with_reducible rfl)
        try simp only [Act.put, List.setIfInBounds_toArray, List.set_cons_zero, List.set_cons_succ]
        refine wpAnyH_take (i := 7) (oi := { dst := some 46, op := Op.nilCheck (Operand.tmp 45), type := 0, pos := "tree.go:280", after := #[{ on := 6, ground := Ground.data }, { on := 5, ground := Ground.guard }], guard := some (5, true) }) (v := ?v110) rfl (by kernel_rfl) (by kernel_rfl) (by kernel_rfl) (fun _ _ _ h => h) (Or.inl ⟨by rfl, ?y110⟩) (by assumption) ?r110
        case y110 => (intro w hSw; (try dsimp only at hSw); (try (go_split_ands)); go_simp; try with_reducible rfl)
        try simp only [Act.put, List.setIfInBounds_toArray, List.set_cons_zero, List.set_cons_succ]
        refine wpAnyH_take (i := 8) (oi := { dst := some 47, op := Op.fieldAddr 67 (Operand.tmp 46) 2, type := 0, pos := "tree.go:280", after := #[{ on := 7, ground := Ground.data }, { on := 5, ground := Ground.guard }], guard := some (5, true) }) (v := ?v111) rfl (by kernel_rfl) (by kernel_rfl) (by kernel_rfl) (fun _ _ _ h => h) (Or.inl ⟨by rfl, ?y111⟩) (by assumption) ?r111
        case y111 => (intro w hSw; (try dsimp only at hSw); (try (go_split_ands)); go_simp; try with_reducible rfl)
        try simp only [Act.put, List.setIfInBounds_toArray, List.set_cons_zero, List.set_cons_succ]
        refine wpAnyH_take (i := 9) (oi := { dst := some 48, op := Op.fieldAddr 64 (Operand.tmp 47) 3, type := 0, pos := "tree.go:280", after := #[{ on := 8, ground := Ground.data }, { on := 5, ground := Ground.guard }], guard := some (5, true) }) (v := ?v112) rfl (by kernel_rfl) (by kernel_rfl) (by kernel_rfl) (fun _ _ _ h => h) (Or.inl ⟨by rfl, ?y112⟩) (by assumption) ?r112
        case y112 => (intro w hSw; (try dsimp only at hSw); (try (go_split_ands)); go_simp; try with_reducible rfl)
        try simp only [Act.put, List.setIfInBounds_toArray, List.set_cons_zero, List.set_cons_succ]
        refine wpAnyH_take (i := 10) (oi := { dst := some 49, op := Op.load 62 (Operand.tmp 48), type := 62, pos := "tree.go:280", after := #[{ on := 9, ground := Ground.data }, { on := 5, ground := Ground.guard }], guard := some (5, true) }) (v := ?v113) rfl (by kernel_rfl) (by kernel_rfl) (by kernel_rfl) (fun _ _ _ h => h) (Or.inl ⟨by rfl, ?y113⟩) (by assumption) ?r113
        case y113 => (intro w hSw; (try dsimp only at hSw); (try (go_split_ands)); go_simp; try with_reducible rfl)
        try simp only [Act.put, List.setIfInBounds_toArray, List.set_cons_zero, List.set_cons_succ]
        refine wpAnyH_take (i := 11) (oi := { dst := some 50, op := Op.move (Operand.tmp 1), type := 3, pos := "tree.go:280", after := #[{ on := 5, ground := Ground.guard }], guard := some (5, true) }) (v := ?v114) rfl (by kernel_rfl) (by kernel_rfl) (by kernel_rfl) (fun _ _ _ h => h) (Or.inl ⟨by rfl, ?y114⟩) (by assumption) ?r114
        case y114 => (intro w hSw; (try dsimp only at hSw); (try (go_split_ands)); go_simp; try with_reducible rfl)
        try simp only [Act.put, List.setIfInBounds_toArray, List.set_cons_zero, List.set_cons_succ]
        refine wpAnyH_take (i := 12) (oi := { dst := some 51, op := Op.indexAddr 62 (Operand.tmp 49) (Operand.tmp 50), type := 0, pos := "tree.go:280", after := #[{ on := 10, ground := Ground.data }, { on := 11, ground := Ground.data }, { on := 5, ground := Ground.guard }], guard := some (5, true) }) (v := ?v115) rfl (by kernel_rfl) (by kernel_rfl) (by kernel_rfl) (fun _ _ _ h => h) (Or.inl ⟨by rfl, ?y115⟩) (by assumption) ?r115
        case y115 => (intro w hSw; (try dsimp only at hSw); (try (go_split_ands)); go_simp; try with_reducible rfl)
        try simp only [Act.put, List.setIfInBounds_toArray, List.set_cons_zero, List.set_cons_succ]
        refine wpAnyH_take (i := 13) (oi := { dst := some 52, op := Op.load 30 (Operand.tmp 51), type := 30, pos := "tree.go:280", after := #[{ on := 12, ground := Ground.data }, { on := 5, ground := Ground.guard }], guard := some (5, true) }) (v := ?v116) rfl (by kernel_rfl) (by kernel_rfl) (by kernel_rfl) (fun _ _ _ h => h) (Or.inl ⟨by rfl, ?y116⟩) (by assumption) ?r116
        case y116 => (intro w hSw; (try dsimp only at hSw); (try (go_split_ands)); go_simp; try with_reducible rfl)
        try simp only [Act.put, List.setIfInBounds_toArray, List.set_cons_zero, List.set_cons_succ]
        refine wpAnyH_take (i := 14) (oi := { dst := some 53, op := Op.fieldAddr 40 (Operand.tmp 5) 1, type := 0, pos := "tree.go:280", after := #[{ on := 5, ground := Ground.guard }], guard := some (5, true) }) (v := ?v117) rfl (by kernel_rfl) (by kernel_rfl) (by kernel_rfl) (fun _ _ _ h => h) (Or.inl ⟨by rfl, ?y117⟩) (by assumption) ?r117
        case y117 => (intro w hSw; (try dsimp only at hSw); (try (go_split_ands)); go_simp; try with_reducible rfl)
        try simp only [Act.put, List.setIfInBounds_toArray, List.set_cons_zero, List.set_cons_succ]
        refine wpAnyH_take (i := 15) (oi := { dst := some 54, op := Op.load 30 (Operand.tmp 53), type := 30, pos := "tree.go:280", after := #[{ on := 14, ground := Ground.data }, { on := 5, ground := Ground.guard }], guard := some (5, true) }) (v := ?v118) rfl (by kernel_rfl) (by kernel_rfl) (by kernel_rfl) (fun _ _ _ h => h) (Or.inl ⟨by rfl, ?y118⟩) (by assumption) ?r118
        case y118 => (intro w hSw; (try dsimp only at hSw); (try (go_split_ands)); go_simp; try with_reducible rfl)
        try simp only [Act.put, List.setIfInBounds_toArray, List.set_cons_zero, List.set_cons_succ]
        refine wpAnyH_ready (rs := [16]) (by kernel_rfl) (by simp) ?_
        refine AllReadyH.cons (o := { dst := some 55, op := Op.call { callee := Callee.value (Operand.func 63), args := #[Operand.tmp 52, Operand.tmp 54], argTypes := #[30, 30] }, type := 4, pos := "tree.go:280", after := #[{ on := 13, ground := Ground.data }, { on := 15, ground := Ground.data }, { on := 5, ground := Ground.chain }, { on := 5, ground := Ground.guard }], guard := some (5, true) }) rfl (fun K hK => ?_) AllReadyH.nil
        go_simp
        refine (Better_any ⟨v0, v1, v2, v3⟩ ⟨r0, r1, r2, r3⟩ _).mono ?_
        rintro e w6 ⟨rfl, hb6⟩
        have hb7 := hbd5.later hb6
        clear hb6
        generalize hbb : betB ⟨v0, v1, v2, v3⟩ ⟨r0, r1, r2, r3⟩ = bb at *
        replace hbb := hide hbb
        go_wp2_with fail
        refine hK.out _ _ ?_ (fun hHeld16 => ?_)
        · exact hS5.out _ hb7
        clear hK K
        try simp only [Act.put, List.setIfInBounds_toArray, List.set_cons_zero, List.set_cons_succ]
        refine wpAnyH_take (i := 17) (oi := { dst := some 56, op := Op.pick (Operand.tmp 44) (Operand.tmp 55) (Operand.const (Value.bool false)), type := 4, pos := "tree.go:280", after := #[{ on := 5, ground := Ground.data }, { on := 16, ground := Ground.data }], guard := none }) (v := ?v119) rfl (by kernel_rfl) (by kernel_rfl) (by kernel_rfl) (fun _ _ _ h => h) (Or.inl ⟨by rfl, ?y119⟩) (by assumption) ?r119
        case y119 => (intro w hSw; (try dsimp only at hSw); (try (go_split_ands)); go_simp; try with_reducible rfl)
        try simp only [Act.put, List.setIfInBounds_toArray, List.set_cons_zero, List.set_cons_succ]
        refine wpAnyH_done (by kernel_rfl) ?_ _
        refine NoPanic.normal ?_
        have hT7 := hT.out.below hb7
        have hG7 := hide (hG.out.trans (Goes.of_below hb7))
        have ht7 := hide (tell_any hT7 i (by rw [hXl.out]; exact hin.out) false (by have := hXok.out.rp; omega) (msgT_wf hXok.out i (by rw [hXl.out]; exact hin.out) false) hXo.out)
        rw [htb] at ht7
        replace hT7 := hide hT7
        clear hHeld5 hHeld16 hS5 hte hT hG hbd5 hb7
        cases bb
        · have hV : Hid (V = X) := hE.out.trans (if_neg (by simp))
          clear hE ht7
          go_wp2
          exact v_end rfl rfl ⟨rfl, m4, by rw [hV.out]; exact hT7.out, hGA.out.trans hG7.out⟩
        · have hV : Hid (V = tellT X i false) := hE.out.trans (if_pos rfl)
          clear hE hT7
          go_wp2_with fail
          refine ht7.out.mono ?_
          rintro e w8 ⟨rfl, m8, hT8, hG8⟩
          replace hT8 := hide hT8
          have hG9 := hide (hG7.out.trans hG8)
          clear ht7 hG7 hG8
          go_wp2
          exact v_end rfl rfl ⟨rfl, m8, by rw [hV.out]; exact hT8.out, hGA.out.trans hG9.out⟩
      · have hXE : Hid (X = propT (renewT U1 false) i) := hX2.out
        have hp4 := hide (hearProposal_any hT4 hRok.out (by have := hRo.out; have := hSo.out; have := hSl.out; omega) i (by rw [hRl.out]; exact hin.out))
        rw [hG.out.tb, ← hXE.out] at hp4
        have hGq := hG
        clear hT4 hX2 hXE hG
        go_wp2_with fail
        clear k7
        refine hp4.out.mono ?_
        rintro e w5 ⟨rfl, m5, hT5, hG5⟩
        have hT := hide hT5
        have hG := hide (hGq.out.trans hG5)
        clear hp4 hT5 hG5 hGq
        have htb := hG.out.tb
        have hM5 := hide ((hG.out.block g hgl.out hnf.out).trans hM0.out)
        obtain ⟨pb5, cap5, sp5, hP5, -, -, hlp5⟩ := hT.out.at_i i (by rw [hXl.out]; exact hin.out)
        have hpe : pb5 = pb := by
          have e1 := hP5.pv
          rw [hG.out.pv, hpv.out] at e1
          simp only [Value.slice.injEq, Option.some.injEq, Addr.mk.injEq, and_true] at e1
          exact e1.1.symm
        subst hpe
        have q9 := (hP5.fl.tp i hP5.hi).c9
        obtain ⟨q8, e0, e1, e2, e3⟩ := hT.out.tell i (by rw [hXl.out]; exact hin.out)
        rw [htb, hXl.out] at q8
        have hte := hide (tell_any hT.out i (by rw [hXl.out]; exact hin.out) false (by have := hXok.out.rp; omega) (msgT_wf hXok.out i (by rw [hXl.out]; exact hin.out) false) hXo.out)
        rw [htb] at hte
        have hvl : m5.vb < w5.heap.size := hT.out.tells.lt
        have hvtb : m.tb < w5.heap.size := by rw [← htb]; exact hT.out.ltb
        have hgl5 : g < w5.heap.size := (Array.getElem?_eq_some_iff.1 hM5.out).1
        clear hP5
        generalize (X.ps.getD i Tp.zero).role = rl at *
        generalize hvv : X.tells.getD i Vc.zero = vv at *
        replace hvv := hide hvv
        obtain ⟨v0, v1, v2, v3⟩ := vv
        dsimp only at e0 e1 e2 e3
        have hbd5 : Below w5.heap.size w5 w5.drew := below_drewN (Below.refl _ _) 1
        have hS5 : Hid (∀ W : World, Below w5.heap.size w5 W → W.cell? ⟨pb5, i * 16 + 9, none⟩ = some (.int .i64 rl) ∧ W.cell? ⟨m.tb, 8, none⟩ = some (.slice (some ⟨m5.vb, 0, none⟩) n n) ∧ W.cell? ⟨m5.vb, i * 4, none⟩ = some (.int .u64 v0) ∧ W.cell? ⟨m5.vb, i * 4 + 1, none⟩ = some (.int .u64 v1) ∧ W.cell? ⟨m5.vb, i * 4 + 2, none⟩ = some (.int .u64 v2) ∧ W.cell? ⟨m5.vb, i * 4 + 3, none⟩ = some (.int .i64 v3) ∧ W.cell? ⟨g, 1, none⟩ = some (.int .u64 r0) ∧ W.cell? ⟨g, 2, none⟩ = some (.int .u64 r1) ∧ W.cell? ⟨g, 3, none⟩ = some (.int .u64 r2) ∧ W.cell? ⟨g, 4, none⟩ = some (.int .i64 r3)) := fun W hb => by
          have hq := (bcell hb).1
          exact ⟨(hq _ _ hlp5).trans q9, (hq _ _ hvtb).trans q8, (hq _ _ hvl).trans e0, (hq _ _ hvl).trans e1, (hq _ _ hvl).trans e2, (hq _ _ hvl).trans e3, (hq _ _ hgl5).trans ((cell_of_row _ _ _ _ _ _ hM5.out).trans rfl), (hq _ _ hgl5).trans ((cell_of_row _ _ _ _ _ _ hM5.out).trans rfl), (hq _ _ hgl5).trans ((cell_of_row _ _ _ _ _ _ hM5.out).trans rfl), (hq _ _ hgl5).trans ((cell_of_row _ _ _ _ _ _ hM5.out).trans rfl)⟩
        clear q9 q8 e0 e1 e2 e3
        go_wp2_with fail
        refine wp_region_noPanic ?_
        refine wp_region_held_drew (S := fun W => W.cell? ⟨pb5, i * 16 + 9, none⟩ = some (.int .i64 rl) ∧ W.cell? ⟨m.tb, 8, none⟩ = some (.slice (some ⟨m5.vb, 0, none⟩) n n) ∧ W.cell? ⟨m5.vb, i * 4, none⟩ = some (.int .u64 v0) ∧ W.cell? ⟨m5.vb, i * 4 + 1, none⟩ = some (.int .u64 v1) ∧ W.cell? ⟨m5.vb, i * 4 + 2, none⟩ = some (.int .u64 v2) ∧ W.cell? ⟨m5.vb, i * 4 + 3, none⟩ = some (.int .i64 v3) ∧ W.cell? ⟨g, 1, none⟩ = some (.int .u64 r0) ∧ W.cell? ⟨g, 2, none⟩ = some (.int .u64 r1) ∧ W.cell? ⟨g, 3, none⟩ = some (.int .u64 r2) ∧ W.cell? ⟨g, 4, none⟩ = some (.int .i64 r3)) (by kernel_rfl) (hS5.out _ hbd5) (fun hHeld5 => ?_)
        by_cases h2 : rl = 2
        rotate_left
        · have hV : Hid (V = X) := hE.out.trans (if_neg (by simp [h2]))
          have h2q : (rl == 2) = false := by rw [beq_eq_false_iff_ne]; exact h2
          clear hE h2
          refine wpAnyH_take (i := 0) (oi := { dst := some 39, op := Op.move (Operand.tmp 6), type := 89, pos := "tree.go:280", after := #[], guard := none }) (v := ?v120) rfl (by kernel_rfl) (by kernel_rfl) (by kernel_rfl) (fun _ _ _ h => h) (Or.inl ⟨by rfl, ?y120⟩) (by assumption) ?r120
          case y120 => (intro w hSw; (try dsimp only at hSw); (try (go_split_ands)); go_simp; try with_reducible rfl)
          try simp only [Act.put, List.setIfInBounds_toArray, List.set_cons_zero, List.set_cons_succ]
          refine wpAnyH_take (i := 1) (oi := { dst := some 40, op := Op.nilCheck (Operand.tmp 39), type := 0, pos := "tree.go:280", after := #[{ on := 0, ground := Ground.data }], guard := none }) (v := ?v121) rfl (by kernel_rfl) (by kernel_rfl) (by kernel_rfl) (fun _ _ _ h => h) (Or.inl ⟨by rfl, ?y121⟩) (by assumption) ?r121
          case y121 => (intro w hSw; (try dsimp only at hSw); (try (go_split_ands)); go_simp; try with_reducible rfl)
          try simp only [Act.put, List.setIfInBounds_toArray, List.set_cons_zero, List.set_cons_succ]
          refine wpAnyH_take (i := 2) (oi := { dst := some 41, op := Op.fieldAddr 34 (Operand.tmp 40) 2, type := 0, pos := "tree.go:280", after := #[{ on := 1, ground := Ground.data }], guard := none }) (v := ?v122) rfl (by kernel_rfl) (by kernel_rfl) (by kernel_rfl) (fun _ _ _ h => h) (Or.inl ⟨by rfl, ?y122⟩) (by assumption) ?r122
          case y122 => (intro w hSw; (try dsimp only at hSw); (try (go_split_ands)); go_simp; try with_reducible rfl)
          try simp only [Act.put, List.setIfInBounds_toArray, List.set_cons_zero, List.set_cons_succ]
          refine wpAnyH_take (i := 3) (oi := { dst := some 42, op := Op.load 3 (Operand.tmp 41), type := 3, pos := "tree.go:280", after := #[{ on := 2, ground := Ground.data }], guard := none }) (v := ?v123) rfl (by kernel_rfl) (by kernel_rfl) (by kernel_rfl) (fun _ _ _ h => h) (Or.inl ⟨by rfl, ?y123⟩) (by assumption) ?r123
          case y123 => (intro w hSw; (try dsimp only at hSw); (try (go_split_ands)); go_simp; try with_reducible rfl)
          try simp only [Act.put, List.setIfInBounds_toArray, List.set_cons_zero, List.set_cons_succ]
          refine wpAnyH_take (i := 4) (oi := { dst := some 43, op := Op.binOp BinOp.eql 3 (Operand.tmp 42) (Operand.const (Value.int IntKind.i64 2)) 3, type := 4, pos := "tree.go:280", after := #[{ on := 3, ground := Ground.data }], guard := none }) (v := ?v124) rfl (by kernel_rfl) (by kernel_rfl) (by kernel_rfl) (fun _ _ _ h => h) (Or.inl ⟨by rfl, ?y124⟩) (by assumption) ?r124
          case y124 => (intro w hSw; (try dsimp only at hSw); (try (go_split_ands)); go_simp; try with_reducible rfl)
          try simp only [Act.put, List.setIfInBounds_toArray, List.set_cons_zero, List.set_cons_succ]
          refine wpAnyH_take (i := 5) (oi := { dst := some 44, op := Op.move (Operand.tmp 43), type := 4, pos := "tree.go:280", after := #[{ on := 4, ground := Ground.data }], guard := none }) (v := ?v125) rfl (by kernel_rfl) (by kernel_rfl) (by kernel_rfl) (fun _ _ _ h => h) (Or.inl ⟨by rfl, ?y125⟩) (by assumption) ?r125
          case y125 => (intro w hSw; (try dsimp only at hSw); (try (go_split_ands)); go_simp; try with_reducible rfl)
          try simp only [Act.put, List.setIfInBounds_toArray, List.set_cons_zero, List.set_cons_succ]
          refine wpAnyH_take (i := 6) (oi := { dst := some 45, op := Op.move (Operand.tmp 0), type := 35, pos := "tree.go:280", after := #[{ on := 5, ground := Ground.guard }], guard := some (5, true) }) (v := undef) rfl (by kernel_rfl) (by kernel_rfl) (by kernel_rfl) (fun _ _ _ h => h) (Or.inr ⟨by rfl, rfl⟩) (by assumption) ?_
          try simp only [Act.put, List.setIfInBounds_toArray, List.set_cons_zero, List.set_cons_succ]
          refine wpAnyH_take (i := 7) (oi := { dst := some 46, op := Op.nilCheck (Operand.tmp 45), type := 0, pos := "tree.go:280", after := #[{ on := 6, ground := Ground.data }, { on := 5, ground := Ground.guard }], guard := some (5, true) }) (v := undef) rfl (by kernel_rfl) (by kernel_rfl) (by kernel_rfl) (fun _ _ _ h => h) (Or.inr ⟨by rfl, rfl⟩) (by assumption) ?_
          try simp only [Act.put, List.setIfInBounds_toArray, List.set_cons_zero, List.set_cons_succ]
          refine wpAnyH_take (i := 8) (oi := { dst := some 47, op := Op.fieldAddr 67 (Operand.tmp 46) 2, type := 0, pos := "tree.go:280", after := #[{ on := 7, ground := Ground.data }, { on := 5, ground := Ground.guard }], guard := some (5, true) }) (v := undef) rfl (by kernel_rfl) (by kernel_rfl) (by kernel_rfl) (fun _ _ _ h => h) (Or.inr ⟨by rfl, rfl⟩) (by assumption) ?_
          try simp only [Act.put, List.setIfInBounds_toArray, List.set_cons_zero, List.set_cons_succ]
          refine wpAnyH_take (i := 9) (oi := { dst := some 48, op := Op.fieldAddr 64 (Operand.tmp 47) 3, type := 0, pos := "tree.go:280", after := #[{ on := 8, ground := Ground.data }, { on := 5, ground := Ground.guard }], guard := some (5, true) }) (v := undef) rfl (by kernel_rfl) (by kernel_rfl) (by kernel_rfl) (fun _ _ _ h => h) (Or.inr ⟨by rfl, rfl⟩) (by assumption) ?_
          try simp only [Act.put, List.setIfInBounds_toArray, List.set_cons_zero, List.set_cons_succ]
          refine wpAnyH_take (i := 10) (oi := { dst := some 49, op := Op.load 62 (Operand.tmp 48), type := 62, pos := "tree.go:280", after := #[{ on := 9, ground := Ground.data }, { on := 5, ground := Ground.guard }], guard := some (5, true) }) (v := undef) rfl (by kernel_rfl) (by kernel_rfl) (by kernel_rfl) (fun _ _ _ h => h) (Or.inr ⟨by rfl, rfl⟩) (by assumption) ?_
          try simp only [Act.put, List.setIfInBounds_toArray, List.set_cons_zero, List.set_cons_succ]
          refine wpAnyH_take (i := 11) (oi := { dst := some 50, op := Op.move (Operand.tmp 1), type := 3, pos := "tree.go:280", after := #[{ on := 5, ground := Ground.guard }], guard := some (5, true) }) (v := undef) rfl (by kernel_rfl) (by kernel_rfl) (by kernel_rfl) (fun _ _ _ h => h) (Or.inr ⟨by rfl, rfl⟩) (by assumption) ?_
          try simp only [Act.put, List.setIfInBounds_toArray, List.set_cons_zero, List.set_cons_succ]
          refine wpAnyH_take (i := 12) (oi := { dst := some 51, op := Op.indexAddr 62 (Operand.tmp 49) (Operand.tmp 50), type := 0, pos := "tree.go:280", after := #[{ on := 10, ground := Ground.data }, { on := 11, ground := Ground.data }, { on := 5, ground := Ground.guard }], guard := some (5, true) }) (v := undef) rfl (by kernel_rfl) (by kernel_rfl) (by kernel_rfl) (fun _ _ _ h => h) (Or.inr ⟨by rfl, rfl⟩) (by assumption) ?_
          try simp only [Act.put, List.setIfInBounds_toArray, List.set_cons_zero, List.set_cons_succ]
          refine wpAnyH_take (i := 13) (oi := { dst := some 52, op := Op.load 30 (Operand.tmp 51), type := 30, pos := "tree.go:280", after := #[{ on := 12, ground := Ground.data }, { on := 5, ground := Ground.guard }], guard := some (5, true) }) (v := undef) rfl (by kernel_rfl) (by kernel_rfl) (by kernel_rfl) (fun _ _ _ h => h) (Or.inr ⟨by rfl, rfl⟩) (by assumption) ?_
          try simp only [Act.put, List.setIfInBounds_toArray, List.set_cons_zero, List.set_cons_succ]
          refine wpAnyH_take (i := 14) (oi := { dst := some 53, op := Op.fieldAddr 40 (Operand.tmp 5) 1, type := 0, pos := "tree.go:280", after := #[{ on := 5, ground := Ground.guard }], guard := some (5, true) }) (v := undef) rfl (by kernel_rfl) (by kernel_rfl) (by kernel_rfl) (fun _ _ _ h => h) (Or.inr ⟨by rfl, rfl⟩) (by assumption) ?_
          try simp only [Act.put, List.setIfInBounds_toArray, List.set_cons_zero, List.set_cons_succ]
          refine wpAnyH_take (i := 15) (oi := { dst := some 54, op := Op.load 30 (Operand.tmp 53), type := 30, pos := "tree.go:280", after := #[{ on := 14, ground := Ground.data }, { on := 5, ground := Ground.guard }], guard := some (5, true) }) (v := undef) rfl (by kernel_rfl) (by kernel_rfl) (by kernel_rfl) (fun _ _ _ h => h) (Or.inr ⟨by rfl, rfl⟩) (by assumption) ?_
          try simp only [Act.put, List.setIfInBounds_toArray, List.set_cons_zero, List.set_cons_succ]
          refine wpAnyH_take (i := 16) (oi := { dst := some 55, op := Op.call { callee := Callee.value (Operand.func 63), args := #[Operand.tmp 52, Operand.tmp 54], argTypes := #[30, 30] }, type := 4, pos := "tree.go:280", after := #[{ on := 13, ground := Ground.data }, { on := 15, ground := Ground.data }, { on := 5, ground := Ground.chain }, { on := 5, ground := Ground.guard }], guard := some (5, true) }) (v := undef) rfl (by kernel_rfl) (by kernel_rfl) (by kernel_rfl) (fun _ _ _ h => h) (Or.inr ⟨by rfl, rfl⟩) (by assumption) ?_
          try simp only [Act.put, List.setIfInBounds_toArray, List.set_cons_zero, List.set_cons_succ]
          refine wpAnyH_take (i := 17) (oi := { dst := some 56, op := Op.pick (Operand.tmp 44) (Operand.tmp 55) (Operand.const (Value.bool false)), type := 4, pos := "tree.go:280", after := #[{ on := 5, ground := Ground.data }, { on := 16, ground := Ground.data }], guard := none }) (v := ?v126) rfl (by kernel_rfl) (by kernel_rfl) (by kernel_rfl) (fun _ _ _ h => h) (Or.inl ⟨by rfl, ?y126⟩) (by assumption) ?r126
          case y126 => (intro w hSw; (try dsimp only at hSw); (try (go_split_ands)); go_simp; try with_reducible rfl)
          try simp only [Act.put, List.setIfInBounds_toArray, List.set_cons_zero, List.set_cons_succ]
          refine wpAnyH_done (by kernel_rfl) ?_ _
          refine NoPanic.normal ?_
          have hT6 := hide (hT.out.below hbd5)
          have hG6 := hide (hG.out.trans (Goes.of_below hbd5))
          clear hHeld5 hS5 hte hT hG hbd5
          go_wp2
          exact v_end rfl rfl ⟨rfl, m5, by rw [hV.out]; exact hT6.out, hGA.out.trans hG6.out⟩
        subst h2
        refine wpAnyH_take (i := 0) (oi := { dst := some 39, op := Op.move (Operand.tmp 6), type := 89, pos := "tree.go:280", after := #[], guard := none }) (v := ?v127) rfl (by kernel_rfl) (by kernel_rfl) (by kernel_rfl) (fun _ _ _ h => h) (Or.inl ⟨by rfl, ?y127⟩) (by assumption) ?r127
        case y127 => (intro w hSw; (try dsimp only at hSw); (try (go_split_ands)); go_simp; try with_reducible rfl)
        try simp only [Act.put, List.setIfInBounds_toArray, List.set_cons_zero, List.set_cons_succ]
        refine wpAnyH_take (i := 1) (oi := { dst := some 40, op := Op.nilCheck (Operand.tmp 39), type := 0, pos := "tree.go:280", after := #[{ on := 0, ground := Ground.data }], guard := none }) (v := ?v128) rfl (by kernel_rfl) (by kernel_rfl) (by kernel_rfl) (fun _ _ _ h => h) (Or.inl ⟨by rfl, ?y128⟩) (by assumption) ?r128
        case y128 => (intro w hSw; (try dsimp only at hSw); (try (go_split_ands)); go_simp; try with_reducible rfl)
        try simp only [Act.put, List.setIfInBounds_toArray, List.set_cons_zero, List.set_cons_succ]
        refine wpAnyH_take (i := 2) (oi := { dst := some 41, op := Op.fieldAddr 34 (Operand.tmp 40) 2, type := 0, pos := "tree.go:280", after := #[{ on := 1, ground := Ground.data }], guard := none }) (v := ?v129) rfl (by kernel_rfl) (by kernel_rfl) (by kernel_rfl) (fun _ _ _ h => h) (Or.inl ⟨by rfl, ?y129⟩) (by assumption) ?r129
        case y129 => (intro w hSw; (try dsimp only at hSw); (try (go_split_ands)); go_simp; try with_reducible rfl)
        try simp only [Act.put, List.setIfInBounds_toArray, List.set_cons_zero, List.set_cons_succ]
        refine wpAnyH_take (i := 3) (oi := { dst := some 42, op := Op.load 3 (Operand.tmp 41), type := 3, pos := "tree.go:280", after := #[{ on := 2, ground := Ground.data }], guard := none }) (v := ?v130) rfl (by kernel_rfl) (by kernel_rfl) (by kernel_rfl) (fun _ _ _ h => h) (Or.inl ⟨by rfl, ?y130⟩) (by assumption) ?r130
        case y130 => (intro w hSw; (try dsimp only at hSw); (try (go_split_ands)); go_simp; try with_reducible rfl)
        try simp only [Act.put, List.setIfInBounds_toArray, List.set_cons_zero, List.set_cons_succ]
        refine wpAnyH_take (i := 4) (oi := { dst := some 43, op := Op.binOp BinOp.eql 3 (Operand.tmp 42) (Operand.const (Value.int IntKind.i64 2)) 3, type := 4, pos := "tree.go:280", after := #[{ on := 3, ground := Ground.data }], guard := none }) (v := ?v131) rfl (by kernel_rfl) (by kernel_rfl) (by kernel_rfl) (fun _ _ _ h => h) (Or.inl ⟨by rfl, ?y131⟩) (by assumption) ?r131
        case y131 => (intro w hSw; (try dsimp only at hSw); (try (go_split_ands)); go_simp; try with_reducible rfl)
        try simp only [Act.put, List.setIfInBounds_toArray, List.set_cons_zero, List.set_cons_succ]
        refine wpAnyH_take (i := 5) (oi := { dst := some 44, op := Op.move (Operand.tmp 43), type := 4, pos := "tree.go:280", after := #[{ on := 4, ground := Ground.data }], guard := none }) (v := ?v132) rfl (by kernel_rfl) (by kernel_rfl) (by kernel_rfl) (fun _ _ _ h => h) (Or.inl ⟨by rfl, ?y132⟩) (by assumption) ?r132
        case y132 => (intro w hSw; (try dsimp only at hSw); (try (go_split_ands)); go_simp; try with_reducible rfl)
        try simp only [Act.put, List.setIfInBounds_toArray, List.set_cons_zero, List.set_cons_succ]
        refine wpAnyH_take (i := 6) (oi := { dst := some 45, op := Op.move (Operand.tmp 0), type := 35, pos := "tree.go:280", after := #[{ on := 5, ground := Ground.guard }], guard := some (5, true) }) (v := ?v133) rfl (by kernel_rfl) (by kernel_rfl) (by kernel_rfl) (fun _ _ _ h => h) (Or.inl ⟨by rfl, ?y133⟩) (by assumption) ?r133
        case y133 => (intro w hSw; (try dsimp only at hSw); (try (go_split_ands)); go_simp; try with_reducible rfl)
        try simp only [Act.put, List.setIfInBounds_toArray, List.set_cons_zero, List.set_cons_succ]
        refine wpAnyH_take (i := 7) (oi := { dst := some 46, op := Op.nilCheck (Operand.tmp 45), type := 0, pos := "tree.go:280", after := #[{ on := 6, ground := Ground.data }, { on := 5, ground := Ground.guard }], guard := some (5, true) }) (v := ?v134) rfl (by kernel_rfl) (by kernel_rfl) (by kernel_rfl) (fun _ _ _ h => h) (Or.inl ⟨by rfl, ?y134⟩) (by assumption) ?r134
        case y134 => (intro w hSw; (try dsimp only at hSw); (try (go_split_ands)); go_simp; try with_reducible rfl)
        try simp only [Act.put, List.setIfInBounds_toArray, List.set_cons_zero, List.set_cons_succ]
        refine wpAnyH_take (i := 8) (oi := { dst := some 47, op := Op.fieldAddr 67 (Operand.tmp 46) 2, type := 0, pos := "tree.go:280", after := #[{ on := 7, ground := Ground.data }, { on := 5, ground := Ground.guard }], guard := some (5, true) }) (v := ?v135) rfl (by kernel_rfl) (by kernel_rfl) (by kernel_rfl) (fun _ _ _ h => h) (Or.inl ⟨by rfl, ?y135⟩) (by assumption) ?r135
        case y135 => (intro w hSw; (try dsimp only at hSw); (try (go_split_ands)); go_simp; try with_reducible rfl)
        try simp only [Act.put, List.setIfInBounds_toArray, List.set_cons_zero, List.set_cons_succ]
        refine wpAnyH_take (i := 9) (oi := { dst := some 48, op := Op.fieldAddr 64 (Operand.tmp 47) 3, type := 0, pos := "tree.go:280", after := #[{ on := 8, ground := Ground.data }, { on := 5, ground := Ground.guard }], guard := some (5, true) }) (v := ?v136) rfl (by kernel_rfl) (by kernel_rfl) (by kernel_rfl) (fun _ _ _ h => h) (Or.inl ⟨by rfl, ?y136⟩) (by assumption) ?r136
        case y136 => (intro w hSw; (try dsimp only at hSw); (try (go_split_ands)); go_simp; try with_reducible rfl)
        try simp only [Act.put, List.setIfInBounds_toArray, List.set_cons_zero, List.set_cons_succ]
        refine wpAnyH_take (i := 10) (oi := { dst := some 49, op := Op.load 62 (Operand.tmp 48), type := 62, pos := "tree.go:280", after := #[{ on := 9, ground := Ground.data }, { on := 5, ground := Ground.guard }], guard := some (5, true) }) (v := ?v137) rfl (by kernel_rfl) (by kernel_rfl) (by kernel_rfl) (fun _ _ _ h => h) (Or.inl ⟨by rfl, ?y137⟩) (by assumption) ?r137
        case y137 => (intro w hSw; (try dsimp only at hSw); (try (go_split_ands)); go_simp; try with_reducible rfl)
        try simp only [Act.put, List.setIfInBounds_toArray, List.set_cons_zero, List.set_cons_succ]
        refine wpAnyH_take (i := 11) (oi := { dst := some 50, op := Op.move (Operand.tmp 1), type := 3, pos := "tree.go:280", after := #[{ on := 5, ground := Ground.guard }], guard := some (5, true) }) (v := ?v138) rfl (by kernel_rfl) (by kernel_rfl) (by kernel_rfl) (fun _ _ _ h => h) (Or.inl ⟨by rfl, ?y138⟩) (by assumption) ?r138
        case y138 => (intro w hSw; (try dsimp only at hSw); (try (go_split_ands)); go_simp; try with_reducible rfl)
        try simp only [Act.put, List.setIfInBounds_toArray, List.set_cons_zero, List.set_cons_succ]
        refine wpAnyH_take (i := 12) (oi := { dst := some 51, op := Op.indexAddr 62 (Operand.tmp 49) (Operand.tmp 50), type := 0, pos := "tree.go:280", after := #[{ on := 10, ground := Ground.data }, { on := 11, ground := Ground.data }, { on := 5, ground := Ground.guard }], guard := some (5, true) }) (v := ?v139) rfl (by kernel_rfl) (by kernel_rfl) (by kernel_rfl) (fun _ _ _ h => h) (Or.inl ⟨by rfl, ?y139⟩) (by assumption) ?r139
        case y139 => (intro w hSw; (try dsimp only at hSw); (try (go_split_ands)); go_simp; try with_reducible rfl)
        try simp only [Act.put, List.setIfInBounds_toArray, List.set_cons_zero, List.set_cons_succ]
        refine wpAnyH_take (i := 13) (oi := { dst := some 52, op := Op.load 30 (Operand.tmp 51), type := 30, pos := "tree.go:280", after := #[{ on := 12, ground := Ground.data }, { on := 5, ground := Ground.guard }], guard := some (5, true) }) (v := ?v140) rfl (by kernel_rfl) (by kernel_rfl) (by kernel_rfl) (fun _ _ _ h => h) (Or.inl ⟨by rfl, ?y140⟩) (by assumption) ?r140
        case y140 => (intro w hSw; (try dsimp only at hSw); (try (go_split_ands)); go_simp; try with_reducible rfl)
        try simp only [Act.put, List.setIfInBounds_toArray, List.set_cons_zero, List.set_cons_succ]
        refine wpAnyH_take (i := 14) (oi := { dst := some 53, op := Op.fieldAddr 40 (Operand.tmp 5) 1, type := 0, pos := "tree.go:280", after := #[{ on := 5, ground := Ground.guard }], guard := some (5, true) }) (v := ?v141) rfl (by kernel_rfl) (by kernel_rfl) (by kernel_rfl) (fun _ _ _ h => h) (Or.inl ⟨by rfl, ?y141⟩) (by assumption) ?r141
        case y141 => (intro w hSw; (try dsimp only at hSw); (try (go_split_ands)); go_simp; try with_reducible rfl)
        try simp only [Act.put, List.setIfInBounds_toArray, List.set_cons_zero, List.set_cons_succ]
        refine wpAnyH_take (i := 15) (oi := { dst := some 54, op := Op.load 30 (Operand.tmp 53), type := 30, pos := "tree.go:280", after := #[{ on := 14, ground := Ground.data }, { on := 5, ground := Ground.guard }], guard := some (5, true) }) (v := ?v142) rfl (by kernel_rfl) (by kernel_rfl) (by kernel_rfl) (fun _ _ _ h => h) (Or.inl ⟨by rfl, ?y142⟩) (by assumption) ?r142
        case y142 => (intro w hSw; (try dsimp only at hSw); (try (go_split_ands)); go_simp; try with_reducible rfl)
        try simp only [Act.put, List.setIfInBounds_toArray, List.set_cons_zero, List.set_cons_succ]
        refine wpAnyH_ready (rs := [16]) (by kernel_rfl) (by simp) ?_
        refine AllReadyH.cons (o := { dst := some 55, op := Op.call { callee := Callee.value (Operand.func 63), args := #[Operand.tmp 52, Operand.tmp 54], argTypes := #[30, 30] }, type := 4, pos := "tree.go:280", after := #[{ on := 13, ground := Ground.data }, { on := 15, ground := Ground.data }, { on := 5, ground := Ground.chain }, { on := 5, ground := Ground.guard }], guard := some (5, true) }) rfl (fun K hK => ?_) AllReadyH.nil
        go_simp
        refine (Better_any ⟨v0, v1, v2, v3⟩ ⟨r0, r1, r2, r3⟩ _).mono ?_
        rintro e w6 ⟨rfl, hb6⟩
        have hb7 := hbd5.later hb6
        clear hb6
        generalize hbb : betB ⟨v0, v1, v2, v3⟩ ⟨r0, r1, r2, r3⟩ = bb at *
        replace hbb := hide hbb
        go_wp2_with fail
        refine hK.out _ _ ?_ (fun hHeld16 => ?_)
        · exact hS5.out _ hb7
        clear hK K
        try simp only [Act.put, List.setIfInBounds_toArray, List.set_cons_zero, List.set_cons_succ]
        refine wpAnyH_take (i := 17) (oi := { dst := some 56, op := Op.pick (Operand.tmp 44) (Operand.tmp 55) (Operand.const (Value.bool false)), type := 4, pos := "tree.go:280", after := #[{ on := 5, ground := Ground.data }, { on := 16, ground := Ground.data }], guard := none }) (v := ?v143) rfl (by kernel_rfl) (by kernel_rfl) (by kernel_rfl) (fun _ _ _ h => h) (Or.inl ⟨by rfl, ?y143⟩) (by assumption) ?r143
        case y143 => (intro w hSw; (try dsimp only at hSw); (try (go_split_ands)); go_simp; try with_reducible rfl)
        try simp only [Act.put, List.setIfInBounds_toArray, List.set_cons_zero, List.set_cons_succ]
        refine wpAnyH_done (by kernel_rfl) ?_ _
        refine NoPanic.normal ?_
        have hT7 := hT.out.below hb7
        have hG7 := hide (hG.out.trans (Goes.of_below hb7))
        have ht7 := hide (tell_any hT7 i (by rw [hXl.out]; exact hin.out) false (by have := hXok.out.rp; omega) (msgT_wf hXok.out i (by rw [hXl.out]; exact hin.out) false) hXo.out)
        rw [htb] at ht7
        replace hT7 := hide hT7
        clear hHeld5 hHeld16 hS5 hte hT hG hbd5 hb7
        cases bb
        · have hV : Hid (V = X) := hE.out.trans (if_neg (by simp))
          clear hE ht7
          go_wp2
          exact v_end rfl rfl ⟨rfl, m5, by rw [hV.out]; exact hT7.out, hGA.out.trans hG7.out⟩
        · have hV : Hid (V = tellT X i false) := hE.out.trans (if_pos rfl)
          clear hE hT7
          go_wp2_with fail
          refine ht7.out.mono ?_
          rintro e w8 ⟨rfl, m8, hT8, hG8⟩
          replace hT8 := hide hT8
          have hG9 := hide (hG7.out.trans hG8)
          clear ht7 hG7 hG8
          go_wp2
          exact v_end rfl rfl ⟨rfl, m8, by rw [hV.out]; exact hT8.out, hGA.out.trans hG9.out⟩
end Go.Proofs.Ytoejoneecanbbaa
