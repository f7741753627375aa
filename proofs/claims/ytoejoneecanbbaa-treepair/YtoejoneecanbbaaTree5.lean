
/-
  The contract of tree's tell. Conditions: those that each theorem names.
-/
import Derived.Test.YtoejoneecanbbaaTree4
namespace Go.Proofs.Ytoejoneecanbbaa
open Go.RowKit
set_option linter.unusedVariables false
set_option maxRecDepth 20000


def msgP (p : Tp) (v : Vc) (age : Int) (ag : Bool) : Bp := ⟨1, v.root, v.cost, v.bridge, v.port, decide (0 < p.change), false, decide (p.role = 2) && !decide (p.state = 2) && !p.edge, ag, decide (p.state = 1) || decide (p.state = 2), decide (p.state = 2), msgRole p.role, age, 5120, 512, 3840⟩
def msgT (T : Tt) (i : Nat) (ag : Bool) : Bp := msgP (T.at i) (T.tells.getD i Vc.zero) (ageT T) ag
def tellT (T : Tt) (i : Nat) (ag : Bool) : Tt := if bcheckE (msgT T i ag) = 0 then { T with outs := T.outs ++ [⟨i, msgT T i ag⟩] } else T
theorem Tr.tell {w : World} {m : Mt} {T : Tt} (h : Tr w m T) (i : Nat) (hi : i < T.ps.length) : w.cell? ⟨m.tb, 8, none⟩ = some (.slice (some ⟨m.vb, 0, none⟩) T.ps.length T.ps.length) ∧ w.cell? ⟨m.vb, i * 4, none⟩ = some (.int .u64 (T.tells.getD i Vc.zero).root) ∧ w.cell? ⟨m.vb, i * 4 + 1, none⟩ = some (.int .u64 (T.tells.getD i Vc.zero).cost) ∧
    w.cell? ⟨m.vb, i * 4 + 2, none⟩ = some (.int .u64 (T.tells.getD i Vc.zero).bridge) ∧ w.cell? ⟨m.vb, i * 4 + 3, none⟩ = some (.int .i64 (T.tells.getD i Vc.zero).port) := by
  have c8 := h.cell 8
  simp only [treeRow, List.getElem?_cons_succ, List.getElem?_cons_zero] at c8
  have g := fun k hk => h.tells.cell wide_V Vc.zero i k (by rw [h.tl]; exact hi) hk
  exact ⟨c8, g 0 (by omega), g 1 (by omega), g 2 (by omega), g 3 (by omega)⟩
/-- More goes out. -/
theorem Tr.more {w w0 w1 : World} {m : Mt} {T : Tt} (h : Tr w m T) (hb : Below w.heap.size w w0) (v : Value) (l : List Ot) (hS : Sl w1 v 77 17 fO l) (hg : w0.grownBy w1 m.ov.ownBlock) (ho : v.ownBlock = m.ov.ownBlock ∨ v.ownBlock = some w0.heap.size) :
    Tr (w1.setCell ⟨m.tb, 9, none⟩ v) ⟨m.tb, m.pv, v, m.ib, m.vb⟩ { T with outs := l } ∧ Goes m w ⟨m.tb, m.pv, v, m.ib, m.vb⟩ (w1.setCell ⟨m.tb, 9, none⟩ v) := by
  have hsz : w.heap.size ≤ w0.heap.size := hb.size
  have hso : ∀ k, k ≠ m.tb → (w1.setCell ⟨m.tb, 9, none⟩ v).heap[k]? = w1.heap[k]? := fun k hk => heap_setCell_other w1 ⟨m.tb, 9, none⟩ k v hk
  have hold : ∀ k, k < w.heap.size → m.ov.ownBlock ≠ some k → w1.heap[k]? = w.heap[k]? := fun k hk hn => (hg.block k (by omega) (fun e => hn e.symm)).trans (hb.block k hk)
  have htb := h.ltb
  have hfo : ∀ k, v.ownBlock = some k → m.ov.ownBlock = some k ∨ w.heap.size ≤ k := fun k e => by
    rcases ho with e' | e'
    · rw [e'] at e; exact .inl e
    · rw [e'] at e
      simp only [Option.some.injEq] at e
      exact .inr (by omega)
  have hvtb : v.ownBlock ≠ some m.tb := fun e => by
    rcases hfo _ e with e' | e'
    · exact h.a2 e'
    · omega
  have hib := h.roles.lt
  have hvb := h.tells.lt
  have foot' : ∀ k, (⟨m.tb, m.pv, v, m.ib, m.vb⟩ : Mt).foot k → m.foot k ∨ w.heap.size ≤ k := fun k hk => by
    rcases hk with e | e | e
    · exact .inl (.inl e)
    · exact .inl (.inr (.inl e))
    · rcases hfo k e with e' | e'
      · exact .inl (.inr (.inr e'))
      · exact .inr e'
  have hpo : ∀ b, m.pv.ownBlock = some b → m.ov.ownBlock ≠ some b := h.a3
  refine ⟨⟨?_, ?_, ?_, ?_, ?_, h.fg, h.few, h.rl, h.tl, h.a1, hvtb, ?_, ?_, ?_⟩, ⟨rfl, rfl, foot', ?_, ?_, ?_, ?_, ?_⟩⟩
  · have hr1 : w1.heap[m.tb]? = some (.cells (treeRow m T).toArray 67 (0, 0)) := (hold m.tb htb h.a2).trans h.row
    rw [heap_setCell_same _ _ _ _ _ _ hr1]
    simp [treeRow]
  · exact h.ports.blk fun b e => (hso b (fun e' => h.a1 (by rw [e, e']))).trans (hold b (h.ports.lt e) (hpo b e))
  · exact hS.blk fun b e => hso b (fun e' => hvtb (by rw [e, e']))
  · exact h.roles.blk ((hso _ (fun e => h.a4 (.inl e))).trans (hold _ hib (fun e => h.a4 (.inr (.inr e)))))
  · exact h.tells.blk ((hso _ (fun e => h.a5 (.inl e))).trans (hold _ hvb (fun e => h.a5 (.inr (.inr e)))))
  · intro b e e'
    rcases hfo b e' with e2 | e2
    · exact hpo b e e2
    · have := h.ports.lt e; omega
  · intro hk
    rcases foot' _ hk with e | e
    · exact h.a4 e
    · show False
      have : m.ib < w.heap.size := hib
      have e2 : w.heap.size ≤ m.ib := e
      omega
  · intro hk
    rcases foot' _ hk with e | e
    · exact h.a5 e
    · show False
      have : m.vb < w.heap.size := hvb
      have e2 : w.heap.size ≤ m.vb := e
      omega
  · exact hg.os.trans hb.os
  · exact hg.tape.trans hb.tape
  · exact hg.output.trans hb.output
  · have := hg.size
    simp only [World.setCell]
    simp
    omega
  · intro k hk hn
    exact (hso k (fun e => hn (.inl e))).trans (hold k hk (fun e => hn (.inr (.inr e))))
theorem Try.infoO : (Try.prog.info? 77).map (fun i => (i.zero, i.size, i.bytes)) = some (some (.agg (fO Ot.zero).toArray), 17, 96) := by kernel_rfl
theorem sty_O : Sty Try.prog 59 77 17 96 := by
  obtain ⟨i, h1, h2, h3, h4⟩ := info_parts Try.infoO
  exact ⟨Try.underlying59, ⟨i, _, h1, h2, h3, h4, rfl⟩, by omega⟩
theorem alloc_B (w : World) : (Instr.alloc 40 true (.tuple #[])).run Try.prog w = .ok (.pointer (some ⟨w.heap.size, 0, none⟩)) (w.alloc (.cells Bp.zero.row 40)) := by rfl
set_option maxHeartbeats 4000000 in
theorem tell_any {w : World} {m : Mt} {T : Tt} (h : Tr w m T) (i : Nat) (hi : i < T.ps.length) (ag : Bool) (hrp : T.rp < T.ps.length) (hw : (msgT T i ag).wf) (ho : T.outs.length ≤ 900000) :
    Calls Try.prog 54 #[.pointer (some ⟨m.tb, 0, none⟩), .int .i64 i, .bool ag] w fun e w' => e = .returned (.tuple #[]) ∧ ∃ m', Tr w' m' (tellT T i ag) ∧ Goes m w m' w' := by
  obtain ⟨pb, cap, sp, hP, c1, hne, hlp⟩ := h.at_i i hi
  obtain ⟨t8, t0, t1, t2, t3⟩ := h.tell i hi
  have hc := hP.fl.tp i hi
  have hTE : tellT T i ag = if bcheckE (msgT T i ag) = 0 then { T with outs := T.outs ++ [⟨i, msgT T i ag⟩] } else T := rfl
  have hw := hide hw
  have hAg0 := hide (fun (W : World) (hW : Below w.heap.size w W) => age_any (h.below hW) hrp)
  have hM : Hid (msgT T i ag = msgP (T.ps.getD i Tp.zero) (T.tells.getD i Vc.zero) (ageT T) ag) := rfl
  have hlv := h.tells.lt
  have hltb := h.ltb
  generalize ageT T = gAge at *
  generalize T.tells.getD i Vc.zero = V at *
  obtain ⟨v0, v1, v2, v3⟩ := V
  generalize T.ps.getD i Tp.zero = p at *
  obtain ⟨⟨id, cost, up, has, ⟨a0, a1, a2, a3⟩⟩, ed, ro, st, age, left, wait, ch, agr⟩ := p
  obtain ⟨c0_, c1_, c2_, c3_, c4_, c5_, c6_, c7_, c8_, c9_, c10_, c11_, c12_, c13_, c14_, c15_⟩ := hc
  generalize msgT T i ag = MM at *
  generalize tellT T i ag = VV at *
  generalize hTn : T.ps.length = n at *
  replace hTn := hide hTn
  have hTE := hTE
  dsimp only at *
  replace h := hide h
  clear hP
  have hME : MM = (⟨1, v0, v1, v2, v3, decide (0 < ch), false, ((ro == 2) && (st != 2) && !ed), ag, ((st == 1) || (st == 2)), (st == 2), msgRole ro, gAge, 5120, 512, 3840⟩ : Bp) := by
    rw [hM.out]
    simp only [msgP, int_beq, int_bne]
  obtain ⟨b1, hb1⟩ : ∃ b1, b1 = (ro == 2) := ⟨_, rfl⟩
  rw [← hb1] at hME
  obtain ⟨b2, hb2⟩ : ∃ b2, b2 = (b1 && (st != 2)) := ⟨_, rfl⟩
  replace hb1 := hide hb1
  obtain ⟨b3, hb3⟩ : ∃ b3, b3 = (st == 1) := ⟨_, rfl⟩
  obtain ⟨b4, hb4⟩ : ∃ b4, b4 = (st == 2) := ⟨_, rfl⟩
  rw [← hb2, ← hb3, ← hb4] at hME
  replace hb2 := hide hb2
  replace hb3 := hide hb3
  replace hb4 := hide hb4
  replace hME := hide hME
  have hPk := heap_alloc_new w (.cells (fT ⟨⟨id, cost, up, has, ⟨a0, a1, a2, a3⟩⟩, ed, ro, st, age, left, wait, ch, agr⟩).toArray 34)
  have hbA := below1 w (.cells (fT ⟨⟨id, cost, up, has, ⟨a0, a1, a2, a3⟩⟩, ed, ro, st, age, left, wait, ch, agr⟩).toArray 34)
  go_enter Try.func54, Try.ntmps54
  go_wp2_with fail
  have hSS : Hid (∀ W : World, Below (w.alloc (.cells (fT ⟨⟨id, cost, up, has, ⟨a0, a1, a2, a3⟩⟩, ed, ro, st, age, left, wait, ch, agr⟩).toArray 34)).heap.size (w.alloc (.cells (fT ⟨⟨id, cost, up, has, ⟨a0, a1, a2, a3⟩⟩, ed, ro, st, age, left, wait, ch, agr⟩).toArray 34)) W → W.cell? ⟨m.tb, 8, none⟩ = some (.slice (some ⟨m.vb, 0, none⟩) n n) ∧ W.cell? ⟨m.vb, i * 4, none⟩ = some (.int .u64 v0) ∧ W.cell? ⟨m.vb, i * 4 + 1, none⟩ = some (.int .u64 v1) ∧ W.cell? ⟨m.vb, i * 4 + 2, none⟩ = some (.int .u64 v2) ∧ W.cell? ⟨m.vb, i * 4 + 3, none⟩ = some (.int .i64 v3) ∧ W.cell? ⟨w.heap.size, 8, none⟩ = some (.bool ed) ∧ W.cell? ⟨w.heap.size, 9, none⟩ = some (.int .i64 ro) ∧ W.cell? ⟨w.heap.size, 10, none⟩ = some (.int .i64 st) ∧ W.cell? ⟨w.heap.size, 14, none⟩ = some (.int .i64 ch)) := fun W hW => by
    have hk := heap_kept hW hPk
    have hB := hbA.later hW
    exact ⟨(hB.cell (p := ⟨m.tb, 8, none⟩) hltb).trans t8, (hB.cell (p := ⟨m.vb, i * 4, none⟩) hlv).trans t0, (hB.cell (p := ⟨m.vb, i * 4 + 1, none⟩) hlv).trans t1, (hB.cell (p := ⟨m.vb, i * 4 + 2, none⟩) hlv).trans t2, (hB.cell (p := ⟨m.vb, i * 4 + 3, none⟩) hlv).trans t3, (cell_of_row _ _ _ _ _ _ hk).trans rfl, (cell_of_row _ _ _ _ _ _ hk).trans rfl, (cell_of_row _ _ _ _ _ _ hk).trans rfl, (cell_of_row _ _ _ _ _ _ hk).trans rfl⟩
  have hAg := hide (fun (W : World) (hW : Below (w.alloc (.cells (fT ⟨⟨id, cost, up, has, ⟨a0, a1, a2, a3⟩⟩, ed, ro, st, age, left, wait, ch, agr⟩).toArray 34)).heap.size (w.alloc (.cells (fT ⟨⟨id, cost, up, has, ⟨a0, a1, a2, a3⟩⟩, ed, ro, st, age, left, wait, ch, agr⟩).toArray 34)) W) => hAg0.out W (hbA.later hW))
  replace hbA := hide hbA
  generalize w.alloc (.cells (fT ⟨⟨id, cost, up, has, ⟨a0, a1, a2, a3⟩⟩, ed, ro, st, age, left, wait, ch, agr⟩).toArray 34) = w1 at *
  clear hAg0 hPk c0_ c1_ c2_ c3_ c4_ c5_ c6_ c7_ c8_ c9_ c10_ c11_ c12_ c13_ c14_ c15_
  refine (fun (key : (?T : Prop)) => ?main) ?kp
  case main =>
    refine wp_region_noPanic ?_
    refine wp_region_held_drew (S := fun W => W.cell? ⟨m.tb, 8, none⟩ = some (.slice (some ⟨m.vb, 0, none⟩) n n) ∧ W.cell? ⟨m.vb, i * 4, none⟩ = some (.int .u64 v0) ∧ W.cell? ⟨m.vb, i * 4 + 1, none⟩ = some (.int .u64 v1) ∧ W.cell? ⟨m.vb, i * 4 + 2, none⟩ = some (.int .u64 v2) ∧ W.cell? ⟨m.vb, i * 4 + 3, none⟩ = some (.int .i64 v3) ∧ W.cell? ⟨w.heap.size, 8, none⟩ = some (.bool ed) ∧ W.cell? ⟨w.heap.size, 9, none⟩ = some (.int .i64 ro) ∧ W.cell? ⟨w.heap.size, 10, none⟩ = some (.int .i64 st) ∧ W.cell? ⟨w.heap.size, 14, none⟩ = some (.int .i64 ch)) (by kernel_rfl) (hSS.out _ (below_drewN (Below.refl _ _) 1)) (fun hHeld => ?_)
    have hb : Below w1.heap.size w1 w1.drew := below_drewN (Below.refl _ _) 1
    refine wpAnyH_take (i := 0) (oi := { dst := some 15, op := Op.move (Operand.tmp 0), type := 35, pos := "tree.go:362", after := #[], guard := none }) (v := ?v1) rfl (by kernel_rfl) (by kernel_rfl) (by kernel_rfl) (fun _ _ _ h => h) (Or.inl ⟨by rfl, ?y1⟩) (by assumption) ?r1
    case y1 => (intro w hSw; (try dsimp only at hSw); (try (go_split_ands)); go_simp; try with_reducible rfl)
    try simp only [Act.put, List.setIfInBounds_toArray, List.set_cons_zero, List.set_cons_succ]
    refine wpAnyH_take (i := 1) (oi := { dst := some 16, op := Op.nilCheck (Operand.tmp 15), type := 0, pos := "tree.go:362", after := #[{ on := 0, ground := Ground.data }], guard := none }) (v := ?v2) rfl (by kernel_rfl) (by kernel_rfl) (by kernel_rfl) (fun _ _ _ h => h) (Or.inl ⟨by rfl, ?y2⟩) (by assumption) ?r2
    case y2 => (intro w hSw; (try dsimp only at hSw); (try (go_split_ands)); go_simp; try with_reducible rfl)
    try simp only [Act.put, List.setIfInBounds_toArray, List.set_cons_zero, List.set_cons_succ]
    refine wpAnyH_take (i := 2) (oi := { dst := some 17, op := Op.fieldAddr 67 (Operand.tmp 16) 2, type := 0, pos := "tree.go:362", after := #[{ on := 1, ground := Ground.data }], guard := none }) (v := ?v3) rfl (by kernel_rfl) (by kernel_rfl) (by kernel_rfl) (fun _ _ _ h => h) (Or.inl ⟨by rfl, ?y3⟩) (by assumption) ?r3
    case y3 => (intro w hSw; (try dsimp only at hSw); (try (go_split_ands)); go_simp; try with_reducible rfl)
    try simp only [Act.put, List.setIfInBounds_toArray, List.set_cons_zero, List.set_cons_succ]
    refine wpAnyH_take (i := 3) (oi := { dst := some 18, op := Op.fieldAddr 64 (Operand.tmp 17) 3, type := 0, pos := "tree.go:362", after := #[{ on := 2, ground := Ground.data }], guard := none }) (v := ?v4) rfl (by kernel_rfl) (by kernel_rfl) (by kernel_rfl) (fun _ _ _ h => h) (Or.inl ⟨by rfl, ?y4⟩) (by assumption) ?r4
    case y4 => (intro w hSw; (try dsimp only at hSw); (try (go_split_ands)); go_simp; try with_reducible rfl)
    try simp only [Act.put, List.setIfInBounds_toArray, List.set_cons_zero, List.set_cons_succ]
    refine wpAnyH_take (i := 4) (oi := { dst := some 19, op := Op.load 62 (Operand.tmp 18), type := 62, pos := "tree.go:362", after := #[{ on := 3, ground := Ground.data }], guard := none }) (v := ?v5) rfl (by kernel_rfl) (by kernel_rfl) (by kernel_rfl) (fun _ _ _ h => h) (Or.inl ⟨by rfl, ?y5⟩) (by assumption) ?r5
    case y5 => (intro w hSw; (try dsimp only at hSw); (try (go_split_ands)); go_simp; try with_reducible rfl)
    try simp only [Act.put, List.setIfInBounds_toArray, List.set_cons_zero, List.set_cons_succ]
    refine wpAnyH_take (i := 5) (oi := { dst := some 20, op := Op.move (Operand.tmp 1), type := 3, pos := "tree.go:362", after := #[], guard := none }) (v := ?v6) rfl (by kernel_rfl) (by kernel_rfl) (by kernel_rfl) (fun _ _ _ h => h) (Or.inl ⟨by rfl, ?y6⟩) (by assumption) ?r6
    case y6 => (intro w hSw; (try dsimp only at hSw); (try (go_split_ands)); go_simp; try with_reducible rfl)
    try simp only [Act.put, List.setIfInBounds_toArray, List.set_cons_zero, List.set_cons_succ]
    refine wpAnyH_take (i := 6) (oi := { dst := some 21, op := Op.indexAddr 62 (Operand.tmp 19) (Operand.tmp 20), type := 0, pos := "tree.go:362", after := #[{ on := 4, ground := Ground.data }, { on := 5, ground := Ground.data }], guard := none }) (v := ?v7) rfl (by kernel_rfl) (by kernel_rfl) (by kernel_rfl) (fun _ _ _ h => h) (Or.inl ⟨by rfl, ?y7⟩) (by assumption) ?r7
    case y7 => (intro w hSw; (try dsimp only at hSw); (try (go_split_ands)); go_simp; try with_reducible rfl)
    try simp only [Act.put, List.setIfInBounds_toArray, List.set_cons_zero, List.set_cons_succ]
    refine wpAnyH_take (i := 7) (oi := { dst := some 22, op := Op.load 30 (Operand.tmp 21), type := 30, pos := "tree.go:362", after := #[{ on := 6, ground := Ground.data }], guard := none }) (v := ?v8) rfl (by kernel_rfl) (by kernel_rfl) (by kernel_rfl) (fun _ _ _ h => h) (Or.inl ⟨by rfl, ?y8⟩) (by assumption) ?r8
    case y8 => (intro w hSw; (try dsimp only at hSw); (try (go_split_ands)); go_simp; try with_reducible rfl)
    try simp only [Act.put, List.setIfInBounds_toArray, List.set_cons_zero, List.set_cons_succ]
    refine wpAnyH_take (i := 8) (oi := { dst := some 23, op := Op.fieldAddr 34 (Operand.tmp 6) 7, type := 0, pos := "tree.go:362", after := #[], guard := none }) (v := ?v9) rfl (by kernel_rfl) (by kernel_rfl) (by kernel_rfl) (fun _ _ _ h => h) (Or.inl ⟨by rfl, ?y9⟩) (by assumption) ?r9
    case y9 => (intro w hSw; (try dsimp only at hSw); (try (go_split_ands)); go_simp; try with_reducible rfl)
    try simp only [Act.put, List.setIfInBounds_toArray, List.set_cons_zero, List.set_cons_succ]
    refine wpAnyH_take (i := 9) (oi := { dst := some 24, op := Op.load 3 (Operand.tmp 23), type := 3, pos := "tree.go:362", after := #[{ on := 8, ground := Ground.data }], guard := none }) (v := ?v10) rfl (by kernel_rfl) (by kernel_rfl) (by kernel_rfl) (fun _ _ _ h => h) (Or.inl ⟨by rfl, ?y10⟩) (by assumption) ?r10
    case y10 => (intro w hSw; (try dsimp only at hSw); (try (go_split_ands)); go_simp; try with_reducible rfl)
    try simp only [Act.put, List.setIfInBounds_toArray, List.set_cons_zero, List.set_cons_succ]
    refine wpAnyH_take (i := 10) (oi := { dst := some 25, op := Op.binOp BinOp.gtr 3 (Operand.tmp 24) (Operand.const (Value.int IntKind.i64 0)) 3, type := 4, pos := "tree.go:362", after := #[{ on := 9, ground := Ground.data }], guard := none }) (v := ?v11) rfl (by kernel_rfl) (by kernel_rfl) (by kernel_rfl) (fun _ _ _ h => h) (Or.inl ⟨by rfl, ?y11⟩) (by assumption) ?r11
    case y11 => (intro w hSw; (try dsimp only at hSw); (try (go_split_ands)); go_simp; try with_reducible rfl)
    try simp only [Act.put, List.setIfInBounds_toArray, List.set_cons_zero, List.set_cons_succ]
    refine wpAnyH_take (i := 11) (oi := { dst := some 26, op := Op.fieldAddr 34 (Operand.tmp 6) 2, type := 0, pos := "tree.go:362", after := #[], guard := none }) (v := ?v12) rfl (by kernel_rfl) (by kernel_rfl) (by kernel_rfl) (fun _ _ _ h => h) (Or.inl ⟨by rfl, ?y12⟩) (by assumption) ?r12
    case y12 => (intro w hSw; (try dsimp only at hSw); (try (go_split_ands)); go_simp; try with_reducible rfl)
    try simp only [Act.put, List.setIfInBounds_toArray, List.set_cons_zero, List.set_cons_succ]
    refine wpAnyH_take (i := 12) (oi := { dst := some 27, op := Op.load 3 (Operand.tmp 26), type := 3, pos := "tree.go:362", after := #[{ on := 11, ground := Ground.data }], guard := none }) (v := ?v13) rfl (by kernel_rfl) (by kernel_rfl) (by kernel_rfl) (fun _ _ _ h => h) (Or.inl ⟨by rfl, ?y13⟩) (by assumption) ?r13
    case y13 => (intro w hSw; (try dsimp only at hSw); (try (go_split_ands)); go_simp; try with_reducible rfl)
    try simp only [Act.put, List.setIfInBounds_toArray, List.set_cons_zero, List.set_cons_succ]
    refine wpAnyH_take (i := 13) (oi := { dst := some 28, op := Op.binOp BinOp.eql 3 (Operand.tmp 27) (Operand.const (Value.int IntKind.i64 2)) 3, type := 4, pos := "tree.go:362", after := #[{ on := 12, ground := Ground.data }], guard := none }) (v := ?v14) rfl (by kernel_rfl) (by kernel_rfl) (by kernel_rfl) (fun _ _ _ h => h) (Or.inl ⟨by rfl, ?y14⟩) (by assumption) ?r14
    case y14 => (intro w hSw; (try dsimp only at hSw); (try (go_split_ands)); go_simp; try with_reducible rfl)
    try simp only [Act.put, List.setIfInBounds_toArray, List.set_cons_zero, List.set_cons_succ]
    rw [← hb1.out]
    refine wpAnyH_take (i := 14) (oi := { dst := some 29, op := Op.move (Operand.tmp 28), type := 4, pos := "tree.go:362", after := #[{ on := 13, ground := Ground.data }], guard := none }) (v := ?v15) rfl (by kernel_rfl) (by kernel_rfl) (by kernel_rfl) (fun _ _ _ h => h) (Or.inl ⟨by rfl, ?y15⟩) (by assumption) ?r15
    case y15 => (intro w hSw; (try dsimp only at hSw); (try (go_split_ands)); go_simp; try with_reducible rfl)
    try simp only [Act.put, List.setIfInBounds_toArray, List.set_cons_zero, List.set_cons_succ]
    refine wpAnyH_take (i := 15) (oi := { dst := some 30, op := Op.fieldAddr 34 (Operand.tmp 6) 3, type := 0, pos := "tree.go:362", after := #[{ on := 14, ground := Ground.guard }], guard := some (14, true) }) (v := bif b1 then .pointer (some ⟨w.heap.size, 10, none⟩) else undef) rfl (by kernel_rfl) (by kernel_rfl) (by kernel_rfl) (fun _ _ _ h => h) (by cases b1; (exact Or.inr ⟨rfl, rfl⟩); (exact Or.inl ⟨rfl, fun W hSw => by (try dsimp only at hSw); go_split_ands; go_simp; try with_reducible rfl⟩)) (by assumption) ?_
    try simp only [Act.put, List.setIfInBounds_toArray, List.set_cons_zero, List.set_cons_succ]
    refine wpAnyH_take (i := 16) (oi := { dst := some 31, op := Op.load 3 (Operand.tmp 30), type := 3, pos := "tree.go:362", after := #[{ on := 15, ground := Ground.data }, { on := 14, ground := Ground.guard }], guard := some (14, true) }) (v := bif b1 then .int .i64 st else undef) rfl (by kernel_rfl) (by kernel_rfl) (by kernel_rfl) (fun _ _ _ h => h) (by cases b1; (exact Or.inr ⟨rfl, rfl⟩); (exact Or.inl ⟨rfl, fun W hSw => by (try dsimp only at hSw); go_split_ands; go_simp; try with_reducible rfl⟩)) (by assumption) ?_
    try simp only [Act.put, List.setIfInBounds_toArray, List.set_cons_zero, List.set_cons_succ]
    refine wpAnyH_take (i := 17) (oi := { dst := some 32, op := Op.binOp BinOp.neq 3 (Operand.tmp 31) (Operand.const (Value.int IntKind.i64 2)) 3, type := 4, pos := "tree.go:362", after := #[{ on := 16, ground := Ground.data }, { on := 14, ground := Ground.guard }], guard := some (14, true) }) (v := bif b1 then .bool (st != 2) else undef) rfl (by kernel_rfl) (by kernel_rfl) (by kernel_rfl) (fun _ _ _ h => h) (by cases b1; (exact Or.inr ⟨rfl, rfl⟩); (exact Or.inl ⟨rfl, fun W hSw => by (try dsimp only at hSw); go_split_ands; go_simp; try with_reducible rfl⟩)) (by assumption) ?_
    try simp only [Act.put, List.setIfInBounds_toArray, List.set_cons_zero, List.set_cons_succ]
    refine wpAnyH_take (i := 18) (oi := { dst := some 33, op := Op.pick (Operand.tmp 29) (Operand.tmp 32) (Operand.const (Value.bool false)), type := 4, pos := "tree.go:362", after := #[{ on := 14, ground := Ground.data }, { on := 17, ground := Ground.data }], guard := none }) (v := .bool b2) rfl (by kernel_rfl) (by kernel_rfl) (by kernel_rfl) (fun _ _ _ h => h) (Or.inl ⟨rfl, by intro W hSw; rw [hb2.out]; cases b1 <;> rfl⟩) (by assumption) ?_
    try simp only [Act.put, List.setIfInBounds_toArray, List.set_cons_zero, List.set_cons_succ]
    refine wpAnyH_take (i := 19) (oi := { dst := some 34, op := Op.move (Operand.tmp 33), type := 4, pos := "tree.go:362", after := #[{ on := 18, ground := Ground.data }, { on := 14, ground := Ground.chain }], guard := none }) (v := ?v16) rfl (by kernel_rfl) (by kernel_rfl) (by kernel_rfl) (fun _ _ _ h => h) (Or.inl ⟨by rfl, ?y16⟩) (by assumption) ?r16
    case y16 => (intro w hSw; (try dsimp only at hSw); (try (go_split_ands)); go_simp; try with_reducible rfl)
    try simp only [Act.put, List.setIfInBounds_toArray, List.set_cons_zero, List.set_cons_succ]
    refine wpAnyH_take (i := 20) (oi := { dst := some 35, op := Op.fieldAddr 34 (Operand.tmp 6) 1, type := 0, pos := "tree.go:362", after := #[{ on := 19, ground := Ground.guard }], guard := some (19, true) }) (v := bif b2 then .pointer (some ⟨w.heap.size, 8, none⟩) else undef) rfl (by kernel_rfl) (by kernel_rfl) (by kernel_rfl) (fun _ _ _ h => h) (by cases b2; (exact Or.inr ⟨rfl, rfl⟩); (exact Or.inl ⟨rfl, fun W hSw => by (try dsimp only at hSw); go_split_ands; go_simp; try with_reducible rfl⟩)) (by assumption) ?_
    try simp only [Act.put, List.setIfInBounds_toArray, List.set_cons_zero, List.set_cons_succ]
    refine wpAnyH_take (i := 21) (oi := { dst := some 36, op := Op.load 4 (Operand.tmp 35), type := 4, pos := "tree.go:362", after := #[{ on := 20, ground := Ground.data }, { on := 19, ground := Ground.guard }], guard := some (19, true) }) (v := bif b2 then .bool ed else undef) rfl (by kernel_rfl) (by kernel_rfl) (by kernel_rfl) (fun _ _ _ h => h) (by cases b2; (exact Or.inr ⟨rfl, rfl⟩); (exact Or.inl ⟨rfl, fun W hSw => by (try dsimp only at hSw); go_split_ands; go_simp; try with_reducible rfl⟩)) (by assumption) ?_
    try simp only [Act.put, List.setIfInBounds_toArray, List.set_cons_zero, List.set_cons_succ]
    refine wpAnyH_take (i := 22) (oi := { dst := some 37, op := Op.unOp UnOp.not 4 (Operand.tmp 36), type := 4, pos := "tree.go:362", after := #[{ on := 21, ground := Ground.data }, { on := 19, ground := Ground.guard }], guard := some (19, true) }) (v := bif b2 then .bool (!ed) else undef) rfl (by kernel_rfl) (by kernel_rfl) (by kernel_rfl) (fun _ _ _ h => h) (by cases b2; (exact Or.inr ⟨rfl, rfl⟩); (exact Or.inl ⟨rfl, fun W hSw => by (try dsimp only at hSw); go_split_ands; go_simp; try with_reducible rfl⟩)) (by assumption) ?_
    try simp only [Act.put, List.setIfInBounds_toArray, List.set_cons_zero, List.set_cons_succ]
    refine wpAnyH_take (i := 23) (oi := { dst := some 38, op := Op.pick (Operand.tmp 34) (Operand.tmp 37) (Operand.const (Value.bool false)), type := 4, pos := "tree.go:362", after := #[{ on := 19, ground := Ground.data }, { on := 22, ground := Ground.data }], guard := none }) (v := .bool (b2 && !ed)) rfl (by kernel_rfl) (by kernel_rfl) (by kernel_rfl) (fun _ _ _ h => h) (Or.inl ⟨rfl, by intro W hSw; cases b2 <;> rfl⟩) (by assumption) ?_
    try simp only [Act.put, List.setIfInBounds_toArray, List.set_cons_zero, List.set_cons_succ]
    refine wpAnyH_take (i := 24) (oi := { dst := some 39, op := Op.move (Operand.tmp 2), type := 4, pos := "tree.go:362", after := #[], guard := none }) (v := ?v17) rfl (by kernel_rfl) (by kernel_rfl) (by kernel_rfl) (fun _ _ _ h => h) (Or.inl ⟨by rfl, ?y17⟩) (by assumption) ?r17
    case y17 => (intro w hSw; (try dsimp only at hSw); (try (go_split_ands)); go_simp; try with_reducible rfl)
    try simp only [Act.put, List.setIfInBounds_toArray, List.set_cons_zero, List.set_cons_succ]
    refine wpAnyH_take (i := 25) (oi := { dst := some 40, op := Op.fieldAddr 34 (Operand.tmp 6) 3, type := 0, pos := "tree.go:362", after := #[], guard := none }) (v := ?v18) rfl (by kernel_rfl) (by kernel_rfl) (by kernel_rfl) (fun _ _ _ h => h) (Or.inl ⟨by rfl, ?y18⟩) (by assumption) ?r18
    case y18 => (intro w hSw; (try dsimp only at hSw); (try (go_split_ands)); go_simp; try with_reducible rfl)
    try simp only [Act.put, List.setIfInBounds_toArray, List.set_cons_zero, List.set_cons_succ]
    refine wpAnyH_take (i := 26) (oi := { dst := some 41, op := Op.load 3 (Operand.tmp 40), type := 3, pos := "tree.go:362", after := #[{ on := 25, ground := Ground.data }], guard := none }) (v := ?v19) rfl (by kernel_rfl) (by kernel_rfl) (by kernel_rfl) (fun _ _ _ h => h) (Or.inl ⟨by rfl, ?y19⟩) (by assumption) ?r19
    case y19 => (intro w hSw; (try dsimp only at hSw); (try (go_split_ands)); go_simp; try with_reducible rfl)
    try simp only [Act.put, List.setIfInBounds_toArray, List.set_cons_zero, List.set_cons_succ]
    refine wpAnyH_take (i := 27) (oi := { dst := some 42, op := Op.binOp BinOp.eql 3 (Operand.tmp 41) (Operand.const (Value.int IntKind.i64 1)) 3, type := 4, pos := "tree.go:362", after := #[{ on := 26, ground := Ground.data }], guard := none }) (v := ?v20) rfl (by kernel_rfl) (by kernel_rfl) (by kernel_rfl) (fun _ _ _ h => h) (Or.inl ⟨by rfl, ?y20⟩) (by assumption) ?r20
    case y20 => (intro w hSw; (try dsimp only at hSw); (try (go_split_ands)); go_simp; try with_reducible rfl)
    try simp only [Act.put, List.setIfInBounds_toArray, List.set_cons_zero, List.set_cons_succ]
    rw [← hb3.out]
    refine wpAnyH_take (i := 28) (oi := { dst := some 43, op := Op.move (Operand.tmp 42), type := 4, pos := "tree.go:362", after := #[{ on := 27, ground := Ground.data }, { on := 19, ground := Ground.chain }], guard := none }) (v := ?v21) rfl (by kernel_rfl) (by kernel_rfl) (by kernel_rfl) (fun _ _ _ h => h) (Or.inl ⟨by rfl, ?y21⟩) (by assumption) ?r21
    case y21 => (intro w hSw; (try dsimp only at hSw); (try (go_split_ands)); go_simp; try with_reducible rfl)
    try simp only [Act.put, List.setIfInBounds_toArray, List.set_cons_zero, List.set_cons_succ]
    refine wpAnyH_take (i := 29) (oi := { dst := some 44, op := Op.fieldAddr 34 (Operand.tmp 6) 3, type := 0, pos := "tree.go:362", after := #[{ on := 28, ground := Ground.guard }], guard := some (28, false) }) (v := bif b3 then undef else .pointer (some ⟨w.heap.size, 10, none⟩)) rfl (by kernel_rfl) (by kernel_rfl) (by kernel_rfl) (fun _ _ _ h => h) (by cases b3; (exact Or.inl ⟨rfl, fun W hSw => by (try dsimp only at hSw); go_split_ands; go_simp; try with_reducible rfl⟩); (exact Or.inr ⟨rfl, rfl⟩)) (by assumption) ?_
    try simp only [Act.put, List.setIfInBounds_toArray, List.set_cons_zero, List.set_cons_succ]
    refine wpAnyH_take (i := 30) (oi := { dst := some 45, op := Op.load 3 (Operand.tmp 44), type := 3, pos := "tree.go:362", after := #[{ on := 29, ground := Ground.data }, { on := 28, ground := Ground.guard }], guard := some (28, false) }) (v := bif b3 then undef else .int .i64 st) rfl (by kernel_rfl) (by kernel_rfl) (by kernel_rfl) (fun _ _ _ h => h) (by cases b3; (exact Or.inl ⟨rfl, fun W hSw => by (try dsimp only at hSw); go_split_ands; go_simp; try with_reducible rfl⟩); (exact Or.inr ⟨rfl, rfl⟩)) (by assumption) ?_
    try simp only [Act.put, List.setIfInBounds_toArray, List.set_cons_zero, List.set_cons_succ]
    refine wpAnyH_take (i := 31) (oi := { dst := some 46, op := Op.binOp BinOp.eql 3 (Operand.tmp 45) (Operand.const (Value.int IntKind.i64 2)) 3, type := 4, pos := "tree.go:362", after := #[{ on := 30, ground := Ground.data }, { on := 28, ground := Ground.guard }], guard := some (28, false) }) (v := bif b3 then undef else .bool b4) rfl (by kernel_rfl) (by kernel_rfl) (by kernel_rfl) (fun _ _ _ h => h) (by cases b3; (exact Or.inl ⟨rfl, fun W hSw => by (try dsimp only at hSw); go_split_ands; rw [hb4.out]; go_simp; try with_reducible rfl⟩); (exact Or.inr ⟨rfl, rfl⟩)) (by assumption) ?_
    try simp only [Act.put, List.setIfInBounds_toArray, List.set_cons_zero, List.set_cons_succ]
    refine wpAnyH_take (i := 32) (oi := { dst := some 47, op := Op.pick (Operand.tmp 43) (Operand.const (Value.bool true)) (Operand.tmp 46), type := 4, pos := "tree.go:362", after := #[{ on := 28, ground := Ground.data }, { on := 31, ground := Ground.data }], guard := none }) (v := .bool (b3 || b4)) rfl (by kernel_rfl) (by kernel_rfl) (by kernel_rfl) (fun _ _ _ h => h) (Or.inl ⟨rfl, by intro W hSw; cases b3 <;> rfl⟩) (by assumption) ?_
    try simp only [Act.put, List.setIfInBounds_toArray, List.set_cons_zero, List.set_cons_succ]
    refine wpAnyH_take (i := 33) (oi := { dst := some 48, op := Op.fieldAddr 34 (Operand.tmp 6) 3, type := 0, pos := "tree.go:362", after := #[], guard := none }) (v := ?v22) rfl (by kernel_rfl) (by kernel_rfl) (by kernel_rfl) (fun _ _ _ h => h) (Or.inl ⟨by rfl, ?y22⟩) (by assumption) ?r22
    case y22 => (intro w hSw; (try dsimp only at hSw); (try (go_split_ands)); go_simp; try with_reducible rfl)
    try simp only [Act.put, List.setIfInBounds_toArray, List.set_cons_zero, List.set_cons_succ]
    refine wpAnyH_take (i := 34) (oi := { dst := some 49, op := Op.load 3 (Operand.tmp 48), type := 3, pos := "tree.go:362", after := #[{ on := 33, ground := Ground.data }], guard := none }) (v := ?v23) rfl (by kernel_rfl) (by kernel_rfl) (by kernel_rfl) (fun _ _ _ h => h) (Or.inl ⟨by rfl, ?y23⟩) (by assumption) ?r23
    case y23 => (intro w hSw; (try dsimp only at hSw); (try (go_split_ands)); go_simp; try with_reducible rfl)
    try simp only [Act.put, List.setIfInBounds_toArray, List.set_cons_zero, List.set_cons_succ]
    refine wpAnyH_take (i := 35) (oi := { dst := some 50, op := Op.binOp BinOp.eql 3 (Operand.tmp 49) (Operand.const (Value.int IntKind.i64 2)) 3, type := 4, pos := "tree.go:362", after := #[{ on := 34, ground := Ground.data }], guard := none }) (v := ?v24) rfl (by kernel_rfl) (by kernel_rfl) (by kernel_rfl) (fun _ _ _ h => h) (Or.inl ⟨by rfl, ?y24⟩) (by assumption) ?r24
    case y24 => (intro w hSw; (try dsimp only at hSw); (try (go_split_ands)); go_simp; try with_reducible rfl)
    try simp only [Act.put, List.setIfInBounds_toArray, List.set_cons_zero, List.set_cons_succ]
    rw [← hb4.out]
    refine wpAnyH_take (i := 36) (oi := { dst := some 51, op := Op.fieldAddr 34 (Operand.tmp 6) 2, type := 0, pos := "tree.go:362", after := #[], guard := none }) (v := ?v25) rfl (by kernel_rfl) (by kernel_rfl) (by kernel_rfl) (fun _ _ _ h => h) (Or.inl ⟨by rfl, ?y25⟩) (by assumption) ?r25
    case y25 => (intro w hSw; (try dsimp only at hSw); (try (go_split_ands)); go_simp; try with_reducible rfl)
    try simp only [Act.put, List.setIfInBounds_toArray, List.set_cons_zero, List.set_cons_succ]
    refine wpAnyH_take (i := 37) (oi := { dst := some 52, op := Op.load 3 (Operand.tmp 51), type := 3, pos := "tree.go:362", after := #[{ on := 36, ground := Ground.data }], guard := none }) (v := ?v26) rfl (by kernel_rfl) (by kernel_rfl) (by kernel_rfl) (fun _ _ _ h => h) (Or.inl ⟨by rfl, ?y26⟩) (by assumption) ?r26
    case y26 => (intro w hSw; (try dsimp only at hSw); (try (go_split_ands)); go_simp; try with_reducible rfl)
    try simp only [Act.put, List.setIfInBounds_toArray, List.set_cons_zero, List.set_cons_succ]
    refine wpAnyH_take (i := 39) (oi := { dst := some 54, op := Op.move (Operand.tmp 0), type := 35, pos := "tree.go:362", after := #[], guard := none }) (v := ?v27) rfl (by kernel_rfl) (by kernel_rfl) (by kernel_rfl) (fun _ _ _ h => h) (Or.inl ⟨by rfl, ?y27⟩) (by assumption) ?r27
    case y27 => (intro w hSw; (try dsimp only at hSw); (try (go_split_ands)); go_simp; try with_reducible rfl)
    try simp only [Act.put, List.setIfInBounds_toArray, List.set_cons_zero, List.set_cons_succ]
    generalize w1.drew = z0 at *
    refine wpAnyH_ready (rs := [38, 42]) (by kernel_rfl) (by simp) ?_
    refine AllReadyH.cons (o := { dst := some 53, op := Op.call { callee := Callee.value (Operand.func 65), args := #[Operand.tmp 52], argTypes := #[3] }, type := 3, pos := "tree.go:370", after := #[{ on := 37, ground := Ground.data }, { on := 28, ground := Ground.chain }], guard := none }) rfl (fun K hK => ?_) (AllReadyH.cons (o := { dst := some 7, op := Op.alloc 40, type := 0, pos := "tree.go:362", after := #[], guard := none }) rfl (fun K hK => ?_) (AllReadyH.nil))
    ·
      go_simp
      refine (roleInMessage_any _ _).mono ?_
      rintro e z1 ⟨rfl, rfl⟩
      go_wp2_with fail
      refine hK.out _ _ ?_ (fun hHeld38 => ?_)
      · exact hSS.out _ hb
      clear hK K
      try simp only [Act.put, List.setIfInBounds_toArray, List.set_cons_zero, List.set_cons_succ]
      refine wpAnyH_ready (rs := [40, 42]) (by kernel_rfl) (by simp) ?_
      refine AllReadyH.cons (o := { dst := some 55, op := Op.call { callee := Callee.value (Operand.func 66), args := #[Operand.tmp 54], argTypes := #[35] }, type := 3, pos := "tree.go:371", after := #[{ on := 39, ground := Ground.data }, { on := 38, ground := Ground.chain }], guard := none }) rfl (fun K hK => ?_) (AllReadyH.cons (o := { dst := some 7, op := Op.alloc 40, type := 0, pos := "tree.go:362", after := #[], guard := none }) rfl (fun K hK => ?_) (AllReadyH.nil))
      ·
        go_simp
        refine (hAg.out _ hb).mono ?_
        rintro e z2 ⟨rfl, hbq⟩
        replace hb := hb.later hbq
        go_wp2_with fail
        refine hK.out _ _ ?_ (fun hHeld40 => ?_)
        · exact hSS.out _ hb
        clear hK K
        try simp only [Act.put, List.setIfInBounds_toArray, List.set_cons_zero, List.set_cons_succ]
        clear hbq
        refine wpAnyH_take (i := 41) (oi := { dst := some 56, op := Op.build 40 #[(0, Operand.const (Value.int IntKind.i64 1)), (1, Operand.tmp 22), (2, Operand.tmp 25), (4, Operand.tmp 38), (5, Operand.tmp 39), (6, Operand.tmp 47), (7, Operand.tmp 50), (8, Operand.tmp 53), (9, Operand.tmp 55), (10, Operand.const (Value.int IntKind.i64 5120)), (11, Operand.const (Value.int IntKind.i64 512)), (12, Operand.const (Value.int IntKind.i64 3840))], type := 40, pos := "tree.go:362", after := #[{ on := 7, ground := Ground.data }, { on := 10, ground := Ground.data }, { on := 23, ground := Ground.data }, { on := 24, ground := Ground.data }, { on := 32, ground := Ground.data }, { on := 35, ground := Ground.data }, { on := 38, ground := Ground.data }, { on := 40, ground := Ground.data }], guard := none }) (v := ?v28) rfl (by kernel_rfl) (by kernel_rfl) (by kernel_rfl) (fun _ _ _ h => h) (Or.inl ⟨by rfl, ?y28⟩) (by assumption) ?r28
        case y28 => (intro w hSw; (try dsimp only at hSw); (try (go_split_ands)); go_simp; try with_reducible rfl)
        try simp only [Act.put, List.setIfInBounds_toArray, List.set_cons_zero, List.set_cons_succ]
        refine wpAnyH_ready (rs := [42]) (by kernel_rfl) (by simp) ?_
        refine AllReadyH.cons (o := { dst := some 7, op := Op.alloc 40, type := 0, pos := "tree.go:362", after := #[], guard := none }) rfl (fun K hK => ?_) AllReadyH.nil
        refine step_alloc rfl 40 rfl _ (alloc_B _) ?_
        have hle : w1.heap.size ≤ z2.heap.size := hb.size
        have hN := heap_alloc_new z2 (.cells Bp.zero.row 40)
        replace hb := hb.later (below1 z2 (.cells Bp.zero.row 40))
        refine hK.out _ _ (hSS.out _ hb) (fun hHeld42 => ?_)
        clear hK K
        try simp only [Act.put, List.setIfInBounds_toArray, List.set_cons_zero, List.set_cons_succ]
        generalize z2.alloc (.cells Bp.zero.row 40) = z3 at *
        generalize z2.heap.size = g at *
        refine wpAnyH_ready (rs := [43]) (by kernel_rfl) (by simp) ?_
        refine AllReadyH.cons (o := { dst := none, op := Op.store 40 (Operand.tmp 7) (Operand.tmp 56), type := 0, pos := "tree.go:362", after := #[{ on := 42, ground := Ground.data }, { on := 41, ground := Ground.data }, { on := 40, ground := Ground.chain }, { on := 0, ground := Ground.phase }, { on := 1, ground := Ground.phase }, { on := 2, ground := Ground.phase }, { on := 3, ground := Ground.phase }, { on := 4, ground := Ground.phase }, { on := 5, ground := Ground.phase }, { on := 6, ground := Ground.phase }, { on := 7, ground := Ground.phase }, { on := 8, ground := Ground.phase }, { on := 9, ground := Ground.phase }, { on := 10, ground := Ground.phase }, { on := 11, ground := Ground.phase }, { on := 12, ground := Ground.phase }, { on := 13, ground := Ground.phase }, { on := 14, ground := Ground.phase }, { on := 15, ground := Ground.phase }, { on := 16, ground := Ground.phase }, { on := 17, ground := Ground.phase }, { on := 18, ground := Ground.phase }, { on := 19, ground := Ground.phase }, { on := 20, ground := Ground.phase }, { on := 21, ground := Ground.phase }, { on := 22, ground := Ground.phase }, { on := 23, ground := Ground.phase }, { on := 24, ground := Ground.phase }, { on := 25, ground := Ground.phase }, { on := 26, ground := Ground.phase }, { on := 27, ground := Ground.phase }, { on := 28, ground := Ground.phase }, { on := 29, ground := Ground.phase }, { on := 30, ground := Ground.phase }, { on := 31, ground := Ground.phase }, { on := 32, ground := Ground.phase }, { on := 33, ground := Ground.phase }, { on := 34, ground := Ground.phase }, { on := 35, ground := Ground.phase }, { on := 36, ground := Ground.phase }, { on := 37, ground := Ground.phase }, { on := 38, ground := Ground.phase }, { on := 39, ground := Ground.phase }, { on := 40, ground := Ground.phase }, { on := 41, ground := Ground.phase }, { on := 42, ground := Ground.phase }], guard := none }) rfl (fun K hK => ?_) AllReadyH.nil
        refine step_store_row rfl 40 (.tmp 7) (.tmp 56) rfl g (⟨1, v0, v1, v2, v3, decide (0 < ch), false, (b2 && !ed), ag, (b3 || b4), b4, msgRole ro, gAge, 5120, 512, 3840⟩ : Bp).row rfl rfl 40 _ hN (bpSize Bp.zero) rfl (Bp.row_all _) ?_
        have hN2 := setRow_heap z3 g _ (⟨1, v0, v1, v2, v3, decide (0 < ch), false, (b2 && !ed), ag, (b3 || b4), b4, msgRole ro, gAge, 5120, 512, 3840⟩ : Bp).row 40 _ hN
        replace hb := below_setRow hb hle (⟨1, v0, v1, v2, v3, decide (0 < ch), false, (b2 && !ed), ag, (b3 || b4), b4, msgRole ro, gAge, 5120, 512, 3840⟩ : Bp).row
        refine hK.out _ _ (hSS.out _ hb) (fun hHeld43 => ?_)
        clear hK K
        try simp only [Act.put]
        generalize z3.setRow g _ = wz at *
        refine wpAnyH_done (by kernel_rfl) ?_ _
        refine NoPanic.normal ?_
        clear hN hHeld43 hHeld42 hHeld40 hHeld38 hHeld
        revert hN2
        revert hb
        revert wz
        revert hle
        revert g
        exact key
      ·
        refine step_alloc rfl 40 rfl _ (alloc_B _) ?_
        have hle : w1.heap.size ≤ z1.heap.size := hb.size
        have hN := heap_alloc_new z1 (.cells Bp.zero.row 40)
        replace hb := hb.later (below1 z1 (.cells Bp.zero.row 40))
        refine hK.out _ _ (hSS.out _ hb) (fun hHeld42 => ?_)
        clear hK K
        try simp only [Act.put, List.setIfInBounds_toArray, List.set_cons_zero, List.set_cons_succ]
        generalize z1.alloc (.cells Bp.zero.row 40) = z2 at *
        generalize z1.heap.size = g at *
        refine wpAnyH_ready (rs := [40]) (by kernel_rfl) (by simp) ?_
        refine AllReadyH.cons (o := { dst := some 55, op := Op.call { callee := Callee.value (Operand.func 66), args := #[Operand.tmp 54], argTypes := #[35] }, type := 3, pos := "tree.go:371", after := #[{ on := 39, ground := Ground.data }, { on := 38, ground := Ground.chain }], guard := none }) rfl (fun K hK => ?_) AllReadyH.nil
        go_simp
        refine (hAg.out _ hb).mono ?_
        rintro e z3 ⟨rfl, hbq⟩
        replace hN := heap_kept hbq hN
        replace hb := hb.later hbq
        go_wp2_with fail
        refine hK.out _ _ ?_ (fun hHeld40 => ?_)
        · exact hSS.out _ hb
        clear hK K
        try simp only [Act.put, List.setIfInBounds_toArray, List.set_cons_zero, List.set_cons_succ]
        clear hbq
        refine wpAnyH_take (i := 41) (oi := { dst := some 56, op := Op.build 40 #[(0, Operand.const (Value.int IntKind.i64 1)), (1, Operand.tmp 22), (2, Operand.tmp 25), (4, Operand.tmp 38), (5, Operand.tmp 39), (6, Operand.tmp 47), (7, Operand.tmp 50), (8, Operand.tmp 53), (9, Operand.tmp 55), (10, Operand.const (Value.int IntKind.i64 5120)), (11, Operand.const (Value.int IntKind.i64 512)), (12, Operand.const (Value.int IntKind.i64 3840))], type := 40, pos := "tree.go:362", after := #[{ on := 7, ground := Ground.data }, { on := 10, ground := Ground.data }, { on := 23, ground := Ground.data }, { on := 24, ground := Ground.data }, { on := 32, ground := Ground.data }, { on := 35, ground := Ground.data }, { on := 38, ground := Ground.data }, { on := 40, ground := Ground.data }], guard := none }) (v := ?v29) rfl (by kernel_rfl) (by kernel_rfl) (by kernel_rfl) (fun _ _ _ h => h) (Or.inl ⟨by rfl, ?y29⟩) (by assumption) ?r29
        case y29 => (intro w hSw; (try dsimp only at hSw); (try (go_split_ands)); go_simp; try with_reducible rfl)
        try simp only [Act.put, List.setIfInBounds_toArray, List.set_cons_zero, List.set_cons_succ]
        refine wpAnyH_ready (rs := [43]) (by kernel_rfl) (by simp) ?_
        refine AllReadyH.cons (o := { dst := none, op := Op.store 40 (Operand.tmp 7) (Operand.tmp 56), type := 0, pos := "tree.go:362", after := #[{ on := 42, ground := Ground.data }, { on := 41, ground := Ground.data }, { on := 40, ground := Ground.chain }, { on := 0, ground := Ground.phase }, { on := 1, ground := Ground.phase }, { on := 2, ground := Ground.phase }, { on := 3, ground := Ground.phase }, { on := 4, ground := Ground.phase }, { on := 5, ground := Ground.phase }, { on := 6, ground := Ground.phase }, { on := 7, ground := Ground.phase }, { on := 8, ground := Ground.phase }, { on := 9, ground := Ground.phase }, { on := 10, ground := Ground.phase }, { on := 11, ground := Ground.phase }, { on := 12, ground := Ground.phase }, { on := 13, ground := Ground.phase }, { on := 14, ground := Ground.phase }, { on := 15, ground := Ground.phase }, { on := 16, ground := Ground.phase }, { on := 17, ground := Ground.phase }, { on := 18, ground := Ground.phase }, { on := 19, ground := Ground.phase }, { on := 20, ground := Ground.phase }, { on := 21, ground := Ground.phase }, { on := 22, ground := Ground.phase }, { on := 23, ground := Ground.phase }, { on := 24, ground := Ground.phase }, { on := 25, ground := Ground.phase }, { on := 26, ground := Ground.phase }, { on := 27, ground := Ground.phase }, { on := 28, ground := Ground.phase }, { on := 29, ground := Ground.phase }, { on := 30, ground := Ground.phase }, { on := 31, ground := Ground.phase }, { on := 32, ground := Ground.phase }, { on := 33, ground := Ground.phase }, { on := 34, ground := Ground.phase }, { on := 35, ground := Ground.phase }, { on := 36, ground := Ground.phase }, { on := 37, ground := Ground.phase }, { on := 38, ground := Ground.phase }, { on := 39, ground := Ground.phase }, { on := 40, ground := Ground.phase }, { on := 41, ground := Ground.phase }, { on := 42, ground := Ground.phase }], guard := none }) rfl (fun K hK => ?_) AllReadyH.nil
        refine step_store_row rfl 40 (.tmp 7) (.tmp 56) rfl g (⟨1, v0, v1, v2, v3, decide (0 < ch), false, (b2 && !ed), ag, (b3 || b4), b4, msgRole ro, gAge, 5120, 512, 3840⟩ : Bp).row rfl rfl 40 _ hN (bpSize Bp.zero) rfl (Bp.row_all _) ?_
        have hN2 := setRow_heap z3 g _ (⟨1, v0, v1, v2, v3, decide (0 < ch), false, (b2 && !ed), ag, (b3 || b4), b4, msgRole ro, gAge, 5120, 512, 3840⟩ : Bp).row 40 _ hN
        replace hb := below_setRow hb hle (⟨1, v0, v1, v2, v3, decide (0 < ch), false, (b2 && !ed), ag, (b3 || b4), b4, msgRole ro, gAge, 5120, 512, 3840⟩ : Bp).row
        refine hK.out _ _ (hSS.out _ hb) (fun hHeld43 => ?_)
        clear hK K
        try simp only [Act.put]
        generalize z3.setRow g _ = wz at *
        refine wpAnyH_done (by kernel_rfl) ?_ _
        refine NoPanic.normal ?_
        exact key g hle wz hb hN2
    ·
      refine step_alloc rfl 40 rfl _ (alloc_B _) ?_
      have hle : w1.heap.size ≤ z0.heap.size := hb.size
      have hN := heap_alloc_new z0 (.cells Bp.zero.row 40)
      replace hb := hb.later (below1 z0 (.cells Bp.zero.row 40))
      refine hK.out _ _ (hSS.out _ hb) (fun hHeld42 => ?_)
      clear hK K
      try simp only [Act.put, List.setIfInBounds_toArray, List.set_cons_zero, List.set_cons_succ]
      generalize z0.alloc (.cells Bp.zero.row 40) = z1 at *
      generalize z0.heap.size = g at *
      refine wpAnyH_ready (rs := [38]) (by kernel_rfl) (by simp) ?_
      refine AllReadyH.cons (o := { dst := some 53, op := Op.call { callee := Callee.value (Operand.func 65), args := #[Operand.tmp 52], argTypes := #[3] }, type := 3, pos := "tree.go:370", after := #[{ on := 37, ground := Ground.data }, { on := 28, ground := Ground.chain }], guard := none }) rfl (fun K hK => ?_) AllReadyH.nil
      go_simp
      refine (roleInMessage_any _ _).mono ?_
      rintro e z2 ⟨rfl, rfl⟩
      go_wp2_with fail
      refine hK.out _ _ ?_ (fun hHeld38 => ?_)
      · exact hSS.out _ hb
      clear hK K
      try simp only [Act.put, List.setIfInBounds_toArray, List.set_cons_zero, List.set_cons_succ]
      refine wpAnyH_ready (rs := [40]) (by kernel_rfl) (by simp) ?_
      refine AllReadyH.cons (o := { dst := some 55, op := Op.call { callee := Callee.value (Operand.func 66), args := #[Operand.tmp 54], argTypes := #[35] }, type := 3, pos := "tree.go:371", after := #[{ on := 39, ground := Ground.data }, { on := 38, ground := Ground.chain }], guard := none }) rfl (fun K hK => ?_) AllReadyH.nil
      go_simp
      refine (hAg.out _ hb).mono ?_
      rintro e z3 ⟨rfl, hbq⟩
      replace hN := heap_kept hbq hN
      replace hb := hb.later hbq
      go_wp2_with fail
      refine hK.out _ _ ?_ (fun hHeld40 => ?_)
      · exact hSS.out _ hb
      clear hK K
      try simp only [Act.put, List.setIfInBounds_toArray, List.set_cons_zero, List.set_cons_succ]
      clear hbq
      refine wpAnyH_take (i := 41) (oi := { dst := some 56, op := Op.build 40 #[(0, Operand.const (Value.int IntKind.i64 1)), (1, Operand.tmp 22), (2, Operand.tmp 25), (4, Operand.tmp 38), (5, Operand.tmp 39), (6, Operand.tmp 47), (7, Operand.tmp 50), (8, Operand.tmp 53), (9, Operand.tmp 55), (10, Operand.const (Value.int IntKind.i64 5120)), (11, Operand.const (Value.int IntKind.i64 512)), (12, Operand.const (Value.int IntKind.i64 3840))], type := 40, pos := "tree.go:362", after := #[{ on := 7, ground := Ground.data }, { on := 10, ground := Ground.data }, { on := 23, ground := Ground.data }, { on := 24, ground := Ground.data }, { on := 32, ground := Ground.data }, { on := 35, ground := Ground.data }, { on := 38, ground := Ground.data }, { on := 40, ground := Ground.data }], guard := none }) (v := ?v30) rfl (by kernel_rfl) (by kernel_rfl) (by kernel_rfl) (fun _ _ _ h => h) (Or.inl ⟨by rfl, ?y30⟩) (by assumption) ?r30
      case y30 => (intro w hSw; (try dsimp only at hSw); (try (go_split_ands)); go_simp; try with_reducible rfl)
      try simp only [Act.put, List.setIfInBounds_toArray, List.set_cons_zero, List.set_cons_succ]
      refine wpAnyH_ready (rs := [43]) (by kernel_rfl) (by simp) ?_
      refine AllReadyH.cons (o := { dst := none, op := Op.store 40 (Operand.tmp 7) (Operand.tmp 56), type := 0, pos := "tree.go:362", after := #[{ on := 42, ground := Ground.data }, { on := 41, ground := Ground.data }, { on := 40, ground := Ground.chain }, { on := 0, ground := Ground.phase }, { on := 1, ground := Ground.phase }, { on := 2, ground := Ground.phase }, { on := 3, ground := Ground.phase }, { on := 4, ground := Ground.phase }, { on := 5, ground := Ground.phase }, { on := 6, ground := Ground.phase }, { on := 7, ground := Ground.phase }, { on := 8, ground := Ground.phase }, { on := 9, ground := Ground.phase }, { on := 10, ground := Ground.phase }, { on := 11, ground := Ground.phase }, { on := 12, ground := Ground.phase }, { on := 13, ground := Ground.phase }, { on := 14, ground := Ground.phase }, { on := 15, ground := Ground.phase }, { on := 16, ground := Ground.phase }, { on := 17, ground := Ground.phase }, { on := 18, ground := Ground.phase }, { on := 19, ground := Ground.phase }, { on := 20, ground := Ground.phase }, { on := 21, ground := Ground.phase }, { on := 22, ground := Ground.phase }, { on := 23, ground := Ground.phase }, { on := 24, ground := Ground.phase }, { on := 25, ground := Ground.phase }, { on := 26, ground := Ground.phase }, { on := 27, ground := Ground.phase }, { on := 28, ground := Ground.phase }, { on := 29, ground := Ground.phase }, { on := 30, ground := Ground.phase }, { on := 31, ground := Ground.phase }, { on := 32, ground := Ground.phase }, { on := 33, ground := Ground.phase }, { on := 34, ground := Ground.phase }, { on := 35, ground := Ground.phase }, { on := 36, ground := Ground.phase }, { on := 37, ground := Ground.phase }, { on := 38, ground := Ground.phase }, { on := 39, ground := Ground.phase }, { on := 40, ground := Ground.phase }, { on := 41, ground := Ground.phase }, { on := 42, ground := Ground.phase }], guard := none }) rfl (fun K hK => ?_) AllReadyH.nil
      refine step_store_row rfl 40 (.tmp 7) (.tmp 56) rfl g (⟨1, v0, v1, v2, v3, decide (0 < ch), false, (b2 && !ed), ag, (b3 || b4), b4, msgRole ro, gAge, 5120, 512, 3840⟩ : Bp).row rfl rfl 40 _ hN (bpSize Bp.zero) rfl (Bp.row_all _) ?_
      have hN2 := setRow_heap z3 g _ (⟨1, v0, v1, v2, v3, decide (0 < ch), false, (b2 && !ed), ag, (b3 || b4), b4, msgRole ro, gAge, 5120, 512, 3840⟩ : Bp).row 40 _ hN
      replace hb := below_setRow hb hle (⟨1, v0, v1, v2, v3, decide (0 < ch), false, (b2 && !ed), ag, (b3 || b4), b4, msgRole ro, gAge, 5120, 512, 3840⟩ : Bp).row
      refine hK.out _ _ (hSS.out _ hb) (fun hHeld43 => ?_)
      clear hK K
      try simp only [Act.put]
      generalize z3.setRow g _ = wz at *
      refine wpAnyH_done (by kernel_rfl) ?_ _
      refine NoPanic.normal ?_
      exact key g hle wz hb hN2
  case kp =>
    intro g hle wz hb hN
    have hT1 := hide (h.out.below (hbA.out.later hb))
    have hbz := hide (hbA.out.later hb)
    have hgw : w.heap.size ≤ g := by have := hbA.out.size; omega
    clear hb hSS hAg hle hbA
    replace hN := hide hN
    go_wp2_with ((with_reducible change wpList _ _ _ _ _ _); refine wpList_load_row rfl 40 (.tmp 7) rfl g rfl 40 _ _ _ hN.out Try.underlying40 rfl (bpSize Bp.zero) ?_)
    refine (BCheck_any (⟨1, v0, v1, v2, v3, decide (0 < ch), false, (b2 && !ed), ag, (b3 || b4), b4, msgRole ro, gAge, 5120, 512, 3840⟩ : Bp) wz (by rw [← hME.out]; exact hw.out)).mono ?_
    rintro e w2 ⟨rfl, hb2⟩
    have hT2 := hide (hT1.out.below hb2)
    have hN2 := hide (heap_kept hb2 hN.out)
    have hb3 := hide (hbz.out.later hb2)
    clear hT1 hN hbz hb2
    rw [hME.out] at hTE
    by_cases hk : bcheckE (⟨1, v0, v1, v2, v3, decide (0 < ch), false, (b2 && !ed), ag, (b3 || b4), b4, msgRole ro, gAge, 5120, 512, 3840⟩ : Bp) = 0
    · rw [hk]
      rw [if_pos hk] at hTE
      replace hTE := hide hTE
      have c9 := hT2.out.cell 9
      simp only [treeRow, List.getElem?_cons_succ, List.getElem?_cons_zero] at c9
      have z9 := hT2.out.frozen 9
      obtain ⟨oa, oc, hov⟩ := hT2.out.outs.shape
      have hltb2 := hT2.out.ltb
      have hgl : g < w2.heap.size := (Array.getElem?_eq_some_iff.1 hN2.out).1
      clear hk
      go_wp2_with fail
      refine wp_region_noPanic ?_
      refine wp_region_held_drew (S := fun W => W.heap[g]? = some (.cells (⟨1, v0, v1, v2, v3, decide (0 < ch), false, (b2 && !ed), ag, (b3 || b4), b4, msgRole ro, gAge, 5120, 512, 3840⟩ : Bp).row 40 (0, 0))) (by kernel_rfl) hN2.out (fun hHeld => ?_)
      refine wpAnyH_take (i := 0) (oi := { dst := some 60, op := Op.move (Operand.tmp 0), type := 35, pos := "tree.go:377", after := #[], guard := none }) (v := ?v31) rfl (by kernel_rfl) (by kernel_rfl) (by kernel_rfl) (fun _ _ _ h => h) (Or.inl ⟨by rfl, ?y31⟩) (by assumption) ?r31
      case y31 => (intro w hSw; (try dsimp only at hSw); (try (go_split_ands)); go_simp; try with_reducible rfl)
      try simp only [Act.put, List.setIfInBounds_toArray, List.set_cons_zero, List.set_cons_succ]
      refine wpAnyH_take (i := 1) (oi := { dst := some 61, op := Op.move (Operand.tmp 0), type := 35, pos := "tree.go:377", after := #[], guard := none }) (v := ?v32) rfl (by kernel_rfl) (by kernel_rfl) (by kernel_rfl) (fun _ _ _ h => h) (Or.inl ⟨by rfl, ?y32⟩) (by assumption) ?r32
      case y32 => (intro w hSw; (try dsimp only at hSw); (try (go_split_ands)); go_simp; try with_reducible rfl)
      try simp only [Act.put, List.setIfInBounds_toArray, List.set_cons_zero, List.set_cons_succ]
      refine wpAnyH_take (i := 2) (oi := { dst := some 62, op := Op.nilCheck (Operand.tmp 61), type := 0, pos := "tree.go:377", after := #[{ on := 1, ground := Ground.data }], guard := none }) (v := ?v33) rfl (by kernel_rfl) (by kernel_rfl) (by kernel_rfl) (fun _ _ _ h => h) (Or.inl ⟨by rfl, ?y33⟩) (by assumption) ?r33
      case y33 => (intro w hSw; (try dsimp only at hSw); (try (go_split_ands)); go_simp; try with_reducible rfl)
      try simp only [Act.put, List.setIfInBounds_toArray, List.set_cons_zero, List.set_cons_succ]
      refine wpAnyH_take (i := 3) (oi := { dst := some 63, op := Op.fieldAddr 67 (Operand.tmp 62) 3, type := 0, pos := "tree.go:377", after := #[{ on := 2, ground := Ground.data }], guard := none }) (v := ?v34) rfl (by kernel_rfl) (by kernel_rfl) (by kernel_rfl) (fun _ _ _ h => h) (Or.inl ⟨by rfl, ?y34⟩) (by assumption) ?r34
      case y34 => (intro w hSw; (try dsimp only at hSw); (try (go_split_ands)); go_simp; try with_reducible rfl)
      try simp only [Act.put, List.setIfInBounds_toArray, List.set_cons_zero, List.set_cons_succ]
      refine wpAnyH_take (i := 5) (oi := { dst := some 65, op := Op.move (Operand.tmp 1), type := 3, pos := "tree.go:377", after := #[], guard := none }) (v := ?v35) rfl (by kernel_rfl) (by kernel_rfl) (by kernel_rfl) (fun _ _ _ h => h) (Or.inl ⟨by rfl, ?y35⟩) (by assumption) ?r35
      case y35 => (intro w hSw; (try dsimp only at hSw); (try (go_split_ands)); go_simp; try with_reducible rfl)
      try simp only [Act.put, List.setIfInBounds_toArray, List.set_cons_zero, List.set_cons_succ]
      refine wpAnyH_take (i := 6) (oi := { dst := some 66, op := Op.load 40 (Operand.tmp 7), type := 40, pos := "tree.go:377", after := #[], guard := none }) (v := _) rfl (by kernel_rfl) (by kernel_rfl) (by kernel_rfl) (fun _ _ _ h => h) (yieldsIf_load_row rfl 40 (.tmp 7) rfl g rfl 40 _ _ _ (fun W hW => hW) Try.underlying40 rfl (bpSize Bp.zero)) (by assumption) ?_
      try simp only [Act.put, List.setIfInBounds_toArray, List.set_cons_zero, List.set_cons_succ]
      refine wpAnyH_take (i := 7) (oi := { dst := some 67, op := Op.build 77 #[(0, Operand.tmp 65), (1, Operand.tmp 66)], type := 77, pos := "tree.go:377", after := #[{ on := 5, ground := Ground.data }, { on := 6, ground := Ground.data }], guard := none }) (v := ?v36) rfl (by kernel_rfl) (by kernel_rfl) (by kernel_rfl) (fun _ _ _ h => h) (Or.inl ⟨by rfl, ?y36⟩) (by assumption) ?r36
      case y36 => (intro w hSw; (try dsimp only at hSw); (try (go_split_ands)); go_simp; try with_reducible rfl)
      try simp only [Act.put, List.setIfInBounds_toArray, List.set_cons_zero, List.set_cons_succ]
      refine (fun (key2 : (?T2 : Prop)) => ?main2) ?kp2
      case main2 =>
        have hb8 : Below w2.heap.size w2 (w2.alloc (.cells (fO ⟨i, (⟨1, v0, v1, v2, v3, decide (0 < ch), false, (b2 && !ed), ag, (b3 || b4), b4, msgRole ro, gAge, 5120, 512, 3840⟩ : Bp)⟩).toArray 77)).drew := below_drewN (below1 w2 _) 1
        have hr8 : (w2.alloc (.cells (fO ⟨i, (⟨1, v0, v1, v2, v3, decide (0 < ch), false, (b2 && !ed), ag, (b3 || b4), b4, msgRole ro, gAge, 5120, 512, 3840⟩ : Bp)⟩).toArray 77)).drew.heap[w2.heap.size]? = some (.cells (fO ⟨i, (⟨1, v0, v1, v2, v3, decide (0 < ch), false, (b2 && !ed), ag, (b3 || b4), b4, msgRole ro, gAge, 5120, 512, 3840⟩ : Bp)⟩).toArray 77) := heap_alloc_new w2 _
        refine wpAnyH_ready (rs := [4, 8]) (by kernel_rfl) (by simp) ?_
        refine AllReadyH.cons (o := { dst := some 64, op := Op.load 59 (Operand.tmp 63), type := 59, pos := "tree.go:377", after := #[{ on := 3, ground := Ground.data }], guard := none }) rfl (fun K hK => ?_) (AllReadyH.cons (o := { dst := some 68, op := Op.buildSlice 59 1 #[(0, Operand.tmp 67)], type := 59, pos := "tree.go:377", after := #[{ on := 7, ground := Ground.data }], guard := none }) rfl (fun K hK => ?_) AllReadyH.nil)
        · go_simp
          refine hK.out _ _ hN2.out (fun hHeld4 => ?_)
          clear hK K
          try simp only [Act.put, List.setIfInBounds_toArray, List.set_cons_zero, List.set_cons_succ]
          refine wpAnyH_ready (rs := [8]) (by kernel_rfl) (by simp) ?_
          refine AllReadyH.cons (o := { dst := some 68, op := Op.buildSlice 59 1 #[(0, Operand.tmp 67)], type := 59, pos := "tree.go:377", after := #[{ on := 7, ground := Ground.data }], guard := none }) rfl (fun K hK => ?_) AllReadyH.nil
          go_simp
          refine hK.out _ _ (heap_kept hb8 hN2.out) (fun hHeld8 => ?_)
          clear hK K
          try simp only [Act.put, List.setIfInBounds_toArray, List.set_cons_zero, List.set_cons_succ]
          clear hHeld8 hHeld4
          revert hr8
          revert hb8
          generalize (w2.alloc (.cells (fO ⟨i, (⟨1, v0, v1, v2, v3, decide (0 < ch), false, (b2 && !ed), ag, (b3 || b4), b4, msgRole ro, gAge, 5120, 512, 3840⟩ : Bp)⟩).toArray 77)).drew = w8
          revert w8
          exact key2
        · go_simp
          refine hK.out _ _ (heap_kept hb8 hN2.out) (fun hHeld8 => ?_)
          clear hK K
          try simp only [Act.put, List.setIfInBounds_toArray, List.set_cons_zero, List.set_cons_succ]
          have d9 : (w2.alloc (.cells (fO ⟨i, (⟨1, v0, v1, v2, v3, decide (0 < ch), false, (b2 && !ed), ag, (b3 || b4), b4, msgRole ro, gAge, 5120, 512, 3840⟩ : Bp)⟩).toArray 77)).drew.cell? ⟨m.tb, 9, none⟩ = some m.ov := (hb8.cell (p := ⟨m.tb, 9, none⟩) hltb2).trans c9
          refine wpAnyH_ready (rs := [4]) (by kernel_rfl) (by simp) ?_
          refine AllReadyH.cons (o := { dst := some 64, op := Op.load 59 (Operand.tmp 63), type := 59, pos := "tree.go:377", after := #[{ on := 3, ground := Ground.data }], guard := none }) rfl (fun K hK => ?_) AllReadyH.nil
          go_simp
          refine hK.out _ _ (heap_kept hb8 hN2.out) (fun hHeld4 => ?_)
          clear hK K
          try simp only [Act.put, List.setIfInBounds_toArray, List.set_cons_zero, List.set_cons_succ]
          exact key2 _ hb8 hr8
      case kp2 =>
        intro w8 hb8 hr8
        have hS8 := hide (hT2.out.outs.below hb8)
        have hgo : Hid (m.ov.ownBlock ≠ some g) := fun e => by have := h.out.outs.lt e; omega
        have htb9 : Hid (m.ov.ownBlock ≠ some m.tb) := hT2.out.a2
        refine wpAnyH_ready (rs := [9]) (by kernel_rfl) (by simp) ?_
        refine AllReadyH.cons (o := { dst := some 69, op := Op.call { callee := Callee.builtin Builtin.append, args := #[Operand.tmp 64, Operand.tmp 68], argTypes := #[59, 59] }, type := 59, pos := "tree.go:377", after := #[{ on := 4, ground := Ground.data }, { on := 8, ground := Ground.data }], guard := none }) rfl (fun K hK => ?_) AllReadyH.nil
        refine step_append_sl rfl (.tmp 64) (.tmp 68) rfl wide_O sty_O m.ov T.outs hov.symm hS8.out ⟨w2.heap.size, 0, none⟩ 1 1 [⟨i, (⟨1, v0, v1, v2, v3, decide (0 < ch), false, (b2 && !ed), ag, (b3 || b4), b4, msgRole ro, gAge, 5120, 512, 3840⟩ : Bp)⟩] rfl rfl (fun j u hj => ?_) (by simp; omega) (by omega) ?_
        · rw [Addr.add_lit, cell_of_row _ _ _ _ _ _ hr8, ← hj]
          simp [flat]
        intro v' w9 hS9 hg9 ho9
        have hblk : ∀ k, k < w2.heap.size → m.ov.ownBlock ≠ some k → w9.heap[k]? = w2.heap[k]? := fun k hk hn => (hg9.block k (by have := hb8.size; omega) (fun e => hn e.symm)).trans (hb8.block k hk)
        have hN9 := (hblk g hgl hgo.out).trans hN2.out
        refine hK.out _ _ hN9 (fun hHeld9 => ?_)
        clear hK K
        try simp only [Act.put, List.setIfInBounds_toArray, List.set_cons_zero, List.set_cons_succ]
        refine wpAnyH_take (i := 10) (oi := { dst := some 70, op := Op.nilCheck (Operand.tmp 60), type := 0, pos := "tree.go:377", after := #[{ on := 0, ground := Ground.data }, { on := 0, ground := Ground.phase }, { on := 1, ground := Ground.phase }, { on := 2, ground := Ground.phase }, { on := 3, ground := Ground.phase }, { on := 4, ground := Ground.phase }, { on := 5, ground := Ground.phase }, { on := 6, ground := Ground.phase }, { on := 7, ground := Ground.phase }, { on := 8, ground := Ground.phase }, { on := 9, ground := Ground.phase }], guard := none }) (v := ?v37) rfl (by kernel_rfl) (by kernel_rfl) (by kernel_rfl) (fun _ _ _ h => h) (Or.inl ⟨by rfl, ?y37⟩) (by assumption) ?r37
        case y37 => (intro w hSw; (try dsimp only at hSw); (try (go_split_ands)); go_simp; try with_reducible rfl)
        try simp only [Act.put, List.setIfInBounds_toArray, List.set_cons_zero, List.set_cons_succ]
        refine wpAnyH_take (i := 11) (oi := { dst := some 71, op := Op.fieldAddr 67 (Operand.tmp 70) 3, type := 0, pos := "tree.go:377", after := #[{ on := 10, ground := Ground.data }, { on := 0, ground := Ground.phase }, { on := 1, ground := Ground.phase }, { on := 2, ground := Ground.phase }, { on := 3, ground := Ground.phase }, { on := 4, ground := Ground.phase }, { on := 5, ground := Ground.phase }, { on := 6, ground := Ground.phase }, { on := 7, ground := Ground.phase }, { on := 8, ground := Ground.phase }, { on := 9, ground := Ground.phase }], guard := none }) (v := ?v38) rfl (by kernel_rfl) (by kernel_rfl) (by kernel_rfl) (fun _ _ _ h => h) (Or.inl ⟨by rfl, ?y38⟩) (by assumption) ?r38
        case y38 => (intro w hSw; (try dsimp only at hSw); (try (go_split_ands)); go_simp; try with_reducible rfl)
        try simp only [Act.put, List.setIfInBounds_toArray, List.set_cons_zero, List.set_cons_succ]
        have d9 : w9.cell? ⟨m.tb, 9, none⟩ = some m.ov := (World.cell?_of_block (a := ⟨m.tb, 9, none⟩) (hblk m.tb hltb2 htb9.out)).trans c9
        have y9 : w9.frozen? ⟨m.tb, 9, none⟩ = false := (World.frozen?_of_block (a := ⟨m.tb, 9, none⟩) (hblk m.tb hltb2 htb9.out)).trans z9
        have hM := hide (hT2.out.more hb8 v' (T.outs ++ [⟨i, (⟨1, v0, v1, v2, v3, decide (0 < ch), false, (b2 && !ed), ag, (b3 || b4), b4, msgRole ro, gAge, 5120, 512, 3840⟩ : Bp)⟩]) hS9 hg9 ho9)
        obtain ⟨va, vc, rfl⟩ := hS9.shape
        generalize hLL : (T.outs ++ [(⟨i, (⟨1, v0, v1, v2, v3, decide (0 < ch), false, (b2 && !ed), ag, (b3 || b4), b4, msgRole ro, gAge, 5120, 512, 3840⟩ : Bp)⟩ : Ot)]).length = LL at *
        replace hLL := hide hLL
        refine wpAnyH_ready (rs := [12]) (by kernel_rfl) (by simp) ?_
        refine AllReadyH.cons (o := { dst := none, op := Op.store 59 (Operand.tmp 71) (Operand.tmp 69), type := 0, pos := "tree.go:377", after := #[{ on := 11, ground := Ground.data }, { on := 9, ground := Ground.data }, { on := 9, ground := Ground.chain }, { on := 0, ground := Ground.phase }, { on := 1, ground := Ground.phase }, { on := 2, ground := Ground.phase }, { on := 3, ground := Ground.phase }, { on := 4, ground := Ground.phase }, { on := 5, ground := Ground.phase }, { on := 6, ground := Ground.phase }, { on := 7, ground := Ground.phase }, { on := 8, ground := Ground.phase }, { on := 9, ground := Ground.phase }], guard := none }) rfl (fun K hK => ?_) AllReadyH.nil
        go_simp
        have hgtb : g ≠ m.tb := by have := h.out.ltb; omega
        refine hK.out _ _ ((heap_setCell_other w9 ⟨m.tb, 9, none⟩ g _ hgtb).trans hN9) (fun hHeld12 => ?_)
        clear hK K
        try simp only [Act.put]
        refine wpAnyH_done (by kernel_rfl) ?_ _
        refine NoPanic.normal ?_
        clear hHeld12 hHeld9 hN9 hblk d9 y9 hg9 ho9 hS9 hS8 hN2 hr8 hb8 c9 z9
        go_wp2
        refine v_end rfl rfl ⟨rfl, _, ?_, (Goes.of_below hb3.out).trans hM.out.2⟩
        rw [hTE.out]
        exact hM.out.1
    · have hkq : (bcheckE (⟨1, v0, v1, v2, v3, decide (0 < ch), false, (b2 && !ed), ag, (b3 || b4), b4, msgRole ro, gAge, 5120, 512, 3840⟩ : Bp) == 0) = false := by rw [beq_eq_false_iff_ne]; exact hk
      rw [if_neg hk] at hTE
      replace hTE := hide hTE
      generalize bcheckE (⟨1, v0, v1, v2, v3, decide (0 < ch), false, (b2 && !ed), ag, (b3 || b4), b4, msgRole ro, gAge, 5120, 512, 3840⟩ : Bp) = EE at *
      clear hN2
      go_wp2
      exact v_end rfl rfl ⟨rfl, m, by rw [hTE.out]; exact hT2.out, Goes.of_below hb3.out⟩

end Go.Proofs.Ytoejoneecanbbaa
