
/-
  The walk of RelayDress. Condition: the table lies as the program's text lays it ('Tab').
-/
import Derived.Test.YtiahiakllpjliaaDoorDr1
import Derived.Test.YtiahiakllpjliaaDoorCame
namespace Go.Proofs.YtiahiakllpjliaaDoor
open Go.RowKit Go.Maps
set_option linter.unusedVariables false
set_option linter.unusedSimpArgs false
set_option maxRecDepth 20000

theorem dr_set {vid plain : Int} (h1 : 1 ≤ vid) (h2 : vid ≤ 4094) (h3 : 0 ≤ plain) (h4 : plain ≤ 15) : setB 4 vid 15 plain = true := by
  obtain ⟨n, rfl⟩ := Int.eq_ofNat_of_zero_le h3
  have hn : n < 16 := by omega
  have e1 := (show ∀ n : Nat, n < 16 → (bits .andNot .i64 (n : Int) 15 == 0) = true by decide +kernel) n hn
  have e2 : (bits .andNot .i64 15 (allN 4) == 0) = true := by decide +kernel
  unfold setB
  rw [e2, e1]
  simp [vidB, h1, h2]
theorem dr_some (v : Int) : (newF 4 v).isSome = true ∨ newC 4 < 64 := .inr (by decide)
theorem dr_plain {vid plain port : Int} (h1 : 0 ≤ port) (h2 : port ≤ 3) : plainB (List.replicate 4 pvOne) (updK (newF 4) vid (some (15, plain))) vid port = bitAt plain port := by
  have e1 : memN (updK (newF 4) vid (some (15, plain))) vid = 15 := by simp [memN, updK]
  have e2 : plnN (updK (newF 4) vid (some (15, plain))) vid = plain := by simp [plnN, updK]
  unfold plainB
  rw [e1, e2]
  rcases (show port = 0 ∨ port = 1 ∨ port = 2 ∨ port = 3 by omega) with rfl | rfl | rfl | rfl
  · rw [show (hasP (List.replicate 4 pvOne).length 0 && bitAt 15 0) = true by decide +kernel, Bool.true_and]
  · rw [show (hasP (List.replicate 4 pvOne).length 1 && bitAt 15 1) = true by decide +kernel, Bool.true_and]
  · rw [show (hasP (List.replicate 4 pvOne).length 2 && bitAt 15 2) = true by decide +kernel, Bool.true_and]
  · rw [show (hasP (List.replicate 4 pvOne).length 3 && bitAt 15 3) = true by decide +kernel, Bool.true_and]
theorem yieldsIf_sliceD {P : Program} {ops : Array Oper} {S : World → Prop} {o : Oper} {a : Act} (hw : Region.wanted o (yielded ops a.tmps) = true) (t : TypeId) (x : Operand) (lo hi : Option Operand) (ho : o.op = .slice t x lo hi none) (vx v : Value) (vl vh : Option Value)
    (hx : a.eval x = vx) (hl : lo.map a.eval = vl) (hh : hi.map a.eval = vh) (hr : ∀ W, S W → (Instr.sliceAt t vx vl vh none).run P W = .ok v W) : YieldsIf P ops S o v a :=
  .inl ⟨hw, fun W hW => by
    unfold execOp
    have hx' : Act.eval { tmps := a.tmps, defers := a.defers } x = vx := hx
    have hl' : lo.map (Act.eval { tmps := a.tmps, defers := a.defers }) = vl := hl
    have hh' : hi.map (Act.eval { tmps := a.tmps, defers := a.defers }) = vh := hh
    simp only [ho, hx', hl', hh', Option.map_none, Sem.run_bind, Sem.run_pure, hr W hW, Result.andThen_ok]⟩
theorem yieldsIf_conv {P : Program} {ops : Array Oper} {S : World → Prop} {o : Oper} {a : Act} (hw : Region.wanted o (yielded ops a.tmps) = true) (t u : TypeId) (x : Operand) (ho : o.op = .convert t u x) (vx v : Value)
    (hx : a.eval x = vx) (hr : ∀ W, S W → (convert t u vx).run P W = .ok v W) : YieldsIf P ops S o v a :=
  .inl ⟨hw, fun W hW => by
    unfold execOp
    have hx' : Act.eval { tmps := a.tmps, defers := a.defers } x = vx := hx
    simp only [ho, hx', Sem.run_bind, Sem.run_pure, hr W hW, Result.andThen_ok]⟩
set_option maxHeartbeats 16000000 in
theorem Dr_walk (h : Hd) (v : Value) (l : List Int) (vid pcp port plain : Int) (w : World) (hT : Tab w) (hW : h.wf) (hv : Bs w v l) :
    Calls Tryd.prog 3 #[.agg h.row, v, .agg #[.int .i64 vid, .int .i64 pcp, .int .i64 port, .int .i64 plain]] w fun r w' => r = .returned (.bool true) ∧ Below w.heap.size w w' := by
  have hs0 : 0 ≤ h.s0 ∧ h.s0 ≤ 255 := hW.bytes.2 h.s0 (by simp [Hd.src])
  have hC := hide (fun w => Check_any h l.length w hs0)
  have hb0 : Hid (Below w.heap.size w ((w.alloc (.cells h.row 25)).alloc (.cells #[.int .i64 vid, .int .i64 pcp, .int .i64 port, .int .i64 plain] 27))) := (below1 w _).later (below1 _ _)
  have hr0 := hide (heap_kept (below1 (w.alloc (.cells h.row 25)) (.cells #[.int .i64 vid, .int .i64 pcp, .int .i64 port, .int .i64 plain] 27)) (heap_alloc_new w (.cells h.row 25)))
  have hf0 := hide (heap_alloc_new (w.alloc (.cells h.row 25)) (.cells #[.int .i64 vid, .int .i64 pcp, .int .i64 port, .int .i64 plain] 27))
  simp only [World.size_alloc] at hf0
  have hk := hide (fun w => ways_any w)
  have HT := hide hT
  have HV := hide hv
  have HW := hide hW
  obtain ⟨va, vc, hve⟩ : ∃ va vc, v = .slice va l.length vc := by obtain ⟨_, a', c', e, _⟩ := hv; exact ⟨a', c', e⟩
  subst hve
  clear hT hv hW hs0
  go_enter Tryd.func3, Tryd.ntmps3
  go_wp2_with fail
  refine (hk.out _).mono ?_
  rintro _ w1 ⟨rfl, hb1⟩
  have hw1 := hide (hb0.out.later hb1)
  have hr1 := hide (heap_kept hb1 hr0.out)
  have hf1 := hide (heap_kept hb1 hf0.out)
  clear hk hb0 hr0 hf0 hb1
  by_cases hl : 1600 < l.length
  · have hd6 : decide ((1600 : Int) < (l.length : Int)) = true := by simp; omega
    clear hC
    go_wp2
    go_ret
    exact ⟨rfl, hw1.out⟩
  have hd6 : decide ((1600 : Int) < (l.length : Int)) = false := by simp; omega
  go_wp2_with ((with_reducible change wpList _ _ _ _ _ _); refine wpList_load_row_on rfl 25 (.tmp 3) rfl w.heap.size rfl 25 _ _ _ hr1.out Tryd.underlying25 rfl (hdSize _) ?_)
  refine (hC.out _).mono ?_
  rintro _ w2 ⟨rfl, hb2⟩
  have hw2 := hide (hw1.out.later hb2)
  have hr2 := hide (heap_kept hb2 hr1.out)
  have hf2 := hide (heap_kept hb2 hf1.out)
  clear hC hw1 hr1 hf1 hb2
  by_cases hE : checkE h l.length = 0
  rotate_left
  · have hne : (checkE h l.length != 0) = true := by simpa using hE
    generalize checkE h l.length = E at *
    go_wp2
    go_ret
    exact ⟨rfl, hw2.out⟩
  have hodd := hide (check_odd hE)
  rw [hE]
  replace hE := hide hE
  have c16 : w2.cell? ⟨w.heap.size, 16, none⟩ = some (.int .i64 h.typ) := (cell_of_row _ _ _ _ _ _ hr2.out).trans rfl
  by_cases hty : h.typ = 33024
  · have hty' : (h.typ == 33024) = true := by rw [hty]; rfl
    go_wp2
    go_ret
    exact ⟨rfl, hw2.out⟩
  have hty' : (h.typ == 33024) = false := beq_eq_false_iff_ne.2 hty
  replace hty := hide hty
  go_wp2_with fail
  clear c16 hd6 hty'
  refine wp_region_noPanic ?_
  refine wp_region_held_drew (S := fun W => Below w2.heap.size w2 W) (by kernel_rfl) (below_drewV (Below.refl _ _)) (fun hHeld => ?_)
  refine wpAnyH_take (i := 0) (oi := { dst := some 36, op := Op.indexAddr 27 (Operand.tmp 5) (Operand.const (Value.int IntKind.i64 0)), type := 0, pos := "law.go:171", after := #[], guard := none }) (v := ?v1) rfl (by kernel_rfl) (by kernel_rfl) (by kernel_rfl) (fun _ _ _ h => h) (Or.inl ⟨by rfl, ?y1⟩) (by assumption) ?r1
  case y1 => (intro w hSw; (try dsimp only at hSw); (try (go_split_ands)); go_simp; try with_reducible rfl)
  try simp only [Act.put, List.setIfInBounds_toArray, List.set_cons_zero, List.set_cons_succ]
  refine wpAnyH_take (i := 1) (oi := { dst := some 37, op := Op.load 3 (Operand.tmp 36), type := 3, pos := "law.go:171", after := #[{ on := 0, ground := Ground.data }], guard := none }) (v := (.int .i64 vid)) rfl (by kernel_rfl) (by kernel_rfl) (by kernel_rfl) (fun _ _ _ h => h) (.inl ⟨by rfl, fun W hW => by have hca : W.cell? ⟨w.heap.size + 1, 0, none⟩ = some (.int .i64 vid) := (cell_of_row _ _ _ _ _ _ (heap_kept hW hf2.out)).trans rfl; clear hHeld; go_simp⟩) (by assumption) ?_
  try simp only [Act.put, List.setIfInBounds_toArray, List.set_cons_zero, List.set_cons_succ]
  refine wpAnyH_take (i := 2) (oi := { dst := some 38, op := Op.indexAddr 27 (Operand.tmp 5) (Operand.const (Value.int IntKind.i64 1)), type := 0, pos := "law.go:171", after := #[{ on := 8, ground := Ground.gcOnly Departure.lateStores }], guard := none }) (v := ?v2) rfl (by kernel_rfl) (by kernel_rfl) (by kernel_rfl) (fun _ _ _ h => h) (Or.inl ⟨by rfl, ?y2⟩) (by assumption) ?r2
  case y2 => (intro w hSw; (try dsimp only at hSw); (try (go_split_ands)); go_simp; try with_reducible rfl)
  try simp only [Act.put, List.setIfInBounds_toArray, List.set_cons_zero, List.set_cons_succ]
  refine wpAnyH_take (i := 3) (oi := { dst := some 39, op := Op.load 3 (Operand.tmp 38), type := 3, pos := "law.go:171", after := #[{ on := 2, ground := Ground.data }, { on := 8, ground := Ground.gcOnly Departure.lateStores }], guard := none }) (v := (.int .i64 pcp)) rfl (by kernel_rfl) (by kernel_rfl) (by kernel_rfl) (fun _ _ _ h => h) (.inl ⟨by rfl, fun W hW => by have hca : W.cell? ⟨w.heap.size + 1, 1, none⟩ = some (.int .i64 pcp) := (cell_of_row _ _ _ _ _ _ (heap_kept hW hf2.out)).trans rfl; clear hHeld; go_simp⟩) (by assumption) ?_
  try simp only [Act.put, List.setIfInBounds_toArray, List.set_cons_zero, List.set_cons_succ]
  refine wpAnyH_take (i := 4) (oi := { dst := some 40, op := Op.indexAddr 27 (Operand.tmp 5) (Operand.const (Value.int IntKind.i64 2)), type := 0, pos := "law.go:171", after := #[{ on := 9, ground := Ground.gcOnly Departure.lateStores }], guard := none }) (v := ?v3) rfl (by kernel_rfl) (by kernel_rfl) (by kernel_rfl) (fun _ _ _ h => h) (Or.inl ⟨by rfl, ?y3⟩) (by assumption) ?r3
  case y3 => (intro w hSw; (try dsimp only at hSw); (try (go_split_ands)); go_simp; try with_reducible rfl)
  try simp only [Act.put, List.setIfInBounds_toArray, List.set_cons_zero, List.set_cons_succ]
  refine wpAnyH_take (i := 5) (oi := { dst := some 41, op := Op.load 3 (Operand.tmp 40), type := 3, pos := "law.go:171", after := #[{ on := 4, ground := Ground.data }, { on := 9, ground := Ground.gcOnly Departure.lateStores }], guard := none }) (v := (.int .i64 port)) rfl (by kernel_rfl) (by kernel_rfl) (by kernel_rfl) (fun _ _ _ h => h) (.inl ⟨by rfl, fun W hW => by have hca : W.cell? ⟨w.heap.size + 1, 2, none⟩ = some (.int .i64 port) := (cell_of_row _ _ _ _ _ _ (heap_kept hW hf2.out)).trans rfl; clear hHeld; go_simp⟩) (by assumption) ?_
  try simp only [Act.put, List.setIfInBounds_toArray, List.set_cons_zero, List.set_cons_succ]
  refine wpAnyH_take (i := 6) (oi := { dst := some 42, op := Op.indexAddr 27 (Operand.tmp 5) (Operand.const (Value.int IntKind.i64 3)), type := 0, pos := "law.go:171", after := #[{ on := 10, ground := Ground.gcOnly Departure.lateStores }], guard := none }) (v := ?v4) rfl (by kernel_rfl) (by kernel_rfl) (by kernel_rfl) (fun _ _ _ h => h) (Or.inl ⟨by rfl, ?y4⟩) (by assumption) ?r4
  case y4 => (intro w hSw; (try dsimp only at hSw); (try (go_split_ands)); go_simp; try with_reducible rfl)
  try simp only [Act.put, List.setIfInBounds_toArray, List.set_cons_zero, List.set_cons_succ]
  refine wpAnyH_take (i := 7) (oi := { dst := some 43, op := Op.load 3 (Operand.tmp 42), type := 3, pos := "law.go:171", after := #[{ on := 6, ground := Ground.data }, { on := 10, ground := Ground.gcOnly Departure.lateStores }], guard := none }) (v := (.int .i64 plain)) rfl (by kernel_rfl) (by kernel_rfl) (by kernel_rfl) (fun _ _ _ h => h) (.inl ⟨by rfl, fun W hW => by have hca : W.cell? ⟨w.heap.size + 1, 3, none⟩ = some (.int .i64 plain) := (cell_of_row _ _ _ _ _ _ (heap_kept hW hf2.out)).trans rfl; clear hHeld; go_simp⟩) (by assumption) ?_
  try simp only [Act.put, List.setIfInBounds_toArray, List.set_cons_zero, List.set_cons_succ]
  refine wpAnyH_take (i := 8) (oi := { dst := some 7, op := Op.assign (Operand.tmp 37), type := 3, pos := "law.go:171", after := #[{ on := 1, ground := Ground.data }, { on := 0, ground := Ground.phase }, { on := 1, ground := Ground.phase }, { on := 2, ground := Ground.textOnly Departure.lateStores }, { on := 3, ground := Ground.textOnly Departure.lateStores }, { on := 4, ground := Ground.textOnly Departure.lateStores }, { on := 5, ground := Ground.textOnly Departure.lateStores }, { on := 6, ground := Ground.textOnly Departure.lateStores }, { on := 7, ground := Ground.textOnly Departure.lateStores }], guard := none }) (v := ?v5) rfl (by kernel_rfl) (by kernel_rfl) (by kernel_rfl) (fun _ _ _ h => h) (Or.inl ⟨by rfl, ?y5⟩) (by assumption) ?r5
  case y5 => (intro w hSw; (try dsimp only at hSw); (try (go_split_ands)); go_simp; try with_reducible rfl)
  try simp only [Act.put, List.setIfInBounds_toArray, List.set_cons_zero, List.set_cons_succ]
  refine wpAnyH_take (i := 9) (oi := { dst := some 8, op := Op.assign (Operand.tmp 39), type := 3, pos := "law.go:171", after := #[{ on := 3, ground := Ground.data }, { on := 8, ground := Ground.chain }, { on := 0, ground := Ground.phase }, { on := 1, ground := Ground.phase }, { on := 2, ground := Ground.phase }, { on := 3, ground := Ground.phase }, { on := 4, ground := Ground.textOnly Departure.lateStores }, { on := 5, ground := Ground.textOnly Departure.lateStores }, { on := 6, ground := Ground.textOnly Departure.lateStores }, { on := 7, ground := Ground.textOnly Departure.lateStores }, { on := 8, ground := Ground.phase }], guard := none }) (v := ?v6) rfl (by kernel_rfl) (by kernel_rfl) (by kernel_rfl) (fun _ _ _ h => h) (Or.inl ⟨by rfl, ?y6⟩) (by assumption) ?r6
  case y6 => (intro w hSw; (try dsimp only at hSw); (try (go_split_ands)); go_simp; try with_reducible rfl)
  try simp only [Act.put, List.setIfInBounds_toArray, List.set_cons_zero, List.set_cons_succ]
  refine wpAnyH_take (i := 10) (oi := { dst := some 9, op := Op.assign (Operand.tmp 41), type := 3, pos := "law.go:171", after := #[{ on := 5, ground := Ground.data }, { on := 9, ground := Ground.chain }, { on := 0, ground := Ground.phase }, { on := 1, ground := Ground.phase }, { on := 2, ground := Ground.phase }, { on := 3, ground := Ground.phase }, { on := 4, ground := Ground.phase }, { on := 5, ground := Ground.phase }, { on := 6, ground := Ground.textOnly Departure.lateStores }, { on := 7, ground := Ground.textOnly Departure.lateStores }, { on := 8, ground := Ground.phase }, { on := 9, ground := Ground.phase }], guard := none }) (v := ?v7) rfl (by kernel_rfl) (by kernel_rfl) (by kernel_rfl) (fun _ _ _ h => h) (Or.inl ⟨by rfl, ?y7⟩) (by assumption) ?r7
  case y7 => (intro w hSw; (try dsimp only at hSw); (try (go_split_ands)); go_simp; try with_reducible rfl)
  try simp only [Act.put, List.setIfInBounds_toArray, List.set_cons_zero, List.set_cons_succ]
  refine wpAnyH_take (i := 11) (oi := { dst := some 10, op := Op.assign (Operand.tmp 43), type := 3, pos := "law.go:171", after := #[{ on := 7, ground := Ground.data }, { on := 10, ground := Ground.chain }, { on := 0, ground := Ground.phase }, { on := 1, ground := Ground.phase }, { on := 2, ground := Ground.phase }, { on := 3, ground := Ground.phase }, { on := 4, ground := Ground.phase }, { on := 5, ground := Ground.phase }, { on := 6, ground := Ground.phase }, { on := 7, ground := Ground.phase }, { on := 8, ground := Ground.phase }, { on := 9, ground := Ground.phase }, { on := 10, ground := Ground.phase }], guard := none }) (v := ?v8) rfl (by kernel_rfl) (by kernel_rfl) (by kernel_rfl) (fun _ _ _ h => h) (Or.inl ⟨by rfl, ?y8⟩) (below_drewV (Below.refl _ _)) ?r8
  case y8 => (intro w hSw; (try dsimp only at hSw); (try (go_split_ands)); go_simp; try with_reducible rfl)
  try simp only [Act.put, List.setIfInBounds_toArray, List.set_cons_zero, List.set_cons_succ]
  refine wpAnyH_done (by kernel_rfl) ?_ _
  refine NoPanic.normal ?_
  have hd3 : Below w2.heap.size w2 w2.drew := below_drewV (Below.refl _ _)
  have hw3 := hide (hw2.out.later hd3)
  have hr3 := hide (heap_kept hd3 hr2.out)
  clear hHeld hd3 hw2 hr2 hf2
  generalize w2.drew = w3 at *
  clear w2
  by_cases c1 : vid < 1
  · go_wp2
    go_ret
    exact ⟨rfl, hw3.out⟩
  have dc1 : decide (vid < 1) = false := decide_eq_false c1
  by_cases c2 : 4094 < vid
  · go_wp2
    go_ret
    exact ⟨rfl, hw3.out⟩
  have dc2 : decide (4094 < vid) = false := decide_eq_false c2
  by_cases c3 : pcp < 0
  · go_wp2
    go_ret
    exact ⟨rfl, hw3.out⟩
  have dc3 : decide (pcp < 0) = false := decide_eq_false c3
  by_cases c4 : 7 < pcp
  · go_wp2
    go_ret
    exact ⟨rfl, hw3.out⟩
  have dc4 : decide (7 < pcp) = false := decide_eq_false c4
  by_cases c5 : port < 0
  · go_wp2
    go_ret
    exact ⟨rfl, hw3.out⟩
  have dc5 : decide (port < 0) = false := decide_eq_false c5
  by_cases c6 : 3 < port
  · go_wp2
    go_ret
    exact ⟨rfl, hw3.out⟩
  have dc6 : decide (3 < port) = false := decide_eq_false c6
  by_cases c7 : plain < 0
  · go_wp2
    go_ret
    exact ⟨rfl, hw3.out⟩
  have dc7 : decide (plain < 0) = false := decide_eq_false c7
  by_cases c8 : 15 < plain
  · go_wp2
    go_ret
    exact ⟨rfl, hw3.out⟩
  have dc8 : decide (15 < plain) = false := decide_eq_false c8
  have hv1 := hide (show 1 ≤ vid ∧ vid ≤ 4094 by omega)
  have hp1 := hide (show 0 ≤ pcp ∧ pcp ≤ 7 by omega)
  have ho1 := hide (show 0 ≤ port ∧ port ≤ 3 by omega)
  have hl1 := hide (show 0 ≤ plain ∧ plain ≤ 15 by omega)
  clear c1 c2 c3 c4 c5 c6 c7 c8
  have hb1 := hide (below1 w3 (.cells (stRow [2, 2, 2, 2]) 3))
  have hrs := hide (heap_alloc_new w3 (.cells (stRow [2, 2, 2, 2]) 3))
  have hs1 : Hid ((w3.alloc (.cells (stRow [2, 2, 2, 2]) 3)).heap.size = w3.heap.size + 1) := World.size_alloc _ _
  have hBr := hide (bridge_far (K := w.heap.size) (A0 := fun k => k = w3.heap.size) (w3.alloc (.cells (stRow [2, 2, 2, 2]) 3)) w3.heap.size [2, 2, 2, 2] hrs.out (fun k e => by have := hs1.out; omega) rfl (by have := hs1.out; have := hw3.out.size; omega) (by decide))
  go_wp2_with fail
  clear dc1 dc2 dc3 dc4 dc5 dc6 dc7 dc8
  refine hBr.out.mono ?_
  rintro _ w4 ⟨g, pb, mb, t, rfl, hG, hb4, hf1, hf2, hf3⟩
  have hw4 : Hid (Below w.heap.size w w4) := hw3.out.later (hb1.out.later hb4)
  have hr4 := hide (heap_kept (hb1.out.later hb4) hr3.out)
  have hne : Hid (w3.heap.size ≠ mb) := by have := hs1.out; exact hide (by omega)
  have hKm : Hid (w.heap.size < mb) := by have := hs1.out; have := hw3.out.size; exact hide (by omega)
  have hgb : Hid (mb < w4.heap.size) := hG.br.vt.lt.2.2
  have hB4 := hide hG.br
  generalize w3.heap.size = sb at *
  clear hBr hb1 hrs hs1 hb4 hf1 hf2 hf3 hw3 hr3 hG
  go_wp2_with ((with_reducible change wpList _ _ _ _ _ _); refine stop_storeB 35 (.tmp 11) (.tmp 75) rfl ?_)
  refine hide (fresh_atC rfl 35 (.tmp 11) (.tmp 75) rfl w4.heap.size rfl (brC g t sb 4) #[.pointer none, .pointer none, .slice none 0 0] rfl rfl 35 (brSize _ _ _ _) rfl (br_all _ _ _ _) ?_)
  intro w5 h5 hb5
  obtain ⟨a1, ha1⟩ : ∃ a1, a1 = w4.heap.size := ⟨_, rfl⟩
  rw [← ha1] at h5 ⊢
  have hne1 : Hid (a1 ≠ mb) := by have := hgb.out; exact hide (by omega)
  have hw5 : Hid (Below w.heap.size w w5) := hw4.out.later hb5
  have hr5 := hide (heap_kept hb5 hr4.out)
  have hB5 := hide (hB4.out.below hb5)
  replace h5 := hide h5
  clear hw4 hr4 hB4 hb5 ha1 hgb
  clear w4
  have c50 : w5.cell? ⟨a1, 0, none⟩ = some (.pointer (some ⟨g, 0, none⟩)) := (cell_of_row _ _ _ _ _ _ h5.out).trans rfl
  have hSt := hide (Set_ok hB5.out.vt vid 15 plain (dr_set hv1.out.1 hv1.out.2 hl1.out.1 hl1.out.2) (by decide) (dr_some vid) (by decide))
  go_wp2_with fail
  refine hSt.out.mono ?_
  rintro _ w6 ⟨rfl, hV6, hC6⟩
  have hw6 : Hid (Below w.heap.size w w6) := hw5.out.trans (hC6.belowK (fun k e => by have := hKm.out; omega) hw5.out.size)
  have h6 := hide ((hC6.block a1 (Array.getElem?_eq_some_iff.1 h5.out).1 hne1.out).trans h5.out)
  have hr6 := hide ((hC6.block w.heap.size (Array.getElem?_eq_some_iff.1 hr5.out).1 (by have := hKm.out; omega)).trans hr5.out)
  have hB6 : Hid (Br w6 g pb mb sb (List.replicate 4 pvOne) (updK (newF 4) vid (some (15, plain))) _ [2, 2, 2, 2]) := ⟨hV6, (hC6.block sb (Array.getElem?_eq_some_iff.1 hB5.out.st).1 hne.out).trans hB5.out.st, hB5.out.few⟩
  clear hSt hV6 hC6 hw5 h5 hr5 hB5 c50 hne hne1 hKm
  clear w5
  have hBd := hide (Build_ok h w6 HW.out.bytes (HT.out.later hw6.out) (HV.out.below hw6.out) hE.out)
  go_wp2_with ((with_reducible change wpList _ _ _ _ _ _); refine wpList_load_row rfl 25 (.tmp 3) rfl w.heap.size rfl 25 _ _ _ hr6.out Tryd.underlying25 rfl (hdSize _) ?_)
  refine hBd.out.mono ?_
  rintro _ w7 ⟨g7, n7, rfl, hn7, -, hF7, hb7⟩
  have hw7 : Hid (Below w.heap.size w w7) := hw6.out.later hb7
  have h7 := hide (heap_kept hb7 h6.out)
  have hr7 := hide (heap_kept hb7 hr6.out)
  have hB7 := hide (hB6.out.below hb7)
  have hC7 := hide (carr_build HW.out.bytes hE.out)
  replace hF7 := hide hF7
  clear hBd hn7 hb7 hw6 h6 hr6 hB6
  clear w6
  have hDr := hide (Dress_on hB7.out t _ _ hF7.out (HT.out.later hw7.out) h l hC7.out hodd.out hty.out vid pcp port none 0 0 0 ⟨by have := hv1.out; omega, by have := hv1.out; omega⟩ ⟨by have := hv1.out; omega, hv1.out.2⟩ hp1.out)
  rw [dr_plain ho1.out.1 ho1.out.2] at hDr
  go_wp2_with ((with_reducible change wpList _ _ _ _ _ _); refine wpList_load_row rfl 35 (.tmp 11) rfl a1 rfl 35 _ _ _ h7.out Tryd.underlying35 rfl (brSize _ _ _ _) ?_)
  refine hDr.out.mono ?_
  rintro _ w8 ⟨g8, n8, F8, rfl, hF8, hC8, hb8⟩
  have hw8 : Hid (Below w.heap.size w w8) := hw7.out.later hb8
  have hr8 := hide (heap_kept hb8 hr7.out)
  clear hDr hb8 hw7 h7 hr7 hB7 hF7 hC7
  clear w7
  have hPa := hide (Parse_any hF8 (HT.out.later hw8.out))
  obtain ⟨m8, hP8, _⟩ := carr_parsed hC8
  rw [hP8] at hPa
  clear hP8 hF8 hC8
  go_wp2_with fail
  refine hPa.out.mono ?_
  rintro _ w9 ⟨pa, pn, pc, rfl, hB9, hb9⟩
  have hw9 : Hid (Below w.heap.size w w9) := hw8.out.later hb9
  have hr9 := hide (heap_kept hb9 hr8.out)
  clear hPa hb9 hw8 hr8
  clear w8
  obtain ⟨hB9f, hpn, hpc⟩ := hB9.front_of
  go_wp2_with ((with_reducible change wpList _ _ _ _ _ _); refine stop_storeB 25 (.tmp 16) (.tmp 101) rfl ?_)
  obtain ⟨H', hH'⟩ : ∃ H', H' = tagP (bitAt plain port) h pcp vid := ⟨_, rfl⟩
  refine hide (fresh_atC rfl 25 (.tmp 16) (.tmp 101) rfl w9.heap.size rfl H'.row Hd.zero.row rfl (by subst hH'; rfl) 25 (hdSize _) rfl (Hd.row_all _) ?_)
  intro wA hA hbA
  obtain ⟨a16, ha16⟩ : ∃ a, a = w9.heap.size := ⟨_, rfl⟩
  rw [← ha16] at hA ⊢
  have hwA : Hid (Below w.heap.size w wA) := hw9.out.later hbA
  have hrA := hide (heap_kept hbA hr9.out)
  have hBA := hide (hB9f.below hbA)
  have hq12 : Hid (H'.tg = !(bitAt plain port)) := by show _ = _; rw [hH']
  have hq13 : Hid (bitAt plain port = false → H'.pcp = pcp ∧ H'.de = h.de ∧ H'.vid = vid) := fun e => by rw [hH', e]; exact ⟨rfl, rfl, rfl⟩
  have hqd : Hid (∀ (i : Nat) (u : Value), (mac6 h.d0 h.d1 h.d2 h.d3 h.d4 h.d5).toList[i]? = some u → H'.row[0 + i]? = some u) := fun i u hu => by rw [hH', Nat.zero_add]; match i, hu with
    | 0, hu => exact hu
    | 1, hu => exact hu
    | 2, hu => exact hu
    | 3, hu => exact hu
    | 4, hu => exact hu
    | 5, hu => exact hu
    | i + 6, hu => simp at hu
  have hqs : Hid (∀ (i : Nat) (u : Value), (mac6 h.s0 h.s1 h.s2 h.s3 h.s4 h.s5).toList[i]? = some u → H'.row[6 + i]? = some u) := fun i u hu => by rw [hH']; match i, hu with
    | 0, hu => exact hu
    | 1, hu => exact hu
    | 2, hu => exact hu
    | 3, hu => exact hu
    | 4, hu => exact hu
    | 5, hu => exact hu
    | i + 6, hu => simp at hu
  have hqt : Hid (H'.row[16]? = some (.int .i64 h.typ)) := by show _ = _; rw [hH']; rfl
  have hpd : Hid (∀ (i : Nat) (u : Value), (mac6 h.d0 h.d1 h.d2 h.d3 h.d4 h.d5).toList[i]? = some u → h.row[0 + i]? = some u) := fun i u hu => by rw [Nat.zero_add]; match i, hu with
    | 0, hu => exact hu
    | 1, hu => exact hu
    | 2, hu => exact hu
    | 3, hu => exact hu
    | 4, hu => exact hu
    | 5, hu => exact hu
    | i + 6, hu => simp at hu
  have hps : Hid (∀ (i : Nat) (u : Value), (mac6 h.s0 h.s1 h.s2 h.s3 h.s4 h.s5).toList[i]? = some u → h.row[6 + i]? = some u) := fun i u hu => by match i, hu with
    | 0, hu => exact hu
    | 1, hu => exact hu
    | 2, hu => exact hu
    | 3, hu => exact hu
    | 4, hu => exact hu
    | 5, hu => exact hu
    | i + 6, hu => simp at hu
  have hmd : ∀ w, (binOp .neq 23 (.agg (mac6 h.d0 h.d1 h.d2 h.d3 h.d4 h.d5)) (.agg (mac6 h.d0 h.d1 h.d2 h.d3 h.d4 h.d5))).run Tryd.prog w = .ok (.bool false) w := fun w => by rw [mac_neq _ _ _ _ _ _ _ _ _ _ _ _ HW.out.bytes.1 HW.out.bytes.1]; simp
  have hms : ∀ w, (binOp .neq 23 (.agg (mac6 h.s0 h.s1 h.s2 h.s3 h.s4 h.s5)) (.agg (mac6 h.s0 h.s1 h.s2 h.s3 h.s4 h.s5))).run Tryd.prog w = .ok (.bool false) w := fun w => by rw [mac_neq _ _ _ _ _ _ _ _ _ _ _ _ HW.out.bytes.2 HW.out.bytes.2]; simp
  have hlt : decide ((pn : Int) < (l.length : Int)) = false := by simp; omega
  have hlt2 : decide (pn < l.length) = false := by simp; omega
  replace hA := hide hA
  replace hH' := hide hH'
  have hpc' := hide hpc
  have HVA := hide (HV.out.below hwA.out)
  obtain ⟨SS, hSS⟩ : ∃ S, S = bstr l := ⟨_, rfl⟩
  obtain ⟨S2, hS2⟩ : ∃ S2, S2 = bstr l := ⟨_, rfl⟩
  have hne : (S2.toList == SS.toList) = true := by rw [hSS, hS2]; simp
  replace hSS := hide hSS
  replace hS2 := hide hS2
  clear hw9 hr9 hB9 hB9f hbA ha16 hpn hpc HV HT
  clear w9
  go_wp2_with fail
  refine wp_region_noPanic ?_
  refine wp_region_held_drew (S := fun W => Below wA.heap.size wA W) (by kernel_rfl) (below_drewV (Below.refl _ _)) (fun hHeld => ?_)
  refine wpAnyH_take (i := 0) (oi := { dst := some 104, op := Op.move (Operand.tmp 15), type := 29, pos := "law.go:182", after := #[], guard := none }) (v := ?v9) rfl (by kernel_rfl) (by kernel_rfl) (by kernel_rfl) (fun _ _ _ h => h) (Or.inl ⟨by rfl, ?y9⟩) (by assumption) ?r9
  case y9 => (intro w hSw; (try dsimp only at hSw); (try (go_split_ands)); go_simp; try with_reducible rfl)
  try simp only [Act.put, List.setIfInBounds_toArray, List.set_cons_zero, List.set_cons_succ]
  refine wpAnyH_take (i := 1) (oi := { dst := some 105, op := Op.binOp BinOp.neq 29 (Operand.tmp 104) (Operand.const (Value.int IntKind.i64 0)) 29, type := 4, pos := "law.go:182", after := #[{ on := 0, ground := Ground.data }], guard := none }) (v := ?v10) rfl (by kernel_rfl) (by kernel_rfl) (by kernel_rfl) (fun _ _ _ h => h) (Or.inl ⟨by rfl, ?y10⟩) (by assumption) ?r10
  case y10 => (intro w hSw; (try dsimp only at hSw); (try (go_split_ands)); go_simp; try with_reducible rfl)
  try simp only [Act.put, List.setIfInBounds_toArray, List.set_cons_zero, List.set_cons_succ]
  refine wpAnyH_take (i := 2) (oi := { dst := some 106, op := Op.move (Operand.tmp 105), type := 4, pos := "law.go:182", after := #[{ on := 1, ground := Ground.data }], guard := none }) (v := ?v11) rfl (by kernel_rfl) (by kernel_rfl) (by kernel_rfl) (fun _ _ _ h => h) (Or.inl ⟨by rfl, ?y11⟩) (by assumption) ?r11
  case y11 => (intro w hSw; (try dsimp only at hSw); (try (go_split_ands)); go_simp; try with_reducible rfl)
  try simp only [Act.put, List.setIfInBounds_toArray, List.set_cons_zero, List.set_cons_succ]
  refine wpAnyH_take (i := 3) (oi := { dst := some 107, op := Op.move (Operand.tmp 18), type := 29, pos := "law.go:182", after := #[{ on := 2, ground := Ground.guard }], guard := some (2, false) }) (v := ?v12) rfl (by kernel_rfl) (by kernel_rfl) (by kernel_rfl) (fun _ _ _ h => h) (Or.inl ⟨by rfl, ?y12⟩) (by assumption) ?r12
  case y12 => (intro w hSw; (try dsimp only at hSw); (try (go_split_ands)); go_simp; try with_reducible rfl)
  try simp only [Act.put, List.setIfInBounds_toArray, List.set_cons_zero, List.set_cons_succ]
  refine wpAnyH_take (i := 4) (oi := { dst := some 108, op := Op.binOp BinOp.neq 29 (Operand.tmp 107) (Operand.const (Value.int IntKind.i64 0)) 29, type := 4, pos := "law.go:182", after := #[{ on := 3, ground := Ground.data }, { on := 2, ground := Ground.guard }], guard := some (2, false) }) (v := ?v13) rfl (by kernel_rfl) (by kernel_rfl) (by kernel_rfl) (fun _ _ _ h => h) (Or.inl ⟨by rfl, ?y13⟩) (by assumption) ?r13
  case y13 => (intro w hSw; (try dsimp only at hSw); (try (go_split_ands)); go_simp; try with_reducible rfl)
  try simp only [Act.put, List.setIfInBounds_toArray, List.set_cons_zero, List.set_cons_succ]
  refine wpAnyH_take (i := 5) (oi := { dst := some 109, op := Op.pick (Operand.tmp 106) (Operand.const (Value.bool true)) (Operand.tmp 108), type := 4, pos := "law.go:182", after := #[{ on := 2, ground := Ground.data }, { on := 4, ground := Ground.data }], guard := none }) (v := ?v14) rfl (by kernel_rfl) (by kernel_rfl) (by kernel_rfl) (fun _ _ _ h => h) (Or.inl ⟨by rfl, ?y14⟩) (by assumption) ?r14
  case y14 => (intro w hSw; (try dsimp only at hSw); (try (go_split_ands)); go_simp; try with_reducible rfl)
  try simp only [Act.put, List.setIfInBounds_toArray, List.set_cons_zero, List.set_cons_succ]
  refine wpAnyH_take (i := 6) (oi := { dst := some 110, op := Op.move (Operand.tmp 109), type := 4, pos := "law.go:182", after := #[{ on := 5, ground := Ground.data }, { on := 2, ground := Ground.chain }], guard := none }) (v := ?v15) rfl (by kernel_rfl) (by kernel_rfl) (by kernel_rfl) (fun _ _ _ h => h) (Or.inl ⟨by rfl, ?y15⟩) (by assumption) ?r15
  case y15 => (intro w hSw; (try dsimp only at hSw); (try (go_split_ands)); go_simp; try with_reducible rfl)
  try simp only [Act.put, List.setIfInBounds_toArray, List.set_cons_zero, List.set_cons_succ]
  refine wpAnyH_take (i := 7) (oi := { dst := some 111, op := Op.fieldAddr 25 (Operand.tmp 16) 0, type := 0, pos := "law.go:182", after := #[{ on := 6, ground := Ground.guard }], guard := some (6, false) }) (v := ?v16) rfl (by kernel_rfl) (by kernel_rfl) (by kernel_rfl) (fun _ _ _ h => h) (Or.inl ⟨by rfl, ?y16⟩) (by assumption) ?r16
  case y16 => (intro w hSw; (try dsimp only at hSw); (try (go_split_ands)); go_simp; try with_reducible rfl)
  try simp only [Act.put, List.setIfInBounds_toArray, List.set_cons_zero, List.set_cons_succ]
  refine wpAnyH_take (i := 8) (oi := { dst := some 112, op := Op.load 23 (Operand.tmp 111), type := 23, pos := "law.go:182", after := #[{ on := 7, ground := Ground.data }, { on := 6, ground := Ground.guard }], guard := some (6, false) }) (v := _) rfl (by kernel_rfl) (by kernel_rfl) (by kernel_rfl) (fun _ _ _ h => h) (yieldsIf_load_mid (by rfl) 23 (.tmp 111) rfl a16 0 rfl (mac6 h.d0 h.d1 h.d2 h.d3 h.d4 h.d5).toList _ (fun W hW => hd_range (o := 0) (m := ⟨h.d0, h.d1, h.d2, h.d3, h.d4, h.d5⟩) (heap_kept hW hA.out) hqd.out) Tryd.underlying23 rfl (by kernel_rfl)) (by assumption) ?_
  try simp only [Act.put, List.setIfInBounds_toArray, List.set_cons_zero, List.set_cons_succ]
  refine wpAnyH_take (i := 9) (oi := { dst := some 113, op := Op.fieldAddr 25 (Operand.tmp 3) 0, type := 0, pos := "law.go:182", after := #[{ on := 6, ground := Ground.guard }], guard := some (6, false) }) (v := ?v17) rfl (by kernel_rfl) (by kernel_rfl) (by kernel_rfl) (fun _ _ _ h => h) (Or.inl ⟨by rfl, ?y17⟩) (by assumption) ?r17
  case y17 => (intro w hSw; (try dsimp only at hSw); (try (go_split_ands)); go_simp; try with_reducible rfl)
  try simp only [Act.put, List.setIfInBounds_toArray, List.set_cons_zero, List.set_cons_succ]
  refine wpAnyH_take (i := 10) (oi := { dst := some 114, op := Op.load 23 (Operand.tmp 113), type := 23, pos := "law.go:182", after := #[{ on := 9, ground := Ground.data }, { on := 6, ground := Ground.guard }], guard := some (6, false) }) (v := _) rfl (by kernel_rfl) (by kernel_rfl) (by kernel_rfl) (fun _ _ _ h => h) (yieldsIf_load_mid (by rfl) 23 (.tmp 113) rfl w.heap.size 0 rfl (mac6 h.d0 h.d1 h.d2 h.d3 h.d4 h.d5).toList _ (fun W hW => hd_range (o := 0) (m := ⟨h.d0, h.d1, h.d2, h.d3, h.d4, h.d5⟩) (heap_kept hW hrA.out) hpd.out) Tryd.underlying23 rfl (by kernel_rfl)) (by assumption) ?_
  try simp only [Act.put, List.setIfInBounds_toArray, List.set_cons_zero, List.set_cons_succ]
  refine wpAnyH_take (i := 11) (oi := { dst := some 115, op := Op.binOp BinOp.neq 23 (Operand.tmp 112) (Operand.tmp 114) 23, type := 4, pos := "law.go:182", after := #[{ on := 8, ground := Ground.data }, { on := 10, ground := Ground.data }, { on := 6, ground := Ground.guard }], guard := some (6, false) }) (v := ?v18) rfl (by kernel_rfl) (by kernel_rfl) (by kernel_rfl) (fun _ _ _ h => h) (Or.inl ⟨by rfl, ?y18⟩) (by assumption) ?r18
  case y18 => (intro w hSw; (try dsimp only at hSw); (try (go_split_ands)); go_simp; try with_reducible rfl)
  try simp only [Act.put, List.setIfInBounds_toArray, List.set_cons_zero, List.set_cons_succ]
  refine wpAnyH_take (i := 12) (oi := { dst := some 116, op := Op.pick (Operand.tmp 110) (Operand.const (Value.bool true)) (Operand.tmp 115), type := 4, pos := "law.go:182", after := #[{ on := 6, ground := Ground.data }, { on := 11, ground := Ground.data }], guard := none }) (v := ?v19) rfl (by kernel_rfl) (by kernel_rfl) (by kernel_rfl) (fun _ _ _ h => h) (Or.inl ⟨by rfl, ?y19⟩) (by assumption) ?r19
  case y19 => (intro w hSw; (try dsimp only at hSw); (try (go_split_ands)); go_simp; try with_reducible rfl)
  try simp only [Act.put, List.setIfInBounds_toArray, List.set_cons_zero, List.set_cons_succ]
  refine wpAnyH_take (i := 13) (oi := { dst := some 117, op := Op.move (Operand.tmp 116), type := 4, pos := "law.go:182", after := #[{ on := 12, ground := Ground.data }, { on := 6, ground := Ground.chain }], guard := none }) (v := ?v20) rfl (by kernel_rfl) (by kernel_rfl) (by kernel_rfl) (fun _ _ _ h => h) (Or.inl ⟨by rfl, ?y20⟩) (by assumption) ?r20
  case y20 => (intro w hSw; (try dsimp only at hSw); (try (go_split_ands)); go_simp; try with_reducible rfl)
  try simp only [Act.put, List.setIfInBounds_toArray, List.set_cons_zero, List.set_cons_succ]
  refine wpAnyH_take (i := 14) (oi := { dst := some 118, op := Op.fieldAddr 25 (Operand.tmp 16) 1, type := 0, pos := "law.go:182", after := #[{ on := 13, ground := Ground.guard }], guard := some (13, false) }) (v := ?v21) rfl (by kernel_rfl) (by kernel_rfl) (by kernel_rfl) (fun _ _ _ h => h) (Or.inl ⟨by rfl, ?y21⟩) (by assumption) ?r21
  case y21 => (intro w hSw; (try dsimp only at hSw); (try (go_split_ands)); go_simp; try with_reducible rfl)
  try simp only [Act.put, List.setIfInBounds_toArray, List.set_cons_zero, List.set_cons_succ]
  refine wpAnyH_take (i := 15) (oi := { dst := some 119, op := Op.load 23 (Operand.tmp 118), type := 23, pos := "law.go:182", after := #[{ on := 14, ground := Ground.data }, { on := 13, ground := Ground.guard }], guard := some (13, false) }) (v := _) rfl (by kernel_rfl) (by kernel_rfl) (by kernel_rfl) (fun _ _ _ h => h) (yieldsIf_load_mid (by rfl) 23 (.tmp 118) rfl a16 6 rfl (mac6 h.s0 h.s1 h.s2 h.s3 h.s4 h.s5).toList _ (fun W hW => hd_range (o := 6) (m := ⟨h.s0, h.s1, h.s2, h.s3, h.s4, h.s5⟩) (heap_kept hW hA.out) hqs.out) Tryd.underlying23 rfl (by kernel_rfl)) (by assumption) ?_
  try simp only [Act.put, List.setIfInBounds_toArray, List.set_cons_zero, List.set_cons_succ]
  refine wpAnyH_take (i := 16) (oi := { dst := some 120, op := Op.fieldAddr 25 (Operand.tmp 3) 1, type := 0, pos := "law.go:182", after := #[{ on := 13, ground := Ground.guard }], guard := some (13, false) }) (v := ?v22) rfl (by kernel_rfl) (by kernel_rfl) (by kernel_rfl) (fun _ _ _ h => h) (Or.inl ⟨by rfl, ?y22⟩) (by assumption) ?r22
  case y22 => (intro w hSw; (try dsimp only at hSw); (try (go_split_ands)); go_simp; try with_reducible rfl)
  try simp only [Act.put, List.setIfInBounds_toArray, List.set_cons_zero, List.set_cons_succ]
  refine wpAnyH_take (i := 17) (oi := { dst := some 121, op := Op.load 23 (Operand.tmp 120), type := 23, pos := "law.go:182", after := #[{ on := 16, ground := Ground.data }, { on := 13, ground := Ground.guard }], guard := some (13, false) }) (v := _) rfl (by kernel_rfl) (by kernel_rfl) (by kernel_rfl) (fun _ _ _ h => h) (yieldsIf_load_mid (by rfl) 23 (.tmp 120) rfl w.heap.size 6 rfl (mac6 h.s0 h.s1 h.s2 h.s3 h.s4 h.s5).toList _ (fun W hW => hd_range (o := 6) (m := ⟨h.s0, h.s1, h.s2, h.s3, h.s4, h.s5⟩) (heap_kept hW hrA.out) hps.out) Tryd.underlying23 rfl (by kernel_rfl)) (by assumption) ?_
  try simp only [Act.put, List.setIfInBounds_toArray, List.set_cons_zero, List.set_cons_succ]
  refine wpAnyH_take (i := 18) (oi := { dst := some 122, op := Op.binOp BinOp.neq 23 (Operand.tmp 119) (Operand.tmp 121) 23, type := 4, pos := "law.go:182", after := #[{ on := 15, ground := Ground.data }, { on := 17, ground := Ground.data }, { on := 13, ground := Ground.guard }], guard := some (13, false) }) (v := ?v23) rfl (by kernel_rfl) (by kernel_rfl) (by kernel_rfl) (fun _ _ _ h => h) (Or.inl ⟨by rfl, ?y23⟩) (by assumption) ?r23
  case y23 => (intro w hSw; (try dsimp only at hSw); (try (go_split_ands)); go_simp; try with_reducible rfl)
  try simp only [Act.put, List.setIfInBounds_toArray, List.set_cons_zero, List.set_cons_succ]
  refine wpAnyH_take (i := 19) (oi := { dst := some 123, op := Op.pick (Operand.tmp 117) (Operand.const (Value.bool true)) (Operand.tmp 122), type := 4, pos := "law.go:182", after := #[{ on := 13, ground := Ground.data }, { on := 18, ground := Ground.data }], guard := none }) (v := ?v24) rfl (by kernel_rfl) (by kernel_rfl) (by kernel_rfl) (fun _ _ _ h => h) (Or.inl ⟨by rfl, ?y24⟩) (by assumption) ?r24
  case y24 => (intro w hSw; (try dsimp only at hSw); (try (go_split_ands)); go_simp; try with_reducible rfl)
  try simp only [Act.put, List.setIfInBounds_toArray, List.set_cons_zero, List.set_cons_succ]
  refine wpAnyH_take (i := 20) (oi := { dst := some 124, op := Op.move (Operand.tmp 123), type := 4, pos := "law.go:182", after := #[{ on := 19, ground := Ground.data }, { on := 13, ground := Ground.chain }], guard := none }) (v := ?v25) rfl (by kernel_rfl) (by kernel_rfl) (by kernel_rfl) (fun _ _ _ h => h) (Or.inl ⟨by rfl, ?y25⟩) (by assumption) ?r25
  case y25 => (intro w hSw; (try dsimp only at hSw); (try (go_split_ands)); go_simp; try with_reducible rfl)
  try simp only [Act.put, List.setIfInBounds_toArray, List.set_cons_zero, List.set_cons_succ]
  refine wpAnyH_take (i := 21) (oi := { dst := some 125, op := Op.fieldAddr 25 (Operand.tmp 16) 6, type := 0, pos := "law.go:182", after := #[{ on := 20, ground := Ground.guard }], guard := some (20, false) }) (v := ?v26) rfl (by kernel_rfl) (by kernel_rfl) (by kernel_rfl) (fun _ _ _ h => h) (Or.inl ⟨by rfl, ?y26⟩) (by assumption) ?r26
  case y26 => (intro w hSw; (try dsimp only at hSw); (try (go_split_ands)); go_simp; try with_reducible rfl)
  try simp only [Act.put, List.setIfInBounds_toArray, List.set_cons_zero, List.set_cons_succ]
  refine wpAnyH_take (i := 22) (oi := { dst := some 126, op := Op.load 3 (Operand.tmp 125), type := 3, pos := "law.go:182", after := #[{ on := 21, ground := Ground.data }, { on := 20, ground := Ground.guard }], guard := some (20, false) }) (v := (.int .i64 h.typ)) rfl (by kernel_rfl) (by kernel_rfl) (by kernel_rfl) (fun _ _ _ h => h) (.inl ⟨by rfl, fun W hW => by have hca : W.cell? ⟨a16, 16, none⟩ = some (.int .i64 h.typ) := (cell_of_row _ _ _ _ _ _ (heap_kept hW hA.out)).trans hqt.out; clear hHeld; go_simp⟩) (by assumption) ?_
  try simp only [Act.put, List.setIfInBounds_toArray, List.set_cons_zero, List.set_cons_succ]
  refine wpAnyH_take (i := 23) (oi := { dst := some 127, op := Op.fieldAddr 25 (Operand.tmp 3) 6, type := 0, pos := "law.go:182", after := #[{ on := 20, ground := Ground.guard }], guard := some (20, false) }) (v := ?v27) rfl (by kernel_rfl) (by kernel_rfl) (by kernel_rfl) (fun _ _ _ h => h) (Or.inl ⟨by rfl, ?y27⟩) (by assumption) ?r27
  case y27 => (intro w hSw; (try dsimp only at hSw); (try (go_split_ands)); go_simp; try with_reducible rfl)
  try simp only [Act.put, List.setIfInBounds_toArray, List.set_cons_zero, List.set_cons_succ]
  refine wpAnyH_take (i := 24) (oi := { dst := some 128, op := Op.load 3 (Operand.tmp 127), type := 3, pos := "law.go:182", after := #[{ on := 23, ground := Ground.data }, { on := 20, ground := Ground.guard }], guard := some (20, false) }) (v := (.int .i64 h.typ)) rfl (by kernel_rfl) (by kernel_rfl) (by kernel_rfl) (fun _ _ _ h => h) (.inl ⟨by rfl, fun W hW => by have hca : W.cell? ⟨w.heap.size, 16, none⟩ = some (.int .i64 h.typ) := (cell_of_row _ _ _ _ _ _ (heap_kept hW hrA.out)).trans rfl; clear hHeld; go_simp⟩) (by assumption) ?_
  try simp only [Act.put, List.setIfInBounds_toArray, List.set_cons_zero, List.set_cons_succ]
  refine wpAnyH_take (i := 25) (oi := { dst := some 129, op := Op.binOp BinOp.neq 3 (Operand.tmp 126) (Operand.tmp 128) 3, type := 4, pos := "law.go:182", after := #[{ on := 22, ground := Ground.data }, { on := 24, ground := Ground.data }, { on := 20, ground := Ground.guard }], guard := some (20, false) }) (v := ?v28) rfl (by kernel_rfl) (by kernel_rfl) (by kernel_rfl) (fun _ _ _ h => h) (Or.inl ⟨by rfl, ?y28⟩) (by assumption) ?r28
  case y28 => (intro w hSw; (try dsimp only at hSw); (try (go_split_ands)); go_simp; try with_reducible rfl)
  try simp only [Act.put, List.setIfInBounds_toArray, List.set_cons_zero, List.set_cons_succ]
  refine wpAnyH_take (i := 26) (oi := { dst := some 130, op := Op.pick (Operand.tmp 124) (Operand.const (Value.bool true)) (Operand.tmp 129), type := 4, pos := "law.go:182", after := #[{ on := 20, ground := Ground.data }, { on := 25, ground := Ground.data }], guard := none }) (v := ?v29) rfl (by kernel_rfl) (by kernel_rfl) (by kernel_rfl) (fun _ _ _ h => h) (Or.inl ⟨by rfl, ?y29⟩) (by assumption) ?r29
  case y29 => (intro w hSw; (try dsimp only at hSw); (try (go_split_ands)); go_simp; try with_reducible rfl)
  try simp only [Act.put, List.setIfInBounds_toArray, List.set_cons_zero, List.set_cons_succ]
  refine wpAnyH_take (i := 27) (oi := { dst := some 131, op := Op.move (Operand.tmp 130), type := 4, pos := "law.go:182", after := #[{ on := 26, ground := Ground.data }, { on := 20, ground := Ground.chain }], guard := none }) (v := ?v30) rfl (by kernel_rfl) (by kernel_rfl) (by kernel_rfl) (fun _ _ _ h => h) (Or.inl ⟨by rfl, ?y30⟩) (by assumption) ?r30
  case y30 => (intro w hSw; (try dsimp only at hSw); (try (go_split_ands)); go_simp; try with_reducible rfl)
  try simp only [Act.put, List.setIfInBounds_toArray, List.set_cons_zero, List.set_cons_succ]
  refine wpAnyH_take (i := 28) (oi := { dst := some 132, op := Op.move (Operand.tmp 17), type := 26, pos := "law.go:182", after := #[{ on := 27, ground := Ground.guard }], guard := some (27, false) }) (v := ?v31) rfl (by kernel_rfl) (by kernel_rfl) (by kernel_rfl) (fun _ _ _ h => h) (Or.inl ⟨by rfl, ?y31⟩) (by assumption) ?r31
  case y31 => (intro w hSw; (try dsimp only at hSw); (try (go_split_ands)); go_simp; try with_reducible rfl)
  try simp only [Act.put, List.setIfInBounds_toArray, List.set_cons_zero, List.set_cons_succ]
  refine wpAnyH_take (i := 29) (oi := { dst := some 133, op := Op.call { callee := Callee.builtin Builtin.len, args := #[Operand.tmp 132], argTypes := #[26] }, type := 3, pos := "law.go:182", after := #[{ on := 28, ground := Ground.data }, { on := 27, ground := Ground.guard }], guard := some (27, false) }) (v := ?v32) rfl (by kernel_rfl) (by kernel_rfl) (by kernel_rfl) (fun _ _ _ h => h) (Or.inl ⟨by rfl, ?y32⟩) (by assumption) ?r32
  case y32 => (intro w hSw; (try dsimp only at hSw); (try (go_split_ands)); go_simp; try with_reducible rfl)
  try simp only [Act.put, List.setIfInBounds_toArray, List.set_cons_zero, List.set_cons_succ]
  refine wpAnyH_take (i := 30) (oi := { dst := some 134, op := Op.move (Operand.tmp 1), type := 26, pos := "law.go:182", after := #[{ on := 27, ground := Ground.guard }], guard := some (27, false) }) (v := ?v33) rfl (by kernel_rfl) (by kernel_rfl) (by kernel_rfl) (fun _ _ _ h => h) (Or.inl ⟨by rfl, ?y33⟩) (by assumption) ?r33
  case y33 => (intro w hSw; (try dsimp only at hSw); (try (go_split_ands)); go_simp; try with_reducible rfl)
  try simp only [Act.put, List.setIfInBounds_toArray, List.set_cons_zero, List.set_cons_succ]
  refine wpAnyH_take (i := 31) (oi := { dst := some 135, op := Op.call { callee := Callee.builtin Builtin.len, args := #[Operand.tmp 134], argTypes := #[26] }, type := 3, pos := "law.go:182", after := #[{ on := 30, ground := Ground.data }, { on := 27, ground := Ground.guard }], guard := some (27, false) }) (v := ?v34) rfl (by kernel_rfl) (by kernel_rfl) (by kernel_rfl) (fun _ _ _ h => h) (Or.inl ⟨by rfl, ?y34⟩) (by assumption) ?r34
  case y34 => (intro w hSw; (try dsimp only at hSw); (try (go_split_ands)); go_simp; try with_reducible rfl)
  try simp only [Act.put, List.setIfInBounds_toArray, List.set_cons_zero, List.set_cons_succ]
  refine wpAnyH_take (i := 32) (oi := { dst := some 136, op := Op.binOp BinOp.lss 3 (Operand.tmp 133) (Operand.tmp 135) 3, type := 4, pos := "law.go:182", after := #[{ on := 29, ground := Ground.data }, { on := 31, ground := Ground.data }, { on := 27, ground := Ground.guard }], guard := some (27, false) }) (v := (.bool false)) rfl (by kernel_rfl) (by kernel_rfl) (by kernel_rfl) (fun _ _ _ h => h) (.inl ⟨by rfl, fun W hW => by clear hHeld; go_simp; omega⟩) (by assumption) ?_
  try simp only [Act.put, List.setIfInBounds_toArray, List.set_cons_zero, List.set_cons_succ]
  refine wpAnyH_take (i := 33) (oi := { dst := some 137, op := Op.pick (Operand.tmp 131) (Operand.const (Value.bool true)) (Operand.tmp 136), type := 4, pos := "law.go:182", after := #[{ on := 27, ground := Ground.data }, { on := 32, ground := Ground.data }], guard := none }) (v := ?v35) rfl (by kernel_rfl) (by kernel_rfl) (by kernel_rfl) (fun _ _ _ h => h) (Or.inl ⟨by rfl, ?y35⟩) (by assumption) ?r35
  case y35 => (intro w hSw; (try dsimp only at hSw); (try (go_split_ands)); go_simp; try with_reducible rfl)
  try simp only [Act.put, List.setIfInBounds_toArray, List.set_cons_zero, List.set_cons_succ]
  refine wpAnyH_take (i := 34) (oi := { dst := some 138, op := Op.move (Operand.tmp 137), type := 4, pos := "law.go:182", after := #[{ on := 33, ground := Ground.data }, { on := 27, ground := Ground.chain }], guard := none }) (v := ?v36) rfl (by kernel_rfl) (by kernel_rfl) (by kernel_rfl) (fun _ _ _ h => h) (Or.inl ⟨by rfl, ?y36⟩) (by assumption) ?r36
  case y36 => (intro w hSw; (try dsimp only at hSw); (try (go_split_ands)); go_simp; try with_reducible rfl)
  try simp only [Act.put, List.setIfInBounds_toArray, List.set_cons_zero, List.set_cons_succ]
  refine wpAnyH_take (i := 35) (oi := { dst := some 139, op := Op.move (Operand.tmp 17), type := 26, pos := "law.go:182", after := #[{ on := 34, ground := Ground.guard }], guard := some (34, false) }) (v := ?v37) rfl (by kernel_rfl) (by kernel_rfl) (by kernel_rfl) (fun _ _ _ h => h) (Or.inl ⟨by rfl, ?y37⟩) (by assumption) ?r37
  case y37 => (intro w hSw; (try dsimp only at hSw); (try (go_split_ands)); go_simp; try with_reducible rfl)
  try simp only [Act.put, List.setIfInBounds_toArray, List.set_cons_zero, List.set_cons_succ]
  refine wpAnyH_take (i := 36) (oi := { dst := some 140, op := Op.move (Operand.tmp 1), type := 26, pos := "law.go:182", after := #[{ on := 34, ground := Ground.guard }], guard := some (34, false) }) (v := ?v38) rfl (by kernel_rfl) (by kernel_rfl) (by kernel_rfl) (fun _ _ _ h => h) (Or.inl ⟨by rfl, ?y38⟩) (by assumption) ?r38
  case y38 => (intro w hSw; (try dsimp only at hSw); (try (go_split_ands)); go_simp; try with_reducible rfl)
  try simp only [Act.put, List.setIfInBounds_toArray, List.set_cons_zero, List.set_cons_succ]
  refine wpAnyH_take (i := 37) (oi := { dst := some 141, op := Op.call { callee := Callee.builtin Builtin.len, args := #[Operand.tmp 140], argTypes := #[26] }, type := 3, pos := "law.go:182", after := #[{ on := 36, ground := Ground.data }, { on := 34, ground := Ground.guard }], guard := some (34, false) }) (v := ?v39) rfl (by kernel_rfl) (by kernel_rfl) (by kernel_rfl) (fun _ _ _ h => h) (Or.inl ⟨by rfl, ?y39⟩) (by assumption) ?r39
  case y39 => (intro w hSw; (try dsimp only at hSw); (try (go_split_ands)); go_simp; try with_reducible rfl)
  try simp only [Act.put, List.setIfInBounds_toArray, List.set_cons_zero, List.set_cons_succ]
  refine wpAnyH_take (i := 38) (oi := { dst := some 142, op := Op.slice 26 (Operand.tmp 139) none (some (Operand.tmp 141)) none, type := 26, pos := "law.go:182", after := #[{ on := 35, ground := Ground.data }, { on := 37, ground := Ground.data }, { on := 34, ground := Ground.guard }], guard := some (34, false) }) (v := (.slice pa l.length pc)) rfl (by kernel_rfl) (by kernel_rfl) (by kernel_rfl) (fun _ _ _ h => h) (yieldsIf_sliceD rfl 26 (.tmp 139) none (some (.tmp 141)) rfl _ _ _ _ rfl rfl rfl (fun W _ => slice_front pa pn pc l.length hpc'.out W)) (by assumption) ?_
  try simp only [Act.put, List.setIfInBounds_toArray, List.set_cons_zero, List.set_cons_succ]
  refine wpAnyH_take (i := 39) (oi := { dst := some 143, op := Op.convert 26 9 (Operand.tmp 142), type := 9, pos := "law.go:182", after := #[{ on := 38, ground := Ground.data }, { on := 34, ground := Ground.guard }], guard := some (34, false) }) (v := (.string S2)) rfl (by kernel_rfl) (by kernel_rfl) (by kernel_rfl) (fun _ _ _ h => h) (yieldsIf_conv rfl 26 9 (.tmp 142) rfl _ _ rfl (fun W hW => by rw [hS2.out]; exact conv_str 26 9 5 Tryd.underlying26 Tryd.underlying5 Tryd.underlying9 (hBA.out.below hW))) (by assumption) ?_
  try simp only [Act.put, List.setIfInBounds_toArray, List.set_cons_zero, List.set_cons_succ]
  refine wpAnyH_take (i := 40) (oi := { dst := some 144, op := Op.move (Operand.tmp 1), type := 26, pos := "law.go:182", after := #[{ on := 34, ground := Ground.guard }], guard := some (34, false) }) (v := ?v40) rfl (by kernel_rfl) (by kernel_rfl) (by kernel_rfl) (fun _ _ _ h => h) (Or.inl ⟨by rfl, ?y40⟩) (by assumption) ?r40
  case y40 => (intro w hSw; (try dsimp only at hSw); (try (go_split_ands)); go_simp; try with_reducible rfl)
  try simp only [Act.put, List.setIfInBounds_toArray, List.set_cons_zero, List.set_cons_succ]
  refine wpAnyH_take (i := 41) (oi := { dst := some 145, op := Op.convert 26 9 (Operand.tmp 144), type := 9, pos := "law.go:182", after := #[{ on := 40, ground := Ground.data }, { on := 34, ground := Ground.guard }], guard := some (34, false) }) (v := (.string SS)) rfl (by kernel_rfl) (by kernel_rfl) (by kernel_rfl) (fun _ _ _ h => h) (yieldsIf_conv rfl 26 9 (.tmp 144) rfl _ _ rfl (fun W hW => by rw [hSS.out]; exact conv_str 26 9 5 Tryd.underlying26 Tryd.underlying5 Tryd.underlying9 (HVA.out.below hW))) (by assumption) ?_
  try simp only [Act.put, List.setIfInBounds_toArray, List.set_cons_zero, List.set_cons_succ]
  refine wpAnyH_take (i := 42) (oi := { dst := some 146, op := Op.binOp BinOp.neq 9 (Operand.tmp 143) (Operand.tmp 145) 9, type := 4, pos := "law.go:182", after := #[{ on := 39, ground := Ground.data }, { on := 41, ground := Ground.data }, { on := 34, ground := Ground.guard }], guard := some (34, false) }) (v := (.bool false)) rfl (by kernel_rfl) (by kernel_rfl) (by kernel_rfl) (fun _ _ _ h => h) (.inl ⟨by rfl, fun W hW => by clear hHeld; go_simp⟩) (by assumption) ?_
  try simp only [Act.put, List.setIfInBounds_toArray, List.set_cons_zero, List.set_cons_succ]
  refine wpAnyH_take (i := 43) (oi := { dst := some 147, op := Op.pick (Operand.tmp 138) (Operand.const (Value.bool true)) (Operand.tmp 146), type := 4, pos := "law.go:182", after := #[{ on := 34, ground := Ground.data }, { on := 42, ground := Ground.data }], guard := none }) (v := ?v41) rfl (by kernel_rfl) (by kernel_rfl) (by kernel_rfl) (fun _ _ _ h => h) (Or.inl ⟨by rfl, ?y41⟩) (below_drewV (Below.refl _ _)) ?r41
  case y41 => (intro w hSw; (try dsimp only at hSw); (try (go_split_ands)); go_simp; try with_reducible rfl)
  try simp only [Act.put, List.setIfInBounds_toArray, List.set_cons_zero, List.set_cons_succ]
  refine wpAnyH_done (by kernel_rfl) ?_ _
  refine NoPanic.normal ?_
  have hdB : Below wA.heap.size wA wA.drew := below_drewV (Below.refl _ _)
  have hwB := hide (hwA.out.later hdB)
  have hrB := hide (heap_kept hdB hrA.out)
  have hB := hide (heap_kept hdB hA.out)
  clear hHeld hwA hrA hA hBA HVA hdB hmd hms hlt hlt2 hne hqd hqs hqt hpd hps hSS hS2 hpc'
  generalize wA.drew = wB at *
  clear wA
  have hbt : Hid (bitAt plain port = (bits .and .i64 (plain / 2 ^ port.toNat) 1 == 1)) := rfl
  have hpo := ho1.out
  cases hbp : bitAt plain port
  · have hbq : (bits .and .i64 (plain / 2 ^ port.toNat) 1 == 1) = false := hbt.out.symm.trans hbp
    obtain ⟨e1, e2, e3⟩ := hq13.out hbp
    have e0 := hq12.out
    rw [hbp] at e0
    have c12 : wB.cell? ⟨a16, 12, none⟩ = some (.bool true) := (cell_of_row _ _ _ _ _ _ hB.out).trans (by show some (Value.bool H'.tg) = _; rw [e0]; rfl)
    have c13 : wB.cell? ⟨a16, 13, none⟩ = some (.int .i64 pcp) := (cell_of_row _ _ _ _ _ _ hB.out).trans (by show some (Value.int .i64 H'.pcp) = _; rw [e1])
    have c14 : wB.cell? ⟨a16, 14, none⟩ = some (.bool h.de) := (cell_of_row _ _ _ _ _ _ hB.out).trans (by show some (Value.bool H'.de) = _; rw [e2])
    have c15 : wB.cell? ⟨a16, 15, none⟩ = some (.int .i64 vid) := (cell_of_row _ _ _ _ _ _ hB.out).trans (by show some (Value.int .i64 H'.vid) = _; rw [e3])
    have k14 : wB.cell? ⟨w.heap.size, 14, none⟩ = some (.bool h.de) := (cell_of_row _ _ _ _ _ _ hrB.out).trans rfl
    clear hq12 hq13 hbt hbp e0 e1 e2 e3
    go_wp2
    go_ret
    exact ⟨rfl, hwB.out⟩
  · have hbq : (bits .and .i64 (plain / 2 ^ port.toNat) 1 == 1) = true := hbt.out.symm.trans hbp
    have e0 := hq12.out
    rw [hbp] at e0
    have c12 : wB.cell? ⟨a16, 12, none⟩ = some (.bool false) := (cell_of_row _ _ _ _ _ _ hB.out).trans (by show some (Value.bool H'.tg) = _; rw [e0]; rfl)
    clear hq12 hq13 hbt hbp e0
    go_wp2
    go_ret
    exact ⟨rfl, hwB.out⟩
end Go.Proofs.YtiahiakllpjliaaDoor
