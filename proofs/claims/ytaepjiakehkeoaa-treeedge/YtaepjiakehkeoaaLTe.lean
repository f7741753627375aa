/-
  The walk of TreeEdge. Conditions: those that the theorem names.
-/
import Derived.Test.YtaepjiakehkeoaaTree29
import Derived.Test.YtaepjiakehkeoaaLTs
namespace Go.Proofs.Ytaepjiakehkeoaa
open Go.RowKit
set_option linter.unusedVariables false
set_option maxRecDepth 20000

set_option maxHeartbeats 8000000 in
theorem Te_walk (id : Int) (b : Bp) (w : World) (hid : U64 id) (hw : b.wf) : Calls Try.prog 16 #[.int .u64 id, .agg b.row] w fun e w' => e = .returned (.bool true) ∧ Below w.heap.size w w' := by
  have hA := hide (below1 w (.cells b.row 56))
  have hM := hide (heap_alloc_new w (.cells b.row 56))
  go_enter Try.func16, Try.ntmps16
  go_wp2_with fail
  generalize w.alloc (.cells b.row 56) = w1 at *
  have hgl : Hid (w.heap.size < w1.heap.size) := (Array.getElem?_eq_some_iff.1 hM.out).1
  generalize hg : w.heap.size = g at *
  replace hg := hide hg
  refine (grows_any _).mono ?_
  rintro e w0 ⟨rfl, hb0⟩
  replace hb0 := hide hb0
  have hb1 := hide (below1 w0 (.cells #[.int .i64 1, .int .i64 2] 3))
  have hF0 : Fl (w0.alloc (.cells #[.int .i64 1, .int .i64 2] 3)) w0.heap.size 3 fI [1, 2] [] := heap_alloc_new _ _
  have hp := hide (ports_any (some ⟨w0.heap.size, 0, none⟩) 2 2 [1, 2] (w0.alloc (.cells #[.int .i64 1, .int .i64 2] 3)) (by omega) hF0.ins)
  clear hF0
  go_wp2_with fail
  refine hp.out.mono ?_
  rintro e w2 ⟨v1, rfl, hS1, hB1, hF1⟩
  obtain ⟨pb, cap, sp, rfl, hFl, hc1, hc2⟩ := hS1.at_i (by simp)
  have hFl' : Fl w2 pb 50 fT ([portP 1, portP 2].set 0 (portP 1)) sp := hFl
  have hE := hide (hFl'.put wide_T 8 (.bool true) ⟨⟨1, 10, false, false, Vc.zero⟩, true, 0, 0, 0, 0, 0, 0, false⟩ (by simp) (by omega) rfl)
  rw [show [portP 1, portP 2].set 0 ⟨⟨1, 10, false, false, Vc.zero⟩, true, 0, 0, 0, 0, 0, 0, false⟩ = [⟨⟨1, 10, false, false, Vc.zero⟩, true, 0, 0, 0, 0, 0, 0, false⟩, portP 2] from rfl] at hE
  have c8 := (hFl.tp 0 (by simp)).c8
  have z8 := hFl.frozen (0 * 16 + 8)
  simp only [Nat.zero_mul, Nat.zero_add] at c8 z8 hE
  have hpl : w0.heap.size + 1 ≤ pb := by have := hF1 pb rfl; rw [World.size_alloc] at this; exact this
  have hB2 : Hid (Below w1.heap.size w1 (w2.setCell ⟨pb, 8, none⟩ (.bool true))) := (hb0.out.later (hb1.out.later hB1)).setCell (p := ⟨pb, 8, none⟩) (by have := hb0.out.size; show w1.heap.size ≤ pb; omega) _
  have hcap : 2 ≤ cap := hc1
  have hl1 : ([1, 2].map portP).length = 2 := rfl
  rw [hl1]
  clear hp hb1 hB1 hF1 hS1 hFl hFl' hc1 hl1 hb0
  go_wp2_with fail
  generalize w2.setCell ⟨pb, 8, none⟩ (.bool true) = w3 at *
  have hT2 : Hid (Tps w3 (some ⟨pb, 0, none⟩) 2 [⟨⟨1, 10, false, false, Vc.zero⟩, true, 0, 0, 0, 0, 0, 0, false⟩, portP 2]) := ⟨rfl, fun i hi => ⟨pb, 0, rfl, by rw [Nat.zero_add]; exact hE.out.tp i hi, by
    rcases (show i = 0 ∨ i = 1 by omega) with rfl | rfl
    · exact portP_wf 1 (by simp [I64])
    · exact portP_wf 2 (by simp [I64])⟩⟩
  refine (ONew id (some ⟨pb, 0, none⟩) 2 cap [⟨⟨1, 10, false, false, Vc.zero⟩, true, 0, 0, 0, 0, 0, 0, false⟩, portP 2] w3 (fun k => k < w1.heap.size) (fun k hk => Nat.lt_of_lt_of_le hk hB2.out.size) hid (by omega) hcap (by simp) hT2).mono ?_
  rintro e w4 ⟨tb, rfl, hO4, hb4⟩
  have hB4 := hide (hB2.out.later hb4)
  replace hO4 := hide hO4
  clear hB2 hb4 hE hT2 c8 z8
  go_wp2_with fail
  refine (OLink hO4.out (by omega) 0 true).mono ?_
  rintro e w5 ⟨rfl, hO5, hK5⟩
  have hB5 := hide (hK5.below hB4.out (fun k hk => hk))
  have hEE : Hid (linkT (newT id [⟨⟨1, 10, false, false, Vc.zero⟩, true, 0, 0, 0, 0, 0, 0, false⟩, portP 2]) 0 true = E0 id) := rfl
  rw [hEE.out] at hO5
  have hEp := hide (E0_port id)
  have hEo := hide (E0_outs id)
  have hEr : Hid (EdF (recvT (tookT (E0 id)) (0 : Nat) b) 0 (!decide (bcheckE b = 0))) := by
    obtain ⟨f1, f2, f3, f4, f5, f6⟩ := E0_port id
    exact EdF.recv (T := tookT (E0 id)) (i := 0) ⟨f3, fun _ => f5⟩ (by show 0 < (E0 id).ps.length; rw [f1]; omega) f2 f4 b
  have hrl : Hid ((recvT (tookT (E0 id)) (0 : Nat) b).ps.length = 2) := (recvT_len _ _ _).trans hEp.out.1
  have hoi : Hid ((E0 id).outs.length ≤ 40) := hO5.outs
  generalize hT1 : E0 id = T1 at *
  clear hT1 hEE
  have ho5 := hide (OOuts hO5 (by omega))
  have hrT : Hid (∀ (W : World) (A : Nat → Prop), Ow W tb A 0 (tookT T1) → Calls Try.prog 41 #[.pointer (some ⟨tb, 0, none⟩), .int .i64 0, .agg b.row] W fun e w' => e = .returned (.tuple #[]) ∧ Ow w' tb A (0 + 40) (recvT (tookT T1) (0 : Nat) b) ∧ Kp A W w') := fun W A h => OReceive h (by omega) 0 b hw
  have hck := hide (fun (W : World) => BCheck_any b W hw)
  clear hO5 hO4 hK5 hB4
  go_wp2_with fail
  refine ho5.out.mono ?_
  rintro e w6 ⟨v6, rfl, hS6, hF6, hO6, hK6⟩
  obtain ⟨a6, c6, rfl⟩ := hS6.shape
  have hB6 := hide (hK6.below hB5.out (fun k hk => hk))
  have hO7 := hide (hO6.mono (A' := fun k => k < w1.heap.size) (fun k hk => .inl hk))
  have hot : Hid (∀ W : World, Below w6.heap.size w6 W → ∀ i, i < T1.outs.length → ∃ pb, a6 = some ⟨pb, 0, none⟩ ∧ W.rangeAt pb (i * 17) (fO (T1.outs.getD i Ot.zero)) ∧ (T1.outs.getD i Ot.zero).m.proposal = false ∧ (T1.outs.getD i Ot.zero).m.forwarding = true) := fun W hb i hi => by
    obtain ⟨pb, cp, sp, e, hFl, -, -⟩ := hS6.at_i (by omega)
    simp only [Value.slice.injEq] at e
    refine ⟨pb, e.1, (hFl.below hb).range wide_O Ot.zero i hi, ?_⟩
    have e2 : T1.outs.getD i Ot.zero = T1.outs[i] := by simp [hi]
    rw [e2]
    exact hEo.out _ (List.getElem_mem hi)
  clear ho5 hS6 hF6 hO6 hK6 hB5 hEo
  have hML := hoi.out
  generalize hMe : T1.outs.length = M at *
  replace hMe := hide hMe
  go_wp2_with fail
  go_loopw [26] (fun i wr => ∃ x : Nat, x ≤ M ∧ i = .int .i64 x ∧ Hid (Below w6.heap.size w6 wr)) (fun i _ => M - (intOf i).toNat)
  case atStart => exact ⟨0, Nat.zero_le _, rfl, hide (Below.refl _ _)⟩
  case round =>
    obtain ⟨z, hz, rfl, hbz⟩ := hrel
    by_cases hzl : z < M
    · obtain ⟨pbo, rfl, hrg0, q1, q2⟩ := hot.out _ hbz.out z hzl
      replace hrg0 := hide hrg0
      generalize T1.outs.getD z Ot.zero = ot at *
      obtain ⟨op, ⟨m0, m1, m2, m3, m4, m5, m6, m7, m8, m9, m10, m11, m12, m13, m14, m15⟩⟩ := ot
      dsimp only at q1 q2
      subst q1 q2
      have hrg := hrg0.out
      clear hrg0
      go_wp2_with (first | ((with_reducible change wpList _ _ _ _ _ _); refine wpList_load_mid rfl 72 (.tmp 28) rfl pbo (z * 17) rfl (fO ⟨op, ⟨m0, m1, m2, m3, m4, m5, m6, false, m8, m9, true, m11, m12, m13, m14, m15⟩⟩) _ hrg Try.underlying72 rfl (otLen _) ?_) | ((with_reducible change wpList _ _ _ _ _ _); refine wpList_store_fresh rfl 72 (.tmp 8) (.tmp 29) rfl (Ot.row ⟨op, ⟨m0, m1, m2, m3, m4, m5, m6, false, m8, m9, true, m11, m12, m13, m14, m15⟩⟩) Ot.zero.row rfl rfl 72 (otSize _) rfl (Ot.row_all _) ?_; intro w11 hH11 hb11; refine unhB ?_))
      have k8 : w11.cell? ⟨wr.heap.size, 8, none⟩ = some (.bool false) := (cell_of_row _ _ _ _ _ _ hH11).trans rfl
      have k11 : w11.cell? ⟨wr.heap.size, 11, none⟩ = some (.bool true) := (cell_of_row _ _ _ _ _ _ hH11).trans rfl
      have hb12 := hide (hbz.out.later hb11)
      clear hb11 hrg hbz hH11
      refine hide ?_
      go_wp2
      go_round
      case rel => exact ⟨z + 1, by omega, by go_num, hb12⟩
      case measure => simp [intOf]; omega
    · obtain rfl : M = z := by omega
      have hO8 := hO7.out.below hbz.out
      have hB8 := hide (hB6.out.later hbz.out)
      have hp8 := hide (OPorts hO8)
      replace hO8 := hide hO8
      clear hO7 hB6 hbz hot
      go_wp2_with fail
      refine hp8.out.mono ?_
      rintro e w9 ⟨v9, rfl, hS9, hb9, hf9⟩
      have hl9 : (tookT T1).ps.length = 2 := hEp.out.1
      obtain ⟨pb9, cap9, sp9, rfl, hFl9, hcc9, -⟩ := hS9.at_i (by rw [hl9]; omega)
      have hrg := hFl9.range wide_T Tp.zero 0 (by rw [hl9]; omega)
      have hO9 := hide (hO8.out.below hb9)
      have hB9 := hide (hB8.out.later hb9)
      have hat : Hid ((tookT T1).ps.getD 0 Tp.zero = T1.at 0) := rfl
      rw [hat.out] at hrg
      simp only [Nat.zero_mul] at hrg
      rw [hl9] at hcc9 ⊢
      obtain ⟨-, -, f3, f4, f5, -⟩ := hEp.out
      clear hp8 hS9 hb9 hf9 hO8 hB8 hFl9 hl9 hat hEp
      generalize T1.at 0 = tp at *
      obtain ⟨⟨pid, cost, up, has, ⟨x0, x1, x2, x3⟩⟩, ed, ro, st, age, left, wait, ch, agr⟩ := tp
      dsimp only at f3 f4 f5
      subst f3 f4 f5
      go_wp2_with (first | ((with_reducible change wpList _ _ _ _ _ _); refine wpList_load_mid rfl 50 (.tmp 42) rfl pb9 0 rfl (fT ⟨⟨pid, cost, up, has, ⟨x0, x1, x2, x3⟩⟩, true, 2, 2, age, left, wait, ch, agr⟩) _ hrg Try.underlying50 rfl (tpLen _) ?_) | ((with_reducible change wpList _ _ _ _ _ _); refine wpList_store_fresh rfl 50 (.tmp 9) (.tmp 43) rfl (Tp.row ⟨⟨pid, cost, up, has, ⟨x0, x1, x2, x3⟩⟩, true, 2, 2, age, left, wait, ch, agr⟩) Tp.zero.row rfl rfl 50 (tpSize _) rfl (Tp.row_all _) ?_; intro w10 hH10 hb10; refine unhB ?_))
      have hB10 := hide (hB9.out.later hb10)
      have hM10 := hide (heap_kept hB10.out hM.out)
      have hO10 := hO9.out.fresh hb10 (fun k => k < w1.heap.size ∨ k = w9.heap.size) (fun k hk => by
        rcases hk with h | h
        · exact .inl h
        · exact .inr ⟨by omega, by have := (Array.getElem?_eq_some_iff.1 hH10).1; omega⟩)
      have hr10 := hide (hrT.out _ _ hO10)
      replace hH10 := hide hH10
      clear hb10 hrg hO9 hB9 hO10 hrT
      refine hide ?_
      go_wp2_with ((with_reducible change wpList _ _ _ _ _ _); refine wpList_load_row rfl 56 (.tmp 3) rfl g rfl 56 _ _ _ hM10.out Try.underlying56 rfl (bpSize Bp.zero) ?_)
      refine hr10.out.mono ?_
      rintro e w11 ⟨rfl, hO11, hK11⟩
      have hB11 := hide (hK11.below hB10.out (fun k hk => .inl hk))
      have hH11 := hide ((hK11.block w9.heap.size (.inr rfl)).trans hH10.out)
      have hp11 := hide (OPorts hO11)
      clear hr10 hK11 hH10 hM10 hB10 hO11
      go_wp2_with fail
      refine hp11.out.mono ?_
      rintro e w12 ⟨v12, rfl, hS12, hb12, hf12⟩
      obtain ⟨pb12, cap12, sp12, rfl, hFl12, hcc12, -⟩ := hS12.at_i (by rw [hrl.out]; omega)
      have hrg := hFl12.range wide_T Tp.zero 0 (by rw [hrl.out]; omega)
      have hB12 := hide (hB11.out.later hb12)
      have hH12 := hide (heap_kept hb12 hH11.out)
      have hat : Hid ((recvT (tookT T1) (0 : Nat) b).ps.getD 0 Tp.zero = (recvT (tookT T1) (0 : Nat) b).at 0) := rfl
      rw [hat.out] at hrg
      simp only [Nat.zero_mul] at hrg
      rw [hrl.out] at hcc12 ⊢
      obtain ⟨e1, e2⟩ := hEr.out
      clear hp11 hS12 hb12 hf12 hB11 hFl12 hat hEr hrl hH11
      generalize (recvT (tookT T1) (0 : Nat) b).at 0 = tp at *
      obtain ⟨⟨pid', cost', up', has', ⟨y0, y1, y2, y3⟩⟩, ed', ro', st', age', left', wait', ch', agr'⟩ := tp
      dsimp only at e1 e2
      replace e1 := hide e1
      replace e2 := hide e2
      go_wp2_with (first | ((with_reducible change wpList _ _ _ _ _ _); refine wpList_load_mid rfl 50 (.tmp 49) rfl pb12 0 rfl (fT ⟨⟨pid', cost', up', has', ⟨y0, y1, y2, y3⟩⟩, ed', ro', st', age', left', wait', ch', agr'⟩) _ hrg Try.underlying50 rfl (tpLen _) ?_) | ((with_reducible change wpList _ _ _ _ _ _); refine wpList_store_fresh rfl 50 (.tmp 10) (.tmp 50) rfl (Tp.row ⟨⟨pid', cost', up', has', ⟨y0, y1, y2, y3⟩⟩, ed', ro', st', age', left', wait', ch', agr'⟩) Tp.zero.row rfl rfl 50 (tpSize _) rfl (Tp.row_all _) ?_; intro w13 hH13 hb13; refine unhB ?_))
      have hB13 := hide (hB12.out.later hb13)
      have hM13 := hide (heap_kept hB13.out hM.out)
      have hG13 := hide (heap_kept hb13 hH12.out)
      replace hH13 := hide hH13
      clear hb13 hrg hB12 hH12
      refine hide ?_
      go_wp2_with fail
      have hSS : Hid (∀ W : World, Below w13.heap.size w13 W → W.cell? ⟨w9.heap.size, 8, none⟩ = some (.bool true) ∧ W.cell? ⟨w9.heap.size, 10, none⟩ = some (.int .i64 2) ∧ W.cell? ⟨w12.heap.size, 8, none⟩ = some (.bool ed') ∧ W.heap[g]? = some (.cells b.row 56 (0, 0))) := fun W hb => ⟨(cell_of_row _ _ _ _ _ _ (heap_kept hb hG13.out)).trans rfl, (cell_of_row _ _ _ _ _ _ (heap_kept hb hG13.out)).trans rfl, (cell_of_row _ _ _ _ _ _ (heap_kept hb hH13.out)).trans rfl, heap_kept hb hM13.out⟩
      have hbd : Below w13.heap.size w13 w13.drew := below_drewN (Below.refl _ _) 1
      refine wp_region_noPanic ?_
      refine wp_region_held_drew (S := fun W => W.cell? ⟨w9.heap.size, 8, none⟩ = some (.bool true) ∧ W.cell? ⟨w9.heap.size, 10, none⟩ = some (.int .i64 2) ∧ W.cell? ⟨w12.heap.size, 8, none⟩ = some (.bool ed') ∧ W.heap[g]? = some (.cells b.row 56 (0, 0))) (by kernel_rfl) (hSS.out _ hbd) (fun hHeld => ?_)
      refine wpAnyH_take (i := 0) (oi := { dst := some 51, op := Op.fieldAddr 50 (Operand.tmp 9) 1, type := 0, pos := "law.go:373", after := #[], guard := none }) (v := ?v1) rfl (by kernel_rfl) (by kernel_rfl) (by kernel_rfl) (fun _ _ _ h => h) (Or.inl ⟨by rfl, ?y1⟩) (by assumption) ?r1
      case y1 => (intro w hSw; (try dsimp only at hSw); (try (go_split_ands)); go_simp; try with_reducible rfl)
      try simp only [Act.put, List.setIfInBounds_toArray, List.set_cons_zero, List.set_cons_succ]
      refine wpAnyH_take (i := 1) (oi := { dst := some 52, op := Op.load 4 (Operand.tmp 51), type := 4, pos := "law.go:373", after := #[{ on := 0, ground := Ground.data }], guard := none }) (v := ?v2) rfl (by kernel_rfl) (by kernel_rfl) (by kernel_rfl) (fun _ _ _ h => h) (Or.inl ⟨by rfl, ?y2⟩) (by assumption) ?r2
      case y2 => (intro w hSw; (try dsimp only at hSw); (try (go_split_ands)); go_simp; try with_reducible rfl)
      try simp only [Act.put, List.setIfInBounds_toArray, List.set_cons_zero, List.set_cons_succ]
      refine wpAnyH_take (i := 2) (oi := { dst := some 53, op := Op.unOp UnOp.not 4 (Operand.tmp 52), type := 4, pos := "law.go:373", after := #[{ on := 1, ground := Ground.data }], guard := none }) (v := ?v3) rfl (by kernel_rfl) (by kernel_rfl) (by kernel_rfl) (fun _ _ _ h => h) (Or.inl ⟨by rfl, ?y3⟩) (by assumption) ?r3
      case y3 => (intro w hSw; (try dsimp only at hSw); (try (go_split_ands)); go_simp; try with_reducible rfl)
      try simp only [Act.put, List.setIfInBounds_toArray, List.set_cons_zero, List.set_cons_succ]
      refine wpAnyH_take (i := 3) (oi := { dst := some 54, op := Op.move (Operand.tmp 53), type := 4, pos := "law.go:373", after := #[{ on := 2, ground := Ground.data }], guard := none }) (v := ?v4) rfl (by kernel_rfl) (by kernel_rfl) (by kernel_rfl) (fun _ _ _ h => h) (Or.inl ⟨by rfl, ?y4⟩) (by assumption) ?r4
      case y4 => (intro w hSw; (try dsimp only at hSw); (try (go_split_ands)); go_simp; try with_reducible rfl)
      try simp only [Act.put, List.setIfInBounds_toArray, List.set_cons_zero, List.set_cons_succ]
      refine wpAnyH_take (i := 4) (oi := { dst := some 55, op := Op.fieldAddr 50 (Operand.tmp 9) 3, type := 0, pos := "law.go:373", after := #[{ on := 3, ground := Ground.guard }], guard := some (3, false) }) (v := ?v5) rfl (by kernel_rfl) (by kernel_rfl) (by kernel_rfl) (fun _ _ _ h => h) (Or.inl ⟨by rfl, ?y5⟩) (by assumption) ?r5
      case y5 => (intro w hSw; (try dsimp only at hSw); (try (go_split_ands)); go_simp; try with_reducible rfl)
      try simp only [Act.put, List.setIfInBounds_toArray, List.set_cons_zero, List.set_cons_succ]
      refine wpAnyH_take (i := 5) (oi := { dst := some 56, op := Op.load 3 (Operand.tmp 55), type := 3, pos := "law.go:373", after := #[{ on := 4, ground := Ground.data }, { on := 3, ground := Ground.guard }], guard := some (3, false) }) (v := ?v6) rfl (by kernel_rfl) (by kernel_rfl) (by kernel_rfl) (fun _ _ _ h => h) (Or.inl ⟨by rfl, ?y6⟩) (by assumption) ?r6
      case y6 => (intro w hSw; (try dsimp only at hSw); (try (go_split_ands)); go_simp; try with_reducible rfl)
      try simp only [Act.put, List.setIfInBounds_toArray, List.set_cons_zero, List.set_cons_succ]
      refine wpAnyH_take (i := 6) (oi := { dst := some 57, op := Op.binOp BinOp.neq 3 (Operand.tmp 56) (Operand.const (Value.int IntKind.i64 2)) 3, type := 4, pos := "law.go:373", after := #[{ on := 5, ground := Ground.data }, { on := 3, ground := Ground.guard }], guard := some (3, false) }) (v := ?v7) rfl (by kernel_rfl) (by kernel_rfl) (by kernel_rfl) (fun _ _ _ h => h) (Or.inl ⟨by rfl, ?y7⟩) (by assumption) ?r7
      case y7 => (intro w hSw; (try dsimp only at hSw); (try (go_split_ands)); go_simp; try with_reducible rfl)
      try simp only [Act.put, List.setIfInBounds_toArray, List.set_cons_zero, List.set_cons_succ]
      refine wpAnyH_take (i := 7) (oi := { dst := some 58, op := Op.pick (Operand.tmp 54) (Operand.const (Value.bool true)) (Operand.tmp 57), type := 4, pos := "law.go:373", after := #[{ on := 3, ground := Ground.data }, { on := 6, ground := Ground.data }], guard := none }) (v := ?v8) rfl (by kernel_rfl) (by kernel_rfl) (by kernel_rfl) (fun _ _ _ h => h) (Or.inl ⟨by rfl, ?y8⟩) (by assumption) ?r8
      case y8 => (intro w hSw; (try dsimp only at hSw); (try (go_split_ands)); go_simp; try with_reducible rfl)
      try simp only [Act.put, List.setIfInBounds_toArray, List.set_cons_zero, List.set_cons_succ]
      refine wpAnyH_take (i := 8) (oi := { dst := some 59, op := Op.move (Operand.tmp 58), type := 4, pos := "law.go:373", after := #[{ on := 7, ground := Ground.data }, { on := 3, ground := Ground.chain }], guard := none }) (v := ?v9) rfl (by kernel_rfl) (by kernel_rfl) (by kernel_rfl) (fun _ _ _ h => h) (Or.inl ⟨by rfl, ?y9⟩) (by assumption) ?r9
      case y9 => (intro w hSw; (try dsimp only at hSw); (try (go_split_ands)); go_simp; try with_reducible rfl)
      try simp only [Act.put, List.setIfInBounds_toArray, List.set_cons_zero, List.set_cons_succ]
      refine wpAnyH_take (i := 9) (oi := { dst := some 60, op := Op.fieldAddr 50 (Operand.tmp 10) 1, type := 0, pos := "law.go:373", after := #[{ on := 8, ground := Ground.guard }], guard := some (8, false) }) (v := ?v10) rfl (by kernel_rfl) (by kernel_rfl) (by kernel_rfl) (fun _ _ _ h => h) (Or.inl ⟨by rfl, ?y10⟩) (by assumption) ?r10
      case y10 => (intro w hSw; (try dsimp only at hSw); (try (go_split_ands)); go_simp; try with_reducible rfl)
      try simp only [Act.put, List.setIfInBounds_toArray, List.set_cons_zero, List.set_cons_succ]
      refine wpAnyH_take (i := 10) (oi := { dst := some 61, op := Op.load 4 (Operand.tmp 60), type := 4, pos := "law.go:373", after := #[{ on := 9, ground := Ground.data }, { on := 8, ground := Ground.guard }], guard := some (8, false) }) (v := ?v11) rfl (by kernel_rfl) (by kernel_rfl) (by kernel_rfl) (fun _ _ _ h => h) (Or.inl ⟨by rfl, ?y11⟩) (by assumption) ?r11
      case y11 => (intro w hSw; (try dsimp only at hSw); (try (go_split_ands)); go_simp; try with_reducible rfl)
      try simp only [Act.put, List.setIfInBounds_toArray, List.set_cons_zero, List.set_cons_succ]
      refine wpAnyH_take (i := 11) (oi := { dst := some 62, op := Op.load 56 (Operand.tmp 3), type := 56, pos := "law.go:373", after := #[{ on := 8, ground := Ground.guard }], guard := some (8, false) }) (v := _) rfl (by kernel_rfl) (by kernel_rfl) (by kernel_rfl) (fun _ _ _ h => h) (yieldsIf_load_row rfl 56 (.tmp 3) rfl g rfl 56 _ _ _ (fun W hW => hW.2.2.2) Try.underlying56 rfl (bpSize Bp.zero)) (by assumption) ?_
      try simp only [Act.put, List.setIfInBounds_toArray, List.set_cons_zero, List.set_cons_succ]
      refine wpAnyH_ready (rs := [12]) (by kernel_rfl) (by simp) ?_
      refine AllReadyH.cons (o := { dst := some 63, op := Op.call { callee := Callee.value (Operand.func 30), args := #[Operand.tmp 62], argTypes := #[56] }, type := 61, pos := "law.go:373", after := #[{ on := 11, ground := Ground.data }, { on := 8, ground := Ground.chain }, { on := 8, ground := Ground.guard }], guard := some (8, false) }) rfl (fun K hK => ?_) AllReadyH.nil
      go_simp
      refine (hck.out _).mono ?_
      rintro e w14 ⟨rfl, hb14⟩
      have hb15 := hbd.later hb14
      clear hb14
      generalize hce : bcheckE b = ce at *
      replace hce := hide hce
      go_wp2_with fail
      refine hK.out _ _ ?_ (fun hHeld12 => ?_)
      · exact hSS.out _ hb15
      clear hK K
      try simp only [Act.put, List.setIfInBounds_toArray, List.set_cons_zero, List.set_cons_succ]
      refine wpAnyH_take (i := 13) (oi := { dst := some 64, op := Op.binOp BinOp.neq 61 (Operand.tmp 63) (Operand.const (Value.int IntKind.i64 0)) 61, type := 4, pos := "law.go:373", after := #[{ on := 12, ground := Ground.data }, { on := 8, ground := Ground.guard }], guard := some (8, false) }) (v := ?v12) rfl (by kernel_rfl) (by kernel_rfl) (by kernel_rfl) (fun _ _ _ h => h) (Or.inl ⟨by rfl, ?y12⟩) (by assumption) ?r12
      case y12 => (intro w hSw; (try dsimp only at hSw); (try (go_split_ands)); go_simp; try with_reducible rfl)
      try simp only [Act.put, List.setIfInBounds_toArray, List.set_cons_zero, List.set_cons_succ]
      refine wpAnyH_take (i := 14) (oi := { dst := some 65, op := Op.binOp BinOp.neq 4 (Operand.tmp 61) (Operand.tmp 64) 4, type := 4, pos := "law.go:373", after := #[{ on := 10, ground := Ground.data }, { on := 13, ground := Ground.data }, { on := 8, ground := Ground.guard }], guard := some (8, false) }) (v := ?v13) rfl (by kernel_rfl) (by kernel_rfl) (by kernel_rfl) (fun _ _ _ h => h) (Or.inl ⟨by rfl, ?y13⟩) (by assumption) ?r13
      case y13 => (intro w hSw; (try dsimp only at hSw); (try (go_split_ands)); go_simp; try with_reducible rfl)
      try simp only [Act.put, List.setIfInBounds_toArray, List.set_cons_zero, List.set_cons_succ]
      refine wpAnyH_take (i := 15) (oi := { dst := some 66, op := Op.pick (Operand.tmp 59) (Operand.const (Value.bool true)) (Operand.tmp 65), type := 4, pos := "law.go:373", after := #[{ on := 8, ground := Ground.data }, { on := 14, ground := Ground.data }], guard := none }) (v := ?v14) rfl (by kernel_rfl) (by kernel_rfl) (by kernel_rfl) (fun _ _ _ h => h) (Or.inl ⟨by rfl, ?y14⟩) (by assumption) ?r14
      case y14 => (intro w hSw; (try dsimp only at hSw); (try (go_split_ands)); go_simp; try with_reducible rfl)
      try simp only [Act.put, List.setIfInBounds_toArray, List.set_cons_zero, List.set_cons_succ]
      refine wpAnyH_done (by kernel_rfl) ?_ _
      refine NoPanic.normal ?_
      have hB16 : Hid (Below w.heap.size w w14) := by have h1 := hA.out; rw [← hg.out] at h1; exact h1.later (hB13.out.later hb15)
      have hH16 := heap_kept hb15 hH13.out
      have k9 : w14.cell? ⟨w12.heap.size, 9, none⟩ = some (.int .i64 ro') := (cell_of_row _ _ _ _ _ _ hH16).trans rfl
      have k10 : w14.cell? ⟨w12.heap.size, 10, none⟩ = some (.int .i64 st') := (cell_of_row _ _ _ _ _ _ hH16).trans rfl
      clear hHeld hHeld12 hSS hbd hb15 hH16 hH13 hG13 hM13 hB13 hck
      clear hA hM
      by_cases hc : ce = 0
      · subst hc
        obtain rfl : ed' = false := by simpa using e1.out
        clear e1 hce
        by_cases r2 : ro' = 2
        · have hst : st' = 2 := e2.out (.inr r2)
          subst r2 hst
          clear e2
          go_wp2
          go_ret
          exact ⟨rfl, hB16.out⟩
        · have r2q : (ro' != 2) = true := bne_yes8 r2
          by_cases r1 : ro' = 1
          · have hst : st' = 2 := e2.out (.inl r1)
            subst r1 hst
            clear e2
            go_wp2
            go_ret
            exact ⟨rfl, hB16.out⟩
          · have r1q : (ro' != 1) = true := bne_yes8 r1
            clear e2 r1 r2
            go_wp2
            go_ret
            exact ⟨rfl, hB16.out⟩
      · obtain rfl : ed' = true := by simpa [hc] using e1.out
        have hcq : (ce != 0) = true := bne_yes8 hc
        have hcq2 : (ce == 0) = false := by rw [beq_eq_false_iff_ne]; exact hc
        have hcq3 : decide (ce = 0) = false := decide_eq_false hc
        clear e1 hce
        rw [hcq]
        by_cases r2 : ro' = 2
        · have hst : st' = 2 := e2.out (.inr r2)
          subst r2 hst
          clear e2
          go_wp2
          go_ret
          exact ⟨rfl, hB16.out⟩
        · have r2q : (ro' != 2) = true := bne_yes8 r2
          by_cases r1 : ro' = 1
          · have hst : st' = 2 := e2.out (.inl r1)
            subst r1 hst
            clear e2
            go_wp2
            go_ret
            exact ⟨rfl, hB16.out⟩
          · have r1q : (ro' != 1) = true := bne_yes8 r1
            clear e2 r1 r2
            go_wp2
            go_ret
            exact ⟨rfl, hB16.out⟩
end Go.Proofs.Ytaepjiakehkeoaa
