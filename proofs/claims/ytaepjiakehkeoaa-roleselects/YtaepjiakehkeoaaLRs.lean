/-
  The walk of RoleSelects. Conditions: those that the theorem names.
-/
import Derived.Test.YtaepjiakehkeoaaRef9
namespace Go.Proofs.Ytaepjiakehkeoaa
open Go.RowKit
set_option linter.unusedVariables false
set_option maxRecDepth 20000

theorem Try.infoRr : (Try.prog.info? 91).map (fun i => (i.zero, i.size, i.bytes)) = some (some (.agg (fP Rp.zero).toArray), 8, 56) := by kernel_rfl
theorem sty_R : Sty Try.prog 34 91 8 56 := by
  obtain ⟨i, h1, h2, h3, h4⟩ := info_parts Try.infoRr
  exact ⟨Try.underlying34, ⟨i, _, h1, h2, h3, h4, rfl⟩, by omega⟩
set_option maxHeartbeats 1000000 in
theorem plain_any (a : Option Addr) (n cap : Nat) (ps : List Rp) (w : World) (hn : n ≤ 60) (hI : Hid (Rps w a n ps)) :
    Calls Try.prog 21 #[.slice a n cap] w fun e w' => ∃ v, e = .returned v ∧ Sl w' v 91 8 fP ps ∧ Below w.heap.size w w' := by
  have hps := hI.out.1
  go_enter Try.func21, Try.ntmps21
  go_wp2_with fail
  go_loopw [8, 3] (fun i v wr => ∃ j : Nat, j ≤ n ∧ i = .int .i64 j ∧ Hid (Below w.heap.size w wr) ∧ Hid (Sl wr v 91 8 fP (ps.take j)) ∧ Hid (∀ x, v.ownBlock = some x → w.heap.size ≤ x)) (fun i _ _ => n - (intOf i).toNat)
  case atStart => exact ⟨0, Nat.zero_le _, rfl, hide (Below.refl _ _), by rw [List.take_zero]; exact Sl.nil _ _ _ _, fun x e => by simp [Value.ownBlock] at e⟩
  case round =>
    obtain ⟨j, hj, rfl, hB, hS, hO⟩ := hrel
    by_cases hlt : j < n
    · obtain ⟨bb, off, rfl, hP, hwf⟩ := (hI.out.below hB.out).2 j hlt
      have hTk : Hid (ps.take j ++ [ps.getD j Rp.zero] = ps.take (j + 1)) := take_push _ _ _ (by omega)
      have hll : (ps.take j).length ≤ 60 := by rw [List.length_take]; omega
      generalize hT1 : ps.take (j + 1) = lt1 at *
      generalize ps.take j = lt at *
      replace hT1 := hide hT1
      generalize ps.getD j Rp.zero = p at *
      obtain ⟨id, cost, up, has, ⟨a0, a1, a2, a3⟩⟩ := p
      obtain ⟨c0, c1, c2, c3, c4, c5, c6, c7⟩ := hP
      dsimp only at *
      have hbA : Hid (Below wr.heap.size wr ((wr.alloc (.cells (Rp.row ⟨id, cost, up, has, ⟨a0, a1, a2, a3⟩⟩) 38)).alloc (.cells (Rp.row ⟨id, cost, up, has, ⟨a0, a1, a2, a3⟩⟩) 91))) := (below1 _ _).later (below1 _ _)
      have hSk : Hid (((wr.alloc (.cells (Rp.row ⟨id, cost, up, has, ⟨a0, a1, a2, a3⟩⟩) 38)).alloc (.cells (Rp.row ⟨id, cost, up, has, ⟨a0, a1, a2, a3⟩⟩) 91)).heap[wr.heap.size + 1]? = some (.cells (Rp.row ⟨id, cost, up, has, ⟨a0, a1, a2, a3⟩⟩) 91)) := heap_alloc2_newB wr (.cells (Rp.row ⟨id, cost, up, has, ⟨a0, a1, a2, a3⟩⟩) 38) (.cells (Rp.row ⟨id, cost, up, has, ⟨a0, a1, a2, a3⟩⟩) 91)
      go_wp2_with (at_builtin; refine unhR9 ?_)
      have hS3 := hide (hS.out.below hbA.out)
      have hB3 := hide (hB.out.later hbA.out)
      have hs3 : Hid (w.heap.size ≤ ((wr.alloc (.cells (Rp.row ⟨id, cost, up, has, ⟨a0, a1, a2, a3⟩⟩) 38)).alloc (.cells (Rp.row ⟨id, cost, up, has, ⟨a0, a1, a2, a3⟩⟩) 91)).heap.size) := hB3.out.size
      clear c0 c1 c2 c3 c4 c5 c6 c7 hB hS hbA
      generalize (wr.alloc (.cells (Rp.row ⟨id, cost, up, has, ⟨a0, a1, a2, a3⟩⟩) 38)).alloc (.cells (Rp.row ⟨id, cost, up, has, ⟨a0, a1, a2, a3⟩⟩) 91) = w3 at *
      refine hide ?_
      refine wpList_append_sl rfl (.tmp 12) (.tmp 24) rfl wide_P sty_R u3 lt rfl hS3.out ⟨wr.heap.size + 1, 0, none⟩ 1 1 [⟨id, cost, up, has, ⟨a0, a1, a2, a3⟩⟩] rfl rfl (fun x u hx => ?_) (by simp; omega) (by omega) ?_
      · rw [Addr.add_lit, cell_of_row _ _ _ _ _ _ hSk.out, ← hx]
        simp [flat]
      intro v4 w4 hS4 hg4 ho4
      rw [hTk.out] at hS4
      have hB4 : Hid (Below w.heap.size w w4) := grown_below hg4 hB3.out hs3.out hO.out
      have hO4 : Hid (∀ x, v4.ownBlock = some x → w.heap.size ≤ x) := fun x e => by
        rcases ho4 with e1 | e1
        · rw [e1] at e; exact hO.out x e
        · rw [e1] at e; simp only [Option.some.injEq] at e; have := hs3.out; omega
      replace hS4 := hide hS4
      obtain ⟨av, cv, rfl⟩ := hS4.out.shape
      clear hg4 ho4 hS3 hB3 hSk hs3 hTk
      generalize hln : lt1.length = ltn at *
      replace hln := hide hln
      go_wp2
      go_round
      case rel => exact ⟨j + 1, by omega, by go_num, hB4, by rw [hT1.out]; exact hS4, hO4⟩
      case measure => simp [intOf]; omega
    · obtain rfl : n = j := by omega
      have hfull : Hid (Sl wr u3 91 8 fP ps) := by
        have h1 := hS.out; rw [List.take_of_length_le (by omega)] at h1; exact h1
      clear hS
      go_wp2
      go_ret
      exact ⟨_, rfl, hfull.out, hB.out⟩
theorem Sl.rpsR {w : World} {v : Value} {l : List Rp} (h : Sl w v 91 8 fP l) (hw : ∀ i, i < l.length → (l.getD i Rp.zero).wf) : ∃ a cap, v = .slice a l.length cap ∧ Rps w a l.length l := by
  rcases h with ⟨rfl, rfl⟩ | ⟨b, cap, sp, rfl, h1, h2, h3, h4⟩
  · exact ⟨none, 0, rfl, rfl, fun i hi => by simp at hi⟩
  · refine ⟨_, cap, rfl, rfl, fun i hi => ⟨b, 0, rfl, ?_, hw i hi⟩⟩
    have g := fun k hk => h1.cell wide_P Rp.zero i k hi hk
    rw [Nat.zero_add]
    exact ⟨g 0 (by omega), g 1 (by omega), g 2 (by omega), g 3 (by omega), g 4 (by omega), g 5 (by omega), g 6 (by omega), g 7 (by omega)⟩
theorem wf_of_rpsS {w : World} {a : Option Addr} {n : Nat} {ps : List Rp} (h : Rps w a n ps) : ∀ i, i < ps.length → (ps.getD i Rp.zero).wf := fun i hi => by
  rw [h.1] at hi
  obtain ⟨_, _, _, _, h⟩ := h.2 i hi
  exact h
set_option maxHeartbeats 4000000 in
theorem Rs_walk (b : Int) (a : Option Addr) (n cap : Nat) (ps : List Rp) (W0 : World) (hbU : U64 b) (hI : Rps W0 a n ps) :
    Calls Try.prog 3 #[.int .u64 b, .slice a n cap] W0 fun e W' => e = .returned (.bool true) ∧ Below W0.heap.size W0 W' := by
  replace hI := hide hI
  go_enter Try.func3, Try.ntmps3
  go_wp2_with fail
  refine (selects_ok _).mono ?_
  rintro e w1 ⟨rfl, hb1⟩
  have hB1 := hide hb1
  have hI1 := hide (hI.out.below hb1)
  clear hb1 hI
  by_cases hbig : 60 < n
  · go_wp2
    go_ret
    exact ⟨rfl, hB1.out⟩
  go_wp2_with fail
  refine (Select_any b a n cap ps w1 (by omega) hI1).mono ?_
  rintro e w2 ⟨ia, va, rfl, hb2, hle1, hle2, hne, hi2, hv2⟩
  have hSA2 : Hid (Sel w2 ia va n b ps) := ⟨hI1.out.1, hi2, hv2⟩
  have hB2 := hide (hB1.out.later hb2)
  have hI2 := hide (hI1.out.below hb2)
  clear hi2 hv2 hb2 hB1 hI1
  have hps := hI2.out.1
  have hwfs := hide (wf_of_rpsS hI2.out)
  have hYwf : Hid ((bestW b ps n).v.wf) := bestW_wf b _ n hbU (fun i hi => hwfs.out i (by omega))
  generalize hYE : bestW b ps n = Y at *
  replace hYE := hide hYE
  obtain ⟨⟨y0, y1, y2, y3⟩, y4, y5⟩ := Y
  dsimp only at *
  go_wp2_with fail
  have hA3 := below1 w2 (.cells (rolesRow ⟨y0, y1, y2, y3⟩ y4 (.slice (some ⟨ia, 0, none⟩) n n) (.slice (some ⟨va, 0, none⟩) n n)) 30)
  have hG3 := hide (heap_alloc_new w2 (.cells (rolesRow ⟨y0, y1, y2, y3⟩ y4 (.slice (some ⟨ia, 0, none⟩) n n) (.slice (some ⟨va, 0, none⟩) n n)) 30))
  have hSA3 := hide (hSA2.out.below hA3)
  have hB3 := hide (hB2.out.later hA3)
  have hI3 := hide (hI2.out.below hA3)
  clear hA3 hSA2 hB2 hI2
  generalize w2.alloc (.cells (rolesRow ⟨y0, y1, y2, y3⟩ y4 (.slice (some ⟨ia, 0, none⟩) n n) (.slice (some ⟨va, 0, none⟩) n n)) 30) = w3 at *
  generalize w2.heap.size = g1 at *
  refine (plain_any a n cap ps w3 (by omega) hI3).mono ?_
  rintro e w4 ⟨v4, rfl, hS4, hb4⟩
  obtain ⟨a4, c4, rfl, hR4⟩ := hS4.rpsR hwfs.out
  rw [hps] at hR4
  rw [hps]
  replace hR4 := hide hR4
  have hSA4 := hide (hSA3.out.below hb4)
  have hG4 := hide (heap_kept hb4 hG3.out)
  have hB4 := hide (hB3.out.later hb4)
  clear hS4 hb4 hSA3 hG3 hB3 hI3
  go_wp2_with fail
  refine (RSel_any b a4 n c4 ps w4 hbU (by omega) hR4).mono ?_
  rintro e w5 ⟨vr, vt, rfl, hSr, hSt, hb5⟩
  rw [hYE.out]
  have hSA5 := hide (hSA4.out.below hb5)
  have hG5 := hide (heap_kept hb5 hG4.out)
  have hB5 := hide (hB4.out.later hb5)
  clear hb5 hSA4 hG4 hB4 hR4
  have hlr := rolesL_len b ps
  have hlt_ := tellsL_len b ps
  replace hSr := hide hSr
  replace hSt := hide hSt
  obtain ⟨ar, cr, hvr⟩ := hSr.out.shape
  obtain ⟨at_, ct, hvt⟩ := hSt.out.shape
  rw [hlr, hps] at hvr
  rw [hlt_, hps] at hvt
  subst hvr
  subst hvt
  have hA6 := below1 w5 (.cells (Vc.row ⟨y0, y1, y2, y3⟩) 26)
  have hV6 := heap_alloc_new w5 (.cells (Vc.row ⟨y0, y1, y2, y3⟩) 26)
  have hSA6 := hide (hSA5.out.below hA6)
  have hG6 := hide (heap_kept hA6 hG5.out)
  have hB6 := hide (hB5.out.later hA6)
  have hSr6 := hide (hSr.out.below hA6)
  have hSt6 := hide (hSt.out.below hA6)
  have hvn : ∀ w, (binOp .neq 26 (.agg (Vc.row ⟨y0, y1, y2, y3⟩)) (.agg (Vc.row ⟨y0, y1, y2, y3⟩))).run Try.prog w = .ok (.bool false) w := fun w => by rw [vec_neq _ _ hYwf.out hYwf.out]; simp
  have g10 : w5.cell? ⟨g1, 0, none⟩ = some (.int .u64 y0) := (cell_of_row _ _ _ _ _ _ hG5.out).trans rfl
  have g11 : w5.cell? ⟨g1, 1, none⟩ = some (.int .u64 y1) := (cell_of_row _ _ _ _ _ _ hG5.out).trans rfl
  have g12 : w5.cell? ⟨g1, 2, none⟩ = some (.int .u64 y2) := (cell_of_row _ _ _ _ _ _ hG5.out).trans rfl
  have g13 : w5.cell? ⟨g1, 3, none⟩ = some (.int .i64 y3) := (cell_of_row _ _ _ _ _ _ hG5.out).trans rfl
  have g14 : w5.cell? ⟨g1, 4, none⟩ = some (.int .i64 y4) := (cell_of_row _ _ _ _ _ _ hG5.out).trans rfl
  have g15 : w5.cell? ⟨g1, 5, none⟩ = some (.slice (some ⟨ia, 0, none⟩) n n) := (cell_of_row _ _ _ _ _ _ hG5.out).trans rfl
  have g16 : w5.cell? ⟨g1, 6, none⟩ = some (.slice (some ⟨va, 0, none⟩) n n) := (cell_of_row _ _ _ _ _ _ hG5.out).trans rfl
  have hgl := block_lt_of_cell g10
  clear hA6 hV6 hSA5 hB5 hSr hSt hG5
  go_wp2_with fail
  clear hvn g10 g11 g12 g13 g14 g15 g16
  generalize w5.alloc (.cells (Vc.row ⟨y0, y1, y2, y3⟩) 26) = w6 at *
  go_loopw [56] (fun i wr => ∃ j : Nat, j ≤ n ∧ i = .int .i64 j ∧ Hid (Below w6.heap.size w6 wr)) (fun i _ => n - (intOf i).toNat)
  case atStart => exact ⟨0, Nat.zero_le _, rfl, hide (Below.refl _ _)⟩
  case round =>
    obtain ⟨j, hj, rfl, hB⟩ := hrel
    by_cases hlt : j < n
    · have hra := (hSA6.out.below hB.out).role j hlt
      have hta := (hSA6.out.below hB.out).tell j hlt
      rw [hYE.out] at hra hta
      obtain ⟨ir, cr', spr, er, hFr, _, _⟩ := (hSr6.out.below hB.out).at_i (by omega)
      obtain ⟨it, ct', spt, et, hFt, _, _⟩ := (hSt6.out.below hB.out).at_i (by omega)
      simp only [Value.slice.injEq] at er et
      obtain ⟨rfl, -, rfl⟩ := er
      obtain ⟨rfl, -, rfl⟩ := et
      have hrb := hFr.cell wide_I 0 j 0 (by omega) (by omega)
      have htb := fun k hk => hFt.cell wide_V Vc.zero j k (by omega) hk
      rw [rolesL_at _ _ _ (by omega), hps, hYE.out] at hrb
      rw [tellsL_at _ _ _ (by omega), hps, hYE.out] at htb
      have hw : Hid ((tellV b ⟨⟨y0, y1, y2, y3⟩, y4, y5⟩ (ps.getD j Rp.zero)).wf) := tellV_wf hbU hYwf.out (hwfs.out j (by omega))
      generalize roleV b ⟨⟨y0, y1, y2, y3⟩, y4, y5⟩ j (ps.getD j Rp.zero) = ro at *
      generalize tellV b ⟨⟨y0, y1, y2, y3⟩, y4, y5⟩ (ps.getD j Rp.zero) = tv at *
      obtain ⟨t0, t1, t2, t3⟩ := tv
      obtain ⟨q0, q1, q2, q3⟩ := hta
      have r0 := htb 0 (by omega)
      have r1 := htb 1 (by omega)
      have r2 := htb 2 (by omega)
      have r3 := htb 3 (by omega)
      simp only [Nat.mul_one, Nat.add_zero, List.getElem?_cons_zero, List.getElem?_cons_succ] at hrb r0 r1 r2 r3
      dsimp only at *
      have hvn : ∀ w, (binOp .neq 26 (.agg (Vc.row ⟨t0, t1, t2, t3⟩)) (.agg (Vc.row ⟨t0, t1, t2, t3⟩))).run Try.prog w = .ok (.bool false) w := fun w => by rw [vec_neq _ _ hw.out hw.out]; simp
      have k1 := heap_kept hB.out hG6.out
      have e5 : wr.cell? ⟨g1, 5, none⟩ = some (.slice (some ⟨ia, 0, none⟩) n n) := (cell_of_row _ _ _ _ _ _ k1).trans rfl
      have e6 : wr.cell? ⟨g1, 6, none⟩ = some (.slice (some ⟨va, 0, none⟩) n n) := (cell_of_row _ _ _ _ _ _ k1).trans rfl
      clear k1 hw hFr hFt htb
      have hBn := hide (below_drewN hB.out 1)
      go_wp2_with fail
      refine wp_region_noPanic ?_
      refine wp_region_held_drew (S := fun W => W.cell? ⟨g1, 5, none⟩ = some (.slice (some ⟨ia, 0, none⟩) n n) ∧ W.cell? ⟨g1, 6, none⟩ = some (.slice (some ⟨va, 0, none⟩) n n) ∧ W.cell? ⟨ia, j, none⟩ = some (.int .i64 ro) ∧ W.cell? ⟨ir, j, none⟩ = some (.int .i64 ro) ∧ W.cell? ⟨va, j * 4, none⟩ = some (.int .u64 t0) ∧ W.cell? ⟨va, j * 4 + 1, none⟩ = some (.int .u64 t1) ∧ W.cell? ⟨va, j * 4 + 2, none⟩ = some (.int .u64 t2) ∧ W.cell? ⟨va, j * 4 + 3, none⟩ = some (.int .i64 t3) ∧ W.cell? ⟨it, j * 4, none⟩ = some (.int .u64 t0) ∧ W.cell? ⟨it, j * 4 + 1, none⟩ = some (.int .u64 t1) ∧ W.cell? ⟨it, j * 4 + 2, none⟩ = some (.int .u64 t2) ∧ W.cell? ⟨it, j * 4 + 3, none⟩ = some (.int .i64 t3)) (by kernel_rfl) ⟨e5, e6, hra, hrb, q0, q1, q2, q3, r0, r1, r2, r3⟩ (fun hHeld => ?_)
      refine wpAnyH_take (i := 0) (oi := { dst := some 59, op := Op.fieldAddr 30 (Operand.tmp 5) 2, type := 0, pos := "law.go:40", after := #[], guard := none }) (v := ?v1) rfl (by kernel_rfl) (by kernel_rfl) (by kernel_rfl) (fun _ _ _ h => h) (Or.inl ⟨by rfl, ?y1⟩) (by assumption) ?r1
      case y1 => (intro w hSw; (try dsimp only at hSw); (try (go_split_ands)); go_simp; try with_reducible rfl)
      try simp only [Act.put, List.setIfInBounds_toArray, List.set_cons_zero, List.set_cons_succ]
      refine wpAnyH_take (i := 1) (oi := { dst := some 60, op := Op.load 27 (Operand.tmp 59), type := 27, pos := "law.go:40", after := #[{ on := 0, ground := Ground.data }], guard := none }) (v := ?v2) rfl (by kernel_rfl) (by kernel_rfl) (by kernel_rfl) (fun _ _ _ h => h) (Or.inl ⟨by rfl, ?y2⟩) (by assumption) ?r2
      case y2 => (intro w hSw; (try dsimp only at hSw); (try (go_split_ands)); go_simp; try with_reducible rfl)
      try simp only [Act.put, List.setIfInBounds_toArray, List.set_cons_zero, List.set_cons_succ]
      refine wpAnyH_take (i := 2) (oi := { dst := some 61, op := Op.move (Operand.tmp 10), type := 3, pos := "law.go:40", after := #[], guard := none }) (v := ?v3) rfl (by kernel_rfl) (by kernel_rfl) (by kernel_rfl) (fun _ _ _ h => h) (Or.inl ⟨by rfl, ?y3⟩) (by assumption) ?r3
      case y3 => (intro w hSw; (try dsimp only at hSw); (try (go_split_ands)); go_simp; try with_reducible rfl)
      try simp only [Act.put, List.setIfInBounds_toArray, List.set_cons_zero, List.set_cons_succ]
      refine wpAnyH_take (i := 3) (oi := { dst := some 62, op := Op.indexAddr 27 (Operand.tmp 60) (Operand.tmp 61), type := 0, pos := "law.go:40", after := #[{ on := 1, ground := Ground.data }, { on := 2, ground := Ground.data }], guard := none }) (v := ?v4) rfl (by kernel_rfl) (by kernel_rfl) (by kernel_rfl) (fun _ _ _ h => h) (Or.inl ⟨by rfl, ?y4⟩) (by assumption) ?r4
      case y4 => (intro w hSw; (try dsimp only at hSw); (try (go_split_ands)); go_simp; try with_reducible rfl)
      try simp only [Act.put, List.setIfInBounds_toArray, List.set_cons_zero, List.set_cons_succ]
      refine wpAnyH_take (i := 4) (oi := { dst := some 63, op := Op.load 3 (Operand.tmp 62), type := 3, pos := "law.go:40", after := #[{ on := 3, ground := Ground.data }], guard := none }) (v := ?v5) rfl (by kernel_rfl) (by kernel_rfl) (by kernel_rfl) (fun _ _ _ h => h) (Or.inl ⟨by rfl, ?y5⟩) (by assumption) ?r5
      case y5 => (intro w hSw; (try dsimp only at hSw); (try (go_split_ands)); go_simp; try with_reducible rfl)
      try simp only [Act.put, List.setIfInBounds_toArray, List.set_cons_zero, List.set_cons_succ]
      refine wpAnyH_take (i := 5) (oi := { dst := some 64, op := Op.move (Operand.tmp 8), type := 27, pos := "law.go:40", after := #[], guard := none }) (v := ?v6) rfl (by kernel_rfl) (by kernel_rfl) (by kernel_rfl) (fun _ _ _ h => h) (Or.inl ⟨by rfl, ?y6⟩) (by assumption) ?r6
      case y6 => (intro w hSw; (try dsimp only at hSw); (try (go_split_ands)); go_simp; try with_reducible rfl)
      try simp only [Act.put, List.setIfInBounds_toArray, List.set_cons_zero, List.set_cons_succ]
      refine wpAnyH_take (i := 6) (oi := { dst := some 65, op := Op.move (Operand.tmp 10), type := 3, pos := "law.go:40", after := #[], guard := none }) (v := ?v7) rfl (by kernel_rfl) (by kernel_rfl) (by kernel_rfl) (fun _ _ _ h => h) (Or.inl ⟨by rfl, ?y7⟩) (by assumption) ?r7
      case y7 => (intro w hSw; (try dsimp only at hSw); (try (go_split_ands)); go_simp; try with_reducible rfl)
      try simp only [Act.put, List.setIfInBounds_toArray, List.set_cons_zero, List.set_cons_succ]
      refine wpAnyH_take (i := 7) (oi := { dst := some 66, op := Op.indexAddr 27 (Operand.tmp 64) (Operand.tmp 65), type := 0, pos := "law.go:40", after := #[{ on := 5, ground := Ground.data }, { on := 6, ground := Ground.data }], guard := none }) (v := ?v8) rfl (by kernel_rfl) (by kernel_rfl) (by kernel_rfl) (fun _ _ _ h => h) (Or.inl ⟨by rfl, ?y8⟩) (by assumption) ?r8
      case y8 => (intro w hSw; (try dsimp only at hSw); (try (go_split_ands)); go_simp; try with_reducible rfl)
      try simp only [Act.put, List.setIfInBounds_toArray, List.set_cons_zero, List.set_cons_succ]
      refine wpAnyH_take (i := 8) (oi := { dst := some 67, op := Op.load 3 (Operand.tmp 66), type := 3, pos := "law.go:40", after := #[{ on := 7, ground := Ground.data }], guard := none }) (v := ?v9) rfl (by kernel_rfl) (by kernel_rfl) (by kernel_rfl) (fun _ _ _ h => h) (Or.inl ⟨by rfl, ?y9⟩) (by assumption) ?r9
      case y9 => (intro w hSw; (try dsimp only at hSw); (try (go_split_ands)); go_simp; try with_reducible rfl)
      try simp only [Act.put, List.setIfInBounds_toArray, List.set_cons_zero, List.set_cons_succ]
      refine wpAnyH_take (i := 9) (oi := { dst := some 68, op := Op.binOp BinOp.neq 3 (Operand.tmp 63) (Operand.tmp 67) 3, type := 4, pos := "law.go:40", after := #[{ on := 4, ground := Ground.data }, { on := 8, ground := Ground.data }], guard := none }) (v := ?v10) rfl (by kernel_rfl) (by kernel_rfl) (by kernel_rfl) (fun _ _ _ h => h) (Or.inl ⟨by rfl, ?y10⟩) (by assumption) ?r10
      case y10 => (intro w hSw; (try dsimp only at hSw); (try (go_split_ands)); go_simp; try with_reducible rfl)
      try simp only [Act.put, List.setIfInBounds_toArray, List.set_cons_zero, List.set_cons_succ]
      refine wpAnyH_take (i := 10) (oi := { dst := some 69, op := Op.move (Operand.tmp 68), type := 4, pos := "law.go:40", after := #[{ on := 9, ground := Ground.data }], guard := none }) (v := ?v11) rfl (by kernel_rfl) (by kernel_rfl) (by kernel_rfl) (fun _ _ _ h => h) (Or.inl ⟨by rfl, ?y11⟩) (by assumption) ?r11
      case y11 => (intro w hSw; (try dsimp only at hSw); (try (go_split_ands)); go_simp; try with_reducible rfl)
      try simp only [Act.put, List.setIfInBounds_toArray, List.set_cons_zero, List.set_cons_succ]
      refine wpAnyH_take (i := 11) (oi := { dst := some 70, op := Op.fieldAddr 30 (Operand.tmp 5) 3, type := 0, pos := "law.go:40", after := #[{ on := 10, ground := Ground.guard }], guard := some (10, false) }) (v := ?v12) rfl (by kernel_rfl) (by kernel_rfl) (by kernel_rfl) (fun _ _ _ h => h) (Or.inl ⟨by rfl, ?y12⟩) (by assumption) ?r12
      case y12 => (intro w hSw; (try dsimp only at hSw); (try (go_split_ands)); go_simp; try with_reducible rfl)
      try simp only [Act.put, List.setIfInBounds_toArray, List.set_cons_zero, List.set_cons_succ]
      refine wpAnyH_take (i := 12) (oi := { dst := some 71, op := Op.load 28 (Operand.tmp 70), type := 28, pos := "law.go:40", after := #[{ on := 11, ground := Ground.data }, { on := 10, ground := Ground.guard }], guard := some (10, false) }) (v := ?v13) rfl (by kernel_rfl) (by kernel_rfl) (by kernel_rfl) (fun _ _ _ h => h) (Or.inl ⟨by rfl, ?y13⟩) (by assumption) ?r13
      case y13 => (intro w hSw; (try dsimp only at hSw); (try (go_split_ands)); go_simp; try with_reducible rfl)
      try simp only [Act.put, List.setIfInBounds_toArray, List.set_cons_zero, List.set_cons_succ]
      refine wpAnyH_take (i := 13) (oi := { dst := some 72, op := Op.move (Operand.tmp 10), type := 3, pos := "law.go:40", after := #[{ on := 10, ground := Ground.guard }], guard := some (10, false) }) (v := ?v14) rfl (by kernel_rfl) (by kernel_rfl) (by kernel_rfl) (fun _ _ _ h => h) (Or.inl ⟨by rfl, ?y14⟩) (by assumption) ?r14
      case y14 => (intro w hSw; (try dsimp only at hSw); (try (go_split_ands)); go_simp; try with_reducible rfl)
      try simp only [Act.put, List.setIfInBounds_toArray, List.set_cons_zero, List.set_cons_succ]
      refine wpAnyH_take (i := 14) (oi := { dst := some 73, op := Op.indexAddr 28 (Operand.tmp 71) (Operand.tmp 72), type := 0, pos := "law.go:40", after := #[{ on := 12, ground := Ground.data }, { on := 13, ground := Ground.data }, { on := 10, ground := Ground.guard }], guard := some (10, false) }) (v := ?v15) rfl (by kernel_rfl) (by kernel_rfl) (by kernel_rfl) (fun _ _ _ h => h) (Or.inl ⟨by rfl, ?y15⟩) (by assumption) ?r15
      case y15 => (intro w hSw; (try dsimp only at hSw); (try (go_split_ands)); go_simp; try with_reducible rfl)
      try simp only [Act.put, List.setIfInBounds_toArray, List.set_cons_zero, List.set_cons_succ]
      refine wpAnyH_take (i := 15) (oi := { dst := some 74, op := Op.load 26 (Operand.tmp 73), type := 26, pos := "law.go:40", after := #[{ on := 14, ground := Ground.data }, { on := 10, ground := Ground.guard }], guard := some (10, false) }) (v := ?v16) rfl (by kernel_rfl) (by kernel_rfl) (by kernel_rfl) (fun _ _ _ h => h) (Or.inl ⟨by rfl, ?y16⟩) (by assumption) ?r16
      case y16 => (intro w hSw; (try dsimp only at hSw); (try (go_split_ands)); go_simp; try with_reducible rfl)
      try simp only [Act.put, List.setIfInBounds_toArray, List.set_cons_zero, List.set_cons_succ]
      refine wpAnyH_take (i := 16) (oi := { dst := some 75, op := Op.move (Operand.tmp 9), type := 28, pos := "law.go:40", after := #[{ on := 10, ground := Ground.guard }], guard := some (10, false) }) (v := ?v17) rfl (by kernel_rfl) (by kernel_rfl) (by kernel_rfl) (fun _ _ _ h => h) (Or.inl ⟨by rfl, ?y17⟩) (by assumption) ?r17
      case y17 => (intro w hSw; (try dsimp only at hSw); (try (go_split_ands)); go_simp; try with_reducible rfl)
      try simp only [Act.put, List.setIfInBounds_toArray, List.set_cons_zero, List.set_cons_succ]
      refine wpAnyH_take (i := 17) (oi := { dst := some 76, op := Op.move (Operand.tmp 10), type := 3, pos := "law.go:40", after := #[{ on := 10, ground := Ground.guard }], guard := some (10, false) }) (v := ?v18) rfl (by kernel_rfl) (by kernel_rfl) (by kernel_rfl) (fun _ _ _ h => h) (Or.inl ⟨by rfl, ?y18⟩) (by assumption) ?r18
      case y18 => (intro w hSw; (try dsimp only at hSw); (try (go_split_ands)); go_simp; try with_reducible rfl)
      try simp only [Act.put, List.setIfInBounds_toArray, List.set_cons_zero, List.set_cons_succ]
      refine wpAnyH_take (i := 18) (oi := { dst := some 77, op := Op.indexAddr 28 (Operand.tmp 75) (Operand.tmp 76), type := 0, pos := "law.go:40", after := #[{ on := 16, ground := Ground.data }, { on := 17, ground := Ground.data }, { on := 10, ground := Ground.guard }], guard := some (10, false) }) (v := ?v19) rfl (by kernel_rfl) (by kernel_rfl) (by kernel_rfl) (fun _ _ _ h => h) (Or.inl ⟨by rfl, ?y19⟩) (by assumption) ?r19
      case y19 => (intro w hSw; (try dsimp only at hSw); (try (go_split_ands)); go_simp; try with_reducible rfl)
      try simp only [Act.put, List.setIfInBounds_toArray, List.set_cons_zero, List.set_cons_succ]
      refine wpAnyH_take (i := 19) (oi := { dst := some 78, op := Op.load 26 (Operand.tmp 77), type := 26, pos := "law.go:40", after := #[{ on := 18, ground := Ground.data }, { on := 10, ground := Ground.guard }], guard := some (10, false) }) (v := ?v20) rfl (by kernel_rfl) (by kernel_rfl) (by kernel_rfl) (fun _ _ _ h => h) (Or.inl ⟨by rfl, ?y20⟩) (by assumption) ?r20
      case y20 => (intro w hSw; (try dsimp only at hSw); (try (go_split_ands)); go_simp; try with_reducible rfl)
      try simp only [Act.put, List.setIfInBounds_toArray, List.set_cons_zero, List.set_cons_succ]
      refine wpAnyH_take (i := 20) (oi := { dst := some 79, op := Op.binOp BinOp.neq 26 (Operand.tmp 74) (Operand.tmp 78) 26, type := 4, pos := "law.go:40", after := #[{ on := 15, ground := Ground.data }, { on := 19, ground := Ground.data }, { on := 10, ground := Ground.guard }], guard := some (10, false) }) (v := ?v21) rfl (by kernel_rfl) (by kernel_rfl) (by kernel_rfl) (fun _ _ _ h => h) (Or.inl ⟨by rfl, ?y21⟩) (by assumption) ?r21
      case y21 => (intro w hSw; (try dsimp only at hSw); (try (go_split_ands)); go_simp; try with_reducible rfl)
      try simp only [Act.put, List.setIfInBounds_toArray, List.set_cons_zero, List.set_cons_succ]
      refine wpAnyH_take (i := 21) (oi := { dst := some 80, op := Op.pick (Operand.tmp 69) (Operand.const (Value.bool true)) (Operand.tmp 79), type := 4, pos := "law.go:40", after := #[{ on := 10, ground := Ground.data }, { on := 20, ground := Ground.data }], guard := none }) (v := ?v22) rfl (by kernel_rfl) (by kernel_rfl) (by kernel_rfl) (fun _ _ _ h => h) (Or.inl ⟨by rfl, ?y22⟩) (by assumption) ?r22
      case y22 => (intro w hSw; (try dsimp only at hSw); (try (go_split_ands)); go_simp; try with_reducible rfl)
      try simp only [Act.put, List.setIfInBounds_toArray, List.set_cons_zero, List.set_cons_succ]
      refine wpAnyH_done (by kernel_rfl) ?_ _
      refine NoPanic.normal ?_
      clear hHeld e5 e6 hra hrb q0 q1 q2 q3 r0 r1 r2 r3 hvn
      go_wp2
      go_round
      case rel => exact ⟨j + 1, by omega, by go_num, hBn⟩
      case measure => simp [intOf]; omega
    · obtain rfl : n = j := by omega
      go_wp2
      go_ret
      exact ⟨rfl, hB6.out.later hB.out⟩
end Go.Proofs.Ytaepjiakehkeoaa
