/-
  Contracts of bpdu.Group, firstFive and Reserved. Conditions: those that each theorem names.
-/
import Derived.Test.YtmakaadmjgakaaaDoorBp3
namespace Go.Proofs.YtmakaadmjgakaaaDoor
open Go.RowKit
set_option linter.unusedVariables false

@[reducible] def mac5 (a b c d e : Int) : Array Value := #[.int .u8 a, .int .u8 b, .int .u8 c, .int .u8 d, .int .u8 e]
theorem fiveSize : (Tryd.prog.info? 107).map (·.size) = some 5 := by kernel_rfl
theorem mac6_all (a b c d e f : Int) : (mac6 a b c d e f).all (·.oneCell') = true := by simp [Value.oneCell']
theorem mac5_all (a b c d e : Int) : (mac5 a b c d e).all (·.oneCell') = true := by simp [Value.oneCell']

theorem BGroup_any (w : World) :
    Calls Tryd.prog 41 #[] w fun e w' => e = .returned (.agg (mac6 1 128 194 0 0 0)) ∧ Below w.heap.size w w' := by
  have hA := heap_alloc_new w (.cells (mac6 0 0 0 0 0 0) 23)
  go_enter Tryd.func41, Tryd.ntmps41
  go_wp2_with ((with_reducible change wpList _ _ _ _ _ _); refine wpList_store_row rfl 23 (.tmp 0) (.tmp 1) rfl w.heap.size (mac6 1 128 194 0 0 0) rfl rfl 23 _ hA macSize rfl (mac6_all _ _ _ _ _ _) ?_)
  refine bodyPost_ret (v := .agg (mac6 1 128 194 0 0 0)) ?_ rfl ⟨rfl, below_setRow (below1 _ _) (Nat.le_refl _) _⟩
  exact results_cell_row rfl _ _ w.heap.size 23 _ _ _ rfl (setRow_heap _ _ _ _ _ _ hA) Tryd.underlying23 rfl macSize

set_option maxRecDepth 20000 in
theorem firstFive_any (a b c d e f : Int) (w : World) :
    Calls Tryd.prog 65 #[.agg (mac6 a b c d e f)] w fun r w' => r = .returned (.agg (mac5 a b c d e)) ∧ Below w.heap.size w w' := by
  have hsz1 : (Tryd.prog.info? 5).map (·.size) = some 1 := by kernel_rfl
  go_enter Tryd.func65, Tryd.ntmps65
  go_wp2_with fail
  refine wp_region_noPanic ?_
  refine wp_region_held_drew (S := fun _ => True) (by kernel_rfl) trivial (fun hHeld => ?_)
  refine wpAnyH_take (i := 0) (oi := { dst := some 4, op := Op.slice 107 (Operand.tmp 3) none none none, type := 26, pos := "bpdu.go:80", after := #[], guard := none }) (v := ?v1) rfl (by kernel_rfl) (by kernel_rfl) (by kernel_rfl) (fun _ _ _ h => h) (Or.inl ⟨by rfl, ?y1⟩) (by assumption) ?r1
  case y1 => (intro w hSw; (try dsimp only at hSw); (try (go_split_ands)); go_simp; try with_reducible rfl)
  try simp only [Act.put, List.setIfInBounds_toArray, List.set_cons_zero, List.set_cons_succ]
  refine wpAnyH_take (i := 1) (oi := { dst := some 5, op := Op.slice 23 (Operand.tmp 1) none none none, type := 26, pos := "bpdu.go:80", after := #[], guard := none }) (v := ?v2) rfl (by kernel_rfl) (by kernel_rfl) (by kernel_rfl) (fun _ _ _ h => h) (Or.inl ⟨by rfl, ?y2⟩) (by assumption) ?r2
  case y2 => (intro w hSw; (try dsimp only at hSw); (try (go_split_ands)); go_simp; try with_reducible rfl)
  try simp only [Act.put, List.setIfInBounds_toArray, List.set_cons_zero, List.set_cons_succ]
  have hP : (((w.alloc (.cells (mac6 a b c d e f) 23)).alloc (.cells (mac5 0 0 0 0 0) 107)).alloc (.cells (mac5 0 0 0 0 0) 107)).drew.heap[w.heap.size]? = some (.cells (mac6 a b c d e f) 23 (0, 0)) := heap_kept (below_drewN (below1 _ _) 1) (heap_alloc2_old _ _ _)
  have hR : (((w.alloc (.cells (mac6 a b c d e f) 23)).alloc (.cells (mac5 0 0 0 0 0) 107)).alloc (.cells (mac5 0 0 0 0 0) 107)).drew.heap[w.heap.size + 1]? = some (.cells (mac5 0 0 0 0 0) 107 (0, 0)) := heap_kept (below_drewN (below1 _ _) 1) (heap_alloc2_new _ _ _)
  have hF : (((w.alloc (.cells (mac6 a b c d e f) 23)).alloc (.cells (mac5 0 0 0 0 0) 107)).alloc (.cells (mac5 0 0 0 0 0) 107)).drew.heap[w.heap.size + 2]? = some (.cells (mac5 0 0 0 0 0) 107 (0, 0)) := by
    have := heap_alloc_new ((w.alloc (.cells (mac6 a b c d e f) 23)).alloc (.cells (mac5 0 0 0 0 0) 107)) (.cells (mac5 0 0 0 0 0) 107)
    simp only [World.size_alloc] at this
    exact this
  have hb0 : Below w.heap.size w (((w.alloc (.cells (mac6 a b c d e f) 23)).alloc (.cells (mac5 0 0 0 0 0) 107)).alloc (.cells (mac5 0 0 0 0 0) 107)).drew := below_drewN (((below1 _ _).later (below1 _ _)).later (below1 _ _)) 1
  refine wpAnyH_ready (rs := [2]) (by kernel_rfl) (by simp) ?_
  refine AllReadyH.cons (o := { dst := some 6, op := Op.call { callee := Callee.builtin Builtin.copy, args := #[Operand.tmp 4, Operand.tmp 5], argTypes := #[26, 26] }, type := 3, pos := "bpdu.go:80", after := #[{ on := 0, ground := Ground.data }, { on := 1, ground := Ground.data }], guard := none }) rfl (fun K hK => ?_) AllReadyH.nil
  refine step_copy_splice rfl _ _ 26 26 rfl 5 Tryd.underlying26 hsz1 (some ⟨w.heap.size + 2, 0, none⟩) (some ⟨w.heap.size, 0, none⟩) 5 5 6 6 rfl rfl (w.heap.size + 2) 0 (mac5 0 0 0 0 0).toList 107 hF [.int .u8 a, .int .u8 b, .int .u8 c, .int .u8 d, .int .u8 e] rfl (fun _ => ⟨rfl, ⟨w.heap.size, 0, none⟩, rfl, fun j v hv => ?_⟩) (by simp) (by intro v hv; simp at hv; rcases hv with rfl | rfl | rfl | rfl | rfl <;> rfl) (w.heap.size + 2) _ (Below.refl _ _) (Nat.le_refl _) ?_
  · rw [Addr.add_mid, Nat.zero_add, cell_of_row _ _ _ _ _ _ hP]
    match j, hv with
    | 0, hv => exact hv
    | 1, hv => exact hv
    | 2, hv => exact hv
    | 3, hv => exact hv
    | 4, hv => exact hv
  intro w2 hH2 hb2
  have hH2' : w2.heap[w.heap.size + 2]? = some (.cells (mac5 a b c d e) 107 (0, 0)) := hH2.out
  have hR2 := (hb2.block (w.heap.size + 1) (by omega)).trans hR
  have hW2 := hide (hb0.trans (hb2.mono (by omega)))
  clear hP hR hF hb0 hH2 hb2
  refine hK.out _ _ trivial (fun hHeld2 => ?_)
  clear hK K
  try simp only [Act.put, List.setIfInBounds_toArray, List.set_cons_zero, List.set_cons_succ]
  refine wpAnyH_done (by kernel_rfl) ?_ _
  refine NoPanic.normal ?_
  go_wp2_with (first | ((with_reducible change wpList _ _ _ _ _ _); refine wpList_load_row rfl 107 (.tmp 3) rfl (w.heap.size + 2) rfl 107 _ _ _ hH2' Tryd.underlying107 rfl fiveSize ?_) | ((with_reducible change wpList _ _ _ _ _ _); refine wpList_store_row rfl 107 (.tmp 2) (.tmp 7) rfl (w.heap.size + 1) (mac5 a b c d e) rfl rfl 107 _ hR2 fiveSize rfl (mac5_all _ _ _ _ _) ?_))
  refine bodyPost_ret (v := .agg (mac5 a b c d e)) ?_ rfl ⟨rfl, below_setRow hW2.out (by omega) _⟩
  exact results_cell_row rfl _ _ (w.heap.size + 1) 107 _ _ _ rfl (setRow_heap _ _ _ _ _ _ hR2) Tryd.underlying107 rfl fiveSize

theorem cells_five : Tryd.prog.cellsOf 107 = 5 := by kernel_rfl
theorem five_lits (d : Nat) (a b c e f : Int) (h : Byte [a, b, c, e, f]) : Tryd.prog.keyLits (d + 2) 107 [.int .u8 a, .int .u8 b, .int .u8 c, .int .u8 e, .int .u8 f] = some (macLits [a, b, c, e, f]) := by
  have h1 := u8_lits d a (h a (by simp))
  have h2 := u8_lits d b (h b (by simp))
  have h3 := u8_lits d c (h c (by simp))
  have h4 := u8_lits d e (h e (by simp))
  have h5 := u8_lits d f (h f (by simp))
  unfold Program.keyLits
  rw [Tryd.underlying107]
  simp [cells_five, cells_u8, List.range_succ, h1, h2, h3, h4, h5, macLits]
theorem five_eql (a b c d e a' b' c' d' e' : Int) (h : Byte [a, b, c, d, e]) (h' : Byte [a', b', c', d', e']) (w : World) : (binOp .eql 107 (.agg (mac5 a b c d e)) (.agg (mac5 a' b' c' d' e'))).run Tryd.prog w = .ok (.bool (decide ([a, b, c, d, e] = [a', b', c', d', e']))) w := by
  obtain ⟨r, h1, h2⟩ := run_equalIn_deep (P := Tryd.prog) 9998 2 107 (by kernel_rfl) w 2 2 (.agg (mac5 a b c d e)) (.agg (mac5 a' b' c' d' e')) _ _ (by kernel_rfl) (by kernel_rfl) (five_lits 0 a b c d e h) (five_lits 0 a' b' c' d' e' h')
  have h3 : (Op.equalIn 10000 107 (.agg (mac5 a b c d e)) (.agg (mac5 a' b' c' d' e'))).run Tryd.prog w = .ok (decide ([a, b, c, d, e] = [a', b', c', d', e'])) w := by
    refine h1.trans (congrArg (fun r => Result.ok r w) ?_)
    rw [Bool.eq_iff_iff, decide_eq_true_eq]
    exact h2.trans ⟨macLits_inj, fun e => by rw [e]⟩
  rw [run_eql_struct, h3]; rfl
theorem eqGuard_five : Tryd.prog.eqGuardType Tryd.prog.depth 107 = false := by kernel_rfl
def resB (a b c d e f : Int) : Bool := decide ([a, b, c, d, e] = [1, 128, 194, 0, 0]) && decide (f < 16)
set_option maxRecDepth 20000 in
theorem Reserved_any (a b c d e f : Int) (w : World) (hB : Byte [a, b, c, d, e, f]) :
    Calls Tryd.prog 42 #[.agg (mac6 a b c d e f)] w fun r w' => r = .returned (.bool (resB a b c d e f)) ∧ Below w.heap.size w w' := by
  have hk := heap_alloc_new w (.cells (mac6 a b c d e f) 23)
  have hgd := eqGuard_five
  have hb5 : Byte [a, b, c, d, e] := fun z hz => hB z (by simp at hz ⊢; rcases hz with h | h | h | h | h <;> simp [h])
  have hg5 : Byte [1, 128, 194, 0, 0] := by intro z hz; simp at hz; omega
  have heq := fun w => five_eql a b c d e 1 128 194 0 0 hb5 hg5 w
  have hf1 := hide (fun w => firstFive_any a b c d e f w)
  have hf2 := hide (fun w => firstFive_any 1 128 194 0 0 0 w)
  have hG := hide BGroup_any
  have hR : Hid (resB a b c d e f = (decide ([a, b, c, d, e] = [1, 128, 194, 0, 0]) && decide (f < 16))) := rfl
  generalize resB a b c d e f = R at *
  clear hb5 hg5 hB
  cases hq : decide ([a, b, c, d, e] = [1, 128, 194, 0, 0])
  all_goals
    rw [hq] at hR
    have heq' : ∀ w, (binOp .eql 107 (.agg (mac5 a b c d e)) (.agg (mac5 1 128 194 0 0))).run Tryd.prog w = .ok (.bool _) w := fun w => (heq w).trans (by rw [hq])
    clear heq hq
    go_enter Tryd.func42, Tryd.ntmps42
    go_wp2_with ((with_reducible change wpList _ _ _ _ _ _); refine wpList_load_row rfl 23 (.tmp 1) rfl w.heap.size rfl 23 _ _ _ hk Tryd.underlying23 rfl macSize ?_)
    refine (hf1.out _).mono ?_
    rintro e w1 ⟨rfl, hb1⟩
    go_wp2_with fail
    refine (hG.out _).mono ?_
    rintro e w2 ⟨rfl, hb2⟩
    go_wp2_with fail
    refine (hf2.out _).mono ?_
    rintro e w3 ⟨rfl, hb3⟩
    have hk3 := heap_kept hb3 (heap_kept hb2 (heap_kept hb1 hk))
    have c5 : w3.cell? ⟨w.heap.size, 5, none⟩ = some (.int .u8 f) := (cell_of_row _ _ _ _ _ _ hk3).trans rfl
    go_wp2_with fail
    go_ret
    refine ⟨ret_bool ?_, (((below1 _ _).later hb1).later hb2).later hb3⟩
    rw [hR.out]
    simp
end Go.Proofs.YtmakaadmjgakaaaDoor
