/-
  The head of layer 16's statements: opens; and fits. Conditions: those that each theorem names.
-/
import Derived.Test.YtmacdghkbmjdmaaGt5
import Derived.Test.YtmacdghkbmjdmaaGt6
import Derived.Test.YtmacdghkbmjdmaaGt7
namespace Go.Proofs.Ytmacdghkbmjdmaa
open Go.RowKit
set_option linter.unusedVariables false
set_option maxRecDepth 20000

def L0 : Ls := ⟨10, 100, 0, [⟨1, 30⟩, ⟨2, 30⟩]⟩
theorem L0_may : L0.may = true := by decide +kernel
def LN : Ls := ⟨0, 0, 0, []⟩
theorem LN_may : LN.may = false := by decide +kernel
/-- The list lies where it was laid. -/
structure Op (w : World) (G EB : Nat) (R : Array Value) (w' : World) : Prop where
  bel : Below w.heap.size w w'
  row : w'.heap[G]? = some (.cells R 47 (0, 0))
  ent : Ent w' (some ⟨EB, 0, none⟩) L0.es
theorem Op.later {w w1 w2 : World} {G EB : Nat} {R : Array Value} (h : Op w G EB R w1) (hb : Below w1.heap.size w1 w2) : Op w G EB R w2 := ⟨h.bel.later hb, heap_kept hb h.row, h.ent.below hb (fun _ => by simp)⟩
theorem bs_En (e f : En) (w : World) : (Instr.buildSlice 45 2 #[(0, .agg (fEn e).toArray), (1, .agg (fEn f).toArray)]).run Try.prog w = .ok (.slice (some ⟨w.heap.size, 0, none⟩) 2 2) (w.alloc (.cells #[.int .i64 e.op, .int .i64 e.ns, .int .i64 f.op, .int .i64 f.ns] 52)) := by
  go_simp
theorem fld_es (v0 v1 v2 v3 : Value) (w : World) : (Instr.field 47 (.agg #[v0, v1, v2, v3]) 3).run Try.prog w = .ok v3 w := by
  simp [Instr.field, run_underlying Try.underlying47, go_sem, asAgg]
set_option maxHeartbeats 8000000 in
theorem opens_any (w : World) : Calls Try.prog 21 #[] w fun e w' => e = .returned (.bool true) ∧ Below w.heap.size w w' := by
  have hA := below1 w (.cells #[.int .i64 1, .int .i64 30, .int .i64 2, .int .i64 30] 52)
  have hZ := heap_alloc_new w (.cells #[.int .i64 1, .int .i64 30, .int .i64 2, .int .i64 30] 52)
  have hbs := bs_En ⟨1, 30⟩ ⟨2, 30⟩ w
  dsimp only at hbs
  go_enter Try.func21, Try.ntmps21
  go_wp2_with ((with_reducible change wpList _ _ _ _ _ _); refine stop_storeB 47 (.tmp 1) (.tmp 5) rfl ?_)
  refine hide (fresh_atC rfl 47 (.tmp 1) (.tmp 5) rfl (w.heap.size + 1) (World.size_alloc _ _).symm #[.int .i64 10, .int .i64 100, .int .i64 0, .slice (some ⟨w.heap.size, 0, none⟩) 2 2] #[.int .i64 0, .int .i64 0, .int .i64 0, .slice none 0 0] rfl rfl 47 (lSize L0 _ 2 2) rfl (l_all L0 (some ⟨w.heap.size, 0, none⟩) 2 2) ?_)
  intro w3 h3 hb3
  have hX : Op w (w.heap.size + 1) w.heap.size #[.int .i64 10, .int .i64 100, .int .i64 0, .slice (some ⟨w.heap.size, 0, none⟩) 2 2] w3 := by
    refine ⟨hA.later hb3, h3, ⟨rfl, fun i hi => ⟨w.heap.size, 0, rfl, fun j v hj => ?_⟩⟩⟩
    have hr := heap_kept hb3 hZ
    rw [cell_of_row _ _ _ _ _ _ hr]
    have hi2 : i < 2 := hi
    rcases (show i = 0 ∨ i = 1 by omega) with rfl | rfl
    · rcases j with _ | _ | j
      · exact hj
      · exact hj
      · simp [L0] at hj
    · rcases j with _ | _ | j
      · exact hj
      · exact hj
      · simp [L0] at hj
  replace hX := hide hX
  generalize hR : (#[.int .i64 10, .int .i64 100, .int .i64 0, .slice (some ⟨w.heap.size, 0, none⟩) 2 2] : Array Value) = R at *
  have hRe : Hid (R = lRow L0 (some ⟨w.heap.size, 0, none⟩) L0.es.length 2) := hR.symm
  have hRz : (Try.prog.info? 47).map (·.size) = some R.size := by rw [← hR]; exact lSize L0 _ 2 2
  replace hR := hide hR
  clear hA hZ hbs h3 hb3
  generalize w.heap.size + 1 = G at *
  have hC : Hid (Calls Try.prog 30 #[.agg R] w3 fun r w' => r = .returned (.int .i64 0) ∧ Below w3.heap.size w3 w') := by
    have h := (GCheck_any L0 _ 2 _ hX.out.ent (by decide))
    rw [show (if L0.may = true then 0 else 30) = (0 : Int) by decide +kernel, ← hRe.out] at h
    exact h
  first | go_values | go_skip | go_guarded | go_step | go_upon | go_back
  first | go_values | go_skip | go_guarded | go_step | go_upon | go_back
  first | go_values | go_skip | go_guarded | go_step | go_upon | go_back
  first | go_values | go_skip | go_guarded | go_step | go_upon | go_back
  first | go_values | go_skip | go_guarded | go_step | go_upon | go_back
  simp only [List.append_eq, List.cons_append, List.nil_append]
  go_wp2_with ((with_reducible change wpList _ _ _ _ _ _); refine wpList_load_row rfl 47 (.tmp 1) rfl G rfl 47 _ _ _ hX.out.row Try.underlying47 rfl hRz ?_)
  refine hC.out.mono ?_
  rintro _ v0 ⟨rfl, hb⟩
  have hXn := hide (hX.out.later hb)
  clear hC hX hb
  have hX := hXn
  clear hXn
  have hC : Hid (Calls Try.prog 23 #[.agg R, .int .i64 5] v0 fun r w' => r = .returned (.int .i64 255) ∧ Below v0.heap.size v0 w') := by
    have h := (State_any (cap := 2) hX.out.ent L0_may 5 (by decide))
    rw [show stateN L0 5 = (255 : Int) by decide +kernel, ← hRe.out] at h
    exact h
  go_wp2_with ((with_reducible change wpList _ _ _ _ _ _); refine wpList_load_row_on rfl 47 (.tmp 1) rfl G rfl 47 _ _ _ hX.out.row Try.underlying47 rfl hRz ?_)
  refine hC.out.mono ?_
  rintro _ v1 ⟨rfl, hb⟩
  have hXn := hide (hX.out.later hb)
  clear hC hX hb
  have hX := hXn
  clear hXn
  have hC : Hid (Calls Try.prog 23 #[.agg R, .int .i64 10] v1 fun r w' => r = .returned (.int .i64 1) ∧ Below v1.heap.size v1 w') := by
    have h := (State_any (cap := 2) hX.out.ent L0_may 10 (by decide))
    rw [show stateN L0 10 = (1 : Int) by decide +kernel, ← hRe.out] at h
    exact h
  go_wp2_with ((with_reducible change wpList _ _ _ _ _ _); refine wpList_load_row_on rfl 47 (.tmp 1) rfl G rfl 47 _ _ _ hX.out.row Try.underlying47 rfl hRz ?_)
  refine hC.out.mono ?_
  rintro _ v2 ⟨rfl, hb⟩
  have hXn := hide (hX.out.later hb)
  clear hC hX hb
  have hX := hXn
  clear hXn
  have hC : Hid (Calls Try.prog 23 #[.agg R, .int .i64 40] v2 fun r w' => r = .returned (.int .i64 2) ∧ Below v2.heap.size v2 w') := by
    have h := (State_any (cap := 2) hX.out.ent L0_may 40 (by decide))
    rw [show stateN L0 40 = (2 : Int) by decide +kernel, ← hRe.out] at h
    exact h
  go_wp2_with ((with_reducible change wpList _ _ _ _ _ _); refine wpList_load_row_on rfl 47 (.tmp 1) rfl G rfl 47 _ _ _ hX.out.row Try.underlying47 rfl hRz ?_)
  refine hC.out.mono ?_
  rintro _ v3 ⟨rfl, hb⟩
  have hXn := hide (hX.out.later hb)
  clear hC hX hb
  have hX := hXn
  clear hXn
  have hC : Hid (Calls Try.prog 23 #[.agg R, .int .i64 109] v3 fun r w' => r = .returned (.int .i64 2) ∧ Below v3.heap.size v3 w') := by
    have h := (State_any (cap := 2) hX.out.ent L0_may 109 (by decide))
    rw [show stateN L0 109 = (2 : Int) by decide +kernel, ← hRe.out] at h
    exact h
  go_wp2_with ((with_reducible change wpList _ _ _ _ _ _); refine wpList_load_row_on rfl 47 (.tmp 1) rfl G rfl 47 _ _ _ hX.out.row Try.underlying47 rfl hRz ?_)
  refine hC.out.mono ?_
  rintro _ v4 ⟨rfl, hb⟩
  have hXn := hide (hX.out.later hb)
  clear hC hX hb
  have hX := hXn
  clear hXn
  have hC : Hid (Calls Try.prog 23 #[.agg R, .int .i64 110] v4 fun r w' => r = .returned (.int .i64 1) ∧ Below v4.heap.size v4 w') := by
    have h := (State_any (cap := 2) hX.out.ent L0_may 110 (by decide))
    rw [show stateN L0 110 = (1 : Int) by decide +kernel, ← hRe.out] at h
    exact h
  go_wp2_with ((with_reducible change wpList _ _ _ _ _ _); refine wpList_load_row_on rfl 47 (.tmp 1) rfl G rfl 47 _ _ _ hX.out.row Try.underlying47 rfl hRz ?_)
  refine hC.out.mono ?_
  rintro _ v5 ⟨rfl, hb⟩
  have hXn := hide (hX.out.later hb)
  clear hC hX hb
  have hX := hXn
  clear hXn
  have hC : Hid (Calls Try.prog 31 #[.agg R, .int .i64 12] v5 fun r w' => r = .returned (.int .i64 40) ∧ Below v5.heap.size v5 w') := by
    have h := (Next_any (cap := 2) hX.out.ent L0_may 12 (by decide))
    rw [show nextN L0 12 = (40 : Int) by decide +kernel, ← hRe.out] at h
    exact h
  go_wp2_with ((with_reducible change wpList _ _ _ _ _ _); refine wpList_load_row_on rfl 47 (.tmp 1) rfl G rfl 47 _ _ _ hX.out.row Try.underlying47 rfl hRz ?_)
  refine hC.out.mono ?_
  rintro _ v6 ⟨rfl, hb⟩
  have hXn := hide (hX.out.later hb)
  clear hC hX hb
  have hX := hXn
  clear hXn
  have hC : Hid (Calls Try.prog 31 #[.agg R, .int .i64 50] v6 fun r w' => r = .returned (.int .i64 110) ∧ Below v6.heap.size v6 w') := by
    have h := (Next_any (cap := 2) hX.out.ent L0_may 50 (by decide))
    rw [show nextN L0 50 = (110 : Int) by decide +kernel, ← hRe.out] at h
    exact h
  go_wp2_with ((with_reducible change wpList _ _ _ _ _ _); refine wpList_load_row_on rfl 47 (.tmp 1) rfl G rfl 47 _ _ _ hX.out.row Try.underlying47 rfl hRz ?_)
  refine hC.out.mono ?_
  rintro _ v7 ⟨rfl, hb⟩
  have hXn := hide (hX.out.later hb)
  clear hC hX hb
  have hX := hXn
  clear hXn
  have hC : Hid (Calls Try.prog 25 #[.agg R, .int .i64 0, .int .i64 12] v7 fun r w' => r = .returned (.int .i64 40) ∧ Below v7.heap.size v7 w') := by
    have h := (Until_any (cap := 2) hX.out.ent L0_may 0 (by decide) 12 (by decide) (by decide))
    rw [show untilN L0 0 12 = (40 : Int) by decide +kernel, ← hRe.out] at h
    exact h
  go_wp2_with ((with_reducible change wpList _ _ _ _ _ _); refine wpList_load_row_on rfl 47 (.tmp 1) rfl G rfl 47 _ _ _ hX.out.row Try.underlying47 rfl hRz ?_)
  refine hC.out.mono ?_
  rintro _ v8 ⟨rfl, hb⟩
  have hXn := hide (hX.out.later hb)
  clear hC hX hb
  have hX := hXn
  clear hXn
  have hC : Hid (Calls Try.prog 25 #[.agg R, .int .i64 1, .int .i64 12] v8 fun r w' => r = .returned (.int .i64 12) ∧ Below v8.heap.size v8 w') := by
    have h := (Until_any (cap := 2) hX.out.ent L0_may 1 (by decide) 12 (by decide) (by decide))
    rw [show untilN L0 1 12 = (12 : Int) by decide +kernel, ← hRe.out] at h
    exact h
  go_wp2_with ((with_reducible change wpList _ _ _ _ _ _); refine wpList_load_row_on rfl 47 (.tmp 1) rfl G rfl 47 _ _ _ hX.out.row Try.underlying47 rfl hRz ?_)
  refine hC.out.mono ?_
  rintro _ v9 ⟨rfl, hb⟩
  have hXn := hide (hX.out.later hb)
  clear hC hX hb
  have hX := hXn
  clear hXn
  have hC : Hid (Calls Try.prog 26 #[.agg R, .int .i64 1, .int .i64 12] v9 fun r w' => r = .returned (.int .i64 (40)) ∧ Below v9.heap.size v9 w') := by
    have h := (From_any (cap := 2) hX.out.ent L0_may 1 (by decide) 12 (by decide) (by decide))
    rw [show fromN L0 1 12 = ((40) : Int) by decide +kernel, ← hRe.out] at h
    exact h
  go_wp2_with ((with_reducible change wpList _ _ _ _ _ _); refine wpList_load_row_on rfl 47 (.tmp 1) rfl G rfl 47 _ _ _ hX.out.row Try.underlying47 rfl hRz ?_)
  refine hC.out.mono ?_
  rintro _ v10 ⟨rfl, hb⟩
  have hXn := hide (hX.out.later hb)
  clear hC hX hb
  have hX := hXn
  clear hXn
  have hC : Hid (Calls Try.prog 26 #[.agg R, .int .i64 5, .int .i64 12] v10 fun r w' => r = .returned (.int .i64 (-1)) ∧ Below v10.heap.size v10 w') := by
    have h := (From_any (cap := 2) hX.out.ent L0_may 5 (by decide) 12 (by decide) (by decide))
    rw [show fromN L0 5 12 = ((-1) : Int) by decide +kernel, ← hRe.out] at h
    exact h
  go_wp2_with ((with_reducible change wpList _ _ _ _ _ _); refine wpList_load_row_on rfl 47 (.tmp 1) rfl G rfl 47 _ _ _ hX.out.row Try.underlying47 rfl hRz ?_)
  refine hC.out.mono ?_
  rintro _ v11 ⟨rfl, hb⟩
  have hXn := hide (hX.out.later hb)
  clear hC hX hb
  have hX := hXn
  clear hXn
  have hC : Hid (Calls Try.prog 28 #[.agg R, .int .i64 11] v11 fun r w' => r = .returned (.int .i64 110) ∧ Below v11.heap.size v11 w') := by
    have h := (Start_any (w := v11) (a := some ⟨w.heap.size, 0, none⟩) (cap := 2) L0_may 11 (by decide))
    rw [show startN L0 11 = (110 : Int) by decide +kernel, ← hRe.out] at h
    exact h
  go_wp2_with ((with_reducible change wpList _ _ _ _ _ _); refine wpList_load_row_on rfl 47 (.tmp 1) rfl G rfl 47 _ _ _ hX.out.row Try.underlying47 rfl hRz ?_)
  refine hC.out.mono ?_
  rintro _ v12 ⟨rfl, hb⟩
  have hXn := hide (hX.out.later hb)
  clear hC hX hb
  have hX := hXn
  clear hXn
  have hC : Hid (Calls Try.prog 29 #[.agg R] v12 fun r w' => ∃ v', r = .returned (.agg #[.int .i64 10, .int .i64 100, .int .i64 0, v']) ∧ Sl w' v' 52 2 fEn L0.es ∧ Below v12.heap.size v12 w' ∧ FreshG v12.heap.size v') := by
    have h := Clone_any (cap := 2) hX.out.ent (by decide)
    rw [← hRe.out] at h
    exact h
  go_wp2_with ((with_reducible change wpList _ _ _ _ _ _); refine wpList_load_row_on rfl 47 (.tmp 1) rfl G rfl 47 _ _ _ hX.out.row Try.underlying47 rfl hRz ?_)
  refine hC.out.mono ?_
  rintro _ vc ⟨v', rfl, hS, hb, -⟩
  obtain ⟨va, vcap, rfl⟩ := hS.shape
  have hXn := hide (hX.out.later hb)
  clear hC hX hb hS
  have hX := hXn
  clear hXn
  have hfl := fld_es (.int .i64 10) (.int .i64 100) (.int .i64 0) (.slice va L0.es.length vcap)
  have hN := hide (fun w => GCheck_any LN none 0 w ⟨rfl, fun i hi => by simp [LN] at hi⟩ (by decide))
  rw [LN_may] at hN
  simp only [Bool.false_eq_true, if_false] at hN
  go_wp2_with fail
  refine (hN.out _).mono ?_
  rintro _ vn ⟨rfl, hb⟩
  have hB := hide (hX.out.later hb).bel
  clear hX hN hb
  go_wp2
  go_ret
  exact ⟨rfl, hB.out⟩
end Go.Proofs.Ytmacdghkbmjdmaa
