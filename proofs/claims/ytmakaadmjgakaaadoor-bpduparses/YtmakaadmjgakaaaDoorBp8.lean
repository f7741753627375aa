/-
  A contract of bpdu.Build. Conditions: numbers within their kinds.
-/
import Derived.Test.YtmakaadmjgakaaaDoorBp7
namespace Go.Proofs.YtmakaadmjgakaaaDoor
open Go.RowKit
set_option linter.unusedVariables false

/-- A message's payload. -/
def bbuildL (b : Bp) : List Int := if b.kind = 2 then nsL (headP 0 128) else if b.kind = 1 then nsL (headP 2 2) ++ (nsL (toldP b) ++ [0]) else nsL (headP 0 0) ++ nsL (toldP b)
theorem bfits {b : Bp} (hW : b.wf) (hE : bcheckE b = 0) (hk : b.kind ≠ 2) : b.fits ∧ (b.kind = 0 ∨ b.kind = 1) ∧ b.age < b.maxAge := by
  unfold bcheckE at hE
  by_cases h1 : b.kind < 0 ∨ 3 ≤ b.kind
  · rw [if_pos h1] at hE; cases hE
  rw [if_neg h1, if_neg hk] at hE
  by_cases h2 : numsB b = false ∨ (b.kind = 0 ∧ tellsB b = true)
  · rw [if_pos h2] at hE; cases hE
  rw [if_neg h2] at hE
  by_cases h3 : b.maxAge ≤ b.age
  · rw [if_pos h3] at hE; cases hE
  have hn : numsB b = true := by
    cases hq : numsB b
    · exact absurd (.inl hq) h2
    · rfl
  simp [numsB, Bp.five, pairB] at hn
  have := hW.root; have := hW.cost; have := hW.bridge
  unfold U64 at *
  exact ⟨⟨by omega, by omega, by omega, by omega, by omega, by omega, by omega, by omega, by omega⟩, by omega, by omega⟩
theorem BBuild_bad (b : Bp) (w : World) (hW : b.wf) (hE : bcheckE b ≠ 0) :
    Calls Tryd.prog 16 #[.agg b.row] w fun e w' => e = .returned (.tuple #[.slice none 0 0, .int .i64 (bcheckE b)]) ∧ Below w.heap.size w w' := by
  have hk := heap_alloc_new w (.cells b.row 41)
  have hC := hide (fun w => BCheck_any b w hW)
  have hE' : (bcheckE b != 0) = true := by simpa using hE
  clear hE
  generalize bcheckE b = E at *
  go_enter Tryd.func16, Tryd.ntmps16
  go_wp2_with (first | ((with_reducible change wpList _ _ _ _ _ _); refine wpList_load_row rfl 41 (.tmp 1) rfl w.heap.size rfl 41 _ _ _ hk Tryd.underlying41 rfl (bpSize _) ?_) | (go_at_call 15; refine (hC.out _).mono ?_; rintro e w1 ⟨rfl, hb1⟩; have hk1 := heap_kept hb1 hk; have c0 : w1.cell? ⟨w.heap.size, 0, none⟩ = some (.int .i64 b.kind) := (cell_of_row _ _ _ _ _ _ hk1).trans rfl))
  go_ret2
  exact ⟨rfl, (below1 _ _).later hb1⟩
theorem BBuild_notice (b : Bp) (w : World) (hW : b.wf) (hE : bcheckE b = 0) (h2 : b.kind = 2) :
    Calls Tryd.prog 16 #[.agg b.row] w fun e w' => ∃ va n k, e = .returned (.tuple #[.slice va n k, .int .i64 0]) ∧ Bs w' (.slice va n k) (nsL (headP 0 128)) ∧ Below w.heap.size w w' := by
  have hk := heap_alloc_new w (.cells b.row 41)
  have hC := hide (fun w => BCheck_any b w hW)
  rw [hE] at hC
  have hH := hide (fun w => head_any 0 128 w (by decide) (by decide))
  have h2' : (b.kind == 2) = true := by simpa using h2
  clear hE
  go_enter Tryd.func16, Tryd.ntmps16
  go_wp2_with (first | ((with_reducible change wpList _ _ _ _ _ _); refine wpList_load_row rfl 41 (.tmp 1) rfl w.heap.size rfl 41 _ _ _ hk Tryd.underlying41 rfl (bpSize _) ?_) | (go_at_call 15; refine (hC.out _).mono ?_; rintro e w1 ⟨rfl, hb1⟩; have hk1 := heap_kept hb1 hk; have c0 : w1.cell? ⟨w.heap.size, 0, none⟩ = some (.int .i64 b.kind) := (cell_of_row _ _ _ _ _ _ hk1).trans rfl) | (go_at_call 52; refine (hH.out _).mono ?_; rintro e w2 ⟨va, n, k, rfl, hB, hb2⟩))
  go_ret2
  exact ⟨va, n, k, rfl, hB, ((below1 _ _).later hb1).later hb2⟩
set_option maxRecDepth 20000 in
theorem BBuild_config (b : Bp) (w : World) (hW : b.wf) (hE : bcheckE b = 0) (h0 : b.kind = 0) (hF : b.fits) :
    Calls Tryd.prog 16 #[.agg b.row] w fun e w' => ∃ va n k, e = .returned (.tuple #[.slice va n k, .int .i64 0]) ∧ Bs w' (.slice va n k) (nsL (headP 0 0) ++ nsL (toldP b)) ∧ Below w.heap.size w w' := by
  have hk := heap_alloc_new w (.cells b.row 41)
  have hC := hide (fun w => BCheck_any b w hW)
  rw [hE] at hC
  have hH := hide (fun w => head_any 0 0 w (by decide) (by decide))
  have hO := hide (fun w => told_any b w hF)
  have h2' : (b.kind == 2) = false := by rw [h0]; rfl
  have h1' : (b.kind == 1) = false := by rw [h0]; rfl
  have hl1 : Hid ((nsL (headP 0 0)).length ≤ 100) := Nat.le_trans (nsL_len _ (by intro p hp; simp [headP] at hp; rcases hp with rfl | rfl | rfl <;> decide)) (by simp [headP])
  have hl2 : Hid ((nsL (toldP b)).length ≤ 100) := Nat.le_trans (nsL_len _ (by intro p hp; simp [toldP] at hp; rcases hp with rfl | rfl | rfl | rfl | rfl | rfl | rfl | rfl | rfl <;> simp)) (by simp [toldP])
  clear hE hF h0
  go_enter Tryd.func16, Tryd.ntmps16
  go_wp2_with (first | ((with_reducible change wpList _ _ _ _ _ _); refine wpList_load_row rfl 41 (.tmp 1) rfl w.heap.size rfl 41 _ _ _ hk Tryd.underlying41 rfl (bpSize _) ?_) | (go_at_call 15; refine (hC.out _).mono ?_; rintro e w1 ⟨rfl, hb1⟩; have hk1 := heap_kept hb1 hk; have c0 : w1.cell? ⟨w.heap.size, 0, none⟩ = some (.int .i64 b.kind) := (cell_of_row _ _ _ _ _ _ hk1).trans rfl))
  have hW1 := hide ((below1 w _).later hb1)
  clear hb1 hk hC c0
  refine wp_region_noPanic ?_
  refine wp_region_held_drew (S := fun W => Below w1.heap.size w1 W) (by kernel_rfl) (below_drewN (Below.refl _ _) 1) (fun hHeld => ?_)
  refine wpAnyH_take (i := 1) (oi := { dst := some 24, op := Op.load 41 (Operand.tmp 1), type := 41, pos := "bpdu.go:215", after := #[], guard := none }) (v := _) rfl (by kernel_rfl) (by kernel_rfl) (by kernel_rfl) (fun _ _ _ h => h) (yieldsIf_load_row rfl 41 _ rfl w.heap.size rfl 41 _ _ _ (fun W h => heap_kept h hk1) Tryd.underlying41 rfl (bpSize _)) (by assumption) ?_
  try simp only [Act.put, List.setIfInBounds_toArray, List.set_cons_zero, List.set_cons_succ]
  refine wpAnyH_ready (rs := [0]) (by kernel_rfl) (by simp) ?_
  refine AllReadyH.cons (o := { dst := some 23, op := Op.call { callee := Callee.value (Operand.func 52), args := #[Operand.const (Value.int IntKind.u64 0), Operand.const (Value.int IntKind.u64 0)], argTypes := #[37, 37] }, type := 26, pos := "bpdu.go:215", after := #[], guard := none }) rfl (fun K hK => ?_) AllReadyH.nil
  go_simp
  refine (hH.out _).mono ?_
  rintro e w2 ⟨va, n, k, rfl, hB2, hb2⟩
  have hb2' : Below w1.heap.size w1 w2 := (below_drewN (Below.refl _ _) 1).later hb2
  go_wp2_with fail
  refine hK.out _ _ ?_ (fun hHeld0 => ?_)
  · exact hb2'
  clear hK K
  try simp only [Act.put, List.setIfInBounds_toArray, List.set_cons_zero, List.set_cons_succ]
  refine wpAnyH_ready (rs := [2]) (by kernel_rfl) (by simp) ?_
  refine AllReadyH.cons (o := { dst := some 25, op := Op.call { callee := Callee.value (Operand.func 54), args := #[Operand.tmp 24], argTypes := #[41] }, type := 26, pos := "bpdu.go:215", after := #[{ on := 1, ground := Ground.data }, { on := 0, ground := Ground.chain }], guard := none }) rfl (fun K hK => ?_) AllReadyH.nil
  go_simp
  refine (hO.out _).mono ?_
  rintro e w3 ⟨ua, un, uk, rfl, hB3, hb3⟩
  have hb3' := hb2'.later hb3
  have hB2' := hB2.below hb3
  go_wp2_with fail
  refine hK.out _ _ ?_ (fun hHeld2 => ?_)
  · exact hb3'
  clear hK K
  try simp only [Act.put, List.setIfInBounds_toArray, List.set_cons_zero, List.set_cons_succ]
  refine wpAnyH_ready (rs := [3]) (by kernel_rfl) (by simp) ?_
  refine AllReadyH.cons (o := { dst := some 26, op := Op.buildSlice 96 2 #[(0, Operand.tmp 23), (1, Operand.tmp 25)], type := 96, pos := "bpdu.go:215", after := #[{ on := 0, ground := Ground.data }, { on := 2, ground := Ground.data }], guard := none }) rfl (fun K hK => ?_) AllReadyH.nil
  go_simp
  refine hK.out _ _ (hb3'.later (below1 _ _)) (fun hHeld3 => ?_)
  clear hK K
  try simp only [Act.put, List.setIfInBounds_toArray, List.set_cons_zero, List.set_cons_succ]
  refine wpAnyH_ready (rs := [4]) (by kernel_rfl) (by simp) ?_
  refine AllReadyH.cons (o := { dst := some 27, op := Op.call { callee := Callee.value (Operand.func 53), args := #[Operand.tmp 26], argTypes := #[96] }, type := 26, pos := "bpdu.go:215", after := #[{ on := 3, ground := Ground.data }, { on := 2, ground := Ground.chain }], guard := none }) rfl (fun K hK => ?_) AllReadyH.nil
  go_simp
  have hJ := Join_two w3.heap.size _ rfl hB2' hB3 rfl (by rw [List.length_append]; have := hl1.out; have := hl2.out; omega)
  refine hJ.mono ?_
  rintro e w4 ⟨rfl, hB4, hb4⟩
  have hb4' := hb3'.later hb4
  generalize (nsL (headP 0 0) ++ nsL (toldP b)).length = ln at *
  go_wp2_with fail
  refine hK.out _ _ ?_ (fun hHeld4 => ?_)
  · exact hb4'
  clear hK K
  try simp only [Act.put, List.setIfInBounds_toArray, List.set_cons_zero, List.set_cons_succ]
  refine wpAnyH_take (i := 5) (oi := { dst := some 2, op := Op.assign (Operand.tmp 27), type := 26, pos := "bpdu.go:215", after := #[{ on := 4, ground := Ground.data }, { on := 4, ground := Ground.chain }, { on := 0, ground := Ground.phase }, { on := 1, ground := Ground.phase }, { on := 2, ground := Ground.phase }, { on := 3, ground := Ground.phase }, { on := 4, ground := Ground.phase }], guard := none }) (v := ?v1) rfl (by kernel_rfl) (by kernel_rfl) (by kernel_rfl) (fun _ _ _ h => h) (Or.inl ⟨by rfl, ?y1⟩) (by assumption) ?r1
  case y1 => (intro w hSw; (try dsimp only at hSw); (try (go_split_ands)); go_simp; try with_reducible rfl)
  try simp only [Act.put, List.setIfInBounds_toArray, List.set_cons_zero, List.set_cons_succ]
  refine wpAnyH_take (i := 6) (oi := { dst := some 3, op := Op.assign (Operand.const (Value.int IntKind.i64 0)), type := 29, pos := "bpdu.go:215", after := #[{ on := 5, ground := Ground.chain }, { on := 0, ground := Ground.phase }, { on := 1, ground := Ground.phase }, { on := 2, ground := Ground.phase }, { on := 3, ground := Ground.phase }, { on := 4, ground := Ground.phase }, { on := 5, ground := Ground.phase }], guard := none }) (v := ?v2) rfl (by kernel_rfl) (by kernel_rfl) (by kernel_rfl) (fun _ _ _ h => h) (Or.inl ⟨by rfl, ?y2⟩) (by assumption) ?r2
  case y2 => (intro w hSw; (try dsimp only at hSw); (try (go_split_ands)); go_simp; try with_reducible rfl)
  try simp only [Act.put, List.setIfInBounds_toArray, List.set_cons_zero, List.set_cons_succ]
  refine wpAnyH_done (by kernel_rfl) ?_ _
  refine NoPanic.normal ?_
  go_wp2
  go_ret2
  exact ⟨_, _, _, rfl, hB4, hW1.out.later hb4'⟩
end Go.Proofs.YtmakaadmjgakaaaDoor
