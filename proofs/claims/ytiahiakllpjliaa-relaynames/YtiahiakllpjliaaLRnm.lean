/-
  The walk of RelayNames. Conditions: those that each theorem names.
-/
import Derived.Test.YtiahiakllpjliaaRl7
namespace Go.Proofs.Ytiahiakllpjliaa
open Go.RowKit Go.Maps
set_option linter.unusedVariables false
set_option linter.unusedSimpArgs false
set_option maxRecDepth 20000

theorem yieldsIf_index {P : Program} {ops : Array Oper} {S : World → Prop} {o : Oper} {a : Act} (hw : Region.wanted o (yielded ops a.tmps) = true) (t : TypeId) (x i : Operand) (ho : o.op = .index t x i) (vx vi v : Value)
    (hx : a.eval x = vx) (hi : a.eval i = vi) (hr : ∀ W, S W → (Instr.index t vx vi).run P W = .ok v W) : YieldsIf P ops S o v a :=
  .inl ⟨hw, fun W hW => by
    unfold execOp
    have hx' : Act.eval { tmps := a.tmps, defers := a.defers } x = vx := hx
    have hi' : Act.eval { tmps := a.tmps, defers := a.defers } i = vi := hi
    simp only [ho, hx', hi', Sem.run_bind, Sem.run_pure, hr W hW, Result.andThen_ok]⟩
@[reducible] def words8 : Array Value := #[.string ⟨#[103, 111, 101, 115]⟩, .string ⟨#[114, 101, 115, 101, 114, 118, 101, 100]⟩, .string ⟨#[114, 101, 102, 117, 115, 101, 100]⟩, .string ⟨#[102, 111, 114, 101, 105, 103, 110]⟩, .string ⟨#[98, 108, 111, 99, 107, 101, 100]⟩, .string ⟨#[108, 111, 99, 97, 108]⟩, .string ⟨#[98, 97, 114, 114, 101, 100]⟩, .string ⟨#[110, 111, 119, 104, 101, 114, 101]⟩]
theorem words_at (i : Nat) (hi : i < 8) (W : World) : (Instr.index 54 (.agg words8) (.int .i64 i)).run Try.prog W = .ok (words8.getD i undef) W := by
  rcases (show i = 0 ∨ i = 1 ∨ i = 2 ∨ i = 3 ∨ i = 4 ∨ i = 5 ∨ i = 6 ∨ i = 7 by omega) with rfl | rfl | rfl | rfl | rfl | rfl | rfl | rfl
  all_goals simp [Instr.index, run_underlying Try.underlying54, asIntOf, go_sem]
set_option maxHeartbeats 8000000 in
theorem Rnm_walk (n : Int) (w : World) : Calls Try.prog 7 #[.int .i64 n] w fun r w' => r = .returned (.bool true) ∧ Below w.heap.size w w' := by
  have hk := hide (ways_any w)
  by_cases h1 : n < 0
  · have hN := hide (fun w => RName_any n w)
    rw [show nameN n = ⟨#[]⟩ by unfold nameN; rw [if_neg (by omega), if_neg (by omega), if_neg (by omega), if_neg (by omega), if_neg (by omega), if_neg (by omega), if_neg (by omega), if_neg (by omega)]] at hN
    go_enter Try.func7, Try.ntmps7
    go_wp2_with fail
    refine hk.out.mono ?_
    rintro _ w1 ⟨rfl, hb1⟩
    go_wp2_with fail
    refine (hN.out _).mono ?_
    rintro _ w2 ⟨rfl, hw2⟩
    obtain rfl := hw2.symm
    go_wp2
    go_ret
    exact ⟨rfl, hb1⟩
  by_cases h2 : 7 < n
  · have hN := hide (fun w => RName_any n w)
    rw [show nameN n = ⟨#[]⟩ by unfold nameN; rw [if_neg (by omega), if_neg (by omega), if_neg (by omega), if_neg (by omega), if_neg (by omega), if_neg (by omega), if_neg (by omega), if_neg (by omega)]] at hN
    go_enter Try.func7, Try.ntmps7
    go_wp2_with fail
    refine hk.out.mono ?_
    rintro _ w1 ⟨rfl, hb1⟩
    go_wp2_with fail
    refine (hN.out _).mono ?_
    rintro _ w2 ⟨rfl, hw2⟩
    obtain rfl := hw2.symm
    go_wp2
    go_ret
    exact ⟨rfl, hb1⟩
  rcases (show n = 0 ∨ n = 1 ∨ n = 2 ∨ n = 3 ∨ n = 4 ∨ n = 5 ∨ n = 6 ∨ n = 7 by omega) with rfl | rfl | rfl | rfl | rfl | rfl | rfl | rfl
  · have hN := hide (fun w => RName_any 0 w)
    rw [show nameN 0 = ⟨#[103, 111, 101, 115]⟩ from rfl] at hN
    go_enter Try.func7, Try.ntmps7
    go_wp2_with fail
    refine hk.out.mono ?_
    rintro _ w1 ⟨rfl, hb1⟩
    replace hb1 := hide hb1
    clear hk h1 h2
    go_wp2_with fail
    refine wp_region_noPanic ?_
    refine wp_region_held_drew (S := fun W => Below w1.heap.size w1 W) (by kernel_rfl) (below_drewS (Below.refl _ _)) (fun hHeld => ?_)
    refine wpAnyH_take (i := 0) (oi := { dst := some 14, op := Op.move (Operand.tmp 0), type := 3, pos := "law.go:199", after := #[], guard := none }) (v := ?v1) rfl (by kernel_rfl) (by kernel_rfl) (by kernel_rfl) (fun _ _ _ h => h) (Or.inl ⟨by rfl, ?y1⟩) (by assumption) ?r1
    case y1 => (intro w hSw; (try dsimp only at hSw); (try (go_split_ands)); go_simp; try with_reducible rfl)
    try simp only [Act.put, List.setIfInBounds_toArray, List.set_cons_zero, List.set_cons_succ]
    refine wpAnyH_take (i := 2) (oi := { dst := some 16, op := Op.build 54 #[(0, Operand.const (Value.string { data := #[103, 111, 101, 115] })), (1, Operand.const (Value.string { data := #[114, 101, 115, 101, 114, 118, 101, 100] })), (2, Operand.const (Value.string { data := #[114, 101, 102, 117, 115, 101, 100] })), (3, Operand.const (Value.string { data := #[102, 111, 114, 101, 105, 103, 110] })), (4, Operand.const (Value.string { data := #[98, 108, 111, 99, 107, 101, 100] })), (5, Operand.const (Value.string { data := #[108, 111, 99, 97, 108] })), (6, Operand.const (Value.string { data := #[98, 97, 114, 114, 101, 100] })), (7, Operand.const (Value.string { data := #[110, 111, 119, 104, 101, 114, 101] }))], type := 54, pos := "law.go:199", after := #[], guard := none }) (v := ?v2) rfl (by kernel_rfl) (by kernel_rfl) (by kernel_rfl) (fun _ _ _ h => h) (Or.inl ⟨by rfl, ?y2⟩) (by assumption) ?r2
    case y2 => (intro w hSw; (try dsimp only at hSw); (try (go_split_ands)); go_simp; try with_reducible rfl)
    try simp only [Act.put, List.setIfInBounds_toArray, List.set_cons_zero, List.set_cons_succ]
    refine wpAnyH_take (i := 3) (oi := { dst := some 17, op := Op.move (Operand.tmp 0), type := 3, pos := "law.go:199", after := #[], guard := none }) (v := ?v3) rfl (by kernel_rfl) (by kernel_rfl) (by kernel_rfl) (fun _ _ _ h => h) (Or.inl ⟨by rfl, ?y3⟩) (by assumption) ?r3
    case y3 => (intro w hSw; (try dsimp only at hSw); (try (go_split_ands)); go_simp; try with_reducible rfl)
    try simp only [Act.put, List.setIfInBounds_toArray, List.set_cons_zero, List.set_cons_succ]
    refine wpAnyH_take (i := 4) (oi := { dst := some 18, op := Op.index 54 (Operand.tmp 16) (Operand.tmp 17), type := 9, pos := "law.go:199", after := #[{ on := 2, ground := Ground.data }, { on := 3, ground := Ground.data }], guard := none }) (v := (.string ⟨#[103, 111, 101, 115]⟩)) rfl (by kernel_rfl) (by kernel_rfl) (by kernel_rfl) (fun _ _ _ h => h) (yieldsIf_index rfl 54 (.tmp 16) (.tmp 17) rfl (.agg words8) (.int .i64 (0 : Nat)) _ rfl rfl (fun W _ => words_at 0 (by decide) W)) (by assumption) ?_
    try simp only [Act.put, List.setIfInBounds_toArray, List.set_cons_zero, List.set_cons_succ]
    refine wpAnyH_ready (rs := [1]) (by kernel_rfl) (by simp) ?_
    refine AllReadyH.cons (o := { dst := some 15, op := Op.call { callee := Callee.value (Operand.func 23), args := #[Operand.tmp 14], argTypes := #[3] }, type := 9, pos := "law.go:199", after := #[{ on := 0, ground := Ground.data }], guard := none }) rfl (fun K hK => ?_) AllReadyH.nil
    go_simp
    refine (hN.out _).mono ?_
    rintro _ w2 ⟨rfl, hw2⟩
    subst hw2
    go_wp2_with fail
    refine hK.out _ _ ?_ (fun hHeld1 => ?_)
    · exact below_drewS (Below.refl _ _)
    clear hK K
    try simp only [Act.put, List.setIfInBounds_toArray, List.set_cons_zero, List.set_cons_succ]
    refine wpAnyH_take (i := 5) (oi := { dst := some 19, op := Op.binOp BinOp.eql 9 (Operand.tmp 15) (Operand.tmp 18) 9, type := 4, pos := "law.go:199", after := #[{ on := 1, ground := Ground.data }, { on := 4, ground := Ground.data }], guard := none }) (v := ?v4) rfl (by kernel_rfl) (by kernel_rfl) (by kernel_rfl) (fun _ _ _ h => h) (Or.inl ⟨by rfl, ?y4⟩) (below_drewS (Below.refl _ _)) ?r4
    case y4 => (intro w hSw; (try dsimp only at hSw); (try (go_split_ands)); go_simp; try with_reducible rfl)
    try simp only [Act.put, List.setIfInBounds_toArray, List.set_cons_zero, List.set_cons_succ]
    refine wpAnyH_take (i := 6) (oi := { dst := some 2, op := Op.assign (Operand.tmp 19), type := 4, pos := "law.go:199", after := #[{ on := 5, ground := Ground.data }, { on := 1, ground := Ground.chain }, { on := 0, ground := Ground.phase }, { on := 1, ground := Ground.phase }, { on := 2, ground := Ground.phase }, { on := 3, ground := Ground.phase }, { on := 4, ground := Ground.phase }, { on := 5, ground := Ground.phase }], guard := none }) (v := ?v5) rfl (by kernel_rfl) (by kernel_rfl) (by kernel_rfl) (fun _ _ _ h => h) (Or.inl ⟨by rfl, ?y5⟩) (below_drewS (Below.refl _ _)) ?r5
    case y5 => (intro w hSw; (try dsimp only at hSw); (try (go_split_ands)); go_simp; try with_reducible rfl)
    try simp only [Act.put, List.setIfInBounds_toArray, List.set_cons_zero, List.set_cons_succ]
    refine wpAnyH_done (by kernel_rfl) ?_ _
    refine NoPanic.normal ?_
    have hb2 : Below w1.heap.size w1 w1.drew := below_drewS (Below.refl _ _)
    have hbz := hide (hb1.out.later hb2)
    clear hHeld hHeld1 hN hb2 hb1
    go_wp2
    go_ret
    exact ⟨rfl, hbz.out⟩
  · have hN := hide (fun w => RName_any 1 w)
    rw [show nameN 1 = ⟨#[114, 101, 115, 101, 114, 118, 101, 100]⟩ from rfl] at hN
    go_enter Try.func7, Try.ntmps7
    go_wp2_with fail
    refine hk.out.mono ?_
    rintro _ w1 ⟨rfl, hb1⟩
    replace hb1 := hide hb1
    clear hk h1 h2
    go_wp2_with fail
    refine wp_region_noPanic ?_
    refine wp_region_held_drew (S := fun W => Below w1.heap.size w1 W) (by kernel_rfl) (below_drewS (Below.refl _ _)) (fun hHeld => ?_)
    refine wpAnyH_take (i := 0) (oi := { dst := some 14, op := Op.move (Operand.tmp 0), type := 3, pos := "law.go:199", after := #[], guard := none }) (v := ?v6) rfl (by kernel_rfl) (by kernel_rfl) (by kernel_rfl) (fun _ _ _ h => h) (Or.inl ⟨by rfl, ?y6⟩) (by assumption) ?r6
    case y6 => (intro w hSw; (try dsimp only at hSw); (try (go_split_ands)); go_simp; try with_reducible rfl)
    try simp only [Act.put, List.setIfInBounds_toArray, List.set_cons_zero, List.set_cons_succ]
    refine wpAnyH_take (i := 2) (oi := { dst := some 16, op := Op.build 54 #[(0, Operand.const (Value.string { data := #[103, 111, 101, 115] })), (1, Operand.const (Value.string { data := #[114, 101, 115, 101, 114, 118, 101, 100] })), (2, Operand.const (Value.string { data := #[114, 101, 102, 117, 115, 101, 100] })), (3, Operand.const (Value.string { data := #[102, 111, 114, 101, 105, 103, 110] })), (4, Operand.const (Value.string { data := #[98, 108, 111, 99, 107, 101, 100] })), (5, Operand.const (Value.string { data := #[108, 111, 99, 97, 108] })), (6, Operand.const (Value.string { data := #[98, 97, 114, 114, 101, 100] })), (7, Operand.const (Value.string { data := #[110, 111, 119, 104, 101, 114, 101] }))], type := 54, pos := "law.go:199", after := #[], guard := none }) (v := ?v7) rfl (by kernel_rfl) (by kernel_rfl) (by kernel_rfl) (fun _ _ _ h => h) (Or.inl ⟨by rfl, ?y7⟩) (by assumption) ?r7
    case y7 => (intro w hSw; (try dsimp only at hSw); (try (go_split_ands)); go_simp; try with_reducible rfl)
    try simp only [Act.put, List.setIfInBounds_toArray, List.set_cons_zero, List.set_cons_succ]
    refine wpAnyH_take (i := 3) (oi := { dst := some 17, op := Op.move (Operand.tmp 0), type := 3, pos := "law.go:199", after := #[], guard := none }) (v := ?v8) rfl (by kernel_rfl) (by kernel_rfl) (by kernel_rfl) (fun _ _ _ h => h) (Or.inl ⟨by rfl, ?y8⟩) (by assumption) ?r8
    case y8 => (intro w hSw; (try dsimp only at hSw); (try (go_split_ands)); go_simp; try with_reducible rfl)
    try simp only [Act.put, List.setIfInBounds_toArray, List.set_cons_zero, List.set_cons_succ]
    refine wpAnyH_take (i := 4) (oi := { dst := some 18, op := Op.index 54 (Operand.tmp 16) (Operand.tmp 17), type := 9, pos := "law.go:199", after := #[{ on := 2, ground := Ground.data }, { on := 3, ground := Ground.data }], guard := none }) (v := (.string ⟨#[114, 101, 115, 101, 114, 118, 101, 100]⟩)) rfl (by kernel_rfl) (by kernel_rfl) (by kernel_rfl) (fun _ _ _ h => h) (yieldsIf_index rfl 54 (.tmp 16) (.tmp 17) rfl (.agg words8) (.int .i64 (1 : Nat)) _ rfl rfl (fun W _ => words_at 1 (by decide) W)) (by assumption) ?_
    try simp only [Act.put, List.setIfInBounds_toArray, List.set_cons_zero, List.set_cons_succ]
    refine wpAnyH_ready (rs := [1]) (by kernel_rfl) (by simp) ?_
    refine AllReadyH.cons (o := { dst := some 15, op := Op.call { callee := Callee.value (Operand.func 23), args := #[Operand.tmp 14], argTypes := #[3] }, type := 9, pos := "law.go:199", after := #[{ on := 0, ground := Ground.data }], guard := none }) rfl (fun K hK => ?_) AllReadyH.nil
    go_simp
    refine (hN.out _).mono ?_
    rintro _ w2 ⟨rfl, hw2⟩
    subst hw2
    go_wp2_with fail
    refine hK.out _ _ ?_ (fun hHeld1 => ?_)
    · exact below_drewS (Below.refl _ _)
    clear hK K
    try simp only [Act.put, List.setIfInBounds_toArray, List.set_cons_zero, List.set_cons_succ]
    refine wpAnyH_take (i := 5) (oi := { dst := some 19, op := Op.binOp BinOp.eql 9 (Operand.tmp 15) (Operand.tmp 18) 9, type := 4, pos := "law.go:199", after := #[{ on := 1, ground := Ground.data }, { on := 4, ground := Ground.data }], guard := none }) (v := ?v9) rfl (by kernel_rfl) (by kernel_rfl) (by kernel_rfl) (fun _ _ _ h => h) (Or.inl ⟨by rfl, ?y9⟩) (below_drewS (Below.refl _ _)) ?r9
    case y9 => (intro w hSw; (try dsimp only at hSw); (try (go_split_ands)); go_simp; try with_reducible rfl)
    try simp only [Act.put, List.setIfInBounds_toArray, List.set_cons_zero, List.set_cons_succ]
    refine wpAnyH_take (i := 6) (oi := { dst := some 2, op := Op.assign (Operand.tmp 19), type := 4, pos := "law.go:199", after := #[{ on := 5, ground := Ground.data }, { on := 1, ground := Ground.chain }, { on := 0, ground := Ground.phase }, { on := 1, ground := Ground.phase }, { on := 2, ground := Ground.phase }, { on := 3, ground := Ground.phase }, { on := 4, ground := Ground.phase }, { on := 5, ground := Ground.phase }], guard := none }) (v := ?v10) rfl (by kernel_rfl) (by kernel_rfl) (by kernel_rfl) (fun _ _ _ h => h) (Or.inl ⟨by rfl, ?y10⟩) (below_drewS (Below.refl _ _)) ?r10
    case y10 => (intro w hSw; (try dsimp only at hSw); (try (go_split_ands)); go_simp; try with_reducible rfl)
    try simp only [Act.put, List.setIfInBounds_toArray, List.set_cons_zero, List.set_cons_succ]
    refine wpAnyH_done (by kernel_rfl) ?_ _
    refine NoPanic.normal ?_
    have hb2 : Below w1.heap.size w1 w1.drew := below_drewS (Below.refl _ _)
    have hbz := hide (hb1.out.later hb2)
    clear hHeld hHeld1 hN hb2 hb1
    go_wp2
    go_ret
    exact ⟨rfl, hbz.out⟩
  · have hN := hide (fun w => RName_any 2 w)
    rw [show nameN 2 = ⟨#[114, 101, 102, 117, 115, 101, 100]⟩ from rfl] at hN
    go_enter Try.func7, Try.ntmps7
    go_wp2_with fail
    refine hk.out.mono ?_
    rintro _ w1 ⟨rfl, hb1⟩
    replace hb1 := hide hb1
    clear hk h1 h2
    go_wp2_with fail
    refine wp_region_noPanic ?_
    refine wp_region_held_drew (S := fun W => Below w1.heap.size w1 W) (by kernel_rfl) (below_drewS (Below.refl _ _)) (fun hHeld => ?_)
    refine wpAnyH_take (i := 0) (oi := { dst := some 14, op := Op.move (Operand.tmp 0), type := 3, pos := "law.go:199", after := #[], guard := none }) (v := ?v11) rfl (by kernel_rfl) (by kernel_rfl) (by kernel_rfl) (fun _ _ _ h => h) (Or.inl ⟨by rfl, ?y11⟩) (by assumption) ?r11
    case y11 => (intro w hSw; (try dsimp only at hSw); (try (go_split_ands)); go_simp; try with_reducible rfl)
    try simp only [Act.put, List.setIfInBounds_toArray, List.set_cons_zero, List.set_cons_succ]
    refine wpAnyH_take (i := 2) (oi := { dst := some 16, op := Op.build 54 #[(0, Operand.const (Value.string { data := #[103, 111, 101, 115] })), (1, Operand.const (Value.string { data := #[114, 101, 115, 101, 114, 118, 101, 100] })), (2, Operand.const (Value.string { data := #[114, 101, 102, 117, 115, 101, 100] })), (3, Operand.const (Value.string { data := #[102, 111, 114, 101, 105, 103, 110] })), (4, Operand.const (Value.string { data := #[98, 108, 111, 99, 107, 101, 100] })), (5, Operand.const (Value.string { data := #[108, 111, 99, 97, 108] })), (6, Operand.const (Value.string { data := #[98, 97, 114, 114, 101, 100] })), (7, Operand.const (Value.string { data := #[110, 111, 119, 104, 101, 114, 101] }))], type := 54, pos := "law.go:199", after := #[], guard := none }) (v := ?v12) rfl (by kernel_rfl) (by kernel_rfl) (by kernel_rfl) (fun _ _ _ h => h) (Or.inl ⟨by rfl, ?y12⟩) (by assumption) ?r12
    case y12 => (intro w hSw; (try dsimp only at hSw); (try (go_split_ands)); go_simp; try with_reducible rfl)
    try simp only [Act.put, List.setIfInBounds_toArray, List.set_cons_zero, List.set_cons_succ]
    refine wpAnyH_take (i := 3) (oi := { dst := some 17, op := Op.move (Operand.tmp 0), type := 3, pos := "law.go:199", after := #[], guard := none }) (v := ?v13) rfl (by kernel_rfl) (by kernel_rfl) (by kernel_rfl) (fun _ _ _ h => h) (Or.inl ⟨by rfl, ?y13⟩) (by assumption) ?r13
    case y13 => (intro w hSw; (try dsimp only at hSw); (try (go_split_ands)); go_simp; try with_reducible rfl)
    try simp only [Act.put, List.setIfInBounds_toArray, List.set_cons_zero, List.set_cons_succ]
    refine wpAnyH_take (i := 4) (oi := { dst := some 18, op := Op.index 54 (Operand.tmp 16) (Operand.tmp 17), type := 9, pos := "law.go:199", after := #[{ on := 2, ground := Ground.data }, { on := 3, ground := Ground.data }], guard := none }) (v := (.string ⟨#[114, 101, 102, 117, 115, 101, 100]⟩)) rfl (by kernel_rfl) (by kernel_rfl) (by kernel_rfl) (fun _ _ _ h => h) (yieldsIf_index rfl 54 (.tmp 16) (.tmp 17) rfl (.agg words8) (.int .i64 (2 : Nat)) _ rfl rfl (fun W _ => words_at 2 (by decide) W)) (by assumption) ?_
    try simp only [Act.put, List.setIfInBounds_toArray, List.set_cons_zero, List.set_cons_succ]
    refine wpAnyH_ready (rs := [1]) (by kernel_rfl) (by simp) ?_
    refine AllReadyH.cons (o := { dst := some 15, op := Op.call { callee := Callee.value (Operand.func 23), args := #[Operand.tmp 14], argTypes := #[3] }, type := 9, pos := "law.go:199", after := #[{ on := 0, ground := Ground.data }], guard := none }) rfl (fun K hK => ?_) AllReadyH.nil
    go_simp
    refine (hN.out _).mono ?_
    rintro _ w2 ⟨rfl, hw2⟩
    subst hw2
    go_wp2_with fail
    refine hK.out _ _ ?_ (fun hHeld1 => ?_)
    · exact below_drewS (Below.refl _ _)
    clear hK K
    try simp only [Act.put, List.setIfInBounds_toArray, List.set_cons_zero, List.set_cons_succ]
    refine wpAnyH_take (i := 5) (oi := { dst := some 19, op := Op.binOp BinOp.eql 9 (Operand.tmp 15) (Operand.tmp 18) 9, type := 4, pos := "law.go:199", after := #[{ on := 1, ground := Ground.data }, { on := 4, ground := Ground.data }], guard := none }) (v := ?v14) rfl (by kernel_rfl) (by kernel_rfl) (by kernel_rfl) (fun _ _ _ h => h) (Or.inl ⟨by rfl, ?y14⟩) (below_drewS (Below.refl _ _)) ?r14
    case y14 => (intro w hSw; (try dsimp only at hSw); (try (go_split_ands)); go_simp; try with_reducible rfl)
    try simp only [Act.put, List.setIfInBounds_toArray, List.set_cons_zero, List.set_cons_succ]
    refine wpAnyH_take (i := 6) (oi := { dst := some 2, op := Op.assign (Operand.tmp 19), type := 4, pos := "law.go:199", after := #[{ on := 5, ground := Ground.data }, { on := 1, ground := Ground.chain }, { on := 0, ground := Ground.phase }, { on := 1, ground := Ground.phase }, { on := 2, ground := Ground.phase }, { on := 3, ground := Ground.phase }, { on := 4, ground := Ground.phase }, { on := 5, ground := Ground.phase }], guard := none }) (v := ?v15) rfl (by kernel_rfl) (by kernel_rfl) (by kernel_rfl) (fun _ _ _ h => h) (Or.inl ⟨by rfl, ?y15⟩) (below_drewS (Below.refl _ _)) ?r15
    case y15 => (intro w hSw; (try dsimp only at hSw); (try (go_split_ands)); go_simp; try with_reducible rfl)
    try simp only [Act.put, List.setIfInBounds_toArray, List.set_cons_zero, List.set_cons_succ]
    refine wpAnyH_done (by kernel_rfl) ?_ _
    refine NoPanic.normal ?_
    have hb2 : Below w1.heap.size w1 w1.drew := below_drewS (Below.refl _ _)
    have hbz := hide (hb1.out.later hb2)
    clear hHeld hHeld1 hN hb2 hb1
    go_wp2
    go_ret
    exact ⟨rfl, hbz.out⟩
  · have hN := hide (fun w => RName_any 3 w)
    rw [show nameN 3 = ⟨#[102, 111, 114, 101, 105, 103, 110]⟩ from rfl] at hN
    go_enter Try.func7, Try.ntmps7
    go_wp2_with fail
    refine hk.out.mono ?_
    rintro _ w1 ⟨rfl, hb1⟩
    replace hb1 := hide hb1
    clear hk h1 h2
    go_wp2_with fail
    refine wp_region_noPanic ?_
    refine wp_region_held_drew (S := fun W => Below w1.heap.size w1 W) (by kernel_rfl) (below_drewS (Below.refl _ _)) (fun hHeld => ?_)
    refine wpAnyH_take (i := 0) (oi := { dst := some 14, op := Op.move (Operand.tmp 0), type := 3, pos := "law.go:199", after := #[], guard := none }) (v := ?v16) rfl (by kernel_rfl) (by kernel_rfl) (by kernel_rfl) (fun _ _ _ h => h) (Or.inl ⟨by rfl, ?y16⟩) (by assumption) ?r16
    case y16 => (intro w hSw; (try dsimp only at hSw); (try (go_split_ands)); go_simp; try with_reducible rfl)
    try simp only [Act.put, List.setIfInBounds_toArray, List.set_cons_zero, List.set_cons_succ]
    refine wpAnyH_take (i := 2) (oi := { dst := some 16, op := Op.build 54 #[(0, Operand.const (Value.string { data := #[103, 111, 101, 115] })), (1, Operand.const (Value.string { data := #[114, 101, 115, 101, 114, 118, 101, 100] })), (2, Operand.const (Value.string { data := #[114, 101, 102, 117, 115, 101, 100] })), (3, Operand.const (Value.string { data := #[102, 111, 114, 101, 105, 103, 110] })), (4, Operand.const (Value.string { data := #[98, 108, 111, 99, 107, 101, 100] })), (5, Operand.const (Value.string { data := #[108, 111, 99, 97, 108] })), (6, Operand.const (Value.string { data := #[98, 97, 114, 114, 101, 100] })), (7, Operand.const (Value.string { data := #[110, 111, 119, 104, 101, 114, 101] }))], type := 54, pos := "law.go:199", after := #[], guard := none }) (v := ?v17) rfl (by kernel_rfl) (by kernel_rfl) (by kernel_rfl) (fun _ _ _ h => h) (Or.inl ⟨by rfl, ?y17⟩) (by assumption) ?r17
    case y17 => (intro w hSw; (try dsimp only at hSw); (try (go_split_ands)); go_simp; try with_reducible rfl)
    try simp only [Act.put, List.setIfInBounds_toArray, List.set_cons_zero, List.set_cons_succ]
    refine wpAnyH_take (i := 3) (oi := { dst := some 17, op := Op.move (Operand.tmp 0), type := 3, pos := "law.go:199", after := #[], guard := none }) (v := ?v18) rfl (by kernel_rfl) (by kernel_rfl) (by kernel_rfl) (fun _ _ _ h => h) (Or.inl ⟨by rfl, ?y18⟩) (by assumption) ?r18
    case y18 => (intro w hSw; (try dsimp only at hSw); (try (go_split_ands)); go_simp; try with_reducible rfl)
    try simp only [Act.put, List.setIfInBounds_toArray, List.set_cons_zero, List.set_cons_succ]
    refine wpAnyH_take (i := 4) (oi := { dst := some 18, op := Op.index 54 (Operand.tmp 16) (Operand.tmp 17), type := 9, pos := "law.go:199", after := #[{ on := 2, ground := Ground.data }, { on := 3, ground := Ground.data }], guard := none }) (v := (.string ⟨#[102, 111, 114, 101, 105, 103, 110]⟩)) rfl (by kernel_rfl) (by kernel_rfl) (by kernel_rfl) (fun _ _ _ h => h) (yieldsIf_index rfl 54 (.tmp 16) (.tmp 17) rfl (.agg words8) (.int .i64 (3 : Nat)) _ rfl rfl (fun W _ => words_at 3 (by decide) W)) (by assumption) ?_
    try simp only [Act.put, List.setIfInBounds_toArray, List.set_cons_zero, List.set_cons_succ]
    refine wpAnyH_ready (rs := [1]) (by kernel_rfl) (by simp) ?_
    refine AllReadyH.cons (o := { dst := some 15, op := Op.call { callee := Callee.value (Operand.func 23), args := #[Operand.tmp 14], argTypes := #[3] }, type := 9, pos := "law.go:199", after := #[{ on := 0, ground := Ground.data }], guard := none }) rfl (fun K hK => ?_) AllReadyH.nil
    go_simp
    refine (hN.out _).mono ?_
    rintro _ w2 ⟨rfl, hw2⟩
    subst hw2
    go_wp2_with fail
    refine hK.out _ _ ?_ (fun hHeld1 => ?_)
    · exact below_drewS (Below.refl _ _)
    clear hK K
    try simp only [Act.put, List.setIfInBounds_toArray, List.set_cons_zero, List.set_cons_succ]
    refine wpAnyH_take (i := 5) (oi := { dst := some 19, op := Op.binOp BinOp.eql 9 (Operand.tmp 15) (Operand.tmp 18) 9, type := 4, pos := "law.go:199", after := #[{ on := 1, ground := Ground.data }, { on := 4, ground := Ground.data }], guard := none }) (v := ?v19) rfl (by kernel_rfl) (by kernel_rfl) (by kernel_rfl) (fun _ _ _ h => h) (Or.inl ⟨by rfl, ?y19⟩) (below_drewS (Below.refl _ _)) ?r19
    case y19 => (intro w hSw; (try dsimp only at hSw); (try (go_split_ands)); go_simp; try with_reducible rfl)
    try simp only [Act.put, List.setIfInBounds_toArray, List.set_cons_zero, List.set_cons_succ]
    refine wpAnyH_take (i := 6) (oi := { dst := some 2, op := Op.assign (Operand.tmp 19), type := 4, pos := "law.go:199", after := #[{ on := 5, ground := Ground.data }, { on := 1, ground := Ground.chain }, { on := 0, ground := Ground.phase }, { on := 1, ground := Ground.phase }, { on := 2, ground := Ground.phase }, { on := 3, ground := Ground.phase }, { on := 4, ground := Ground.phase }, { on := 5, ground := Ground.phase }], guard := none }) (v := ?v20) rfl (by kernel_rfl) (by kernel_rfl) (by kernel_rfl) (fun _ _ _ h => h) (Or.inl ⟨by rfl, ?y20⟩) (below_drewS (Below.refl _ _)) ?r20
    case y20 => (intro w hSw; (try dsimp only at hSw); (try (go_split_ands)); go_simp; try with_reducible rfl)
    try simp only [Act.put, List.setIfInBounds_toArray, List.set_cons_zero, List.set_cons_succ]
    refine wpAnyH_done (by kernel_rfl) ?_ _
    refine NoPanic.normal ?_
    have hb2 : Below w1.heap.size w1 w1.drew := below_drewS (Below.refl _ _)
    have hbz := hide (hb1.out.later hb2)
    clear hHeld hHeld1 hN hb2 hb1
    go_wp2
    go_ret
    exact ⟨rfl, hbz.out⟩
  · have hN := hide (fun w => RName_any 4 w)
    rw [show nameN 4 = ⟨#[98, 108, 111, 99, 107, 101, 100]⟩ from rfl] at hN
    go_enter Try.func7, Try.ntmps7
    go_wp2_with fail
    refine hk.out.mono ?_
    rintro _ w1 ⟨rfl, hb1⟩
    replace hb1 := hide hb1
    clear hk h1 h2
    go_wp2_with fail
    refine wp_region_noPanic ?_
    refine wp_region_held_drew (S := fun W => Below w1.heap.size w1 W) (by kernel_rfl) (below_drewS (Below.refl _ _)) (fun hHeld => ?_)
    refine wpAnyH_take (i := 0) (oi := { dst := some 14, op := Op.move (Operand.tmp 0), type := 3, pos := "law.go:199", after := #[], guard := none }) (v := ?v21) rfl (by kernel_rfl) (by kernel_rfl) (by kernel_rfl) (fun _ _ _ h => h) (Or.inl ⟨by rfl, ?y21⟩) (by assumption) ?r21
    case y21 => (intro w hSw; (try dsimp only at hSw); (try (go_split_ands)); go_simp; try with_reducible rfl)
    try simp only [Act.put, List.setIfInBounds_toArray, List.set_cons_zero, List.set_cons_succ]
    refine wpAnyH_take (i := 2) (oi := { dst := some 16, op := Op.build 54 #[(0, Operand.const (Value.string { data := #[103, 111, 101, 115] })), (1, Operand.const (Value.string { data := #[114, 101, 115, 101, 114, 118, 101, 100] })), (2, Operand.const (Value.string { data := #[114, 101, 102, 117, 115, 101, 100] })), (3, Operand.const (Value.string { data := #[102, 111, 114, 101, 105, 103, 110] })), (4, Operand.const (Value.string { data := #[98, 108, 111, 99, 107, 101, 100] })), (5, Operand.const (Value.string { data := #[108, 111, 99, 97, 108] })), (6, Operand.const (Value.string { data := #[98, 97, 114, 114, 101, 100] })), (7, Operand.const (Value.string { data := #[110, 111, 119, 104, 101, 114, 101] }))], type := 54, pos := "law.go:199", after := #[], guard := none }) (v := ?v22) rfl (by kernel_rfl) (by kernel_rfl) (by kernel_rfl) (fun _ _ _ h => h) (Or.inl ⟨by rfl, ?y22⟩) (by assumption) ?r22
    case y22 => (intro w hSw; (try dsimp only at hSw); (try (go_split_ands)); go_simp; try with_reducible rfl)
    try simp only [Act.put, List.setIfInBounds_toArray, List.set_cons_zero, List.set_cons_succ]
    refine wpAnyH_take (i := 3) (oi := { dst := some 17, op := Op.move (Operand.tmp 0), type := 3, pos := "law.go:199", after := #[], guard := none }) (v := ?v23) rfl (by kernel_rfl) (by kernel_rfl) (by kernel_rfl) (fun _ _ _ h => h) (Or.inl ⟨by rfl, ?y23⟩) (by assumption) ?r23
    case y23 => (intro w hSw; (try dsimp only at hSw); (try (go_split_ands)); go_simp; try with_reducible rfl)
    try simp only [Act.put, List.setIfInBounds_toArray, List.set_cons_zero, List.set_cons_succ]
    refine wpAnyH_take (i := 4) (oi := { dst := some 18, op := Op.index 54 (Operand.tmp 16) (Operand.tmp 17), type := 9, pos := "law.go:199", after := #[{ on := 2, ground := Ground.data }, { on := 3, ground := Ground.data }], guard := none }) (v := (.string ⟨#[98, 108, 111, 99, 107, 101, 100]⟩)) rfl (by kernel_rfl) (by kernel_rfl) (by kernel_rfl) (fun _ _ _ h => h) (yieldsIf_index rfl 54 (.tmp 16) (.tmp 17) rfl (.agg words8) (.int .i64 (4 : Nat)) _ rfl rfl (fun W _ => words_at 4 (by decide) W)) (by assumption) ?_
    try simp only [Act.put, List.setIfInBounds_toArray, List.set_cons_zero, List.set_cons_succ]
    refine wpAnyH_ready (rs := [1]) (by kernel_rfl) (by simp) ?_
    refine AllReadyH.cons (o := { dst := some 15, op := Op.call { callee := Callee.value (Operand.func 23), args := #[Operand.tmp 14], argTypes := #[3] }, type := 9, pos := "law.go:199", after := #[{ on := 0, ground := Ground.data }], guard := none }) rfl (fun K hK => ?_) AllReadyH.nil
    go_simp
    refine (hN.out _).mono ?_
    rintro _ w2 ⟨rfl, hw2⟩
    subst hw2
    go_wp2_with fail
    refine hK.out _ _ ?_ (fun hHeld1 => ?_)
    · exact below_drewS (Below.refl _ _)
    clear hK K
    try simp only [Act.put, List.setIfInBounds_toArray, List.set_cons_zero, List.set_cons_succ]
    refine wpAnyH_take (i := 5) (oi := { dst := some 19, op := Op.binOp BinOp.eql 9 (Operand.tmp 15) (Operand.tmp 18) 9, type := 4, pos := "law.go:199", after := #[{ on := 1, ground := Ground.data }, { on := 4, ground := Ground.data }], guard := none }) (v := ?v24) rfl (by kernel_rfl) (by kernel_rfl) (by kernel_rfl) (fun _ _ _ h => h) (Or.inl ⟨by rfl, ?y24⟩) (below_drewS (Below.refl _ _)) ?r24
    case y24 => (intro w hSw; (try dsimp only at hSw); (try (go_split_ands)); go_simp; try with_reducible rfl)
    try simp only [Act.put, List.setIfInBounds_toArray, List.set_cons_zero, List.set_cons_succ]
    refine wpAnyH_take (i := 6) (oi := { dst := some 2, op := Op.assign (Operand.tmp 19), type := 4, pos := "law.go:199", after := #[{ on := 5, ground := Ground.data }, { on := 1, ground := Ground.chain }, { on := 0, ground := Ground.phase }, { on := 1, ground := Ground.phase }, { on := 2, ground := Ground.phase }, { on := 3, ground := Ground.phase }, { on := 4, ground := Ground.phase }, { on := 5, ground := Ground.phase }], guard := none }) (v := ?v25) rfl (by kernel_rfl) (by kernel_rfl) (by kernel_rfl) (fun _ _ _ h => h) (Or.inl ⟨by rfl, ?y25⟩) (below_drewS (Below.refl _ _)) ?r25
    case y25 => (intro w hSw; (try dsimp only at hSw); (try (go_split_ands)); go_simp; try with_reducible rfl)
    try simp only [Act.put, List.setIfInBounds_toArray, List.set_cons_zero, List.set_cons_succ]
    refine wpAnyH_done (by kernel_rfl) ?_ _
    refine NoPanic.normal ?_
    have hb2 : Below w1.heap.size w1 w1.drew := below_drewS (Below.refl _ _)
    have hbz := hide (hb1.out.later hb2)
    clear hHeld hHeld1 hN hb2 hb1
    go_wp2
    go_ret
    exact ⟨rfl, hbz.out⟩
  · have hN := hide (fun w => RName_any 5 w)
    rw [show nameN 5 = ⟨#[108, 111, 99, 97, 108]⟩ from rfl] at hN
    go_enter Try.func7, Try.ntmps7
    go_wp2_with fail
    refine hk.out.mono ?_
    rintro _ w1 ⟨rfl, hb1⟩
    replace hb1 := hide hb1
    clear hk h1 h2
    go_wp2_with fail
    refine wp_region_noPanic ?_
    refine wp_region_held_drew (S := fun W => Below w1.heap.size w1 W) (by kernel_rfl) (below_drewS (Below.refl _ _)) (fun hHeld => ?_)
    refine wpAnyH_take (i := 0) (oi := { dst := some 14, op := Op.move (Operand.tmp 0), type := 3, pos := "law.go:199", after := #[], guard := none }) (v := ?v26) rfl (by kernel_rfl) (by kernel_rfl) (by kernel_rfl) (fun _ _ _ h => h) (Or.inl ⟨by rfl, ?y26⟩) (by assumption) ?r26
    case y26 => (intro w hSw; (try dsimp only at hSw); (try (go_split_ands)); go_simp; try with_reducible rfl)
    try simp only [Act.put, List.setIfInBounds_toArray, List.set_cons_zero, List.set_cons_succ]
    refine wpAnyH_take (i := 2) (oi := { dst := some 16, op := Op.build 54 #[(0, Operand.const (Value.string { data := #[103, 111, 101, 115] })), (1, Operand.const (Value.string { data := #[114, 101, 115, 101, 114, 118, 101, 100] })), (2, Operand.const (Value.string { data := #[114, 101, 102, 117, 115, 101, 100] })), (3, Operand.const (Value.string { data := #[102, 111, 114, 101, 105, 103, 110] })), (4, Operand.const (Value.string { data := #[98, 108, 111, 99, 107, 101, 100] })), (5, Operand.const (Value.string { data := #[108, 111, 99, 97, 108] })), (6, Operand.const (Value.string { data := #[98, 97, 114, 114, 101, 100] })), (7, Operand.const (Value.string { data := #[110, 111, 119, 104, 101, 114, 101] }))], type := 54, pos := "law.go:199", after := #[], guard := none }) (v := ?v27) rfl (by kernel_rfl) (by kernel_rfl) (by kernel_rfl) (fun _ _ _ h => h) (Or.inl ⟨by rfl, ?y27⟩) (by assumption) ?r27
    case y27 => (intro w hSw; (try dsimp only at hSw); (try (go_split_ands)); go_simp; try with_reducible rfl)
    try simp only [Act.put, List.setIfInBounds_toArray, List.set_cons_zero, List.set_cons_succ]
    refine wpAnyH_take (i := 3) (oi := { dst := some 17, op := Op.move (Operand.tmp 0), type := 3, pos := "law.go:199", after := #[], guard := none }) (v := ?v28) rfl (by kernel_rfl) (by kernel_rfl) (by kernel_rfl) (fun _ _ _ h => h) (Or.inl ⟨by rfl, ?y28⟩) (by assumption) ?r28
    case y28 => (intro w hSw; (try dsimp only at hSw); (try (go_split_ands)); go_simp; try with_reducible rfl)
    try simp only [Act.put, List.setIfInBounds_toArray, List.set_cons_zero, List.set_cons_succ]
    refine wpAnyH_take (i := 4) (oi := { dst := some 18, op := Op.index 54 (Operand.tmp 16) (Operand.tmp 17), type := 9, pos := "law.go:199", after := #[{ on := 2, ground := Ground.data }, { on := 3, ground := Ground.data }], guard := none }) (v := (.string ⟨#[108, 111, 99, 97, 108]⟩)) rfl (by kernel_rfl) (by kernel_rfl) (by kernel_rfl) (fun _ _ _ h => h) (yieldsIf_index rfl 54 (.tmp 16) (.tmp 17) rfl (.agg words8) (.int .i64 (5 : Nat)) _ rfl rfl (fun W _ => words_at 5 (by decide) W)) (by assumption) ?_
    try simp only [Act.put, List.setIfInBounds_toArray, List.set_cons_zero, List.set_cons_succ]
    refine wpAnyH_ready (rs := [1]) (by kernel_rfl) (by simp) ?_
    refine AllReadyH.cons (o := { dst := some 15, op := Op.call { callee := Callee.value (Operand.func 23), args := #[Operand.tmp 14], argTypes := #[3] }, type := 9, pos := "law.go:199", after := #[{ on := 0, ground := Ground.data }], guard := none }) rfl (fun K hK => ?_) AllReadyH.nil
    go_simp
    refine (hN.out _).mono ?_
    rintro _ w2 ⟨rfl, hw2⟩
    subst hw2
    go_wp2_with fail
    refine hK.out _ _ ?_ (fun hHeld1 => ?_)
    · exact below_drewS (Below.refl _ _)
    clear hK K
    try simp only [Act.put, List.setIfInBounds_toArray, List.set_cons_zero, List.set_cons_succ]
    refine wpAnyH_take (i := 5) (oi := { dst := some 19, op := Op.binOp BinOp.eql 9 (Operand.tmp 15) (Operand.tmp 18) 9, type := 4, pos := "law.go:199", after := #[{ on := 1, ground := Ground.data }, { on := 4, ground := Ground.data }], guard := none }) (v := ?v29) rfl (by kernel_rfl) (by kernel_rfl) (by kernel_rfl) (fun _ _ _ h => h) (Or.inl ⟨by rfl, ?y29⟩) (below_drewS (Below.refl _ _)) ?r29
    case y29 => (intro w hSw; (try dsimp only at hSw); (try (go_split_ands)); go_simp; try with_reducible rfl)
    try simp only [Act.put, List.setIfInBounds_toArray, List.set_cons_zero, List.set_cons_succ]
    refine wpAnyH_take (i := 6) (oi := { dst := some 2, op := Op.assign (Operand.tmp 19), type := 4, pos := "law.go:199", after := #[{ on := 5, ground := Ground.data }, { on := 1, ground := Ground.chain }, { on := 0, ground := Ground.phase }, { on := 1, ground := Ground.phase }, { on := 2, ground := Ground.phase }, { on := 3, ground := Ground.phase }, { on := 4, ground := Ground.phase }, { on := 5, ground := Ground.phase }], guard := none }) (v := ?v30) rfl (by kernel_rfl) (by kernel_rfl) (by kernel_rfl) (fun _ _ _ h => h) (Or.inl ⟨by rfl, ?y30⟩) (below_drewS (Below.refl _ _)) ?r30
    case y30 => (intro w hSw; (try dsimp only at hSw); (try (go_split_ands)); go_simp; try with_reducible rfl)
    try simp only [Act.put, List.setIfInBounds_toArray, List.set_cons_zero, List.set_cons_succ]
    refine wpAnyH_done (by kernel_rfl) ?_ _
    refine NoPanic.normal ?_
    have hb2 : Below w1.heap.size w1 w1.drew := below_drewS (Below.refl _ _)
    have hbz := hide (hb1.out.later hb2)
    clear hHeld hHeld1 hN hb2 hb1
    go_wp2
    go_ret
    exact ⟨rfl, hbz.out⟩
  · have hN := hide (fun w => RName_any 6 w)
    rw [show nameN 6 = ⟨#[98, 97, 114, 114, 101, 100]⟩ from rfl] at hN
    go_enter Try.func7, Try.ntmps7
    go_wp2_with fail
    refine hk.out.mono ?_
    rintro _ w1 ⟨rfl, hb1⟩
    replace hb1 := hide hb1
    clear hk h1 h2
    go_wp2_with fail
    refine wp_region_noPanic ?_
    refine wp_region_held_drew (S := fun W => Below w1.heap.size w1 W) (by kernel_rfl) (below_drewS (Below.refl _ _)) (fun hHeld => ?_)
    refine wpAnyH_take (i := 0) (oi := { dst := some 14, op := Op.move (Operand.tmp 0), type := 3, pos := "law.go:199", after := #[], guard := none }) (v := ?v31) rfl (by kernel_rfl) (by kernel_rfl) (by kernel_rfl) (fun _ _ _ h => h) (Or.inl ⟨by rfl, ?y31⟩) (by assumption) ?r31
    case y31 => (intro w hSw; (try dsimp only at hSw); (try (go_split_ands)); go_simp; try with_reducible rfl)
    try simp only [Act.put, List.setIfInBounds_toArray, List.set_cons_zero, List.set_cons_succ]
    refine wpAnyH_take (i := 2) (oi := { dst := some 16, op := Op.build 54 #[(0, Operand.const (Value.string { data := #[103, 111, 101, 115] })), (1, Operand.const (Value.string { data := #[114, 101, 115, 101, 114, 118, 101, 100] })), (2, Operand.const (Value.string { data := #[114, 101, 102, 117, 115, 101, 100] })), (3, Operand.const (Value.string { data := #[102, 111, 114, 101, 105, 103, 110] })), (4, Operand.const (Value.string { data := #[98, 108, 111, 99, 107, 101, 100] })), (5, Operand.const (Value.string { data := #[108, 111, 99, 97, 108] })), (6, Operand.const (Value.string { data := #[98, 97, 114, 114, 101, 100] })), (7, Operand.const (Value.string { data := #[110, 111, 119, 104, 101, 114, 101] }))], type := 54, pos := "law.go:199", after := #[], guard := none }) (v := ?v32) rfl (by kernel_rfl) (by kernel_rfl) (by kernel_rfl) (fun _ _ _ h => h) (Or.inl ⟨by rfl, ?y32⟩) (by assumption) ?r32
    case y32 => (intro w hSw; (try dsimp only at hSw); (try (go_split_ands)); go_simp; try with_reducible rfl)
    try simp only [Act.put, List.setIfInBounds_toArray, List.set_cons_zero, List.set_cons_succ]
    refine wpAnyH_take (i := 3) (oi := { dst := some 17, op := Op.move (Operand.tmp 0), type := 3, pos := "law.go:199", after := #[], guard := none }) (v := ?v33) rfl (by kernel_rfl) (by kernel_rfl) (by kernel_rfl) (fun _ _ _ h => h) (Or.inl ⟨by rfl, ?y33⟩) (by assumption) ?r33
    case y33 => (intro w hSw; (try dsimp only at hSw); (try (go_split_ands)); go_simp; try with_reducible rfl)
    try simp only [Act.put, List.setIfInBounds_toArray, List.set_cons_zero, List.set_cons_succ]
    refine wpAnyH_take (i := 4) (oi := { dst := some 18, op := Op.index 54 (Operand.tmp 16) (Operand.tmp 17), type := 9, pos := "law.go:199", after := #[{ on := 2, ground := Ground.data }, { on := 3, ground := Ground.data }], guard := none }) (v := (.string ⟨#[98, 97, 114, 114, 101, 100]⟩)) rfl (by kernel_rfl) (by kernel_rfl) (by kernel_rfl) (fun _ _ _ h => h) (yieldsIf_index rfl 54 (.tmp 16) (.tmp 17) rfl (.agg words8) (.int .i64 (6 : Nat)) _ rfl rfl (fun W _ => words_at 6 (by decide) W)) (by assumption) ?_
    try simp only [Act.put, List.setIfInBounds_toArray, List.set_cons_zero, List.set_cons_succ]
    refine wpAnyH_ready (rs := [1]) (by kernel_rfl) (by simp) ?_
    refine AllReadyH.cons (o := { dst := some 15, op := Op.call { callee := Callee.value (Operand.func 23), args := #[Operand.tmp 14], argTypes := #[3] }, type := 9, pos := "law.go:199", after := #[{ on := 0, ground := Ground.data }], guard := none }) rfl (fun K hK => ?_) AllReadyH.nil
    go_simp
    refine (hN.out _).mono ?_
    rintro _ w2 ⟨rfl, hw2⟩
    subst hw2
    go_wp2_with fail
    refine hK.out _ _ ?_ (fun hHeld1 => ?_)
    · exact below_drewS (Below.refl _ _)
    clear hK K
    try simp only [Act.put, List.setIfInBounds_toArray, List.set_cons_zero, List.set_cons_succ]
    refine wpAnyH_take (i := 5) (oi := { dst := some 19, op := Op.binOp BinOp.eql 9 (Operand.tmp 15) (Operand.tmp 18) 9, type := 4, pos := "law.go:199", after := #[{ on := 1, ground := Ground.data }, { on := 4, ground := Ground.data }], guard := none }) (v := ?v34) rfl (by kernel_rfl) (by kernel_rfl) (by kernel_rfl) (fun _ _ _ h => h) (Or.inl ⟨by rfl, ?y34⟩) (below_drewS (Below.refl _ _)) ?r34
    case y34 => (intro w hSw; (try dsimp only at hSw); (try (go_split_ands)); go_simp; try with_reducible rfl)
    try simp only [Act.put, List.setIfInBounds_toArray, List.set_cons_zero, List.set_cons_succ]
    refine wpAnyH_take (i := 6) (oi := { dst := some 2, op := Op.assign (Operand.tmp 19), type := 4, pos := "law.go:199", after := #[{ on := 5, ground := Ground.data }, { on := 1, ground := Ground.chain }, { on := 0, ground := Ground.phase }, { on := 1, ground := Ground.phase }, { on := 2, ground := Ground.phase }, { on := 3, ground := Ground.phase }, { on := 4, ground := Ground.phase }, { on := 5, ground := Ground.phase }], guard := none }) (v := ?v35) rfl (by kernel_rfl) (by kernel_rfl) (by kernel_rfl) (fun _ _ _ h => h) (Or.inl ⟨by rfl, ?y35⟩) (below_drewS (Below.refl _ _)) ?r35
    case y35 => (intro w hSw; (try dsimp only at hSw); (try (go_split_ands)); go_simp; try with_reducible rfl)
    try simp only [Act.put, List.setIfInBounds_toArray, List.set_cons_zero, List.set_cons_succ]
    refine wpAnyH_done (by kernel_rfl) ?_ _
    refine NoPanic.normal ?_
    have hb2 : Below w1.heap.size w1 w1.drew := below_drewS (Below.refl _ _)
    have hbz := hide (hb1.out.later hb2)
    clear hHeld hHeld1 hN hb2 hb1
    go_wp2
    go_ret
    exact ⟨rfl, hbz.out⟩
  · have hN := hide (fun w => RName_any 7 w)
    rw [show nameN 7 = ⟨#[110, 111, 119, 104, 101, 114, 101]⟩ from rfl] at hN
    go_enter Try.func7, Try.ntmps7
    go_wp2_with fail
    refine hk.out.mono ?_
    rintro _ w1 ⟨rfl, hb1⟩
    replace hb1 := hide hb1
    clear hk h1 h2
    go_wp2_with fail
    refine wp_region_noPanic ?_
    refine wp_region_held_drew (S := fun W => Below w1.heap.size w1 W) (by kernel_rfl) (below_drewS (Below.refl _ _)) (fun hHeld => ?_)
    refine wpAnyH_take (i := 0) (oi := { dst := some 14, op := Op.move (Operand.tmp 0), type := 3, pos := "law.go:199", after := #[], guard := none }) (v := ?v36) rfl (by kernel_rfl) (by kernel_rfl) (by kernel_rfl) (fun _ _ _ h => h) (Or.inl ⟨by rfl, ?y36⟩) (by assumption) ?r36
    case y36 => (intro w hSw; (try dsimp only at hSw); (try (go_split_ands)); go_simp; try with_reducible rfl)
    try simp only [Act.put, List.setIfInBounds_toArray, List.set_cons_zero, List.set_cons_succ]
    refine wpAnyH_take (i := 2) (oi := { dst := some 16, op := Op.build 54 #[(0, Operand.const (Value.string { data := #[103, 111, 101, 115] })), (1, Operand.const (Value.string { data := #[114, 101, 115, 101, 114, 118, 101, 100] })), (2, Operand.const (Value.string { data := #[114, 101, 102, 117, 115, 101, 100] })), (3, Operand.const (Value.string { data := #[102, 111, 114, 101, 105, 103, 110] })), (4, Operand.const (Value.string { data := #[98, 108, 111, 99, 107, 101, 100] })), (5, Operand.const (Value.string { data := #[108, 111, 99, 97, 108] })), (6, Operand.const (Value.string { data := #[98, 97, 114, 114, 101, 100] })), (7, Operand.const (Value.string { data := #[110, 111, 119, 104, 101, 114, 101] }))], type := 54, pos := "law.go:199", after := #[], guard := none }) (v := ?v37) rfl (by kernel_rfl) (by kernel_rfl) (by kernel_rfl) (fun _ _ _ h => h) (Or.inl ⟨by rfl, ?y37⟩) (by assumption) ?r37
    case y37 => (intro w hSw; (try dsimp only at hSw); (try (go_split_ands)); go_simp; try with_reducible rfl)
    try simp only [Act.put, List.setIfInBounds_toArray, List.set_cons_zero, List.set_cons_succ]
    refine wpAnyH_take (i := 3) (oi := { dst := some 17, op := Op.move (Operand.tmp 0), type := 3, pos := "law.go:199", after := #[], guard := none }) (v := ?v38) rfl (by kernel_rfl) (by kernel_rfl) (by kernel_rfl) (fun _ _ _ h => h) (Or.inl ⟨by rfl, ?y38⟩) (by assumption) ?r38
    case y38 => (intro w hSw; (try dsimp only at hSw); (try (go_split_ands)); go_simp; try with_reducible rfl)
    try simp only [Act.put, List.setIfInBounds_toArray, List.set_cons_zero, List.set_cons_succ]
    refine wpAnyH_take (i := 4) (oi := { dst := some 18, op := Op.index 54 (Operand.tmp 16) (Operand.tmp 17), type := 9, pos := "law.go:199", after := #[{ on := 2, ground := Ground.data }, { on := 3, ground := Ground.data }], guard := none }) (v := (.string ⟨#[110, 111, 119, 104, 101, 114, 101]⟩)) rfl (by kernel_rfl) (by kernel_rfl) (by kernel_rfl) (fun _ _ _ h => h) (yieldsIf_index rfl 54 (.tmp 16) (.tmp 17) rfl (.agg words8) (.int .i64 (7 : Nat)) _ rfl rfl (fun W _ => words_at 7 (by decide) W)) (by assumption) ?_
    try simp only [Act.put, List.setIfInBounds_toArray, List.set_cons_zero, List.set_cons_succ]
    refine wpAnyH_ready (rs := [1]) (by kernel_rfl) (by simp) ?_
    refine AllReadyH.cons (o := { dst := some 15, op := Op.call { callee := Callee.value (Operand.func 23), args := #[Operand.tmp 14], argTypes := #[3] }, type := 9, pos := "law.go:199", after := #[{ on := 0, ground := Ground.data }], guard := none }) rfl (fun K hK => ?_) AllReadyH.nil
    go_simp
    refine (hN.out _).mono ?_
    rintro _ w2 ⟨rfl, hw2⟩
    subst hw2
    go_wp2_with fail
    refine hK.out _ _ ?_ (fun hHeld1 => ?_)
    · exact below_drewS (Below.refl _ _)
    clear hK K
    try simp only [Act.put, List.setIfInBounds_toArray, List.set_cons_zero, List.set_cons_succ]
    refine wpAnyH_take (i := 5) (oi := { dst := some 19, op := Op.binOp BinOp.eql 9 (Operand.tmp 15) (Operand.tmp 18) 9, type := 4, pos := "law.go:199", after := #[{ on := 1, ground := Ground.data }, { on := 4, ground := Ground.data }], guard := none }) (v := ?v39) rfl (by kernel_rfl) (by kernel_rfl) (by kernel_rfl) (fun _ _ _ h => h) (Or.inl ⟨by rfl, ?y39⟩) (below_drewS (Below.refl _ _)) ?r39
    case y39 => (intro w hSw; (try dsimp only at hSw); (try (go_split_ands)); go_simp; try with_reducible rfl)
    try simp only [Act.put, List.setIfInBounds_toArray, List.set_cons_zero, List.set_cons_succ]
    refine wpAnyH_take (i := 6) (oi := { dst := some 2, op := Op.assign (Operand.tmp 19), type := 4, pos := "law.go:199", after := #[{ on := 5, ground := Ground.data }, { on := 1, ground := Ground.chain }, { on := 0, ground := Ground.phase }, { on := 1, ground := Ground.phase }, { on := 2, ground := Ground.phase }, { on := 3, ground := Ground.phase }, { on := 4, ground := Ground.phase }, { on := 5, ground := Ground.phase }], guard := none }) (v := ?v40) rfl (by kernel_rfl) (by kernel_rfl) (by kernel_rfl) (fun _ _ _ h => h) (Or.inl ⟨by rfl, ?y40⟩) (below_drewS (Below.refl _ _)) ?r40
    case y40 => (intro w hSw; (try dsimp only at hSw); (try (go_split_ands)); go_simp; try with_reducible rfl)
    try simp only [Act.put, List.setIfInBounds_toArray, List.set_cons_zero, List.set_cons_succ]
    refine wpAnyH_done (by kernel_rfl) ?_ _
    refine NoPanic.normal ?_
    have hb2 : Below w1.heap.size w1 w1.drew := below_drewS (Below.refl _ _)
    have hbz := hide (hb1.out.later hb2)
    clear hHeld hHeld1 hN hb2 hb1
    go_wp2
    go_ret
    exact ⟨rfl, hbz.out⟩
end Go.Proofs.Ytiahiakllpjliaa
