/-
  Contracts of slices.Delete (one filter) and of stream's Remove. Conditions: those that each theorem names.
-/
import Derived.Test.YtiahiakllpjliaaSm5
namespace Go.Proofs.Ytiahiakllpjliaa
open Go.RowKit Go.Maps
set_option linter.unusedVariables false
set_option linter.unusedSimpArgs false
set_option maxRecDepth 20000

theorem step_append_run {P : Program} {w w' : World} {ops : Array Oper} {o : Oper} {a : Act} {K : Act → World → Prop} {Q : Exit → Act → World → Prop} {E : Prop} {t : TypeId} (hw : Region.wanted o (yielded ops a.tmps) = true) (s x : Operand)
    (ho : o.op = .call { callee := .builtin .append, args := #[s, x], argTypes := #[t, t] }) (vs vx v' : Value) (hs : a.eval s = vs) (hx : a.eval x = vx) (hr : (Builtin.append_ #[t, t] o.type #[vs, vx]).run P w = .ok v' w')
    (h : K (a.put o.dst v') w') : if Region.wanted o (yielded ops a.tmps) = true then Oper.wp P o a w K Q else E := by
  rw [if_pos hw]
  unfold Oper.wp execOp
  simp only [ho, resolve, invoke, builtin, Sem.run_bind, Sem.run_pure, Result.andThen_ok, List.map_toArray, List.map_cons, List.map_nil, hs, hx, hr]
  exact h
set_option maxHeartbeats 8000000 in
theorem DelF_any {w : World} {b cap : Nat} {l : List Sf} {sp : List Value} (h : Fl w b 71 fSf l sp) (h1 : l.length ≤ cap) (h2 : cap ≤ maxLen) (h3 : l.length * 9 + sp.length = cap * 9) (k : Nat) (hk : k < l.length) :
    Calls Try.prog 55 #[.slice (some ⟨b, 0, none⟩) l.length cap, .int .i64 k, .int .i64 ((k : Int) + 1)] w fun r w' => r = .returned (.slice (some ⟨b, 0, none⟩) (l.length - 1) cap) ∧ Sl w' (.slice (some ⟨b, 0, none⟩) (l.length - 1) cap) 71 9 fSf (outL l k) ∧ Ch (· = b) w w' := by
  have hol := outL_len hk
  have hcm63 : cap ≤ 9223372036854775807 := by simpa [maxLen] using h2
  obtain ⟨L, hL⟩ : ∃ L, l.length = L + 1 := ⟨l.length - 1, by omega⟩
  have hA := hide (fun a c (ha : a = ⟨b, (k + 1) * 9, none⟩ ∨ k + 1 = l.length) => append_moved (w := w.drew) (h.blk rfl) h1 k hk a c ha)
  have h2' := hide h2
  have h3' := hide h3
  rw [hL] at hA hk h1 ⊢
  have hol' : Hid ((outL l k).length = L) := by rw [hL] at hol; exact hide (by omega)
  replace hL := hide hL
  clear h hol h2 h3
  have hne : ((k : Int) == (k : Int) + 1) = false := beq_eq_false_iff_ne.2 (by omega)
  go_enter Try.func55, Try.ntmps55
  go_wp2_with fail
  have hkc : k ≤ cap := by omega
  have hkL : k + 1 ≤ L + 1 := by omega
  have hkL2 : k ≤ L := by omega
  refine wp_region_noPanic ?_
  refine wp_region_held_drew (S := fun W => True) (by kernel_rfl) trivial (fun hHeld => ?_)
  have hp1 : (0 : Int) ≤ (k : Int) + 1 := by omega
  have hp2 : (k : Int) ≤ (k : Int) + 1 := by omega
  have hLc : ¬ cap = L := by omega
  have hLc2 : ¬ L = cap := by omega
  have hLc3 : L ≤ cap := by omega
  by_cases hce : cap = k + 1
  · have hkL3 : k = L := by omega
    subst hkL3
    subst hce
    obtain ⟨w5, hr5, hC5, sp5, hs5, hF5⟩ := hA.out ⟨b, 0, none⟩ (0) (.inr (by omega))
    rw [show k + 1 - (k + 1) = k - k by omega, Nat.add_sub_cancel] at hr5
    rw [Nat.sub_self] at hr5
    have hr6 := fun ty => hr5 ty
    clear hr5
    refine wpAnyH_take (i := 0) (oi := { dst := some 20, op := Op.move (Operand.tmp 0), type := 67, pos := "slices.go:232", after := #[], guard := none }) (v := ?v1) rfl (by kernel_rfl) (by kernel_rfl) (by kernel_rfl) (fun _ _ _ h => h) (Or.inl ⟨by rfl, ?y1⟩) trivial ?r1
    case y1 => (intro w hSw; (try dsimp only at hSw); (try (go_split_ands)); go_simp; try with_reducible rfl)
    try simp only [Act.put, List.setIfInBounds_toArray, List.set_cons_zero, List.set_cons_succ]
    refine wpAnyH_take (i := 1) (oi := { dst := some 21, op := Op.move (Operand.tmp 1), type := 3, pos := "slices.go:232", after := #[], guard := none }) (v := ?v2) rfl (by kernel_rfl) (by kernel_rfl) (by kernel_rfl) (fun _ _ _ h => h) (Or.inl ⟨by rfl, ?y2⟩) trivial ?r2
    case y2 => (intro w hSw; (try dsimp only at hSw); (try (go_split_ands)); go_simp; try with_reducible rfl)
    try simp only [Act.put, List.setIfInBounds_toArray, List.set_cons_zero, List.set_cons_succ]
    refine wpAnyH_take (i := 2) (oi := { dst := some 22, op := Op.slice 67 (Operand.tmp 20) none (some (Operand.tmp 21)) none, type := 67, pos := "slices.go:232", after := #[{ on := 0, ground := Ground.data }, { on := 1, ground := Ground.data }], guard := none }) (v := ?v3) rfl (by kernel_rfl) (by kernel_rfl) (by kernel_rfl) (fun _ _ _ h => h) (Or.inl ⟨by rfl, ?y3⟩) trivial ?r3
    case y3 => (intro w hSw; (try dsimp only at hSw); (try (go_split_ands)); go_simp; try with_reducible rfl)
    try simp only [Act.put, List.setIfInBounds_toArray, List.set_cons_zero, List.set_cons_succ]
    refine wpAnyH_take (i := 3) (oi := { dst := some 23, op := Op.move (Operand.tmp 0), type := 67, pos := "slices.go:232", after := #[], guard := none }) (v := ?v4) rfl (by kernel_rfl) (by kernel_rfl) (by kernel_rfl) (fun _ _ _ h => h) (Or.inl ⟨by rfl, ?y4⟩) trivial ?r4
    case y4 => (intro w hSw; (try dsimp only at hSw); (try (go_split_ands)); go_simp; try with_reducible rfl)
    try simp only [Act.put, List.setIfInBounds_toArray, List.set_cons_zero, List.set_cons_succ]
    refine wpAnyH_take (i := 4) (oi := { dst := some 24, op := Op.move (Operand.tmp 2), type := 3, pos := "slices.go:232", after := #[], guard := none }) (v := ?v5) rfl (by kernel_rfl) (by kernel_rfl) (by kernel_rfl) (fun _ _ _ h => h) (Or.inl ⟨by rfl, ?y5⟩) trivial ?r5
    case y5 => (intro w hSw; (try dsimp only at hSw); (try (go_split_ands)); go_simp; try with_reducible rfl)
    try simp only [Act.put, List.setIfInBounds_toArray, List.set_cons_zero, List.set_cons_succ]
    refine wpAnyH_take (i := 5) (oi := { dst := some 25, op := Op.slice 67 (Operand.tmp 23) (some (Operand.tmp 24)) none none, type := 67, pos := "slices.go:232", after := #[{ on := 3, ground := Ground.data }, { on := 4, ground := Ground.data }], guard := none }) (v := ?v6) rfl (by kernel_rfl) (by kernel_rfl) (by kernel_rfl) (fun _ _ _ h => h) (Or.inl ⟨by rfl, ?y6⟩) trivial ?r6
    case y6 => (intro w hSw; (try dsimp only at hSw); (try (go_split_ands)); go_simp; try with_reducible rfl)
    try simp only [Act.put, List.setIfInBounds_toArray, List.set_cons_zero, List.set_cons_succ]
    refine wpAnyH_ready (rs := [6]) (by kernel_rfl) (by simp) ?_
    refine AllReadyH.cons (o := { dst := some 26, op := Op.call { callee := Callee.builtin Builtin.append, args := #[Operand.tmp 22, Operand.tmp 25], argTypes := #[67, 67] }, type := 67, pos := "slices.go:232", after := #[{ on := 2, ground := Ground.data }, { on := 5, ground := Ground.data }], guard := none }) rfl (fun K hK => ?_) AllReadyH.nil
    refine step_append_run rfl (.tmp 22) (.tmp 25) rfl (.slice (some ⟨b, 0, none⟩) k (k + 1)) (.slice (some ⟨b, 0, none⟩) 0 0) (.slice (some ⟨b, 0, none⟩) k (k + 1)) rfl rfl (hr6 _) ?_
    refine hK.out _ _ trivial (fun hHeld6 => ?_)
    clear hK K
    try simp only [Act.put, List.setIfInBounds_toArray, List.set_cons_zero, List.set_cons_succ]
    refine wpAnyH_take (i := 7) (oi := { dst := some 0, op := Op.assign (Operand.tmp 26), type := 67, pos := "slices.go:232", after := #[{ on := 6, ground := Ground.data }, { on := 6, ground := Ground.chain }, { on := 0, ground := Ground.phase }, { on := 1, ground := Ground.phase }, { on := 2, ground := Ground.phase }, { on := 3, ground := Ground.phase }, { on := 4, ground := Ground.phase }, { on := 5, ground := Ground.phase }, { on := 6, ground := Ground.phase }], guard := none }) (v := ?v7) rfl (by kernel_rfl) (by kernel_rfl) (by kernel_rfl) (fun _ _ _ h => h) (Or.inl ⟨by rfl, ?y7⟩) trivial ?r7
    case y7 => (intro w hSw; (try dsimp only at hSw); (try (go_split_ands)); go_simp; try with_reducible rfl)
    try simp only [Act.put, List.setIfInBounds_toArray, List.set_cons_zero]
    refine wpAnyH_done (by kernel_rfl) ?_ _
    refine NoPanic.normal ?_
    clear hHeld hHeld6 hr6 hA
    obtain ⟨w9, hcl, hC9, sp9, hs9, hF9⟩ := clear_tail (P := Try.prog) (t := 67) hF5 wide_Sf (by omega) Sf.zero sf_zero Try.underlying67 1 (k + 1 - k) (by rw [hs5]; omega)
    rw [hol'.out, Nat.add_sub_cancel_left] at hcl
    have hSf : Hid (Sl w9 (.slice (some ⟨b, 0, none⟩) k (k + 1)) 71 9 fSf (outL l k)) := by
      refine hide (.inr ⟨b, (k + 1), sp9, by rw [hol'.out], hF9, by rw [hol'.out]; omega, h2'.out, ?_⟩)
      have h3 := h3'.out
      rw [hol'.out, hs9, hs5]
      rw [hL.out] at h3
      omega
    have hdr : Ch (· = b) w w.drew := ⟨rfl, rfl, rfl, Nat.le_refl _, fun _ _ _ => rfl⟩
    have hCf : Hid (Ch (· = b) w w9) := (hdr.trans hC5).trans hC9
    clear hC5 hC9 hF5 hF9 hs9 hs5
    go_wp2
    go_ret
    exact ⟨rfl, hSf.out, hCf.out⟩
  · have hce' : ¬ k + 1 = cap := fun e => hce e.symm
    have hk1c : k + 1 ≤ cap := by omega
    obtain ⟨w5, hr5, hC5, sp5, hs5, hF5⟩ := hA.out ⟨b, (k + 1) * 9, none⟩ (cap - (k + 1)) (.inl rfl)
    rw [show L + 1 - (k + 1) = L - k by omega, Nat.add_sub_cancel] at hr5
    have hr6 := fun ty => hr5 ty
    clear hr5
    refine wpAnyH_take (i := 0) (oi := { dst := some 20, op := Op.move (Operand.tmp 0), type := 67, pos := "slices.go:232", after := #[], guard := none }) (v := ?v8) rfl (by kernel_rfl) (by kernel_rfl) (by kernel_rfl) (fun _ _ _ h => h) (Or.inl ⟨by rfl, ?y8⟩) trivial ?r8
    case y8 => (intro w hSw; (try dsimp only at hSw); (try (go_split_ands)); go_simp; try with_reducible rfl)
    try simp only [Act.put, List.setIfInBounds_toArray, List.set_cons_zero, List.set_cons_succ]
    refine wpAnyH_take (i := 1) (oi := { dst := some 21, op := Op.move (Operand.tmp 1), type := 3, pos := "slices.go:232", after := #[], guard := none }) (v := ?v9) rfl (by kernel_rfl) (by kernel_rfl) (by kernel_rfl) (fun _ _ _ h => h) (Or.inl ⟨by rfl, ?y9⟩) trivial ?r9
    case y9 => (intro w hSw; (try dsimp only at hSw); (try (go_split_ands)); go_simp; try with_reducible rfl)
    try simp only [Act.put, List.setIfInBounds_toArray, List.set_cons_zero, List.set_cons_succ]
    refine wpAnyH_take (i := 2) (oi := { dst := some 22, op := Op.slice 67 (Operand.tmp 20) none (some (Operand.tmp 21)) none, type := 67, pos := "slices.go:232", after := #[{ on := 0, ground := Ground.data }, { on := 1, ground := Ground.data }], guard := none }) (v := ?v10) rfl (by kernel_rfl) (by kernel_rfl) (by kernel_rfl) (fun _ _ _ h => h) (Or.inl ⟨by rfl, ?y10⟩) trivial ?r10
    case y10 => (intro w hSw; (try dsimp only at hSw); (try (go_split_ands)); go_simp; try with_reducible rfl)
    try simp only [Act.put, List.setIfInBounds_toArray, List.set_cons_zero, List.set_cons_succ]
    refine wpAnyH_take (i := 3) (oi := { dst := some 23, op := Op.move (Operand.tmp 0), type := 67, pos := "slices.go:232", after := #[], guard := none }) (v := ?v11) rfl (by kernel_rfl) (by kernel_rfl) (by kernel_rfl) (fun _ _ _ h => h) (Or.inl ⟨by rfl, ?y11⟩) trivial ?r11
    case y11 => (intro w hSw; (try dsimp only at hSw); (try (go_split_ands)); go_simp; try with_reducible rfl)
    try simp only [Act.put, List.setIfInBounds_toArray, List.set_cons_zero, List.set_cons_succ]
    refine wpAnyH_take (i := 4) (oi := { dst := some 24, op := Op.move (Operand.tmp 2), type := 3, pos := "slices.go:232", after := #[], guard := none }) (v := ?v12) rfl (by kernel_rfl) (by kernel_rfl) (by kernel_rfl) (fun _ _ _ h => h) (Or.inl ⟨by rfl, ?y12⟩) trivial ?r12
    case y12 => (intro w hSw; (try dsimp only at hSw); (try (go_split_ands)); go_simp; try with_reducible rfl)
    try simp only [Act.put, List.setIfInBounds_toArray, List.set_cons_zero, List.set_cons_succ]
    refine wpAnyH_take (i := 5) (oi := { dst := some 25, op := Op.slice 67 (Operand.tmp 23) (some (Operand.tmp 24)) none none, type := 67, pos := "slices.go:232", after := #[{ on := 3, ground := Ground.data }, { on := 4, ground := Ground.data }], guard := none }) (v := ?v13) rfl (by kernel_rfl) (by kernel_rfl) (by kernel_rfl) (fun _ _ _ h => h) (Or.inl ⟨by rfl, ?y13⟩) trivial ?r13
    case y13 => (intro w hSw; (try dsimp only at hSw); (try (go_split_ands)); go_simp; try with_reducible rfl)
    try simp only [Act.put, List.setIfInBounds_toArray, List.set_cons_zero, List.set_cons_succ]
    refine wpAnyH_ready (rs := [6]) (by kernel_rfl) (by simp) ?_
    refine AllReadyH.cons (o := { dst := some 26, op := Op.call { callee := Callee.builtin Builtin.append, args := #[Operand.tmp 22, Operand.tmp 25], argTypes := #[67, 67] }, type := 67, pos := "slices.go:232", after := #[{ on := 2, ground := Ground.data }, { on := 5, ground := Ground.data }], guard := none }) rfl (fun K hK => ?_) AllReadyH.nil
    refine step_append_run rfl (.tmp 22) (.tmp 25) rfl (.slice (some ⟨b, 0, none⟩) k cap) (.slice (some ⟨b, (k + 1) * 9, none⟩) (L - k) (cap - (k + 1))) (.slice (some ⟨b, 0, none⟩) L cap) rfl rfl (hr6 _) ?_
    refine hK.out _ _ trivial (fun hHeld6 => ?_)
    clear hK K
    try simp only [Act.put, List.setIfInBounds_toArray, List.set_cons_zero, List.set_cons_succ]
    refine wpAnyH_take (i := 7) (oi := { dst := some 0, op := Op.assign (Operand.tmp 26), type := 67, pos := "slices.go:232", after := #[{ on := 6, ground := Ground.data }, { on := 6, ground := Ground.chain }, { on := 0, ground := Ground.phase }, { on := 1, ground := Ground.phase }, { on := 2, ground := Ground.phase }, { on := 3, ground := Ground.phase }, { on := 4, ground := Ground.phase }, { on := 5, ground := Ground.phase }, { on := 6, ground := Ground.phase }], guard := none }) (v := ?v14) rfl (by kernel_rfl) (by kernel_rfl) (by kernel_rfl) (fun _ _ _ h => h) (Or.inl ⟨by rfl, ?y14⟩) trivial ?r14
    case y14 => (intro w hSw; (try dsimp only at hSw); (try (go_split_ands)); go_simp; try with_reducible rfl)
    try simp only [Act.put, List.setIfInBounds_toArray, List.set_cons_zero]
    refine wpAnyH_done (by kernel_rfl) ?_ _
    refine NoPanic.normal ?_
    clear hHeld hHeld6 hr6 hA
    obtain ⟨w9, hcl, hC9, sp9, hs9, hF9⟩ := clear_tail (P := Try.prog) (t := 67) hF5 wide_Sf (by omega) Sf.zero sf_zero Try.underlying67 1 (cap - L) (by rw [hs5]; omega)
    rw [hol'.out] at hcl
    have hSf : Hid (Sl w9 (.slice (some ⟨b, 0, none⟩) L cap) 71 9 fSf (outL l k)) := by
      refine hide (.inr ⟨b, cap, sp9, by rw [hol'.out], hF9, by rw [hol'.out]; omega, h2'.out, ?_⟩)
      have h3 := h3'.out
      rw [hol'.out, hs9, hs5]
      rw [hL.out] at h3
      omega
    have hdr : Ch (· = b) w w.drew := ⟨rfl, rfl, rfl, Nat.le_refl _, fun _ _ _ => rfl⟩
    have hCf : Hid (Ch (· = b) w w9) := (hdr.trans hC5).trans hC9
    clear hC5 hC9 hF5 hF9 hs9 hs5
    go_wp2
    go_ret
    exact ⟨rfl, hSf.out, hCf.out⟩
end Go.Proofs.Ytiahiakllpjliaa
