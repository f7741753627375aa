/-
  Contracts of a meter's take, Mark, Level, Counts. Conditions: those that each theorem names.
-/
import Derived.Test.YtmacdghkbmjdmaaMr2
namespace Go.Proofs.Ytmacdghkbmjdmaa
open Go.RowKit
set_option linter.unusedVariables false
set_option maxRecDepth 20000

theorem ret_two {a b c d : Int} (h : a = b) (h2 : c = d) : Ending.returned (.tuple #[.int .i64 a, .int .i64 c]) = .returned (.tuple #[.int .i64 b, .int .i64 d]) := by rw [h, h2]
/-- The colour, and the meter behind it. -/
def takeC (M : Mm) (x : Int) : Int := if x ≤ M.l0 then 0 else if x ≤ M.l1 then 1 else 2
def takeM (M : Mm) (x : Int) : Mm := if x ≤ M.l0 then { M with l0 := M.l0 - x } else if x ≤ M.l1 then { M with l1 := M.l1 - x } else M
theorem take_any {w : World} {t : Nat} {M : Mm} {K : Int} (h : MAt w t M) (ho : M.ok K) (x : Int) (hx : 0 ≤ x) :
    Calls Try.prog 35 #[.pointer (some ⟨t, 0, none⟩), .int .i64 x] w fun e w' => e = .returned (.int .i64 (takeC M x)) ∧ MAt w' t (takeM M x) ∧ Ch (· = t) w w' := by
  obtain ⟨m0, m1, l0, m3, m4, l1, m6, m7, m8, m9⟩ := M
  have hE : Hid (takeM ⟨m0, m1, l0, m3, m4, l1, m6, m7, m8, m9⟩ x = if x ≤ l0 then ⟨m0, m1, l0 - x, m3, m4, l1, m6, m7, m8, m9⟩ else if x ≤ l1 then ⟨m0, m1, l0, m3, m4, l1 - x, m6, m7, m8, m9⟩ else ⟨m0, m1, l0, m3, m4, l1, m6, m7, m8, m9⟩) := rfl
  have hF : Hid (takeC ⟨m0, m1, l0, m3, m4, l1, m6, m7, m8, m9⟩ x = if x ≤ l0 then 0 else if x ≤ l1 then 1 else 2) := rfl
  generalize takeM ⟨m0, m1, l0, m3, m4, l1, m6, m7, m8, m9⟩ x = V at *
  generalize takeC ⟨m0, m1, l0, m3, m4, l1, m6, m7, m8, m9⟩ x = c at *
  have k2 := h.cell 2
  have k5 := h.cell 5
  simp only [mRow, List.getElem?_cons_succ, List.getElem?_cons_zero] at k2 k5
  have z2 := h.fz 2
  have z5 := h.fz 5
  have b0 := ho.l0
  have b1 := ho.l1
  have f0 := ho.f0
  have f1 := ho.f1
  have hh := hide h
  have p2 := hide (h.put (M' := ⟨m0, m1, l0 - x, m3, m4, l1, m6, m7, m8, m9⟩) 2 (.int .i64 (l0 - x)) rfl)
  have p5 := hide (h.put (M' := ⟨m0, m1, l0, m3, m4, l1 - x, m6, m7, m8, m9⟩) 5 (.int .i64 (l1 - x)) rfl)
  have C2 := hide (Ch.setCells t 2 w [.int .i64 (l0 - x)])
  have C5 := hide (Ch.setCells t 5 w [.int .i64 (l1 - x)])
  dsimp only at b0 b1 f0 f1
  have q1 : 0 ≤ l0 ∧ l0 ≤ 8388608000000000 := by omega
  have q2 : 0 ≤ l1 ∧ l1 ≤ 8388608000000000 := by omega
  clear h ho b0 b1 f0 f1
  go_enter Try.func35, Try.ntmps35
  go_wp2_with fail
  go_loop [7] (fun i => i = .int .i64 0 ∨ (i = .int .i64 1 ∧ l0 < x) ∨ (i = .int .i64 2 ∧ l0 < x ∧ l1 < x)) (fun i => 2 - (intOf i).toNat)
  case atStart => exact .inl rfl
  case round =>
    rcases hrel with rfl | ⟨rfl, g0⟩ | ⟨rfl, g0, g1⟩
    · by_cases h1 : x ≤ l0
      · obtain rfl : c = 0 := hF.out.trans (if_pos h1)
        have hV : Hid (V = ⟨m0, m1, l0 - x, m3, m4, l1, m6, m7, m8, m9⟩) := hE.out.trans (if_pos h1)
        clear hE hF
        go_wp2
        go_ret
        exact ⟨rfl, by rw [hV.out]; exact p2.out, C2.out⟩
      · go_wp2
        go_round
        case rel => exact .inr (.inl ⟨rfl, by omega⟩)
        case measure => simp [intOf]
    · by_cases h1 : x ≤ l1
      · obtain rfl : c = 1 := hF.out.trans (by rw [if_neg (by omega), if_pos h1])
        have hV : Hid (V = ⟨m0, m1, l0, m3, m4, l1 - x, m6, m7, m8, m9⟩) := hE.out.trans (by rw [if_neg (by omega), if_pos h1])
        clear hE hF
        go_wp2
        go_ret
        exact ⟨rfl, by rw [hV.out]; exact p5.out, C5.out⟩
      · go_wp2
        go_round
        case rel => exact .inr (.inr ⟨rfl, by omega, by omega⟩)
        case measure => simp [intOf]
    · obtain rfl : c = 2 := hF.out.trans (by rw [if_neg (by omega), if_neg (by omega)])
      have hV : Hid (V = ⟨m0, m1, l0, m3, m4, l1, m6, m7, m8, m9⟩) := hE.out.trans (by rw [if_neg (by omega), if_neg (by omega)])
      clear hE hF
      go_wp2
      go_ret
      exact ⟨rfl, by rw [hV.out]; exact hh.out, Ch.refl _ _⟩
theorem takeM_ok {M : Mm} {K : Int} (h : M.ok K) {x : Int} (hx : 0 ≤ x) : (takeM M x).ok K := by
  have := h.l0
  have := h.l1
  unfold takeM
  split
  · exact ⟨h.r0, h.r1, h.f0, h.f1, ⟨by show 0 ≤ M.l0 - x; omega, by show M.l0 - x ≤ M.f0; omega⟩, h.l1, h.now, h.c0, h.c1, h.c2⟩
  · split
    · exact ⟨h.r0, h.r1, h.f0, h.f1, h.l0, ⟨by show 0 ≤ M.l1 - x; omega, by show M.l1 - x ≤ M.f1; omega⟩, h.now, h.c0, h.c1, h.c2⟩
    · exact h
def countM (M : Mm) (c : Int) : Mm := if c = 0 then { M with c0 := M.c0 + 1 } else if c = 1 then { M with c1 := M.c1 + 1 } else { M with c2 := M.c2 + 1 }
theorem countM_ok {M : Mm} {K : Int} (h : M.ok K) (c : Int) : (countM M c).ok (K + 1) := by
  have a := h.c0
  have b := h.c1
  have d := h.c2
  unfold countM
  split
  · refine ⟨h.r0, h.r1, h.f0, h.f1, h.l0, h.l1, h.now, ?_, ?_, ?_⟩ <;> (dsimp only; omega)
  · split
    · refine ⟨h.r0, h.r1, h.f0, h.f1, h.l0, h.l1, h.now, ?_, ?_, ?_⟩ <;> (dsimp only; omega)
    · refine ⟨h.r0, h.r1, h.f0, h.f1, h.l0, h.l1, h.now, ?_, ?_, ?_⟩ <;> (dsimp only; omega)
/-- How many tokens a frame of so many bytes needs. -/
def needN (n : Int) : Int := (if n < 0 then 0 else if 1048577 < n then 1048577 else n) * 8000000000
theorem needN_ge (n : Int) : 0 ≤ needN n := by unfold needN; split <;> (try split) <;> omega
def markC (M : Mm) (n now : Int) : Int := takeC (passM M now) (needN n)
def markM (M : Mm) (n now : Int) : Mm := countM (takeM (passM M now) (needN n)) (markC M n now)
theorem markM_ok {M : Mm} {K : Int} (h : M.ok K) (n now : Int) : (markM M n now).ok (K + 1) := countM_ok (takeM_ok (passM_ok h now) (needN_ge n)) _
theorem takeC_cases (M : Mm) (x : Int) : takeC M x = 0 ∨ takeC M x = 1 ∨ takeC M x = 2 := by unfold takeC; split <;> (try split) <;> simp
set_option maxHeartbeats 1000000 in
theorem Mark_any {w : World} {t : Nat} {M : Mm} {K : Int} (h : MAt w t M) (ho : M.ok K) (hK : K < 9223372036854775807) (n now : Int) (hn : now ≤ 9223372036854775807) :
    Calls Try.prog 18 #[.pointer (some ⟨t, 0, none⟩), .int .i64 n, .int .i64 now] w fun e w' => e = .returned (.int .i64 (markC M n now)) ∧ MAt w' t (markM M n now) ∧ Ch (· = t) w w' := by
  have hp := hide (pass_any h ho now hn)
  have hMO := hide (passM_ok ho now)
  have hV : Hid (markM M n now = countM (takeM (passM M now) (needN n)) (takeC (passM M now) (needN n))) := rfl
  have hc : Hid (markC M n now = takeC (passM M now) (needN n)) := rfl
  generalize markM M n now = V at *
  generalize markC M n now = c at *
  generalize passM M now = P at *
  have hTO := hide (takeM_ok hMO.out (needN_ge n))
  have ht := hide (fun w (h : MAt w t P) => take_any h hMO.out (needN n) (needN_ge n))
  have hcc := hide (takeC_cases P (needN n))
  rw [← hc.out] at hV hcc
  rw [← hc.out] at ht
  generalize takeM P (needN n) = Q at *
  have hw2 : Hid (0 ≤ needN n ∧ needN n ≤ 8388616000000000) := ⟨needN_ge n, by unfold needN; split <;> (try split) <;> omega⟩
  have hs : Hid (∃ s : Int, needN n = s * 8000000000 ∧ 0 ≤ s ∧ s ≤ 1048577 ∧ min (max n 0) 1048577 = s) := by
    unfold needN
    refine ⟨_, rfl, ?_, ?_, ?_⟩ <;> (split <;> (try split) <;> omega)
  obtain ⟨s, hs1, hs2, hs3, hs4⟩ := hs.out
  rw [hs1] at ht
  clear h ho hs hw2 hs1
  go_enter Try.func18, Try.ntmps18
  go_wp2_with fail
  refine hp.out.mono ?_
  rintro e w2 ⟨rfl, hP2, hC2⟩
  have ht2 := hide (ht.out w2 hP2)
  have hmx : ∀ (ts : Array TypeId) (t : TypeId) (w : World), (Builtin.max_ ts t #[.int .i64 n, .int .i64 0]).run Try.prog w = .ok (.int .i64 (max n 0)) w := fun ts t w => by rw [Go.Lib.run_max_ints]
  have hmn : ∀ (ts : Array TypeId) (t : TypeId) (w : World), (Builtin.min_ ts t #[.int .i64 (max n 0), .int .i64 1048577]).run Try.prog w = .ok (.int .i64 s) w := fun ts t w => by rw [Go.Lib.run_min_ints, hs4]
  generalize max n 0 = mx at *
  replace hC2 := hide hC2
  replace hs4 := hide hs4
  clear hp ht hP2
  go_wp2_with fail
  refine ht2.out.mono ?_
  rintro e w3 ⟨rfl, hT3, hC3⟩
  replace hT3 := hide hT3
  replace hC3 := hide (hC2.out.trans hC3)
  clear ht2 hC2 hmx hmn hs4 hs2 hs3
  clear hc
  rcases hcc.out with rfl | rfl | rfl
  · have hE : Hid (V = { Q with c0 := Q.c0 + 1 }) := hV.out
    have hb := hTO.out.c0
    have k := hT3.out.cell 7
    simp only [mRow, List.getElem?_cons_succ, List.getElem?_cons_zero] at k
    have k' : Hid (w3.drew.cell? ⟨t, 7, none⟩ = some (.int .i64 Q.c0)) := k
    have z' : Hid (w3.drew.frozen? ⟨t, 7, none⟩ = false) := hT3.out.fz 7
    have hq := hide ((hT3.out.below (below_drewN (Below.refl _ _) 1)).put (M' := { Q with c0 := Q.c0 + 1 }) 7 (.int .i64 (Q.c0 + 1)) rfl)
    have hC4 := hide ((hC3.out.trans (Ch.of_below (below_drewN (Below.refl _ _) 1))).trans (Ch.setCells t 7 w3.drew [.int .i64 (Q.c0 + 1)]))
    rw [← hE.out] at hq
    have hwr : Hid (IntKind.i64.wrap (Q.c0 + 1) = Q.c0 + 1) := IntWalk.i64_in _ (by omega)
    clear hT3 hC3 hTO hV hE hb k
    generalize Q.c0 = cc at *
    go_wp2_with fail
    refine wp_region_noPanic ?_
    refine wp_region_held_drew (S := fun W => True) (by kernel_rfl) trivial (fun hHeld => ?_)
    refine wpAnyH_take (i := 0) (oi := { dst := some 19, op := Op.move (Operand.tmp 0), type := 26, pos := "meter.go:71", after := #[], guard := none }) (v := ?v1) rfl (by kernel_rfl) (by kernel_rfl) (by kernel_rfl) (fun _ _ _ h => h) (Or.inl ⟨by rfl, ?y1⟩) trivial ?r1
    case y1 => (intro w hSw; (try dsimp only at hSw); (try (go_split_ands)); go_simp; try with_reducible rfl)
    try simp only [Act.put, List.setIfInBounds_toArray, List.set_cons_zero, List.set_cons_succ]
    refine wpAnyH_take (i := 1) (oi := { dst := some 20, op := Op.move (Operand.tmp 8), type := 3, pos := "meter.go:71", after := #[], guard := none }) (v := ?v2) rfl (by kernel_rfl) (by kernel_rfl) (by kernel_rfl) (fun _ _ _ h => h) (Or.inl ⟨by rfl, ?y2⟩) trivial ?r2
    case y2 => (intro w hSw; (try dsimp only at hSw); (try (go_split_ands)); go_simp; try with_reducible rfl)
    try simp only [Act.put, List.setIfInBounds_toArray, List.set_cons_zero, List.set_cons_succ]
    refine wpAnyH_take (i := 2) (oi := { dst := some 21, op := Op.nilCheck (Operand.tmp 19), type := 0, pos := "meter.go:71", after := #[{ on := 0, ground := Ground.data }], guard := none }) (v := ?v3) rfl (by kernel_rfl) (by kernel_rfl) (by kernel_rfl) (fun _ _ _ h => h) (Or.inl ⟨by rfl, ?y3⟩) trivial ?r3
    case y3 => (intro w hSw; (try dsimp only at hSw); (try (go_split_ands)); go_simp; try with_reducible rfl)
    try simp only [Act.put, List.setIfInBounds_toArray, List.set_cons_zero, List.set_cons_succ]
    refine wpAnyH_take (i := 3) (oi := { dst := some 22, op := Op.fieldAddr 64 (Operand.tmp 21) 2, type := 0, pos := "meter.go:71", after := #[{ on := 2, ground := Ground.data }], guard := none }) (v := ?v4) rfl (by kernel_rfl) (by kernel_rfl) (by kernel_rfl) (fun _ _ _ h => h) (Or.inl ⟨by rfl, ?y4⟩) trivial ?r4
    case y4 => (intro w hSw; (try dsimp only at hSw); (try (go_split_ands)); go_simp; try with_reducible rfl)
    try simp only [Act.put, List.setIfInBounds_toArray, List.set_cons_zero, List.set_cons_succ]
    refine wpAnyH_take (i := 4) (oi := { dst := some 23, op := Op.indexAddr 33 (Operand.tmp 22) (Operand.tmp 20), type := 0, pos := "meter.go:71", after := #[{ on := 3, ground := Ground.data }, { on := 1, ground := Ground.data }], guard := none }) (v := ?v5) rfl (by kernel_rfl) (by kernel_rfl) (by kernel_rfl) (fun _ _ _ h => h) (Or.inl ⟨by rfl, ?y5⟩) trivial ?r5
    case y5 => (intro w hSw; (try dsimp only at hSw); (try (go_split_ands)); go_simp; try with_reducible rfl)
    try simp only [Act.put, List.setIfInBounds_toArray, List.set_cons_zero, List.set_cons_succ]
    refine wpAnyH_take (i := 7) (oi := { dst := some 26, op := Op.nilCheck (Operand.tmp 19), type := 0, pos := "meter.go:71", after := #[{ on := 0, ground := Ground.data }], guard := none }) (v := ?v6) rfl (by kernel_rfl) (by kernel_rfl) (by kernel_rfl) (fun _ _ _ h => h) (Or.inl ⟨by rfl, ?y6⟩) trivial ?r6
    case y6 => (intro w hSw; (try dsimp only at hSw); (try (go_split_ands)); go_simp; try with_reducible rfl)
    try simp only [Act.put, List.setIfInBounds_toArray, List.set_cons_zero, List.set_cons_succ]
    refine wpAnyH_take (i := 8) (oi := { dst := some 27, op := Op.fieldAddr 64 (Operand.tmp 26) 2, type := 0, pos := "meter.go:71", after := #[{ on := 7, ground := Ground.data }], guard := none }) (v := ?v7) rfl (by kernel_rfl) (by kernel_rfl) (by kernel_rfl) (fun _ _ _ h => h) (Or.inl ⟨by rfl, ?y7⟩) trivial ?r7
    case y7 => (intro w hSw; (try dsimp only at hSw); (try (go_split_ands)); go_simp; try with_reducible rfl)
    try simp only [Act.put, List.setIfInBounds_toArray, List.set_cons_zero, List.set_cons_succ]
    have k := k'.out
    clear hHeld
    refine wpAnyH_ready (rs := [5]) (by kernel_rfl) (by simp) ?_
    refine AllReadyH.cons (o := { dst := some 24, op := Op.load 3 (Operand.tmp 23), type := 3, pos := "meter.go:71", after := #[{ on := 4, ground := Ground.data }], guard := none }) rfl (fun K hK => ?_) AllReadyH.nil
    go_simp
    refine hK.out _ _ trivial (fun hHeld => ?_)
    clear hK K
    try simp only [Act.put, List.setIfInBounds_toArray, List.set_cons_zero, List.set_cons_succ]
    refine wpAnyH_take (i := 6) (oi := { dst := some 25, op := Op.binOp BinOp.add 3 (Operand.tmp 24) (Operand.const (Value.int IntKind.i64 1)) 3, type := 3, pos := "meter.go:71", after := #[{ on := 5, ground := Ground.data }], guard := none }) (v := ?v8) rfl (by kernel_rfl) (by kernel_rfl) (by kernel_rfl) (fun _ _ _ h => h) (Or.inl ⟨by rfl, ?y8⟩) trivial ?r8
    case y8 => (intro w hSw; (try dsimp only at hSw); (try (go_split_ands)); go_simp; try with_reducible rfl)
    try simp only [Act.put, List.setIfInBounds_toArray, List.set_cons_zero, List.set_cons_succ]
    refine wpAnyH_take (i := 9) (oi := { dst := some 28, op := Op.indexAddr 33 (Operand.tmp 27) (Operand.tmp 20), type := 0, pos := "meter.go:71", after := #[{ on := 8, ground := Ground.data }, { on := 1, ground := Ground.data }, { on := 0, ground := Ground.phase }, { on := 1, ground := Ground.phase }, { on := 2, ground := Ground.phase }, { on := 3, ground := Ground.phase }, { on := 4, ground := Ground.phase }, { on := 5, ground := Ground.phase }, { on := 6, ground := Ground.phase }], guard := none }) (v := ?v9) rfl (by kernel_rfl) (by kernel_rfl) (by kernel_rfl) (fun _ _ _ h => h) (Or.inl ⟨by rfl, ?y9⟩) trivial ?r9
    case y9 => (intro w hSw; (try dsimp only at hSw); (try (go_split_ands)); go_simp; try with_reducible rfl)
    try simp only [Act.put, List.setIfInBounds_toArray, List.set_cons_zero, List.set_cons_succ]
    try rw [hwr.out]
    have z := z'.out
    clear hHeld
    refine wpAnyH_ready (rs := [10]) (by kernel_rfl) (by simp) ?_
    refine AllReadyH.cons (o := { dst := none, op := Op.store 3 (Operand.tmp 28) (Operand.tmp 25), type := 0, pos := "meter.go:71", after := #[{ on := 9, ground := Ground.data }, { on := 6, ground := Ground.data }, { on := 0, ground := Ground.phase }, { on := 1, ground := Ground.phase }, { on := 2, ground := Ground.phase }, { on := 3, ground := Ground.phase }, { on := 4, ground := Ground.phase }, { on := 5, ground := Ground.phase }, { on := 6, ground := Ground.phase }], guard := none }) rfl (fun K hK => ?_) AllReadyH.nil
    go_simp
    refine hK.out _ _ trivial (fun hHeld => ?_)
    clear hK K
    try simp only [Act.put]
    refine wpAnyH_done (by kernel_rfl) ?_ _
    refine NoPanic.normal ?_
    clear hHeld k z
    go_wp2
    go_ret
    exact ⟨rfl, hq.out, hC4.out⟩
  · have hE : Hid (V = { Q with c1 := Q.c1 + 1 }) := hV.out
    have hb := hTO.out.c1
    have k := hT3.out.cell 8
    simp only [mRow, List.getElem?_cons_succ, List.getElem?_cons_zero] at k
    have k' : Hid (w3.drew.cell? ⟨t, 8, none⟩ = some (.int .i64 Q.c1)) := k
    have z' : Hid (w3.drew.frozen? ⟨t, 8, none⟩ = false) := hT3.out.fz 8
    have hq := hide ((hT3.out.below (below_drewN (Below.refl _ _) 1)).put (M' := { Q with c1 := Q.c1 + 1 }) 8 (.int .i64 (Q.c1 + 1)) rfl)
    have hC4 := hide ((hC3.out.trans (Ch.of_below (below_drewN (Below.refl _ _) 1))).trans (Ch.setCells t 8 w3.drew [.int .i64 (Q.c1 + 1)]))
    rw [← hE.out] at hq
    have hwr : Hid (IntKind.i64.wrap (Q.c1 + 1) = Q.c1 + 1) := IntWalk.i64_in _ (by omega)
    clear hT3 hC3 hTO hV hE hb k
    generalize Q.c1 = cc at *
    go_wp2_with fail
    refine wp_region_noPanic ?_
    refine wp_region_held_drew (S := fun W => True) (by kernel_rfl) trivial (fun hHeld => ?_)
    refine wpAnyH_take (i := 0) (oi := { dst := some 19, op := Op.move (Operand.tmp 0), type := 26, pos := "meter.go:71", after := #[], guard := none }) (v := ?v10) rfl (by kernel_rfl) (by kernel_rfl) (by kernel_rfl) (fun _ _ _ h => h) (Or.inl ⟨by rfl, ?y10⟩) trivial ?r10
    case y10 => (intro w hSw; (try dsimp only at hSw); (try (go_split_ands)); go_simp; try with_reducible rfl)
    try simp only [Act.put, List.setIfInBounds_toArray, List.set_cons_zero, List.set_cons_succ]
    refine wpAnyH_take (i := 1) (oi := { dst := some 20, op := Op.move (Operand.tmp 8), type := 3, pos := "meter.go:71", after := #[], guard := none }) (v := ?v11) rfl (by kernel_rfl) (by kernel_rfl) (by kernel_rfl) (fun _ _ _ h => h) (Or.inl ⟨by rfl, ?y11⟩) trivial ?r11
    case y11 => (intro w hSw; (try dsimp only at hSw); (try (go_split_ands)); go_simp; try with_reducible rfl)
    try simp only [Act.put, List.setIfInBounds_toArray, List.set_cons_zero, List.set_cons_succ]
    refine wpAnyH_take (i := 2) (oi := { dst := some 21, op := Op.nilCheck (Operand.tmp 19), type := 0, pos := "meter.go:71", after := #[{ on := 0, ground := Ground.data }], guard := none }) (v := ?v12) rfl (by kernel_rfl) (by kernel_rfl) (by kernel_rfl) (fun _ _ _ h => h) (Or.inl ⟨by rfl, ?y12⟩) trivial ?r12
    case y12 => (intro w hSw; (try dsimp only at hSw); (try (go_split_ands)); go_simp; try with_reducible rfl)
    try simp only [Act.put, List.setIfInBounds_toArray, List.set_cons_zero, List.set_cons_succ]
    refine wpAnyH_take (i := 3) (oi := { dst := some 22, op := Op.fieldAddr 64 (Operand.tmp 21) 2, type := 0, pos := "meter.go:71", after := #[{ on := 2, ground := Ground.data }], guard := none }) (v := ?v13) rfl (by kernel_rfl) (by kernel_rfl) (by kernel_rfl) (fun _ _ _ h => h) (Or.inl ⟨by rfl, ?y13⟩) trivial ?r13
    case y13 => (intro w hSw; (try dsimp only at hSw); (try (go_split_ands)); go_simp; try with_reducible rfl)
    try simp only [Act.put, List.setIfInBounds_toArray, List.set_cons_zero, List.set_cons_succ]
    refine wpAnyH_take (i := 4) (oi := { dst := some 23, op := Op.indexAddr 33 (Operand.tmp 22) (Operand.tmp 20), type := 0, pos := "meter.go:71", after := #[{ on := 3, ground := Ground.data }, { on := 1, ground := Ground.data }], guard := none }) (v := ?v14) rfl (by kernel_rfl) (by kernel_rfl) (by kernel_rfl) (fun _ _ _ h => h) (Or.inl ⟨by rfl, ?y14⟩) trivial ?r14
    case y14 => (intro w hSw; (try dsimp only at hSw); (try (go_split_ands)); go_simp; try with_reducible rfl)
    try simp only [Act.put, List.setIfInBounds_toArray, List.set_cons_zero, List.set_cons_succ]
    refine wpAnyH_take (i := 7) (oi := { dst := some 26, op := Op.nilCheck (Operand.tmp 19), type := 0, pos := "meter.go:71", after := #[{ on := 0, ground := Ground.data }], guard := none }) (v := ?v15) rfl (by kernel_rfl) (by kernel_rfl) (by kernel_rfl) (fun _ _ _ h => h) (Or.inl ⟨by rfl, ?y15⟩) trivial ?r15
    case y15 => (intro w hSw; (try dsimp only at hSw); (try (go_split_ands)); go_simp; try with_reducible rfl)
    try simp only [Act.put, List.setIfInBounds_toArray, List.set_cons_zero, List.set_cons_succ]
    refine wpAnyH_take (i := 8) (oi := { dst := some 27, op := Op.fieldAddr 64 (Operand.tmp 26) 2, type := 0, pos := "meter.go:71", after := #[{ on := 7, ground := Ground.data }], guard := none }) (v := ?v16) rfl (by kernel_rfl) (by kernel_rfl) (by kernel_rfl) (fun _ _ _ h => h) (Or.inl ⟨by rfl, ?y16⟩) trivial ?r16
    case y16 => (intro w hSw; (try dsimp only at hSw); (try (go_split_ands)); go_simp; try with_reducible rfl)
    try simp only [Act.put, List.setIfInBounds_toArray, List.set_cons_zero, List.set_cons_succ]
    have k := k'.out
    clear hHeld
    refine wpAnyH_ready (rs := [5]) (by kernel_rfl) (by simp) ?_
    refine AllReadyH.cons (o := { dst := some 24, op := Op.load 3 (Operand.tmp 23), type := 3, pos := "meter.go:71", after := #[{ on := 4, ground := Ground.data }], guard := none }) rfl (fun K hK => ?_) AllReadyH.nil
    go_simp
    refine hK.out _ _ trivial (fun hHeld => ?_)
    clear hK K
    try simp only [Act.put, List.setIfInBounds_toArray, List.set_cons_zero, List.set_cons_succ]
    refine wpAnyH_take (i := 6) (oi := { dst := some 25, op := Op.binOp BinOp.add 3 (Operand.tmp 24) (Operand.const (Value.int IntKind.i64 1)) 3, type := 3, pos := "meter.go:71", after := #[{ on := 5, ground := Ground.data }], guard := none }) (v := ?v17) rfl (by kernel_rfl) (by kernel_rfl) (by kernel_rfl) (fun _ _ _ h => h) (Or.inl ⟨by rfl, ?y17⟩) trivial ?r17
    case y17 => (intro w hSw; (try dsimp only at hSw); (try (go_split_ands)); go_simp; try with_reducible rfl)
    try simp only [Act.put, List.setIfInBounds_toArray, List.set_cons_zero, List.set_cons_succ]
    refine wpAnyH_take (i := 9) (oi := { dst := some 28, op := Op.indexAddr 33 (Operand.tmp 27) (Operand.tmp 20), type := 0, pos := "meter.go:71", after := #[{ on := 8, ground := Ground.data }, { on := 1, ground := Ground.data }, { on := 0, ground := Ground.phase }, { on := 1, ground := Ground.phase }, { on := 2, ground := Ground.phase }, { on := 3, ground := Ground.phase }, { on := 4, ground := Ground.phase }, { on := 5, ground := Ground.phase }, { on := 6, ground := Ground.phase }], guard := none }) (v := ?v18) rfl (by kernel_rfl) (by kernel_rfl) (by kernel_rfl) (fun _ _ _ h => h) (Or.inl ⟨by rfl, ?y18⟩) trivial ?r18
    case y18 => (intro w hSw; (try dsimp only at hSw); (try (go_split_ands)); go_simp; try with_reducible rfl)
    try simp only [Act.put, List.setIfInBounds_toArray, List.set_cons_zero, List.set_cons_succ]
    try rw [hwr.out]
    have z := z'.out
    clear hHeld
    refine wpAnyH_ready (rs := [10]) (by kernel_rfl) (by simp) ?_
    refine AllReadyH.cons (o := { dst := none, op := Op.store 3 (Operand.tmp 28) (Operand.tmp 25), type := 0, pos := "meter.go:71", after := #[{ on := 9, ground := Ground.data }, { on := 6, ground := Ground.data }, { on := 0, ground := Ground.phase }, { on := 1, ground := Ground.phase }, { on := 2, ground := Ground.phase }, { on := 3, ground := Ground.phase }, { on := 4, ground := Ground.phase }, { on := 5, ground := Ground.phase }, { on := 6, ground := Ground.phase }], guard := none }) rfl (fun K hK => ?_) AllReadyH.nil
    go_simp
    refine hK.out _ _ trivial (fun hHeld => ?_)
    clear hK K
    try simp only [Act.put]
    refine wpAnyH_done (by kernel_rfl) ?_ _
    refine NoPanic.normal ?_
    clear hHeld k z
    go_wp2
    go_ret
    exact ⟨rfl, hq.out, hC4.out⟩
  · have hE : Hid (V = { Q with c2 := Q.c2 + 1 }) := hV.out
    have hb := hTO.out.c2
    have k := hT3.out.cell 9
    simp only [mRow, List.getElem?_cons_succ, List.getElem?_cons_zero] at k
    have k' : Hid (w3.drew.cell? ⟨t, 9, none⟩ = some (.int .i64 Q.c2)) := k
    have z' : Hid (w3.drew.frozen? ⟨t, 9, none⟩ = false) := hT3.out.fz 9
    have hq := hide ((hT3.out.below (below_drewN (Below.refl _ _) 1)).put (M' := { Q with c2 := Q.c2 + 1 }) 9 (.int .i64 (Q.c2 + 1)) rfl)
    have hC4 := hide ((hC3.out.trans (Ch.of_below (below_drewN (Below.refl _ _) 1))).trans (Ch.setCells t 9 w3.drew [.int .i64 (Q.c2 + 1)]))
    rw [← hE.out] at hq
    have hwr : Hid (IntKind.i64.wrap (Q.c2 + 1) = Q.c2 + 1) := IntWalk.i64_in _ (by omega)
    clear hT3 hC3 hTO hV hE hb k
    generalize Q.c2 = cc at *
    go_wp2_with fail
    refine wp_region_noPanic ?_
    refine wp_region_held_drew (S := fun W => True) (by kernel_rfl) trivial (fun hHeld => ?_)
    refine wpAnyH_take (i := 0) (oi := { dst := some 19, op := Op.move (Operand.tmp 0), type := 26, pos := "meter.go:71", after := #[], guard := none }) (v := ?v19) rfl (by kernel_rfl) (by kernel_rfl) (by kernel_rfl) (fun _ _ _ h => h) (Or.inl ⟨by rfl, ?y19⟩) trivial ?r19
    case y19 => (intro w hSw; (try dsimp only at hSw); (try (go_split_ands)); go_simp; try with_reducible rfl)
    try simp only [Act.put, List.setIfInBounds_toArray, List.set_cons_zero, List.set_cons_succ]
    refine wpAnyH_take (i := 1) (oi := { dst := some 20, op := Op.move (Operand.tmp 8), type := 3, pos := "meter.go:71", after := #[], guard := none }) (v := ?v20) rfl (by kernel_rfl) (by kernel_rfl) (by kernel_rfl) (fun _ _ _ h => h) (Or.inl ⟨by rfl, ?y20⟩) trivial ?r20
    case y20 => (intro w hSw; (try dsimp only at hSw); (try (go_split_ands)); go_simp; try with_reducible rfl)
    try simp only [Act.put, List.setIfInBounds_toArray, List.set_cons_zero, List.set_cons_succ]
    refine wpAnyH_take (i := 2) (oi := { dst := some 21, op := Op.nilCheck (Operand.tmp 19), type := 0, pos := "meter.go:71", after := #[{ on := 0, ground := Ground.data }], guard := none }) (v := ?v21) rfl (by kernel_rfl) (by kernel_rfl) (by kernel_rfl) (fun _ _ _ h => h) (Or.inl ⟨by rfl, ?y21⟩) trivial ?r21
    case y21 => (intro w hSw; (try dsimp only at hSw); (try (go_split_ands)); go_simp; try with_reducible rfl)
    try simp only [Act.put, List.setIfInBounds_toArray, List.set_cons_zero, List.set_cons_succ]
    refine wpAnyH_take (i := 3) (oi := { dst := some 22, op := Op.fieldAddr 64 (Operand.tmp 21) 2, type := 0, pos := "meter.go:71", after := #[{ on := 2, ground := Ground.data }], guard := none }) (v := ?v22) rfl (by kernel_rfl) (by kernel_rfl) (by kernel_rfl) (fun _ _ _ h => h) (Or.inl ⟨by rfl, ?y22⟩) trivial ?r22
    case y22 => (intro w hSw; (try dsimp only at hSw); (try (go_split_ands)); go_simp; try with_reducible rfl)
    try simp only [Act.put, List.setIfInBounds_toArray, List.set_cons_zero, List.set_cons_succ]
    refine wpAnyH_take (i := 4) (oi := { dst := some 23, op := Op.indexAddr 33 (Operand.tmp 22) (Operand.tmp 20), type := 0, pos := "meter.go:71", after := #[{ on := 3, ground := Ground.data }, { on := 1, ground := Ground.data }], guard := none }) (v := ?v23) rfl (by kernel_rfl) (by kernel_rfl) (by kernel_rfl) (fun _ _ _ h => h) (Or.inl ⟨by rfl, ?y23⟩) trivial ?r23
    case y23 => (intro w hSw; (try dsimp only at hSw); (try (go_split_ands)); go_simp; try with_reducible rfl)
    try simp only [Act.put, List.setIfInBounds_toArray, List.set_cons_zero, List.set_cons_succ]
    refine wpAnyH_take (i := 7) (oi := { dst := some 26, op := Op.nilCheck (Operand.tmp 19), type := 0, pos := "meter.go:71", after := #[{ on := 0, ground := Ground.data }], guard := none }) (v := ?v24) rfl (by kernel_rfl) (by kernel_rfl) (by kernel_rfl) (fun _ _ _ h => h) (Or.inl ⟨by rfl, ?y24⟩) trivial ?r24
    case y24 => (intro w hSw; (try dsimp only at hSw); (try (go_split_ands)); go_simp; try with_reducible rfl)
    try simp only [Act.put, List.setIfInBounds_toArray, List.set_cons_zero, List.set_cons_succ]
    refine wpAnyH_take (i := 8) (oi := { dst := some 27, op := Op.fieldAddr 64 (Operand.tmp 26) 2, type := 0, pos := "meter.go:71", after := #[{ on := 7, ground := Ground.data }], guard := none }) (v := ?v25) rfl (by kernel_rfl) (by kernel_rfl) (by kernel_rfl) (fun _ _ _ h => h) (Or.inl ⟨by rfl, ?y25⟩) trivial ?r25
    case y25 => (intro w hSw; (try dsimp only at hSw); (try (go_split_ands)); go_simp; try with_reducible rfl)
    try simp only [Act.put, List.setIfInBounds_toArray, List.set_cons_zero, List.set_cons_succ]
    have k := k'.out
    clear hHeld
    refine wpAnyH_ready (rs := [5]) (by kernel_rfl) (by simp) ?_
    refine AllReadyH.cons (o := { dst := some 24, op := Op.load 3 (Operand.tmp 23), type := 3, pos := "meter.go:71", after := #[{ on := 4, ground := Ground.data }], guard := none }) rfl (fun K hK => ?_) AllReadyH.nil
    go_simp
    refine hK.out _ _ trivial (fun hHeld => ?_)
    clear hK K
    try simp only [Act.put, List.setIfInBounds_toArray, List.set_cons_zero, List.set_cons_succ]
    refine wpAnyH_take (i := 6) (oi := { dst := some 25, op := Op.binOp BinOp.add 3 (Operand.tmp 24) (Operand.const (Value.int IntKind.i64 1)) 3, type := 3, pos := "meter.go:71", after := #[{ on := 5, ground := Ground.data }], guard := none }) (v := ?v26) rfl (by kernel_rfl) (by kernel_rfl) (by kernel_rfl) (fun _ _ _ h => h) (Or.inl ⟨by rfl, ?y26⟩) trivial ?r26
    case y26 => (intro w hSw; (try dsimp only at hSw); (try (go_split_ands)); go_simp; try with_reducible rfl)
    try simp only [Act.put, List.setIfInBounds_toArray, List.set_cons_zero, List.set_cons_succ]
    refine wpAnyH_take (i := 9) (oi := { dst := some 28, op := Op.indexAddr 33 (Operand.tmp 27) (Operand.tmp 20), type := 0, pos := "meter.go:71", after := #[{ on := 8, ground := Ground.data }, { on := 1, ground := Ground.data }, { on := 0, ground := Ground.phase }, { on := 1, ground := Ground.phase }, { on := 2, ground := Ground.phase }, { on := 3, ground := Ground.phase }, { on := 4, ground := Ground.phase }, { on := 5, ground := Ground.phase }, { on := 6, ground := Ground.phase }], guard := none }) (v := ?v27) rfl (by kernel_rfl) (by kernel_rfl) (by kernel_rfl) (fun _ _ _ h => h) (Or.inl ⟨by rfl, ?y27⟩) trivial ?r27
    case y27 => (intro w hSw; (try dsimp only at hSw); (try (go_split_ands)); go_simp; try with_reducible rfl)
    try simp only [Act.put, List.setIfInBounds_toArray, List.set_cons_zero, List.set_cons_succ]
    try rw [hwr.out]
    have z := z'.out
    clear hHeld
    refine wpAnyH_ready (rs := [10]) (by kernel_rfl) (by simp) ?_
    refine AllReadyH.cons (o := { dst := none, op := Op.store 3 (Operand.tmp 28) (Operand.tmp 25), type := 0, pos := "meter.go:71", after := #[{ on := 9, ground := Ground.data }, { on := 6, ground := Ground.data }, { on := 0, ground := Ground.phase }, { on := 1, ground := Ground.phase }, { on := 2, ground := Ground.phase }, { on := 3, ground := Ground.phase }, { on := 4, ground := Ground.phase }, { on := 5, ground := Ground.phase }, { on := 6, ground := Ground.phase }], guard := none }) rfl (fun K hK => ?_) AllReadyH.nil
    go_simp
    refine hK.out _ _ trivial (fun hHeld => ?_)
    clear hK K
    try simp only [Act.put]
    refine wpAnyH_done (by kernel_rfl) ?_ _
    refine NoPanic.normal ?_
    clear hHeld k z
    go_wp2
    go_ret
    exact ⟨rfl, hq.out, hC4.out⟩
theorem Level_any {w : World} {t : Nat} {M : Mm} {K : Int} (h : MAt w t M) (ho : M.ok K) (now : Int) (hn : now ≤ 9223372036854775807) :
    Calls Try.prog 19 #[.pointer (some ⟨t, 0, none⟩), .int .i64 now] w fun e w' => e = .returned (.tuple #[.int .i64 ((passM M now).l0 / 8000000000), .int .i64 ((passM M now).l1 / 8000000000)]) ∧ MAt w' t (passM M now) ∧ Ch (· = t) w w' := by
  have hp := hide (pass_any h ho now hn)
  have hMO := hide (passM_ok ho now)
  generalize passM M now = P at *
  have q1 := hMO.out.l0
  have q2 := hMO.out.l1
  have q3 := hMO.out.f0
  have q4 := hMO.out.f1
  have q5 : 0 ≤ P.l0 ∧ P.l0 ≤ 8388608000000000 := by omega
  have q6 : 0 ≤ P.l1 ∧ P.l1 ≤ 8388608000000000 := by omega
  clear h ho q1 q2 q3 q4
  go_enter Try.func19, Try.ntmps19
  go_wp2_with fail
  refine hp.out.mono ?_
  rintro e w2 ⟨rfl, hP2, hC2⟩
  have k2 := hP2.cell 2
  have k5 := hP2.cell 5
  simp only [mRow, List.getElem?_cons_succ, List.getElem?_cons_zero] at k2 k5
  have hS : Hid (w2.drew.cell? ⟨t, 2, none⟩ = some (.int .i64 P.l0) ∧ w2.drew.cell? ⟨t, 5, none⟩ = some (.int .i64 P.l1)) := ⟨k2, k5⟩
  have hP3 := hide (hP2.below (below_drewN (Below.refl _ _) 1))
  have hC3 := hide (hC2.trans (Ch.of_below (below_drewN (Below.refl _ _) 1)))
  have hd1 : Hid (IntKind.i64.wrap (P.l0.tdiv 8000000000) = P.l0 / 8000000000) := IntWalk.i64_quo _ _ (by omega)
  have hd2 : Hid (IntKind.i64.wrap (P.l1.tdiv 8000000000) = P.l1 / 8000000000) := IntWalk.i64_quo _ _ (by omega)
  clear hP2 hC2 k2 k5 hp hMO
  generalize hl0 : P.l0 = l0 at *
  generalize hl1 : P.l1 = l1 at *
  replace hl0 := hide hl0
  replace hl1 := hide hl1
  go_wp2_with fail
  refine wp_region_noPanic ?_
  refine wp_region_held_drew (S := fun W => W.cell? ⟨t, 2, none⟩ = some (.int .i64 l0) ∧ W.cell? ⟨t, 5, none⟩ = some (.int .i64 l1)) (by kernel_rfl) hS.out (fun hHeld => ?_)
  refine wpAnyH_take (i := 0) (oi := { dst := some 9, op := Op.move (Operand.tmp 0), type := 26, pos := "meter.go:78", after := #[], guard := none }) (v := ?v28) rfl (by kernel_rfl) (by kernel_rfl) (by kernel_rfl) (fun _ _ _ h => h) (Or.inl ⟨by rfl, ?y28⟩) (by assumption) ?r28
  case y28 => (intro w hSw; (try dsimp only at hSw); (try (go_split_ands)); go_simp; try with_reducible rfl)
  try simp only [Act.put, List.setIfInBounds_toArray, List.set_cons_zero, List.set_cons_succ]
  refine wpAnyH_take (i := 1) (oi := { dst := some 10, op := Op.nilCheck (Operand.tmp 9), type := 0, pos := "meter.go:78", after := #[{ on := 0, ground := Ground.data }], guard := none }) (v := ?v29) rfl (by kernel_rfl) (by kernel_rfl) (by kernel_rfl) (fun _ _ _ h => h) (Or.inl ⟨by rfl, ?y29⟩) (by assumption) ?r29
  case y29 => (intro w hSw; (try dsimp only at hSw); (try (go_split_ands)); go_simp; try with_reducible rfl)
  try simp only [Act.put, List.setIfInBounds_toArray, List.set_cons_zero, List.set_cons_succ]
  refine wpAnyH_take (i := 2) (oi := { dst := some 11, op := Op.fieldAddr 64 (Operand.tmp 10) 0, type := 0, pos := "meter.go:78", after := #[{ on := 1, ground := Ground.data }], guard := none }) (v := ?v30) rfl (by kernel_rfl) (by kernel_rfl) (by kernel_rfl) (fun _ _ _ h => h) (Or.inl ⟨by rfl, ?y30⟩) (by assumption) ?r30
  case y30 => (intro w hSw; (try dsimp only at hSw); (try (go_split_ands)); go_simp; try with_reducible rfl)
  try simp only [Act.put, List.setIfInBounds_toArray, List.set_cons_zero, List.set_cons_succ]
  refine wpAnyH_take (i := 3) (oi := { dst := some 12, op := Op.indexAddr 62 (Operand.tmp 11) (Operand.const (Value.int IntKind.i64 0)), type := 0, pos := "meter.go:78", after := #[{ on := 2, ground := Ground.data }], guard := none }) (v := ?v31) rfl (by kernel_rfl) (by kernel_rfl) (by kernel_rfl) (fun _ _ _ h => h) (Or.inl ⟨by rfl, ?y31⟩) (by assumption) ?r31
  case y31 => (intro w hSw; (try dsimp only at hSw); (try (go_split_ands)); go_simp; try with_reducible rfl)
  try simp only [Act.put, List.setIfInBounds_toArray, List.set_cons_zero, List.set_cons_succ]
  refine wpAnyH_take (i := 4) (oi := { dst := some 13, op := Op.fieldAddr 60 (Operand.tmp 12) 2, type := 0, pos := "meter.go:78", after := #[{ on := 3, ground := Ground.data }], guard := none }) (v := ?v32) rfl (by kernel_rfl) (by kernel_rfl) (by kernel_rfl) (fun _ _ _ h => h) (Or.inl ⟨by rfl, ?y32⟩) (by assumption) ?r32
  case y32 => (intro w hSw; (try dsimp only at hSw); (try (go_split_ands)); go_simp; try with_reducible rfl)
  try simp only [Act.put, List.setIfInBounds_toArray, List.set_cons_zero, List.set_cons_succ]
  refine wpAnyH_take (i := 5) (oi := { dst := some 14, op := Op.load 2 (Operand.tmp 13), type := 2, pos := "meter.go:78", after := #[{ on := 4, ground := Ground.data }], guard := none }) (v := ?v33) rfl (by kernel_rfl) (by kernel_rfl) (by kernel_rfl) (fun _ _ _ h => h) (Or.inl ⟨by rfl, ?y33⟩) (by assumption) ?r33
  case y33 => (intro w hSw; (try dsimp only at hSw); (try (go_split_ands)); go_simp; try with_reducible rfl)
  try simp only [Act.put, List.setIfInBounds_toArray, List.set_cons_zero, List.set_cons_succ]
  refine wpAnyH_take (i := 6) (oi := { dst := some 15, op := Op.binOp BinOp.quo 2 (Operand.tmp 14) (Operand.const (Value.int IntKind.i64 8000000000)) 2, type := 2, pos := "meter.go:78", after := #[{ on := 5, ground := Ground.data }], guard := none }) (v := ?v34) rfl (by kernel_rfl) (by kernel_rfl) (by kernel_rfl) (fun _ _ _ h => h) (Or.inl ⟨by rfl, ?y34⟩) (by assumption) ?r34
  case y34 => (intro w hSw; (try dsimp only at hSw); (try (go_split_ands)); go_simp; try with_reducible rfl)
  try simp only [Act.put, List.setIfInBounds_toArray, List.set_cons_zero, List.set_cons_succ]
  refine wpAnyH_take (i := 7) (oi := { dst := some 16, op := Op.move (Operand.tmp 0), type := 26, pos := "meter.go:78", after := #[{ on := 14, ground := Ground.gcOnly Departure.lateStores }], guard := none }) (v := ?v35) rfl (by kernel_rfl) (by kernel_rfl) (by kernel_rfl) (fun _ _ _ h => h) (Or.inl ⟨by rfl, ?y35⟩) (by assumption) ?r35
  case y35 => (intro w hSw; (try dsimp only at hSw); (try (go_split_ands)); go_simp; try with_reducible rfl)
  try simp only [Act.put, List.setIfInBounds_toArray, List.set_cons_zero, List.set_cons_succ]
  refine wpAnyH_take (i := 8) (oi := { dst := some 17, op := Op.nilCheck (Operand.tmp 16), type := 0, pos := "meter.go:78", after := #[{ on := 7, ground := Ground.data }, { on := 14, ground := Ground.gcOnly Departure.lateStores }], guard := none }) (v := ?v36) rfl (by kernel_rfl) (by kernel_rfl) (by kernel_rfl) (fun _ _ _ h => h) (Or.inl ⟨by rfl, ?y36⟩) (by assumption) ?r36
  case y36 => (intro w hSw; (try dsimp only at hSw); (try (go_split_ands)); go_simp; try with_reducible rfl)
  try simp only [Act.put, List.setIfInBounds_toArray, List.set_cons_zero, List.set_cons_succ]
  refine wpAnyH_take (i := 9) (oi := { dst := some 18, op := Op.fieldAddr 64 (Operand.tmp 17) 0, type := 0, pos := "meter.go:78", after := #[{ on := 8, ground := Ground.data }, { on := 14, ground := Ground.gcOnly Departure.lateStores }], guard := none }) (v := ?v37) rfl (by kernel_rfl) (by kernel_rfl) (by kernel_rfl) (fun _ _ _ h => h) (Or.inl ⟨by rfl, ?y37⟩) (by assumption) ?r37
  case y37 => (intro w hSw; (try dsimp only at hSw); (try (go_split_ands)); go_simp; try with_reducible rfl)
  try simp only [Act.put, List.setIfInBounds_toArray, List.set_cons_zero, List.set_cons_succ]
  refine wpAnyH_take (i := 10) (oi := { dst := some 19, op := Op.indexAddr 62 (Operand.tmp 18) (Operand.const (Value.int IntKind.i64 1)), type := 0, pos := "meter.go:78", after := #[{ on := 9, ground := Ground.data }, { on := 14, ground := Ground.gcOnly Departure.lateStores }], guard := none }) (v := ?v38) rfl (by kernel_rfl) (by kernel_rfl) (by kernel_rfl) (fun _ _ _ h => h) (Or.inl ⟨by rfl, ?y38⟩) (by assumption) ?r38
  case y38 => (intro w hSw; (try dsimp only at hSw); (try (go_split_ands)); go_simp; try with_reducible rfl)
  try simp only [Act.put, List.setIfInBounds_toArray, List.set_cons_zero, List.set_cons_succ]
  refine wpAnyH_take (i := 11) (oi := { dst := some 20, op := Op.fieldAddr 60 (Operand.tmp 19) 2, type := 0, pos := "meter.go:78", after := #[{ on := 10, ground := Ground.data }, { on := 14, ground := Ground.gcOnly Departure.lateStores }], guard := none }) (v := ?v39) rfl (by kernel_rfl) (by kernel_rfl) (by kernel_rfl) (fun _ _ _ h => h) (Or.inl ⟨by rfl, ?y39⟩) (by assumption) ?r39
  case y39 => (intro w hSw; (try dsimp only at hSw); (try (go_split_ands)); go_simp; try with_reducible rfl)
  try simp only [Act.put, List.setIfInBounds_toArray, List.set_cons_zero, List.set_cons_succ]
  refine wpAnyH_take (i := 12) (oi := { dst := some 21, op := Op.load 2 (Operand.tmp 20), type := 2, pos := "meter.go:78", after := #[{ on := 11, ground := Ground.data }, { on := 14, ground := Ground.gcOnly Departure.lateStores }], guard := none }) (v := ?v40) rfl (by kernel_rfl) (by kernel_rfl) (by kernel_rfl) (fun _ _ _ h => h) (Or.inl ⟨by rfl, ?y40⟩) (by assumption) ?r40
  case y40 => (intro w hSw; (try dsimp only at hSw); (try (go_split_ands)); go_simp; try with_reducible rfl)
  try simp only [Act.put, List.setIfInBounds_toArray, List.set_cons_zero, List.set_cons_succ]
  refine wpAnyH_take (i := 13) (oi := { dst := some 22, op := Op.binOp BinOp.quo 2 (Operand.tmp 21) (Operand.const (Value.int IntKind.i64 8000000000)) 2, type := 2, pos := "meter.go:78", after := #[{ on := 12, ground := Ground.data }, { on := 14, ground := Ground.gcOnly Departure.lateStores }], guard := none }) (v := ?v41) rfl (by kernel_rfl) (by kernel_rfl) (by kernel_rfl) (fun _ _ _ h => h) (Or.inl ⟨by rfl, ?y41⟩) (by assumption) ?r41
  case y41 => (intro w hSw; (try dsimp only at hSw); (try (go_split_ands)); go_simp; try with_reducible rfl)
  try simp only [Act.put, List.setIfInBounds_toArray, List.set_cons_zero, List.set_cons_succ]
  refine wpAnyH_take (i := 14) (oi := { dst := some 4, op := Op.assign (Operand.tmp 15), type := 2, pos := "meter.go:78", after := #[{ on := 6, ground := Ground.data }, { on := 0, ground := Ground.phase }, { on := 1, ground := Ground.phase }, { on := 2, ground := Ground.phase }, { on := 3, ground := Ground.phase }, { on := 4, ground := Ground.phase }, { on := 5, ground := Ground.phase }, { on := 6, ground := Ground.phase }, { on := 7, ground := Ground.textOnly Departure.lateStores }, { on := 8, ground := Ground.textOnly Departure.lateStores }, { on := 9, ground := Ground.textOnly Departure.lateStores }, { on := 10, ground := Ground.textOnly Departure.lateStores }, { on := 11, ground := Ground.textOnly Departure.lateStores }, { on := 12, ground := Ground.textOnly Departure.lateStores }, { on := 13, ground := Ground.textOnly Departure.lateStores }], guard := none }) (v := ?v42) rfl (by kernel_rfl) (by kernel_rfl) (by kernel_rfl) (fun _ _ _ h => h) (Or.inl ⟨by rfl, ?y42⟩) (by assumption) ?r42
  case y42 => (intro w hSw; (try dsimp only at hSw); (try (go_split_ands)); go_simp; try with_reducible rfl)
  try simp only [Act.put, List.setIfInBounds_toArray, List.set_cons_zero, List.set_cons_succ]
  refine wpAnyH_take (i := 15) (oi := { dst := some 5, op := Op.assign (Operand.tmp 22), type := 2, pos := "meter.go:78", after := #[{ on := 13, ground := Ground.data }, { on := 14, ground := Ground.chain }, { on := 0, ground := Ground.phase }, { on := 1, ground := Ground.phase }, { on := 2, ground := Ground.phase }, { on := 3, ground := Ground.phase }, { on := 4, ground := Ground.phase }, { on := 5, ground := Ground.phase }, { on := 6, ground := Ground.phase }, { on := 7, ground := Ground.phase }, { on := 8, ground := Ground.phase }, { on := 9, ground := Ground.phase }, { on := 10, ground := Ground.phase }, { on := 11, ground := Ground.phase }, { on := 12, ground := Ground.phase }, { on := 13, ground := Ground.phase }, { on := 14, ground := Ground.phase }], guard := none }) (v := ?v43) rfl (by kernel_rfl) (by kernel_rfl) (by kernel_rfl) (fun _ _ _ h => h) (Or.inl ⟨by rfl, ?y43⟩) (by assumption) ?r43
  case y43 => (intro w hSw; (try dsimp only at hSw); (try (go_split_ands)); go_simp; try with_reducible rfl)
  try simp only [Act.put, List.setIfInBounds_toArray, List.set_cons_zero, List.set_cons_succ]
  refine wpAnyH_done (by kernel_rfl) ?_ _
  refine NoPanic.normal ?_
  go_wp2
  go_ret2
  exact ⟨ret_two (by rw [hl0.out]; exact hd1.out) (by rw [hl1.out]; exact hd2.out), hP3.out, hC3.out⟩
theorem countsSize (a b c : Value) : (Try.prog.info? 33).map (·.size) = some (#[a, b, c] : Array Value).size := by kernel_rfl
theorem MAt.range {w : World} {t : Nat} {M : Mm} (h : MAt w t M) : w.rangeAt t 7 [.int .i64 M.c0, .int .i64 M.c1, .int .i64 M.c2] := by
  intro j v hj
  rw [h.cell]
  rcases j with _ | _ | _ | j
  · exact hj
  · exact hj
  · exact hj
  · simp at hj
theorem Counts_any {w : World} {t : Nat} {M : Mm} (h : MAt w t M) :
    Calls Try.prog 20 #[.pointer (some ⟨t, 0, none⟩)] w fun e w' => e = .returned (.agg #[.int .i64 M.c0, .int .i64 M.c1, .int .i64 M.c2]) ∧ Below w.heap.size w w' := by
  have hr := hide ((h.below (below1 w (.cells #[.int .i64 0, .int .i64 0, .int .i64 0] 33))).range)
  clear h
  go_enter Try.func20, Try.ntmps20
  go_wp2_with ((with_reducible change wpList _ _ _ _ _ _); refine wpList_load_mid rfl 33 (.tmp 5) rfl t 7 rfl _ _ hr.out Try.underlying33 rfl (countsSize _ _ _) ?_)
  exact bodyPost_ret (results_cell_row rfl _ _ w.heap.size 33 _ _ _ rfl (heap_alloc_new w _) Try.underlying33 rfl (countsSize _ _ _)) rfl ⟨rfl, below1 _ _⟩
/-- A meter that is new: both buckets full. -/
def newM (c : Mc) : Mm := ⟨c.r, c.b * 8000000000, c.b * 8000000000, c.e, c.s * 8000000000, c.s * 8000000000, 0, 0, 0, 0⟩
theorem newM_ok {c : Mc} (h : c.may = true) : (newM c).ok 0 := by
  simp only [Mc.may, Bool.and_eq_true, mayB_iff] at h
  unfold newM
  refine ⟨?_, ?_, ?_, ?_, ?_, ?_, ?_, ?_, ?_, ?_⟩ <;> (dsimp only; omega)
theorem cfgSize (c : Mc) : (Try.prog.info? 23).map (·.size) = some (fC c).toArray.size := by kernel_rfl
theorem New_bad (c : Mc) (h : c.may = false) (w : World) :
    Calls Try.prog 14 #[.agg (fC c).toArray] w fun e w' => e = .returned (.tuple #[.pointer none, .int .i64 30]) ∧ Below w.heap.size w w' := by
  have hr := hide (heap_alloc_new w (.cells (fC c).toArray 23))
  have hb := hide (below1 w (.cells (fC c).toArray 23))
  have hc := hide (fun w => Check_any c w)
  have hz := cfgSize c
  rw [h] at hc
  clear h
  generalize (fC c).toArray = E at *
  go_enter Try.func14, Try.ntmps14
  go_wp2_with ((with_reducible change wpList _ _ _ _ _ _); refine wpList_load_row rfl 23 (.tmp 1) rfl w.heap.size rfl 23 _ _ _ hr.out Try.underlying23 rfl hz ?_)
  refine (hc.out _).mono ?_
  rintro e w2 ⟨rfl, hb2⟩
  have hB := hide (hb.out.later hb2)
  clear hr hb hb2 hc
  go_wp2
  go_ret2
  exact ⟨rfl, hB.out⟩
theorem New_ok (c : Mc) (h : c.may = true) (w : World) :
    Calls Try.prog 14 #[.agg (fC c).toArray] w fun e w' => ∃ t, e = .returned (.tuple #[.pointer (some ⟨t, 0, none⟩), .int .i64 0]) ∧ MAt w' t (newM c) ∧ w.heap.size ≤ t ∧ Below w.heap.size w w' := by
  have hr := hide (heap_alloc_new w (.cells (fC c).toArray 23))
  have hb := hide (below1 w (.cells (fC c).toArray 23))
  have hc := hide (fun w => Check_any c w)
  have hz := cfgSize c
  rw [h] at hc
  have h' : Hid (0 ≤ c.b ∧ c.b ≤ 1048576 ∧ 0 ≤ c.s ∧ c.s ≤ 1048576) := by simp only [Mc.may, Bool.and_eq_true, mayB_iff] at h; show _ ∧ _; omega
  have hN : Hid (newM c = ⟨c.r, c.b * 8000000000, c.b * 8000000000, c.e, c.s * 8000000000, c.s * 8000000000, 0, 0, 0, 0⟩) := rfl
  generalize newM c = V at *
  clear h
  obtain ⟨r, b, e, s⟩ := c
  simp only [fC] at *
  have hA := hide (fun w => fullBucket_any r b h'.out.1 h'.out.2.1 w)
  have hB := hide (fun w => fullBucket_any e s h'.out.2.2.1 h'.out.2.2.2 w)
  clear h'
  have hE : Hid ((#[.int .i64 r, .int .i64 b, .int .i64 e, .int .i64 s] : Array Value) = #[.int .i64 r, .int .i64 b, .int .i64 e, .int .i64 s]) := rfl
  generalize b * 8000000000 = x at *
  generalize s * 8000000000 = y at *
  go_enter Try.func14, Try.ntmps14
  go_wp2_with ((with_reducible change wpList _ _ _ _ _ _); refine wpList_load_row rfl 23 (.tmp 1) rfl w.heap.size rfl 23 _ _ _ hr.out Try.underlying23 rfl hz ?_)
  refine (hc.out _).mono ?_
  rintro e' w2 ⟨rfl, hb2⟩
  have hr2 := heap_kept hb2 hr.out
  have hB2 := hide (hb.out.later hb2)
  clear hr hb hb2 hc
  have hS : Hid (w2.drew.cell? ⟨w.heap.size, 0, none⟩ = some (.int .i64 r) ∧ w2.drew.cell? ⟨w.heap.size, 1, none⟩ = some (.int .i64 b) ∧ w2.drew.cell? ⟨w.heap.size, 2, none⟩ = some (.int .i64 e) ∧ w2.drew.cell? ⟨w.heap.size, 3, none⟩ = some (.int .i64 s)) :=
    ⟨(cell_of_row _ _ _ _ _ _ hr2).trans rfl, (cell_of_row _ _ _ _ _ _ hr2).trans rfl, (cell_of_row _ _ _ _ _ _ hr2).trans rfl, (cell_of_row _ _ _ _ _ _ hr2).trans rfl⟩
  have hl : Hid (w.heap.size < w2.drew.heap.size) := (Array.getElem?_eq_some_iff.1 hr2).1
  have hB3 : Hid (Below w.heap.size w w2.drew) := below_drewN hB2.out 1
  clear hr2 hB2
  go_wp2_with fail
  refine wp_region_noPanic ?_
  refine wp_region_held_drew (S := fun W => W.cell? ⟨w.heap.size, 0, none⟩ = some (.int .i64 r) ∧ W.cell? ⟨w.heap.size, 1, none⟩ = some (.int .i64 b) ∧ W.cell? ⟨w.heap.size, 2, none⟩ = some (.int .i64 e) ∧ W.cell? ⟨w.heap.size, 3, none⟩ = some (.int .i64 s)) (by kernel_rfl) hS.out (fun hHeld => ?_)
  refine wpAnyH_take (i := 0) (oi := { dst := some 10, op := Op.fieldAddr 23 (Operand.tmp 1) 0, type := 0, pos := "meter.go:58", after := #[], guard := none }) (v := ?v44) rfl (by kernel_rfl) (by kernel_rfl) (by kernel_rfl) (fun _ _ _ h => h) (Or.inl ⟨by rfl, ?y44⟩) (by assumption) ?r44
  case y44 => (intro w hSw; (try dsimp only at hSw); (try (go_split_ands)); go_simp; try with_reducible rfl)
  try simp only [Act.put, List.setIfInBounds_toArray, List.set_cons_zero, List.set_cons_succ]
  refine wpAnyH_take (i := 1) (oi := { dst := some 11, op := Op.load 2 (Operand.tmp 10), type := 2, pos := "meter.go:58", after := #[{ on := 0, ground := Ground.data }], guard := none }) (v := ?v45) rfl (by kernel_rfl) (by kernel_rfl) (by kernel_rfl) (fun _ _ _ h => h) (Or.inl ⟨by rfl, ?y45⟩) (by assumption) ?r45
  case y45 => (intro w hSw; (try dsimp only at hSw); (try (go_split_ands)); go_simp; try with_reducible rfl)
  try simp only [Act.put, List.setIfInBounds_toArray, List.set_cons_zero, List.set_cons_succ]
  refine wpAnyH_take (i := 2) (oi := { dst := some 12, op := Op.fieldAddr 23 (Operand.tmp 1) 1, type := 0, pos := "meter.go:58", after := #[], guard := none }) (v := ?v46) rfl (by kernel_rfl) (by kernel_rfl) (by kernel_rfl) (fun _ _ _ h => h) (Or.inl ⟨by rfl, ?y46⟩) (by assumption) ?r46
  case y46 => (intro w hSw; (try dsimp only at hSw); (try (go_split_ands)); go_simp; try with_reducible rfl)
  try simp only [Act.put, List.setIfInBounds_toArray, List.set_cons_zero, List.set_cons_succ]
  refine wpAnyH_take (i := 3) (oi := { dst := some 13, op := Op.load 2 (Operand.tmp 12), type := 2, pos := "meter.go:58", after := #[{ on := 2, ground := Ground.data }], guard := none }) (v := ?v47) rfl (by kernel_rfl) (by kernel_rfl) (by kernel_rfl) (fun _ _ _ h => h) (Or.inl ⟨by rfl, ?y47⟩) (by assumption) ?r47
  case y47 => (intro w hSw; (try dsimp only at hSw); (try (go_split_ands)); go_simp; try with_reducible rfl)
  try simp only [Act.put, List.setIfInBounds_toArray, List.set_cons_zero, List.set_cons_succ]
  refine wpAnyH_take (i := 5) (oi := { dst := some 15, op := Op.fieldAddr 23 (Operand.tmp 1) 2, type := 0, pos := "meter.go:58", after := #[], guard := none }) (v := ?v48) rfl (by kernel_rfl) (by kernel_rfl) (by kernel_rfl) (fun _ _ _ h => h) (Or.inl ⟨by rfl, ?y48⟩) (by assumption) ?r48
  case y48 => (intro w hSw; (try dsimp only at hSw); (try (go_split_ands)); go_simp; try with_reducible rfl)
  try simp only [Act.put, List.setIfInBounds_toArray, List.set_cons_zero, List.set_cons_succ]
  refine wpAnyH_take (i := 6) (oi := { dst := some 16, op := Op.load 2 (Operand.tmp 15), type := 2, pos := "meter.go:58", after := #[{ on := 5, ground := Ground.data }], guard := none }) (v := ?v49) rfl (by kernel_rfl) (by kernel_rfl) (by kernel_rfl) (fun _ _ _ h => h) (Or.inl ⟨by rfl, ?y49⟩) (by assumption) ?r49
  case y49 => (intro w hSw; (try dsimp only at hSw); (try (go_split_ands)); go_simp; try with_reducible rfl)
  try simp only [Act.put, List.setIfInBounds_toArray, List.set_cons_zero, List.set_cons_succ]
  refine wpAnyH_take (i := 7) (oi := { dst := some 17, op := Op.fieldAddr 23 (Operand.tmp 1) 3, type := 0, pos := "meter.go:58", after := #[], guard := none }) (v := ?v50) rfl (by kernel_rfl) (by kernel_rfl) (by kernel_rfl) (fun _ _ _ h => h) (Or.inl ⟨by rfl, ?y50⟩) (by assumption) ?r50
  case y50 => (intro w hSw; (try dsimp only at hSw); (try (go_split_ands)); go_simp; try with_reducible rfl)
  try simp only [Act.put, List.setIfInBounds_toArray, List.set_cons_zero, List.set_cons_succ]
  refine wpAnyH_take (i := 8) (oi := { dst := some 18, op := Op.load 2 (Operand.tmp 17), type := 2, pos := "meter.go:58", after := #[{ on := 7, ground := Ground.data }], guard := none }) (v := ?v51) rfl (by kernel_rfl) (by kernel_rfl) (by kernel_rfl) (fun _ _ _ h => h) (Or.inl ⟨by rfl, ?y51⟩) (by assumption) ?r51
  case y51 => (intro w hSw; (try dsimp only at hSw); (try (go_split_ands)); go_simp; try with_reducible rfl)
  try simp only [Act.put, List.setIfInBounds_toArray, List.set_cons_zero, List.set_cons_succ]
  generalize w2.drew = w3 at *
  have S0 := hS.out.1
  have S1 := hS.out.2.1
  have S2 := hS.out.2.2.1
  have S3 := hS.out.2.2.2
  clear hS hHeld
  refine wpAnyH_ready (rs := [4]) (by kernel_rfl) (by simp) ?_
  refine AllReadyH.cons (o := { dst := some 14, op := Op.call { callee := Callee.value (Operand.func 32), args := #[Operand.tmp 11, Operand.tmp 13], argTypes := #[2, 2] }, type := 60, pos := "meter.go:58", after := #[{ on := 1, ground := Ground.data }, { on := 3, ground := Ground.data }], guard := none }) rfl (fun K hK => ?_) AllReadyH.nil
  go_simp
  refine (hA.out _).mono ?_
  rintro e' w4 ⟨rfl, hb4⟩
  have cc := fun o v (h : w3.cell? ⟨w.heap.size, o, none⟩ = some v) => (hb4.cell (p := ⟨w.heap.size, o, none⟩) (block_lt_of_cell h)).trans h
  have T0 := cc _ _ S0
  have T1 := cc _ _ S1
  have T2 := cc _ _ S2
  have T3 := cc _ _ S3
  have hB4 := hide (hB3.out.trans (hb4.mono (Nat.le_of_lt hl.out)))
  have hl4 : Hid (w.heap.size < w4.heap.size) := Nat.lt_of_lt_of_le hl.out hb4.size
  clear cc S0 S1 S2 S3 hA hB3 hl hb4
  go_wp2_with fail
  refine hK.out _ _ ?_ (fun hHeld4 => ?_)
  · exact ⟨T0, T1, T2, T3⟩
  clear hK K
  try simp only [Act.put, List.setIfInBounds_toArray, List.set_cons_zero, List.set_cons_succ]
  clear hHeld4
  refine wpAnyH_ready (rs := [9]) (by kernel_rfl) (by simp) ?_
  refine AllReadyH.cons (o := { dst := some 19, op := Op.call { callee := Callee.value (Operand.func 32), args := #[Operand.tmp 16, Operand.tmp 18], argTypes := #[2, 2] }, type := 60, pos := "meter.go:58", after := #[{ on := 6, ground := Ground.data }, { on := 8, ground := Ground.data }, { on := 4, ground := Ground.chain }], guard := none }) rfl (fun K hK => ?_) AllReadyH.nil
  go_simp
  refine (hB.out _).mono ?_
  rintro e' w5 ⟨rfl, hb5⟩
  have cc := fun o v (h : w4.cell? ⟨w.heap.size, o, none⟩ = some v) => (hb5.cell (p := ⟨w.heap.size, o, none⟩) (block_lt_of_cell h)).trans h
  have U0 := cc _ _ T0
  have U1 := cc _ _ T1
  have U2 := cc _ _ T2
  have U3 := cc _ _ T3
  have hB5 := hide (hB4.out.trans (hb5.mono (Nat.le_of_lt hl4.out)))
  have hl5 : Hid (w.heap.size < w5.heap.size) := Nat.lt_of_lt_of_le hl4.out hb5.size
  clear cc T0 T1 T2 T3 hB hB4 hl4 hb5
  go_wp2_with fail
  refine hK.out _ _ ?_ (fun hHeld9 => ?_)
  · exact ⟨U0, U1, U2, U3⟩
  clear hK K
  try simp only [Act.put, List.setIfInBounds_toArray, List.set_cons_zero, List.set_cons_succ]
  refine wpAnyH_take (i := 10) (oi := { dst := some 20, op := Op.build 62 #[(0, Operand.tmp 14), (1, Operand.tmp 19)], type := 62, pos := "meter.go:58", after := #[{ on := 4, ground := Ground.data }, { on := 9, ground := Ground.data }], guard := none }) (v := ?v52) rfl (by kernel_rfl) (by kernel_rfl) (by kernel_rfl) (fun _ _ _ h => h) (Or.inl ⟨by rfl, ?y52⟩) (by assumption) ?r52
  case y52 => (intro w hSw; (try dsimp only at hSw); (try (go_split_ands)); go_simp; try with_reducible rfl)
  try simp only [Act.put, List.setIfInBounds_toArray, List.set_cons_zero, List.set_cons_succ]
  refine wpAnyH_take (i := 11) (oi := { dst := some 21, op := Op.build 64 #[(0, Operand.tmp 20)], type := 64, pos := "meter.go:58", after := #[{ on := 10, ground := Ground.data }], guard := none }) (v := ?v53) rfl (by kernel_rfl) (by kernel_rfl) (by kernel_rfl) (fun _ _ _ h => h) (Or.inl ⟨by rfl, ?y53⟩) (by assumption) ?r53
  case y53 => (intro w hSw; (try dsimp only at hSw); (try (go_split_ands)); go_simp; try with_reducible rfl)
  try simp only [Act.put, List.setIfInBounds_toArray, List.set_cons_zero, List.set_cons_succ]
  have hM := hide (heap_alloc_new w5 (.cells (mRow ⟨r, x, x, e, y, y, 0, 0, 0, 0⟩).toArray 64))
  have hB6 := hide (hB5.out.later ((below1 w5 (.cells (mRow ⟨r, x, x, e, y, y, 0, 0, 0, 0⟩).toArray 64)).mono (Nat.le_refl _)))
  have hle : Hid (w.heap.size ≤ w5.heap.size) := Nat.le_of_lt hl5.out
  have cc := fun o v (h : w5.cell? ⟨w.heap.size, o, none⟩ = some v) => ((below1 w5 (.cells (mRow ⟨r, x, x, e, y, y, 0, 0, 0, 0⟩).toArray 64)).cell (p := ⟨w.heap.size, o, none⟩) (block_lt_of_cell h)).trans h
  have X0 := cc _ _ U0
  have X1 := cc _ _ U1
  have X2 := cc _ _ U2
  have X3 := cc _ _ U3
  clear cc U0 U1 U2 U3 hHeld9 hl5 hB5
  refine wpAnyH_ready (rs := [12]) (by kernel_rfl) (by simp) ?_
  refine AllReadyH.cons (o := { dst := some 22, op := Op.box 64 (Operand.tmp 21), type := 26, pos := "meter.go:58", after := #[{ on := 11, ground := Ground.data }], guard := none }) rfl (fun K hK => ?_) AllReadyH.nil
  go_simp
  refine hK.out _ _ ⟨X0, X1, X2, X3⟩ (fun hHeld => ?_)
  clear hK K
  try simp only [Act.put, List.setIfInBounds_toArray, List.set_cons_zero, List.set_cons_succ]
  refine wpAnyH_take (i := 13) (oi := { dst := some 2, op := Op.assign (Operand.tmp 22), type := 26, pos := "meter.go:58", after := #[{ on := 12, ground := Ground.data }, { on := 9, ground := Ground.chain }, { on := 0, ground := Ground.phase }, { on := 1, ground := Ground.phase }, { on := 2, ground := Ground.phase }, { on := 3, ground := Ground.phase }, { on := 4, ground := Ground.phase }, { on := 5, ground := Ground.phase }, { on := 6, ground := Ground.phase }, { on := 7, ground := Ground.phase }, { on := 8, ground := Ground.phase }, { on := 9, ground := Ground.phase }, { on := 10, ground := Ground.phase }, { on := 11, ground := Ground.phase }, { on := 12, ground := Ground.phase }], guard := none }) (v := ?v54) rfl (by kernel_rfl) (by kernel_rfl) (by kernel_rfl) (fun _ _ _ h => h) (Or.inl ⟨by rfl, ?y54⟩) (by assumption) ?r54
  case y54 => (intro w hSw; (try dsimp only at hSw); (try (go_split_ands)); go_simp; try with_reducible rfl)
  try simp only [Act.put, List.setIfInBounds_toArray, List.set_cons_zero, List.set_cons_succ]
  refine wpAnyH_take (i := 14) (oi := { dst := some 3, op := Op.assign (Operand.const (Value.int IntKind.i64 0)), type := 27, pos := "meter.go:58", after := #[{ on := 13, ground := Ground.chain }, { on := 0, ground := Ground.phase }, { on := 1, ground := Ground.phase }, { on := 2, ground := Ground.phase }, { on := 3, ground := Ground.phase }, { on := 4, ground := Ground.phase }, { on := 5, ground := Ground.phase }, { on := 6, ground := Ground.phase }, { on := 7, ground := Ground.phase }, { on := 8, ground := Ground.phase }, { on := 9, ground := Ground.phase }, { on := 10, ground := Ground.phase }, { on := 11, ground := Ground.phase }, { on := 12, ground := Ground.phase }, { on := 13, ground := Ground.phase }], guard := none }) (v := ?v55) rfl (by kernel_rfl) (by kernel_rfl) (by kernel_rfl) (fun _ _ _ h => h) (Or.inl ⟨by rfl, ?y55⟩) (by assumption) ?r55
  case y55 => (intro w hSw; (try dsimp only at hSw); (try (go_split_ands)); go_simp; try with_reducible rfl)
  try simp only [Act.put, List.setIfInBounds_toArray, List.set_cons_zero, List.set_cons_succ]
  refine wpAnyH_done (by kernel_rfl) ?_ _
  refine NoPanic.normal ?_
  clear hHeld X0 X1 X2 X3
  go_wp2
  go_ret2
  exact ⟨w5.heap.size, rfl, by rw [hN.out]; exact hM.out, hle.out, hB6.out⟩
end Go.Proofs.Ytmacdghkbmjdmaa
