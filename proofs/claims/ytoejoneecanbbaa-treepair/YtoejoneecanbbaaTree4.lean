
/-
  Contracts of tree's dropAgreements, hearChange, holdOthers, roleInMessage, age. Conditions: those that each theorem names.
-/
import Derived.Test.YtoejoneecanbbaaTree3
namespace Go.Proofs.Ytoejoneecanbbaa
open Go.RowKit
set_option linter.unusedVariables false
set_option maxRecDepth 20000

def disP (p : Tp) : Tp := { p with agreed := false }
def disTo (T : Tt) : Nat → Tt
  | 0 => T
  | k + 1 => setP (disTo T k) k (disP ((disTo T k).at k))
def disT (T : Tt) : Tt := disTo T T.ps.length
theorem disTo_len (T : Tt) : ∀ k, (disTo T k).ps.length = T.ps.length
  | 0 => rfl
  | k + 1 => by rw [disTo, setP_len, disTo_len T k]
theorem dropAgreements_any {w : World} {m : Mt} {T : Tt} (h : Tr w m T) :
    Calls Try.prog 51 #[.pointer (some ⟨m.tb, 0, none⟩)] w fun e w' => e = .returned (.tuple #[]) ∧ Tr w' m (disT T) ∧ Goes m w m w' := by
  obtain ⟨a, cap0, hv⟩ := h.ports.shape
  have c1 := h.cell 1
  simp only [treeRow, List.getElem?_cons_succ, List.getElem?_cons_zero] at c1
  rw [hv] at c1
  clear hv
  have hF : Hid (disT T = disTo T T.ps.length) := rfl
  have hlen : Hid (∀ k, (disTo T k).ps.length = T.ps.length) := disTo_len T
  have hfew := h.few
  replace h := hide h
  generalize hn : T.ps.length = n at *
  replace hn := hide hn
  go_enter Try.func51, Try.ntmps51
  go_wp2_with fail
  clear c1
  go_loopw [8] (fun i wr => ∃ j : Nat, j ≤ n ∧ i = .int .i64 j ∧ Hid (Tr wr m (disTo T j)) ∧ Hid (Goes m w m wr)) (fun i _ => n - (intOf i).toNat)
  case atStart => exact ⟨0, Nat.zero_le _, rfl, h, hide (Goes.refl _ _)⟩
  case round =>
    obtain ⟨j, hj, rfl, hT, hG⟩ := hrel
    clear h
    by_cases hlt : j < n
    · have hS : Hid (disTo T (j + 1) = setP (disTo T j) j (disP ((disTo T j).at j))) := rfl
      have hl := hlen.out j
      generalize hVE : disTo T (j + 1) = V at *
      replace hVE := hide hVE
      generalize disTo T j = U at *
      obtain ⟨pb, cap, sp, hP, c1, hne, hlp⟩ := hT.out.at_i j (by omega)
      rw [hl] at c1
      have hc := hP.fl.tp j hP.hi
      replace hP := hide hP
      have c15 := hc.c15
      have z15 := hP.out.fl.frozen (j * 16 + 15)
      have hE := hide (hT.out.put hP.out (disP (U.at j)) ((hP.out.fl.at_set Tp.zero j hP.out.hi).put wide_T 15 (.bool false) _ hP.out.hi (by omega) rfl) ((Wr.refl _ _).cell _ _))
      rw [← hS.out] at hE
      have hG2 := hide (hG.out.trans hE.out.2)
      have hT2 := hide hE.out.1
      clear hc hS hE hT hG hP
      go_wp2
      go_round
      case rel => exact ⟨j + 1, by omega, by go_num, by rw [hVE.out]; exact hT2, hG2⟩
      case measure => simp [intOf]; omega
    · obtain rfl : j = n := by omega
      go_wp2
      exact v_end rfl rfl ⟨rfl, by rw [hF.out]; exact hT.out, hG.out⟩
def hearT (T : Tt) (i : Nat) : Tt := if actB (T.at i) = true then spreadT T i else T
theorem hearChange_any {w : World} {m : Mt} {T : Tt} (h : Tr w m T) (i : Nat) (hi : i < T.ps.length) :
    Calls Try.prog 47 #[.pointer (some ⟨m.tb, 0, none⟩), .int .i64 i] w fun e w' => e = .returned (.tuple #[]) ∧ Tr w' m (hearT T i) ∧ Goes m w m w' := by
  obtain ⟨pb, cap, sp, hP, c1, hne, hlp⟩ := h.at_i i hi
  have hA := hide (isActive_any (hP.fl.tp i hi))
  have hS : Hid (hearT T i = if actB (T.ps.getD i Tp.zero) = true then spreadT T i else T) := rfl
  have hSp := hide (spreadChange_any h i)
  replace h := hide h
  generalize hearT T i = V at *
  generalize spreadT T i = U at *
  generalize actB (T.ps.getD i Tp.zero) = ac at *
  generalize T.ps.length = n at *
  clear hP
  go_enter Try.func47, Try.ntmps47
  go_wp2_with fail
  refine hA.out.mono ?_
  rintro e w1 ⟨rfl, rfl⟩
  cases ac
  · have hV : Hid (V = T) := hS.out
    clear hA hSp hS
    go_wp2
    exact v_end rfl rfl ⟨rfl, by rw [hV.out]; exact h.out, Goes.refl _ _⟩
  · have hV : Hid (V = U) := hS.out
    clear hA hS
    go_wp2_with fail
    refine hSp.out.mono ?_
    rintro e w2 ⟨rfl, hT2, hG2⟩
    replace hT2 := hide hT2
    replace hG2 := hide hG2
    clear hSp
    go_wp2
    exact v_end rfl rfl ⟨rfl, by rw [hV.out]; exact hT2.out, hG2.out⟩
def stepH (fr : Int) (U : Tt) (i : Nat) : Tt := if (i : Int) ≠ fr ∧ unsB (U.at i) = true then forgetT (setP U i (waitP (U.at i))) i else U
def holdTo (T : Tt) (fr : Int) : Nat → Tt
  | 0 => T
  | k + 1 => stepH fr (holdTo T fr k) k
def holdT (T : Tt) (fr : Int) : Tt := holdTo T fr T.ps.length
theorem stepH_len (fr : Int) (U : Tt) (i : Nat) : (stepH fr U i).ps.length = U.ps.length := by
  unfold stepH
  split
  · exact setP_len _ _ _
  · rfl
theorem holdTo_len (T : Tt) (fr : Int) : ∀ k, (holdTo T fr k).ps.length = T.ps.length
  | 0 => rfl
  | k + 1 => by rw [holdTo, stepH_len, holdTo_len T fr k]
theorem holdOthers_any {w : World} {m : Mt} {T : Tt} (h : Tr w m T) (fr : Int) :
    Calls Try.prog 71 #[.pointer (some ⟨m.tb, 0, none⟩), .int .i64 fr] w fun e w' => e = .returned (.tuple #[]) ∧ Tr w' m (holdT T fr) ∧ Goes m w m w' := by
  obtain ⟨a, cap0, hv⟩ := h.ports.shape
  have c1 := h.cell 1
  simp only [treeRow, List.getElem?_cons_succ, List.getElem?_cons_zero] at c1
  rw [hv] at c1
  clear hv
  have hF : Hid (holdT T fr = holdTo T fr T.ps.length) := rfl
  have hlen : Hid (∀ k, (holdTo T fr k).ps.length = T.ps.length) := holdTo_len T fr
  have hfew := h.few
  replace h := hide h
  generalize hn : T.ps.length = n at *
  replace hn := hide hn
  go_enter Try.func71, Try.ntmps71
  go_wp2_with fail
  clear c1
  go_loopw [10] (fun i wr => ∃ j : Nat, j ≤ n ∧ i = .int .i64 j ∧ Hid (Tr wr m (holdTo T fr j)) ∧ Hid (Goes m w m wr)) (fun i _ => n - (intOf i).toNat)
  case atStart => exact ⟨0, Nat.zero_le _, rfl, h, hide (Goes.refl _ _)⟩
  case round =>
    obtain ⟨j, hj, rfl, hT, hG⟩ := hrel
    clear h
    by_cases hlt : j < n
    · have hS : Hid (holdTo T fr (j + 1) = stepH fr (holdTo T fr j) j) := rfl
      have hl := hlen.out j
      generalize hVE : holdTo T fr (j + 1) = V at *
      replace hVE := hide hVE
      generalize holdTo T fr j = U at *
      obtain ⟨pb, cap, sp, hP, c1, hne, hlp⟩ := hT.out.at_i j (by omega)
      rw [hl] at c1
      have hA := hide (isUnsure_any (hP.fl.tp j hP.hi))
      have hW := hide (startWait_any hT.out hP)
      have hS1 : Hid (V = if (j : Int) ≠ fr ∧ unsB (U.ps.getD j Tp.zero) = true then forgetT (setP U j (waitP (U.ps.getD j Tp.zero))) j else U) := hS.out
      clear hS hP
      have hfo := hide (fun (w' : World) (h' : Tr w' m (setP U j (waitP (U.ps.getD j Tp.zero)))) => forget_any h' j (by rw [setP_len]; omega))
      generalize setP U j (waitP (U.ps.getD j Tp.zero)) = U' at *
      generalize unsB (U.ps.getD j Tp.zero) = ac at *
      by_cases hfr : (j : Int) = fr
      · have hV : Hid (V = U) := hS1.out.trans (if_neg (by simp [hfr]))
        have hbq : ((j : Int) != fr) = false := by rw [bne, (beq_iff_eq (a := (j : Int))).2 hfr]; rfl
        clear hfr hA hW hfo hS1
        go_wp2
        go_round
        case rel => exact ⟨j + 1, by omega, by go_num, by rw [hVE.out, hV.out]; exact hT, hG⟩
        case measure => simp [intOf]; omega
      have hbq : ((j : Int) != fr) = true := by rw [bne, (beq_eq_false_iff_ne (a := (j : Int))).2 hfr]; rfl
      go_wp2_with fail
      refine hA.out.mono ?_
      rintro e w1 ⟨rfl, rfl⟩
      clear hA
      cases ac
      · have hV : Hid (V = U) := hS1.out.trans (if_neg (by simp))
        clear hW hfo hS1
        go_wp2
        go_round
        case rel => exact ⟨j + 1, by omega, by go_num, by rw [hVE.out, hV.out]; exact hT, hG⟩
        case measure => simp [intOf]; omega
      have hV : Hid (V = forgetT U' j) := hS1.out.trans (if_pos ⟨hfr, rfl⟩)
      go_wp2_with fail
      refine hW.out.mono ?_
      rintro e w2 ⟨rfl, hT2, hG2⟩
      have hf2 := hide (hfo.out _ hT2)
      have hG3 := hide (hG.out.trans hG2)
      clear hW hT2 hG2 hfo hS1 hT hG c1
      go_wp2_with fail
      refine hf2.out.mono ?_
      rintro e w3 ⟨rfl, hT3, hG4⟩
      replace hT3 := hide hT3
      have hG5 := hide (hG3.out.trans hG4)
      clear hf2 hG3 hG4
      go_wp2
      go_round
      case rel => exact ⟨j + 1, by omega, by go_num, by rw [hVE.out, hV.out]; exact hT3, hG5⟩
      case measure => simp [intOf]; omega
    · obtain rfl : j = n := by omega
      go_wp2
      exact v_end rfl rfl ⟨rfl, by rw [hF.out]; exact hT.out, hG.out⟩
def msgRole (r : Int) : Int := if r = 1 then 2 else if r = 2 then 3 else 1
theorem roleInMessage_any (r : Int) (w : World) : Calls Try.prog 65 #[.int .i64 r] w fun e w' => e = .returned (.int .i64 (msgRole r)) ∧ w' = w := by
  unfold msgRole
  go_enter Try.func65, Try.ntmps65
  by_cases h1 : r = 1
  · subst h1
    go_wp2
    go_ret
    exact ⟨rfl, rfl⟩
  · by_cases h2 : r = 2
    · subst h2
      go_wp2
      go_ret
      exact ⟨rfl, rfl⟩
    · rw [if_neg h1, if_neg h2]
      go_wp2
      go_ret
      exact ⟨rfl, rfl⟩
def ageT (T : Tt) : Int := if T.rp < 0 then 0 else (T.at T.rp.toNat).age
theorem age_any {w : World} {m : Mt} {T : Tt} (h : Tr w m T) (hr : T.rp < T.ps.length) :
    Calls Try.prog 66 #[.pointer (some ⟨m.tb, 0, none⟩)] w fun e w' => e = .returned (.int .i64 (ageT T)) ∧ Below w.heap.size w w' := by
  have hS : Hid (ageT T = if T.rp < 0 then 0 else (T.at T.rp.toNat).age) := rfl
  have c6 := h.cell 6
  simp only [treeRow, List.getElem?_cons_succ, List.getElem?_cons_zero] at c6
  by_cases h0 : T.rp < 0
  · have hE : Hid (ageT T = 0) := hS.out.trans (if_pos h0)
    rw [hE.out]
    clear hS h hE
    generalize T.rp = rp at *
    go_enter Try.func66, Try.ntmps66
    go_wp2
    go_ret
    exact ⟨rfl, Below.refl _ _⟩
  · obtain ⟨i, hi⟩ := Int.eq_ofNat_of_zero_le (show 0 ≤ T.rp by omega)
    obtain ⟨pb, cap, sp, hP, c1, hne, hlp⟩ := h.at_i i (by omega)
    have c11 := (hP.fl.tp i hP.hi).c11
    have hE : Hid (ageT T = (T.ps.getD i Tp.zero).age) := by
      show _ = _
      rw [hS.out, if_neg h0, hi]; rfl
    rw [hE.out]
    rw [hi] at c6 hr
    have hlt : i < T.ps.length := by omega
    generalize (T.ps.getD i Tp.zero).age = ag at *
    generalize T.ps.length = n at *
    clear hE hS hP h0 hi h hr
    go_enter Try.func66, Try.ntmps66
    go_wp2_with fail
    refine wp_region_noPanic ?_
    refine wp_region_held_drew (S := fun W => W.cell? ⟨m.tb, 1, none⟩ = some (.slice (some ⟨pb, 0, none⟩) n cap) ∧ W.cell? ⟨m.tb, 6, none⟩ = some (.int .i64 i) ∧ W.cell? ⟨pb, i * 16 + 11, none⟩ = some (.int .i64 ag)) (by kernel_rfl) ⟨c1, c6, c11⟩ (fun hHeld => ?_)
    refine wpAnyH_take (i := 0) (oi := { dst := some 9, op := Op.move (Operand.tmp 0), type := 35, pos := "tree.go:386", after := #[], guard := none }) (v := ?v1) rfl (by kernel_rfl) (by kernel_rfl) (by kernel_rfl) (fun _ _ _ h => h) (Or.inl ⟨by rfl, ?y1⟩) (by assumption) ?r1
    case y1 => (intro w hSw; (try dsimp only at hSw); (try (go_split_ands)); go_simp; try with_reducible rfl)
    try simp only [Act.put, List.setIfInBounds_toArray, List.set_cons_zero, List.set_cons_succ]
    refine wpAnyH_take (i := 1) (oi := { dst := some 10, op := Op.nilCheck (Operand.tmp 9), type := 0, pos := "tree.go:386", after := #[{ on := 0, ground := Ground.data }], guard := none }) (v := ?v2) rfl (by kernel_rfl) (by kernel_rfl) (by kernel_rfl) (fun _ _ _ h => h) (Or.inl ⟨by rfl, ?y2⟩) (by assumption) ?r2
    case y2 => (intro w hSw; (try dsimp only at hSw); (try (go_split_ands)); go_simp; try with_reducible rfl)
    try simp only [Act.put, List.setIfInBounds_toArray, List.set_cons_zero, List.set_cons_succ]
    refine wpAnyH_take (i := 2) (oi := { dst := some 11, op := Op.fieldAddr 67 (Operand.tmp 10) 1, type := 0, pos := "tree.go:386", after := #[{ on := 1, ground := Ground.data }], guard := none }) (v := ?v3) rfl (by kernel_rfl) (by kernel_rfl) (by kernel_rfl) (fun _ _ _ h => h) (Or.inl ⟨by rfl, ?y3⟩) (by assumption) ?r3
    case y3 => (intro w hSw; (try dsimp only at hSw); (try (go_split_ands)); go_simp; try with_reducible rfl)
    try simp only [Act.put, List.setIfInBounds_toArray, List.set_cons_zero, List.set_cons_succ]
    refine wpAnyH_take (i := 3) (oi := { dst := some 12, op := Op.load 23 (Operand.tmp 11), type := 23, pos := "tree.go:386", after := #[{ on := 2, ground := Ground.data }], guard := none }) (v := ?v4) rfl (by kernel_rfl) (by kernel_rfl) (by kernel_rfl) (fun _ _ _ h => h) (Or.inl ⟨by rfl, ?y4⟩) (by assumption) ?r4
    case y4 => (intro w hSw; (try dsimp only at hSw); (try (go_split_ands)); go_simp; try with_reducible rfl)
    try simp only [Act.put, List.setIfInBounds_toArray, List.set_cons_zero, List.set_cons_succ]
    refine wpAnyH_take (i := 4) (oi := { dst := some 13, op := Op.move (Operand.tmp 0), type := 35, pos := "tree.go:386", after := #[], guard := none }) (v := ?v5) rfl (by kernel_rfl) (by kernel_rfl) (by kernel_rfl) (fun _ _ _ h => h) (Or.inl ⟨by rfl, ?y5⟩) (by assumption) ?r5
    case y5 => (intro w hSw; (try dsimp only at hSw); (try (go_split_ands)); go_simp; try with_reducible rfl)
    try simp only [Act.put, List.setIfInBounds_toArray, List.set_cons_zero, List.set_cons_succ]
    refine wpAnyH_take (i := 5) (oi := { dst := some 14, op := Op.nilCheck (Operand.tmp 13), type := 0, pos := "tree.go:386", after := #[{ on := 4, ground := Ground.data }], guard := none }) (v := ?v6) rfl (by kernel_rfl) (by kernel_rfl) (by kernel_rfl) (fun _ _ _ h => h) (Or.inl ⟨by rfl, ?y6⟩) (by assumption) ?r6
    case y6 => (intro w hSw; (try dsimp only at hSw); (try (go_split_ands)); go_simp; try with_reducible rfl)
    try simp only [Act.put, List.setIfInBounds_toArray, List.set_cons_zero, List.set_cons_succ]
    refine wpAnyH_take (i := 6) (oi := { dst := some 15, op := Op.fieldAddr 67 (Operand.tmp 14) 2, type := 0, pos := "tree.go:386", after := #[{ on := 5, ground := Ground.data }], guard := none }) (v := ?v7) rfl (by kernel_rfl) (by kernel_rfl) (by kernel_rfl) (fun _ _ _ h => h) (Or.inl ⟨by rfl, ?y7⟩) (by assumption) ?r7
    case y7 => (intro w hSw; (try dsimp only at hSw); (try (go_split_ands)); go_simp; try with_reducible rfl)
    try simp only [Act.put, List.setIfInBounds_toArray, List.set_cons_zero, List.set_cons_succ]
    refine wpAnyH_take (i := 7) (oi := { dst := some 16, op := Op.fieldAddr 64 (Operand.tmp 15) 1, type := 0, pos := "tree.go:386", after := #[{ on := 6, ground := Ground.data }], guard := none }) (v := ?v8) rfl (by kernel_rfl) (by kernel_rfl) (by kernel_rfl) (fun _ _ _ h => h) (Or.inl ⟨by rfl, ?y8⟩) (by assumption) ?r8
    case y8 => (intro w hSw; (try dsimp only at hSw); (try (go_split_ands)); go_simp; try with_reducible rfl)
    try simp only [Act.put, List.setIfInBounds_toArray, List.set_cons_zero, List.set_cons_succ]
    refine wpAnyH_take (i := 8) (oi := { dst := some 17, op := Op.load 3 (Operand.tmp 16), type := 3, pos := "tree.go:386", after := #[{ on := 7, ground := Ground.data }], guard := none }) (v := ?v9) rfl (by kernel_rfl) (by kernel_rfl) (by kernel_rfl) (fun _ _ _ h => h) (Or.inl ⟨by rfl, ?y9⟩) (by assumption) ?r9
    case y9 => (intro w hSw; (try dsimp only at hSw); (try (go_split_ands)); go_simp; try with_reducible rfl)
    try simp only [Act.put, List.setIfInBounds_toArray, List.set_cons_zero, List.set_cons_succ]
    refine wpAnyH_take (i := 9) (oi := { dst := some 18, op := Op.indexAddr 23 (Operand.tmp 12) (Operand.tmp 17), type := 0, pos := "tree.go:386", after := #[{ on := 3, ground := Ground.data }, { on := 8, ground := Ground.data }], guard := none }) (v := ?v10) rfl (by kernel_rfl) (by kernel_rfl) (by kernel_rfl) (fun _ _ _ h => h) (Or.inl ⟨by rfl, ?y10⟩) (by assumption) ?r10
    case y10 => (intro w hSw; (try dsimp only at hSw); (try (go_split_ands)); go_simp; try with_reducible rfl)
    try simp only [Act.put, List.setIfInBounds_toArray, List.set_cons_zero, List.set_cons_succ]
    refine wpAnyH_take (i := 10) (oi := { dst := some 19, op := Op.fieldAddr 34 (Operand.tmp 18) 4, type := 0, pos := "tree.go:386", after := #[{ on := 9, ground := Ground.data }], guard := none }) (v := ?v11) rfl (by kernel_rfl) (by kernel_rfl) (by kernel_rfl) (fun _ _ _ h => h) (Or.inl ⟨by rfl, ?y11⟩) (by assumption) ?r11
    case y11 => (intro w hSw; (try dsimp only at hSw); (try (go_split_ands)); go_simp; try with_reducible rfl)
    try simp only [Act.put, List.setIfInBounds_toArray, List.set_cons_zero, List.set_cons_succ]
    refine wpAnyH_take (i := 11) (oi := { dst := some 20, op := Op.load 3 (Operand.tmp 19), type := 3, pos := "tree.go:386", after := #[{ on := 10, ground := Ground.data }], guard := none }) (v := ?v12) rfl (by kernel_rfl) (by kernel_rfl) (by kernel_rfl) (fun _ _ _ h => h) (Or.inl ⟨by rfl, ?y12⟩) (by assumption) ?r12
    case y12 => (intro w hSw; (try dsimp only at hSw); (try (go_split_ands)); go_simp; try with_reducible rfl)
    try simp only [Act.put, List.setIfInBounds_toArray, List.set_cons_zero, List.set_cons_succ]
    refine wpAnyH_take (i := 12) (oi := { dst := some 2, op := Op.assign (Operand.tmp 20), type := 3, pos := "tree.go:386", after := #[{ on := 11, ground := Ground.data }, { on := 0, ground := Ground.phase }, { on := 1, ground := Ground.phase }, { on := 2, ground := Ground.phase }, { on := 3, ground := Ground.phase }, { on := 4, ground := Ground.phase }, { on := 5, ground := Ground.phase }, { on := 6, ground := Ground.phase }, { on := 7, ground := Ground.phase }, { on := 8, ground := Ground.phase }, { on := 9, ground := Ground.phase }, { on := 10, ground := Ground.phase }, { on := 11, ground := Ground.phase }], guard := none }) (v := ?v13) rfl (by kernel_rfl) (by kernel_rfl) (by kernel_rfl) (fun _ _ _ h => h) (Or.inl ⟨by rfl, ?y13⟩) (by assumption) ?r13
    case y13 => (intro w hSw; (try dsimp only at hSw); (try (go_split_ands)); go_simp; try with_reducible rfl)
    try simp only [Act.put, List.setIfInBounds_toArray, List.set_cons_zero, List.set_cons_succ]
    refine wpAnyH_done (by kernel_rfl) ?_ _
    refine NoPanic.normal ?_
    go_wp2
    go_ret
    exact ⟨rfl, below_drewN (Below.refl _ _) 1⟩
end Go.Proofs.Ytoejoneecanbbaa
