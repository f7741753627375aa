
/-
  Contracts of tree's spreadChange, forward, takeRole, dropAgreements, hearChange, holdOthers. Conditions: those that each theorem names.
-/
import Derived.Test.YtoejoneecanbbaaTree2
namespace Go.Proofs.Ytoejoneecanbbaa
open Go.RowKit
set_option linter.unusedVariables false
set_option maxRecDepth 20000

def Tt.at (T : Tt) (i : Nat) : Tp := T.ps.getD i Tp.zero
theorem setP_len (T : Tt) (i : Nat) (p : Tp) : (setP T i p).ps.length = T.ps.length := List.length_set
theorem setP_at (T : Tt) (i j : Nat) (p : Tp) (hi : i < T.ps.length) : (setP T i p).at j = if j = i then p else T.at j := getD_set _ _ _ _ _ hi
def changeP (p : Tp) : Tp := { p with change := 4 }
def stepS (fr : Int) (U : Tt) (i : Nat) : Tt := if (i : Int) ≠ fr ∧ actB (U.at i) = true ∧ (U.at i).edge = false then forgetT (setP U i (changeP (U.at i))) i else U
def spreadTo (T : Tt) (fr : Int) : Nat → Tt
  | 0 => T
  | k + 1 => stepS fr (spreadTo T fr k) k
def spreadT (T : Tt) (fr : Int) : Tt := spreadTo T fr T.ps.length
theorem stepS_len (fr : Int) (U : Tt) (i : Nat) : (stepS fr U i).ps.length = U.ps.length := by
  unfold stepS
  split
  · exact setP_len _ _ _
  · rfl
theorem spreadTo_len (T : Tt) (fr : Int) : ∀ k, (spreadTo T fr k).ps.length = T.ps.length
  | 0 => rfl
  | k + 1 => by rw [spreadTo, stepS_len, spreadTo_len T fr k]
theorem spreadChange_any {w : World} {m : Mt} {T : Tt} (h : Tr w m T) (fr : Int) :
    Calls Try.prog 59 #[.pointer (some ⟨m.tb, 0, none⟩), .int .i64 fr] w fun e w' => e = .returned (.tuple #[]) ∧ Tr w' m (spreadT T fr) ∧ Goes m w m w' := by
  obtain ⟨a, cap0, hv⟩ := h.ports.shape
  have c1 := h.cell 1
  simp only [treeRow, List.getElem?_cons_succ, List.getElem?_cons_zero] at c1
  rw [hv] at c1
  clear hv
  have hF : Hid (spreadT T fr = spreadTo T fr T.ps.length) := rfl
  have hlen : Hid (∀ k, (spreadTo T fr k).ps.length = T.ps.length) := spreadTo_len T fr
  have hfew := h.few
  replace h := hide h
  generalize hn : T.ps.length = n at *
  replace hn := hide hn
  go_enter Try.func59, Try.ntmps59
  go_wp2_with fail
  clear c1
  go_loopw [11] (fun i wr => ∃ j : Nat, j ≤ n ∧ i = .int .i64 j ∧ Hid (Tr wr m (spreadTo T fr j)) ∧ Hid (Goes m w m wr)) (fun i _ => n - (intOf i).toNat)
  case atStart => exact ⟨0, Nat.zero_le _, rfl, h, hide (Goes.refl _ _)⟩
  case round =>
    obtain ⟨j, hj, rfl, hT, hG⟩ := hrel
    clear h
    by_cases hlt : j < n
    · have hS : Hid (spreadTo T fr (j + 1) = stepS fr (spreadTo T fr j) j) := rfl
      have hl := hlen.out j
      generalize hVE : spreadTo T fr (j + 1) = V at *
      replace hVE := hide hVE
      generalize spreadTo T fr j = U at *
      obtain ⟨pb, cap, sp, hP, c1, hne, hlp⟩ := hT.out.at_i j (by omega)
      rw [hl] at c1
      have hc := hP.fl.tp j hP.hi
      have hA := hide (isActive_any hc)
      replace hP := hide hP
      have c8 := hc.c8
      have c14 := hc.c14
      have z14 := hP.out.fl.frozen (j * 16 + 14)
      have hE := hide (hT.out.put hP.out (changeP (U.at j)) ((hP.out.fl.at_set Tp.zero j hP.out.hi).put wide_T 14 (.int .i64 4) _ hP.out.hi (by omega) rfl) ((Wr.refl _ _).cell _ _))
      have hS1 : Hid (V = if (j : Int) ≠ fr ∧ actB (U.ps.getD j Tp.zero) = true ∧ (U.ps.getD j Tp.zero).edge = false then forgetT (setP U j (changeP (U.at j))) j else U) := hS.out
      clear hc hS
      have hfo := hide (fun (w' : World) (h' : Tr w' m (setP U j (changeP (U.at j)))) => forget_any h' j (by rw [setP_len]; omega))
      generalize setP U j (changeP (U.at j)) = U' at *
      generalize actB (U.ps.getD j Tp.zero) = ac at *
      generalize (U.ps.getD j Tp.zero).edge = ed at *
      generalize (U.ps.getD j Tp.zero).change = ch at *
      by_cases hfr : (j : Int) = fr
      · have hV : Hid (V = U) := hS1.out.trans (if_neg (by simp [hfr]))
        have hbq : ((j : Int) != fr) = false := by rw [bne, (beq_iff_eq (a := (j : Int))).2 hfr]; rfl
        clear hfr hA hE hfo hS1
        go_wp2
        go_round
        case rel => exact ⟨j + 1, by omega, by go_num, by rw [hVE.out, hV.out]; exact hT, hG⟩
        case measure => simp [intOf]; omega
      have hbq : ((j : Int) != fr) = true := by rw [bne, (beq_eq_false_iff_ne (a := (j : Int))).2 hfr]; rfl
      go_wp2_with fail
      refine hA.out.mono ?_
      rintro e w1 ⟨rfl, rfl⟩
      clear hA
      cases ac
      · have hV : Hid (V = U) := hS1.out.trans (if_neg (by simp))
        clear hE hfo hS1
        go_wp2
        go_round
        case rel => exact ⟨j + 1, by omega, by go_num, by rw [hVE.out, hV.out]; exact hT, hG⟩
        case measure => simp [intOf]; omega
      cases ed
      rotate_left
      · have hV : Hid (V = U) := hS1.out.trans (if_neg (by simp))
        clear hE hfo hS1
        go_wp2
        go_round
        case rel => exact ⟨j + 1, by omega, by go_num, by rw [hVE.out, hV.out]; exact hT, hG⟩
        case measure => simp [intOf]; omega
      have hV : Hid (V = forgetT U' j) := hS1.out.trans (if_pos ⟨hfr, rfl, rfl⟩)
      go_wp2_with fail
      obtain ⟨hE1, hE2⟩ := hE.out
      refine (hfo.out _ hE1).mono ?_
      rintro e w2 ⟨rfl, hT2, hG2⟩
      replace hT2 := hide hT2
      have hG3 := hide (hG.out.trans (hE2.trans hG2))
      clear hE hE1 hE2 hG2 hfo hS1 hT hG c1 c8 c14 z14 hP
      go_wp2
      go_round
      case rel => exact ⟨j + 1, by omega, by go_num, by rw [hVE.out, hV.out]; exact hT2, hG3⟩
      case measure => simp [intOf]; omega
    · obtain rfl : j = n := by omega
      go_wp2
      exact v_end rfl rfl ⟨rfl, by rw [hF.out]; exact hT.out, hG.out⟩
def fwdP (p : Tp) : Tp := { p with state := 2, wait := 0 }
def forwardT (T : Tt) (i : Nat) : Tt := if (T.at i).edge = true then setP T i (fwdP (T.at i)) else spreadT (setP T i (changeP (fwdP (T.at i)))) i
theorem setP_setP (T : Tt) (i : Nat) (p q : Tp) : setP (setP T i p) i q = setP T i q := by simp [setP]
theorem forgetT_len (T : Tt) (i : Nat) : (forgetT T i).ps.length = T.ps.length := rfl
theorem forwardT_len (T : Tt) (i : Nat) : (forwardT T i).ps.length = T.ps.length := by
  unfold forwardT
  split
  · exact setP_len _ _ _
  · rw [spreadT, spreadTo_len, setP_len]
theorem forward_any {w : World} {m : Mt} {T : Tt} (h : Tr w m T) (i : Nat) (hi : i < T.ps.length) :
    Calls Try.prog 53 #[.pointer (some ⟨m.tb, 0, none⟩), .int .i64 i] w fun e w' => e = .returned (.tuple #[]) ∧ Tr w' m (forwardT T i) ∧ Goes m w m w' := by
  obtain ⟨pb, cap, sp, hP, c1, hne, hlp⟩ := h.at_i i hi
  have hc := hP.fl.tp i hi
  have c8 := hc.c8
  have c10 := hc.c10
  have c13 := hc.c13
  have c14 := hc.c14
  have z10 := hP.fl.frozen (i * 16 + 10)
  have z13 := hP.fl.frozen (i * 16 + 13)
  have z14 := hP.fl.frozen (i * 16 + 14)
  have F2 := ((hP.fl.at_set Tp.zero i hi).put wide_T 10 (.int .i64 2) { T.ps.getD i Tp.zero with state := 2 } hi (by omega) rfl).put wide_T 13 (.int .i64 0) (fwdP (T.at i)) hi (by omega) rfl
  have hE := hide (h.put hP (fwdP (T.at i)) F2 (((Wr.refl _ _).cell _ _).cell _ _))
  have hE3 := hide (h.put hP (changeP (fwdP (T.at i))) (F2.put wide_T 14 (.int .i64 4) (changeP (fwdP (T.at i))) hi (by omega) rfl) ((((Wr.refl _ _).cell _ _).cell _ _).cell _ _))
  have hS : Hid (forwardT T i = if (T.ps.getD i Tp.zero).edge = true then setP T i (fwdP (T.at i)) else spreadT (setP T i (changeP (fwdP (T.at i)))) i) := rfl
  generalize forwardT T i = V at *
  generalize setP T i (fwdP (T.at i)) = U at *
  generalize setP T i (changeP (fwdP (T.at i))) = U' at *
  generalize T.ps.getD i Tp.zero = p at *
  obtain ⟨pb_, ed, ro, st, ag, le, wa, ch, gr⟩ := p
  generalize T.ps.length = n at *
  dsimp only at *
  clear h hc F2 hP
  go_enter Try.func53, Try.ntmps53
  cases ed
  · have hV : Hid (V = spreadT U' i) := hS.out.trans (if_neg (by simp))
    go_wp2_with fail
    refine (spreadChange_any hE3.out.1 i).mono ?_
    rintro e w2 ⟨rfl, hT2, hG2⟩
    replace hT2 := hide hT2
    have hG3 := hide (hE3.out.2.trans hG2)
    clear hE hE3 hG2 hS
    go_wp2
    exact v_end rfl rfl ⟨rfl, by rw [hV.out]; exact hT2.out, hG3.out⟩
  · have hV : Hid (V = U) := hS.out.trans (if_pos rfl)
    clear hE3 hS
    go_wp2
    exact v_end rfl rfl ⟨rfl, by rw [hV.out]; exact hE.out.1, hE.out.2⟩
def newP (p : Tp) (r : Int) : Tp := ⟨p.b, p.edge, r, 0, p.age, p.left, 0, 0, false⟩
def takeT (T : Tt) (i : Nat) (r : Int) : Tt := if r = 2 then forgetT (if (T.at i).edge = true then forwardT (setP T i (newP (T.at i) r)) i else setP T i (waitP (newP (T.at i) r))) i else if r = 1 then setP T i (newP (T.at i) r) else forgetT (setP T i (newP (T.at i) r)) i
theorem takeT_len (T : Tt) (i : Nat) (r : Int) : (takeT T i r).ps.length = T.ps.length := by
  unfold takeT
  split
  · rw [forgetT_len]
    split
    · rw [forwardT_len, setP_len]
    · exact setP_len _ _ _
  · split
    · exact setP_len _ _ _
    · rw [forgetT_len, setP_len]
set_option maxHeartbeats 4000000 in
theorem takeRole_any {w : World} {m : Mt} {T : Tt} (h : Tr w m T) (i : Nat) (hi : i < T.ps.length) (r : Int) :
    Calls Try.prog 52 #[.pointer (some ⟨m.tb, 0, none⟩), .int .i64 i, .int .i64 r] w fun e w' => e = .returned (.tuple #[]) ∧ Tr w' m (takeT T i r) ∧ Goes m w m w' := by
  obtain ⟨pb, cap, sp, hP, c1, hne, hlp⟩ := h.at_i i hi
  have hc := hP.fl.tp i hi
  have c9 := hc.c9
  have c10 := hc.c10
  have c13 := hc.c13
  have c14 := hc.c14
  have c15 := hc.c15
  have z9 := hP.fl.frozen (i * 16 + 9)
  have z10 := hP.fl.frozen (i * 16 + 10)
  have z13 := hP.fl.frozen (i * 16 + 13)
  have z14 := hP.fl.frozen (i * 16 + 14)
  have z15 := hP.fl.frozen (i * 16 + 15)
  have F1 := (hP.fl.at_set Tp.zero i hi).put wide_T 9 (.int .i64 r) { T.ps.getD i Tp.zero with role := r } hi (by omega) rfl
  have F2 := F1.put wide_T 10 (.int .i64 0) { T.ps.getD i Tp.zero with role := r, state := 0 } hi (by omega) rfl
  have F3 := F2.put wide_T 13 (.int .i64 0) { T.ps.getD i Tp.zero with role := r, state := 0, wait := 0 } hi (by omega) rfl
  have F4 := F3.put wide_T 14 (.int .i64 0) { T.ps.getD i Tp.zero with role := r, state := 0, wait := 0, change := 0 } hi (by omega) rfl
  have F5 := F4.put wide_T 15 (.bool false) (newP (T.at i) r) hi (by omega) rfl
  have c8 := hide (F5.tp_set hi).c8
  have hE := hide (h.put hP (newP (T.at i) r) F5 ((((((Wr.refl _ _).cell _ _).cell _ _).cell _ _).cell _ _).cell _ _))
  have hS : Hid (takeT T i r = if r = 2 then forgetT (if (T.at i).edge = true then forwardT (setP T i (newP (T.at i) r)) i else setP T i (waitP (newP (T.at i) r))) i else if r = 1 then setP T i (newP (T.at i) r) else forgetT (setP T i (newP (T.at i) r)) i) := rfl
  have hW : Hid (setP (setP T i (newP (T.at i) r)) i (waitP ((setP T i (newP (T.at i) r)).ps.getD i Tp.zero)) = setP T i (waitP (newP (T.at i) r))) := by
    show _ = _
    rw [show (setP T i (newP (T.at i) r)).ps.getD i Tp.zero = newP (T.at i) r from (setP_at T i i _ hi).trans (if_pos rfl), setP_setP]
  have hUl : Hid ((setP T i (newP (T.at i) r)).ps.length = T.ps.length) := setP_len _ _ _
  have hed : Hid ((newP (T.at i) r).edge = (T.at i).edge) := rfl
  rw [hed.out] at c8
  have hpv := hide hP.pv
  have hF5 : Hid (Fl _ pb 34 fT (setP T i (newP (T.at i) r)).ps sp) := F5
  generalize takeT T i r = V at *
  generalize setP T i (waitP (newP (T.at i) r)) = U2 at *
  generalize setP T i (newP (T.at i) r) = U at *
  generalize hedg : (T.at i).edge = ed at *
  generalize T.ps.getD i Tp.zero = p at *
  obtain ⟨pb_, ed_, ro, st, ag, le, wa, ch, gr⟩ := p
  generalize T.ps.length = n at *
  dsimp only at *
  clear h hc F1 F2 F3 F4 F5 hP hed hedg
  go_enter Try.func52, Try.ntmps52
  by_cases h2 : r = 2
  · subst h2
    have hS2 := hS.out
    rw [if_pos rfl] at hS2
    replace hS2 := hide hS2
    clear hS
    cases ed
    · have hV : Hid (V = forgetT U2 i) := hS2.out
      have d8 := c8.out
      clear c8 hS2
      go_wp2_with fail
      refine (startWait_any hE.out.1 ⟨by rw [hUl.out]; exact hpv.out, hF5.out, by rw [hUl.out]; exact hi⟩).mono ?_
      rintro e w2 ⟨rfl, hT2, hG2⟩
      rw [hW.out] at hT2
      have hU2l : U2.ps.length = n := by have := congrArg (fun x => x.ps.length) hW.out; simp only [setP_len] at this; rw [← this]; exact hUl.out
      replace hT2 := hide hT2
      have hG3 := hide (hE.out.2.trans hG2)
      clear hE hG2 hF5 d8 hW
      go_wp2_with fail
      refine (forget_any hT2.out i (by rw [hU2l]; exact hi)).mono ?_
      rintro e w3 ⟨rfl, hT3, hG4⟩
      replace hT3 := hide hT3
      have hG5 := hide (hG3.out.trans hG4)
      clear hT2 hG3 hG4
      go_wp2
      exact v_end rfl rfl ⟨rfl, by rw [hV.out]; exact hT3.out, hG5.out⟩
    · have hV : Hid (V = forgetT (forwardT U i) i) := hS2.out
      have d8 := c8.out
      clear c8 hS2
      go_wp2_with fail
      refine (forward_any hE.out.1 i (by rw [hUl.out]; exact hi)).mono ?_
      rintro e w2 ⟨rfl, hT2, hG2⟩
      replace hT2 := hide hT2
      have hG3 := hide (hE.out.2.trans hG2)
      clear hE hG2 hF5 d8 hW
      go_wp2_with fail
      refine (forget_any hT2.out i (by rw [forwardT_len, hUl.out]; exact hi)).mono ?_
      rintro e w3 ⟨rfl, hT3, hG4⟩
      replace hT3 := hide hT3
      have hG5 := hide (hG3.out.trans hG4)
      clear hT2 hG3 hG4
      go_wp2
      exact v_end rfl rfl ⟨rfl, by rw [hV.out]; exact hT3.out, hG5.out⟩
  · have hbq : (r == 2) = false := by rw [beq_eq_false_iff_ne]; exact h2
    have hS2 := hS.out
    rw [if_neg h2] at hS2
    by_cases h1 : r = 1
    · rw [if_pos h1] at hS2
      replace hS2 := hide hS2
      subst h1
      clear c8 hS
      go_wp2
      exact v_end rfl rfl ⟨rfl, by rw [hS2.out]; exact hE.out.1, hE.out.2⟩
    · rw [if_neg h1] at hS2
      replace hS2 := hide hS2
      have hbq1 : (r != 1) = true := by rw [bne, (beq_eq_false_iff_ne (a := r)).2 h1]; rfl
      clear c8 hS
      go_wp2_with fail
      refine (forget_any hE.out.1 i (by rw [hUl.out]; exact hi)).mono ?_
      rintro e w2 ⟨rfl, hT2, hG2⟩
      replace hT2 := hide hT2
      have hG3 := hide (hE.out.2.trans hG2)
      clear hE hG2 hF5
      go_wp2
      exact v_end rfl rfl ⟨rfl, by rw [hS2.out]; exact hT2.out, hG3.out⟩
end Go.Proofs.Ytoejoneecanbbaa
