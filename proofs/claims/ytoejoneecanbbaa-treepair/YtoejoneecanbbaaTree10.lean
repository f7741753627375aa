/-
  Contracts of tree's growOld, countDown, State. Conditions: those that each theorem names.
  Contracts of tree's countDown, Tick, Link, State. Conditions: those that each theorem names.
  Contracts of tree's Tick and Link. Conditions: those that each theorem names.
-/
import Derived.Test.YtoejoneecanbbaaTree9
namespace Go.Proofs.Ytoejoneecanbbaa
open Go.RowKit
set_option linter.unusedVariables false
set_option maxRecDepth 20000

def dimN (c : Int) : Int := if c ≤ 0 then 0 else c - 1
def dimP (p : Tp) : Tp := { p with change := dimN p.change }
def lessP (p : Tp) : Tp := { dimP p with left := p.left - 1 }
def lostP (p : Tp) : Bool := p.b.has && decide (p.left - 1 ≤ 0)
def oldP (p : Tp) : Tp := if p.b.has = false then dimP p else if p.left - 1 ≤ 0 then dropP (lessP p) else lessP p
def oldTo (T : Tt) : Nat → Tt
  | 0 => T
  | k + 1 => setP (oldTo T k) k (oldP ((oldTo T k).at k))
def lostTo (T : Tt) : Nat → Bool
  | 0 => false
  | k + 1 => lostTo T k || lostP ((oldTo T k).at k)
theorem oldTo_len (T : Tt) : ∀ k, (oldTo T k).ps.length = T.ps.length
  | 0 => rfl
  | k + 1 => by rw [oldTo, setP_len, oldTo_len T k]
theorem dimN_ok {c : Int} (h : 0 ≤ c ∧ c ≤ 4) : 0 ≤ dimN c ∧ dimN c ≤ 4 := by
  unfold dimN
  split <;> omega
theorem oldP_ok {p : Tp} (h : p.ok) : (oldP p).ok := by
  have hd : (dimP p).ok := ⟨h.b, h.age, h.left, h.wait, dimN_ok h.change, h.role, h.state⟩
  unfold oldP
  split
  · exact hd
  · split
    · have h2 := dropP_ok hd
      exact ⟨h2.b, h2.age, h2.left, h2.wait, h2.change, h2.role, h2.state⟩
    · have := h.left
      exact ⟨hd.b, hd.age, by show 0 ≤ p.left - 1 ∧ p.left - 1 ≤ 6; omega, hd.wait, hd.change, hd.role, hd.state⟩
theorem oldTo_ok {T : Tt} (h : T.ok) : ∀ k, (oldTo T k).ok
  | 0 => h
  | k + 1 => setP_ok (oldTo_ok h k) _ _ (oldP_ok (at_ok (oldTo_ok h k) k))
theorem same_oldTo (T : Tt) : ∀ k, Same T (oldTo T k)
  | 0 => Same.refl _
  | k + 1 => (same_oldTo T k).trans (same_setP _ _ _)
set_option maxHeartbeats 4000000 in
theorem growOld_any {w : World} {m : Mt} {T : Tt} (h : Tr w m T) (hok : T.ok) :
    Calls Try.prog 40 #[.pointer (some ⟨m.tb, 0, none⟩)] w fun e w' => e = .returned (.bool (lostTo T T.ps.length)) ∧ Tr w' m (oldTo T T.ps.length) ∧ Goes m w m w' := by
  obtain ⟨a, cap0, hv⟩ := h.ports.shape
  have c1 := h.cell 1
  simp only [treeRow, List.getElem?_cons_succ, List.getElem?_cons_zero] at c1
  rw [hv] at c1
  clear hv
  have hlen : Hid (∀ k, (oldTo T k).ps.length = T.ps.length) := oldTo_len T
  have hoks : Hid (∀ k, (oldTo T k).ok) := oldTo_ok hok
  have hfew := h.few
  replace h := hide h
  generalize hn : T.ps.length = n at *
  replace hn := hide hn
  go_enter Try.func40, Try.ntmps40
  go_wp2_with fail
  clear c1
  go_loopw [11, 3] (fun i l wr => ∃ j : Nat, j ≤ n ∧ i = .int .i64 j ∧ l = .bool (lostTo T j) ∧ Hid (Tr wr m (oldTo T j)) ∧ Hid (Goes m w m wr)) (fun i _ _ => n - (intOf i).toNat)
  case atStart => exact ⟨0, Nat.zero_le _, rfl, rfl, h, hide (Goes.refl _ _)⟩
  case round =>
    obtain ⟨j, hj, rfl, rfl, hT, hG⟩ := hrel
    clear h
    by_cases hlt : j < n
    · have hS : Hid (oldTo T (j + 1) = setP (oldTo T j) j (oldP ((oldTo T j).at j))) := rfl
      have hC : Hid (lostTo T (j + 1) = (lostTo T j || lostP ((oldTo T j).at j))) := rfl
      have hl := hlen.out j
      have hokj := at_ok (hoks.out j) j
      generalize hVE : oldTo T (j + 1) = V at *
      generalize hCE : lostTo T (j + 1) = C at *
      replace hVE := hide hVE
      replace hCE := hide hCE
      generalize oldTo T j = U at *
      generalize lostTo T j = lo at *
      obtain ⟨pb, cap, sp, hP, c1, hne, hlp⟩ := hT.out.at_i j (by omega)
      rw [hl] at c1
      have hc := hP.fl.tp j hP.hi
      have hi := hP.hi
      replace hP := hide hP
      have c3 := hc.c3
      have c12 := hc.c12
      have c14 := hc.c14
      have z14 := hP.out.fl.frozen (j * 16 + 14)
      have z12 := hP.out.fl.frozen (j * 16 + 12)
      have F1 := (hP.out.fl.at_set Tp.zero j hi).put wide_T 14 (.int .i64 (dimN (U.at j).change)) (dimP (U.at j)) hi (by omega) rfl
      have hE1 := hide (hT.out.put hP.out (dimP (U.at j)) F1 ((Wr.refl _ _).cell _ _))
      have F2 := F1.put wide_T 12 (.int .i64 ((U.at j).left - 1)) (lessP (U.at j)) hi (by omega) rfl
      have hE2 := hide (hT.out.put hP.out (lessP (U.at j)) F2 (((Wr.refl _ _).cell _ _).cell _ _))
      have hoE : Hid (oldP (U.at j) = if (U.at j).b.has = false then dimP (U.at j) else if (U.at j).left - 1 ≤ 0 then dropP (lessP (U.at j)) else lessP (U.at j)) := rfl
      have hlE : Hid (lostP (U.at j) = ((U.at j).b.has && decide ((U.at j).left - 1 ≤ 0))) := rfl
      have hgat : Hid ((setP U j (lessP (U.at j))).ps.getD j Tp.zero = lessP (U.at j)) := (setP_at U j j _ hi).trans (if_pos rfl)
      have hdr := hide (dropTold_any hE2.out.1 (i := j) (pb := pb) (cap := cap) (sp := sp) ⟨by rw [setP_len]; exact hP.out.pv, F2, by rw [setP_len]; exact hi⟩)
      rw [hgat.out, setP_setP] at hdr
      have hat : Hid (U.at j = U.ps.getD j Tp.zero) := rfl
      have hch := hokj.change
      have hle := hokj.left
      have hdim : Hid (dimN (U.at j).change = if (U.at j).change ≤ 0 then 0 else (U.at j).change - 1) := rfl
      clear F1 F2 hgat hP hc hokj hi
      rw [← hat.out] at c3 c12 c14
      have hVa : Hid ((U.at j).b.has = false → V = setP U j (dimP (U.at j)) ∧ C = lo) := fun e => ⟨by rw [hS.out, hoE.out, if_pos e], by rw [hC.out, hlE.out, e]; simp⟩
      have hVb : Hid ((U.at j).b.has = true → (U.at j).left - 1 ≤ 0 → V = setP U j (dropP (lessP (U.at j))) ∧ C = true) := fun e e2 => ⟨by rw [hS.out, hoE.out, if_neg (by simp [e]), if_pos e2], by rw [hC.out, hlE.out, e]; simp [e2]⟩
      have hVc : Hid ((U.at j).b.has = true → ¬ (U.at j).left - 1 ≤ 0 → V = setP U j (lessP (U.at j)) ∧ C = lo) := fun e e2 => ⟨by rw [hS.out, hoE.out, if_neg (by simp [e]), if_neg e2], by rw [hC.out, hlE.out, e, decide_eq_false e2]; simp⟩
      clear hS hC hoE hlE hat
      generalize setP U j (lessP (U.at j)) = U2 at *
      generalize setP U j (dropP (lessP (U.at j))) = U3 at *
      generalize setP U j (dimP (U.at j)) = U1 at *
      generalize dimN (U.at j).change = dm at *
      generalize (U.at j).change = ch at *
      generalize (U.at j).left = le at *
      generalize (U.at j).b.has = hs at *
      obtain ⟨hch0, hch1⟩ := hch
      obtain ⟨hle0, hle1⟩ := hle
      rcases (show ch = 0 ∨ ch = 1 ∨ 2 ≤ ch by omega) with rfl | rfl | hc2
      · obtain rfl : dm = 0 := hdim.out
        cases hs
        · obtain ⟨hV, hC2⟩ := hVa.out rfl
          replace hV := hide hV
          replace hC2 := hide hC2
          have hG2 := hide (hG.out.trans hE1.out.2)
          have hT2 := hide hE1.out.1
          clear hVa hVb hVc hE1 hE2 hdr hT hG
          go_wp2
          go_round
          case rel => exact ⟨j + 1, by omega, by go_num, by rw [hCE.out, hC2.out], by rw [hVE.out, hV.out]; exact hT2, hG2⟩
          case measure => simp [intOf]; omega
        by_cases hz : le - 1 ≤ 0
        · obtain ⟨hV, hC2⟩ := hVb.out rfl hz
          replace hV := hide hV
          replace hC2 := hide hC2
          have hG2 := hide (hG.out.trans hE2.out.2)
          clear hVa hVb hVc hE1 hT hG
          go_wp2_with fail
          refine hdr.out.mono ?_
          rintro e w5 ⟨rfl, hT5, hG5⟩
          replace hT5 := hide hT5
          have hG6 := hide (hG2.out.trans hG5)
          clear hdr hE2 hG2 hG5
          go_wp2
          go_round
          case rel => exact ⟨j + 1, by omega, by go_num, by rw [hCE.out, hC2.out], by rw [hVE.out, hV.out]; exact hT5, hG6⟩
          case measure => simp [intOf]; omega
        · obtain ⟨hV, hC2⟩ := hVc.out rfl hz
          replace hV := hide hV
          replace hC2 := hide hC2
          have hG2 := hide (hG.out.trans hE2.out.2)
          have hT2 := hide hE2.out.1
          clear hVa hVb hVc hE1 hE2 hdr hT hG
          go_wp2
          go_round
          case rel => exact ⟨j + 1, by omega, by go_num, by rw [hCE.out, hC2.out], by rw [hVE.out, hV.out]; exact hT2, hG2⟩
          case measure => simp [intOf]; omega
      · obtain rfl : dm = 0 := hdim.out
        cases hs
        · obtain ⟨hV, hC2⟩ := hVa.out rfl
          replace hV := hide hV
          replace hC2 := hide hC2
          have hG2 := hide (hG.out.trans hE1.out.2)
          have hT2 := hide hE1.out.1
          clear hVa hVb hVc hE1 hE2 hdr hT hG
          go_wp2
          go_round
          case rel => exact ⟨j + 1, by omega, by go_num, by rw [hCE.out, hC2.out], by rw [hVE.out, hV.out]; exact hT2, hG2⟩
          case measure => simp [intOf]; omega
        by_cases hz : le - 1 ≤ 0
        · obtain ⟨hV, hC2⟩ := hVb.out rfl hz
          replace hV := hide hV
          replace hC2 := hide hC2
          have hG2 := hide (hG.out.trans hE2.out.2)
          clear hVa hVb hVc hE1 hT hG
          go_wp2_with fail
          refine hdr.out.mono ?_
          rintro e w5 ⟨rfl, hT5, hG5⟩
          replace hT5 := hide hT5
          have hG6 := hide (hG2.out.trans hG5)
          clear hdr hE2 hG2 hG5
          go_wp2
          go_round
          case rel => exact ⟨j + 1, by omega, by go_num, by rw [hCE.out, hC2.out], by rw [hVE.out, hV.out]; exact hT5, hG6⟩
          case measure => simp [intOf]; omega
        · obtain ⟨hV, hC2⟩ := hVc.out rfl hz
          replace hV := hide hV
          replace hC2 := hide hC2
          have hG2 := hide (hG.out.trans hE2.out.2)
          have hT2 := hide hE2.out.1
          clear hVa hVb hVc hE1 hE2 hdr hT hG
          go_wp2
          go_round
          case rel => exact ⟨j + 1, by omega, by go_num, by rw [hCE.out, hC2.out], by rw [hVE.out, hV.out]; exact hT2, hG2⟩
          case measure => simp [intOf]; omega
      · obtain rfl : dm = ch - 1 := hdim.out.trans (if_neg (by omega))
        cases hs
        · obtain ⟨hV, hC2⟩ := hVa.out rfl
          replace hV := hide hV
          replace hC2 := hide hC2
          have hG2 := hide (hG.out.trans hE1.out.2)
          have hT2 := hide hE1.out.1
          clear hVa hVb hVc hE1 hE2 hdr hT hG
          go_wp2
          go_round
          case rel => exact ⟨j + 1, by omega, by go_num, by rw [hCE.out, hC2.out], by rw [hVE.out, hV.out]; exact hT2, hG2⟩
          case measure => simp [intOf]; omega
        by_cases hz : le - 1 ≤ 0
        · obtain ⟨hV, hC2⟩ := hVb.out rfl hz
          replace hV := hide hV
          replace hC2 := hide hC2
          have hG2 := hide (hG.out.trans hE2.out.2)
          clear hVa hVb hVc hE1 hT hG
          go_wp2_with fail
          refine hdr.out.mono ?_
          rintro e w5 ⟨rfl, hT5, hG5⟩
          replace hT5 := hide hT5
          have hG6 := hide (hG2.out.trans hG5)
          clear hdr hE2 hG2 hG5
          go_wp2
          go_round
          case rel => exact ⟨j + 1, by omega, by go_num, by rw [hCE.out, hC2.out], by rw [hVE.out, hV.out]; exact hT5, hG6⟩
          case measure => simp [intOf]; omega
        · obtain ⟨hV, hC2⟩ := hVc.out rfl hz
          replace hV := hide hV
          replace hC2 := hide hC2
          have hG2 := hide (hG.out.trans hE2.out.2)
          have hT2 := hide hE2.out.1
          clear hVa hVb hVc hE1 hE2 hdr hT hG
          go_wp2
          go_round
          case rel => exact ⟨j + 1, by omega, by go_num, by rw [hCE.out, hC2.out], by rw [hVE.out, hV.out]; exact hT2, hG2⟩
          case measure => simp [intOf]; omega
    · obtain rfl : n = j := by omega
      go_wp2
      go_ret
      exact ⟨rfl, hT.out, hG.out⟩
end Go.Proofs.Ytoejoneecanbbaa

namespace Go.Proofs.Ytoejoneecanbbaa
open Go.RowKit
set_option linter.unusedVariables false
set_option maxRecDepth 20000

def downW (p : Tp) : Tp := { p with wait := p.wait - 1 }
def learnP (p : Tp) : Tp := { p with state := 1, wait := 15 }
def countT (T : Tt) (i : Nat) : Tt := if (T.at i).role ≠ 2 ∨ (T.at i).state = 2 then T else if 0 < (T.at i).wait - 1 then setP T i (downW (T.at i)) else if (T.at i).state = 0 then setP T i (learnP (T.at i)) else forwardT (setP T i (downW (T.at i))) i
theorem countT_len (T : Tt) (i : Nat) : (countT T i).ps.length = T.ps.length := by
  unfold countT
  repeat' split
  · rfl
  · exact setP_len _ _ _
  · exact setP_len _ _ _
  · rw [forwardT_len, setP_len]
theorem fwd_ok' {T : Tt} (h : T.ok) (i : Nat) (hi : i < T.ps.length) (p : Tp) (hp : (fwdP p).ok) : (forwardT (setP T i p) i).ok := by
  have hat : (setP T i p).at i = p := (setP_at T i i p hi).trans (if_pos rfl)
  unfold forwardT
  rw [hat, setP_setP, setP_setP]
  split
  · exact setP_ok h _ _ hp
  · exact spreadTo_ok (setP_ok h _ _ (changeP_ok hp)) _ _
theorem countT_ok {T : Tt} (h : T.ok) (i : Nat) (hi : i < T.ps.length) : (countT T i).ok := by
  have hp := at_ok h i
  unfold countT
  split
  · exact h
  · split
    · rename_i _ hw
      have := hp.wait
      exact setP_ok h _ _ ⟨hp.b, hp.age, hp.left, by show 0 ≤ (T.at i).wait - 1 ∧ (T.at i).wait - 1 ≤ 15; omega, hp.change, hp.role, hp.state⟩
    · split
      · exact setP_ok h _ _ ⟨hp.b, hp.age, hp.left, by simp [learnP], hp.change, hp.role, by simp [learnP]⟩
      · exact fwd_ok' h i hi _ ⟨hp.b, hp.age, hp.left, by simp [fwdP], hp.change, hp.role, by simp [fwdP]⟩
theorem same_count (T : Tt) (i : Nat) : Same T (countT T i) := by
  unfold countT
  repeat' split
  · exact Same.refl _
  · exact same_setP _ _ _
  · exact same_setP _ _ _
  · exact (same_setP _ _ _).trans (same_forward _ _)
set_option maxHeartbeats 4000000 in
theorem countDown_any {w : World} {m : Mt} {T : Tt} (h : Tr w m T) (hok : T.ok) (i : Nat) (hi : i < T.ps.length) :
    Calls Try.prog 41 #[.pointer (some ⟨m.tb, 0, none⟩), .int .i64 i] w fun e w' => e = .returned (.tuple #[]) ∧ Tr w' m (countT T i) ∧ Goes m w m w' := by
  obtain ⟨pb, cap, sp, hP, c1, hne, hlp⟩ := h.at_i i hi
  have hc := hP.fl.tp i hi
  have c9 := hc.c9
  have c10 := hc.c10
  have c13 := hc.c13
  have z10 := hP.fl.frozen (i * 16 + 10)
  have z13 := hP.fl.frozen (i * 16 + 13)
  have F1 := (hP.fl.at_set Tp.zero i hi).put wide_T 13 (.int .i64 ((T.at i).wait - 1)) (downW (T.at i)) hi (by omega) rfl
  have hE1 := hide (h.put hP (downW (T.at i)) F1 ((Wr.refl _ _).cell _ _))
  have F3 := (F1.put wide_T 10 (.int .i64 1) { downW (T.at i) with state := 1 } hi (by omega) rfl).put wide_T 13 (.int .i64 15) (learnP (T.at i)) hi (by omega) rfl
  have hE3 := hide (h.put hP (learnP (T.at i)) F3 ((((Wr.refl _ _).cell _ _).cell _ _).cell _ _))
  have hfw := hide (forward_any hE1.out.1 i (by rw [setP_len]; exact hi))
  have hS : Hid (countT T i = if (T.at i).role ≠ 2 ∨ (T.at i).state = 2 then T else if 0 < (T.at i).wait - 1 then setP T i (downW (T.at i)) else if (T.at i).state = 0 then setP T i (learnP (T.at i)) else forwardT (setP T i (downW (T.at i))) i) := rfl
  have hwt := (at_ok hok i).wait
  have hTat : Hid (T.ps.getD i Tp.zero = T.at i) := rfl
  rw [hTat.out] at c9 c10 c13
  replace h := hide h
  generalize countT T i = V at *
  generalize setP T i (learnP (T.at i)) = U3 at *
  generalize setP T i (downW (T.at i)) = U1 at *
  generalize forwardT U1 i = U4 at *
  generalize (T.at i).role = ro at *
  generalize (T.at i).state = st at *
  generalize (T.at i).wait = wt at *
  generalize T.ps.length = n at *
  obtain ⟨hw0, hw1⟩ := hwt
  clear hP hc F1 F3 hTat
  go_enter Try.func41, Try.ntmps41
  by_cases h2 : ro = 2
  rotate_left
  · have hq := bne_yes8 h2
    have hV : Hid (V = T) := hS.out.trans (if_pos (.inl h2))
    clear hE1 hE3 hfw hS h2
    go_wp2
    exact v_ret rfl rfl ⟨rfl, by rw [hV.out]; exact h.out, Goes.refl _ _⟩
  have hq := bne_no8 h2
  have h2' := hide h2
  clear h2
  by_cases hs2 : st = 2
  · have hV : Hid (V = T) := hS.out.trans (if_pos (.inr hs2))
    have hsq : (st == 2) = true := by rw [beq_iff_eq]; exact hs2
    clear hE1 hE3 hfw hS hs2
    go_wp2
    exact v_ret rfl rfl ⟨rfl, by rw [hV.out]; exact h.out, Goes.refl _ _⟩
  have hsq : (st == 2) = false := by rw [beq_eq_false_iff_ne]; exact hs2
  have hS2 : Hid (V = if 0 < wt - 1 then U1 else if st = 0 then U3 else U4) := hS.out.trans (if_neg (by simp [h2'.out, hs2]))
  have hs2' := hide hs2
  clear hS hs2
  by_cases hw : 0 < wt - 1
  · have hV : Hid (V = U1) := hS2.out.trans (if_pos hw)
    clear hE3 hfw hS2
    go_wp2
    exact v_end rfl rfl ⟨rfl, by rw [hV.out]; exact hE1.out.1, hE1.out.2⟩
  by_cases hs0 : st = 0
  · have hV : Hid (V = U3) := hS2.out.trans (by rw [if_neg hw, if_pos hs0])
    subst hs0
    clear hE1 hfw hS2
    go_wp2
    exact v_end rfl rfl ⟨rfl, by rw [hV.out]; exact hE3.out.1, hE3.out.2⟩
  · have hV : Hid (V = U4) := hS2.out.trans (by rw [if_neg hw, if_neg hs0])
    have hsq0 : (st == 0) = false := by rw [beq_eq_false_iff_ne]; exact hs0
    clear hE3 hS2 hs0
    go_wp2_with fail
    refine hfw.out.mono ?_
    rintro e w5 ⟨rfl, hT5, hG5⟩
    replace hT5 := hide hT5
    have hG6 := hide (hE1.out.2.trans hG5)
    clear hfw hE1 hG5
    go_wp2
    exact v_end rfl rfl ⟨rfl, by rw [hV.out]; exact hT5.out, hG6.out⟩
theorem State_any {w : World} {m : Mt} {T : Tt} (h : Tr w m T) (i : Int) :
    Calls Try.prog 19 #[.pointer (some ⟨m.tb, 0, none⟩), .int .i64 i] w fun e w' => e = .returned (.int .i64 (if 0 ≤ i ∧ i < T.ps.length then (T.at i.toNat).state else 0)) ∧ w' = w := by
  have hh := hide (has_any h i)
  go_enter Try.func19, Try.ntmps19
  by_cases hb : 0 ≤ i ∧ i < T.ps.length
  · obtain ⟨r, rfl⟩ := Int.eq_ofNat_of_zero_le hb.1
    obtain ⟨pb, cap, sp, hP, c1, hne, hlp⟩ := h.at_i r (by omega)
    have c10 := (hP.fl.tp r hP.hi).c10
    have hrl : r < T.ps.length := hP.hi
    rw [show (decide (0 ≤ (r : Int)) && decide ((r : Int) < T.ps.length)) = true by simp; omega] at hh
    have hres : Hid ((if 0 ≤ (r : Int) ∧ (r : Int) < T.ps.length then (T.at (r : Int).toNat).state else 0) = (T.ps.getD r Tp.zero).state) := by rw [if_pos hb]; exact rfl
    generalize (T.ps.getD r Tp.zero).state = st at *
    rw [hres.out]
    generalize T.ps.length = n at *
    clear hP h hres hb
    go_wp2_with fail
    refine hh.out.mono ?_
    rintro e w1 ⟨rfl, rfl⟩
    clear hh
    go_wp2
    go_ret
    exact ⟨rfl, rfl⟩
  · rw [if_neg hb]
    rw [show (decide (0 ≤ i) && decide (i < T.ps.length)) = false by simp; omega] at hh
    clear hb h
    go_wp2_with fail
    refine hh.out.mono ?_
    rintro e w1 ⟨rfl, rfl⟩
    clear hh
    go_wp2
    go_ret
    exact ⟨rfl, rfl⟩
end Go.Proofs.Ytoejoneecanbbaa

namespace Go.Proofs.Ytoejoneecanbbaa
open Go.RowKit
set_option linter.unusedVariables false
set_option maxRecDepth 20000

theorem selT_same (T : Tt) : (selT T).outs = T.outs ∧ (selT T).ps = T.ps ∧ (selT T).quiet = T.quiet ∧ (selT T).id = T.id := ⟨rfl, rfl, rfl, rfl⟩
theorem midT_outs (T : Tt) : (midT T).outs = T.outs ∧ (midT T).quiet = T.quiet := by
  unfold midT
  have h1 := same_root (takeTo (if newsB T (selT T) = true then disT (selT T) else selT T) (selT T).roles T.ps.length)
  have h2 := same_takeTo (if newsB T (selT T) = true then disT (selT T) else selT T) (selT T).roles T.ps.length
  have h3 : Same (selT T) (if newsB T (selT T) = true then disT (selT T) else selT T) := by
    split
    · exact same_disTo _ _
    · exact Same.refl _
  have h4 := (h3.trans h2).trans h1
  exact ⟨h4.outs, h4.quiet⟩
theorem midT_len (T : Tt) : (midT T).ps.length = T.ps.length := by
  unfold midT
  rw [rootT_len, takeTo_len]
  split
  · rw [disT_len]; rfl
  · rfl
theorem allTo_quiet (T : Tt) : ∀ k, (allTo T k).quiet = T.quiet
  | 0 => rfl
  | k + 1 => by
    rw [allTo]
    split
    · exact (tellT_ps _ _ _).2.2.2.2.2.2.1.trans (allTo_quiet T k)
    · exact allTo_quiet T k
theorem allT_len (T : Tt) : (allT T).ps.length = T.ps.length := by unfold allT; rw [(allTo_ps T _).1]
theorem renewT_or (T : Tt) (b : Bool) : renewT T b = allT (midT T) ∨ renewT T b = midT T := by
  unfold renewT
  generalize (chTo (if newsB T (selT T) = true then disT (selT T) else selT T) (selT T).roles (newsB T (selT T)) T.ps.length || b) = x
  cases x
  · exact .inr rfl
  · exact .inl rfl
theorem renewT_len (T : Tt) (b : Bool) : (renewT T b).ps.length = T.ps.length := by
  rcases renewT_or T b with h | h <;> rw [h]
  · rw [allT_len, midT_len]
  · exact midT_len T
theorem renewT_ok {T : Tt} (h : T.ok) (b : Bool) : (renewT T b).ok := by
  rcases renewT_or T b with e | e <;> rw [e]
  · exact allTo_ok (midT_ok h) _
  · exact midT_ok h
theorem renewT_outs (T : Tt) (b : Bool) : (renewT T b).outs.length ≤ T.outs.length + T.ps.length ∧ (renewT T b).quiet = T.quiet := by
  rcases renewT_or T b with e | e <;> rw [e]
  · have := (allTo_ps (midT T) (midT T).ps.length).2
    rw [(midT_outs T).1, midT_len] at this
    refine ⟨?_, (allTo_quiet _ _).trans (midT_outs T).2⟩
    show (allTo (midT T) (midT T).ps.length).outs.length ≤ _
    rw [midT_len]; exact this
  · rw [(midT_outs T).1]; exact ⟨by omega, (midT_outs T).2⟩
def setUp (p : Tp) (up : Bool) : Tp := { p with b := { p.b with up := up } }
def linkT (T : Tt) (i : Int) (up : Bool) : Tt := if 0 ≤ i ∧ i < T.ps.length ∧ (T.at i.toNat).b.up ≠ up then renewT (forgetT (setP T i.toNat (dropP (setUp (T.at i.toNat) up))) i.toNat) true else T
theorem Link_any {w : World} {m : Mt} {T : Tt} (h : Tr w m T) (hok : T.ok) (ho : T.outs.length ≤ 700000) (i : Int) (up : Bool) :
    Calls Try.prog 15 #[.pointer (some ⟨m.tb, 0, none⟩), .int .i64 i, .bool up] w fun e w' => e = .returned (.tuple #[]) ∧ ∃ m', Tr w' m' (linkT T i up) ∧ Goes m w m' w' := by
  have hh := hide (has_any h i)
  have hE : Hid (linkT T i up = if 0 ≤ i ∧ i < T.ps.length ∧ (T.at i.toNat).b.up ≠ up then renewT (forgetT (setP T i.toNat (dropP (setUp (T.at i.toNat) up))) i.toNat) true else T) := rfl
  generalize linkT T i up = V at *
  go_enter Try.func15, Try.ntmps15
  by_cases hb : 0 ≤ i ∧ i < T.ps.length
  rotate_left
  · have hV : Hid (V = T) := hE.out.trans (if_neg (fun e => hb ⟨e.1, e.2.1⟩))
    rw [show (decide (0 ≤ i) && decide (i < T.ps.length)) = false by simp; omega] at hh
    replace h := hide h
    clear hb hE
    go_wp2_with fail
    refine hh.out.mono ?_
    rintro e w1 ⟨rfl, rfl⟩
    clear hh
    go_wp2
    exact v_ret rfl rfl ⟨rfl, m, by rw [hV.out]; exact h.out, Goes.refl _ _⟩
  obtain ⟨r, rfl⟩ := Int.eq_ofNat_of_zero_le hb.1
  obtain ⟨pb, cap, sp, hP, c1, hne, hlp⟩ := h.at_i r (by omega)
  have hrl : r < T.ps.length := hP.hi
  have c2 := (hP.fl.tp r hP.hi).c2
  have z2 := hP.fl.frozen (r * 16 + 2)
  rw [show (decide (0 ≤ (r : Int)) && decide ((r : Int) < T.ps.length)) = true by simp; omega] at hh
  have F1 := (hP.fl.at_set Tp.zero r hrl).put wide_T 2 (.bool up) (setUp (T.at r) up) hrl (by omega) rfl
  have hE1 := hide (h.put hP (setUp (T.at r) up) F1 ((Wr.refl _ _).cell _ _))
  have hat1 : (setP T r (setUp (T.at r) up)).ps.getD r Tp.zero = setUp (T.at r) up := (setP_at T r r _ hrl).trans (if_pos rfl)
  have hdr := hide (dropTold_any hE1.out.1 (i := r) (pb := pb) (cap := cap) (sp := sp) ⟨by rw [setP_len]; exact hP.pv, F1, by rw [setP_len]; exact hrl⟩)
  rw [hat1, setP_setP] at hdr
  have hp1 := at_ok hok r
  have hup : (setUp (T.at r) up).ok := ⟨⟨hp1.b.id, hp1.b.cost, hp1.b.told⟩, hp1.age, hp1.left, hp1.wait, hp1.change, hp1.role, hp1.state⟩
  have hok2 : Hid ((forgetT (setP T r (dropP (setUp (T.at r) up))) r).ok) := forgetT_ok (setP_ok hok r _ (dropP_ok hup)) r
  clear hup
  have hE2 : Hid (V = if (T.ps.getD r Tp.zero).b.up ≠ up then renewT (forgetT (setP T r (dropP (setUp (T.at r) up))) r) true else T) := by
    show _ = _
    rw [hE.out]
    by_cases e : (T.ps.getD r Tp.zero).b.up ≠ up
    · rw [if_pos e, if_pos ⟨hb.1, hb.2, e⟩]; rfl
    · rw [if_neg e, if_neg (fun x => e x.2.2)]
  have hfo := hide (fun (W : World) (hW : Tr W m (setP T r (dropP (setUp (T.at r) up)))) => forget_any hW r (by rw [setP_len]; exact hrl))
  have hre := hide (fun (W : World) (hW : Tr W m (forgetT (setP T r (dropP (setUp (T.at r) up))) r)) => renew_any hW hok2.out ho true)
  replace h := hide h
  generalize renewT (forgetT (setP T r (dropP (setUp (T.at r) up))) r) true = V2 at *
  generalize forgetT (setP T r (dropP (setUp (T.at r) up))) r = U3 at *
  generalize setP T r (dropP (setUp (T.at r) up)) = U2 at *
  generalize setP T r (setUp (T.at r) up) = U1 at *
  generalize (T.ps.getD r Tp.zero).b.up = u0 at *
  generalize T.ps.length = n at *
  clear hP F1 hat1 hE hb hp1
  go_wp2_with fail
  refine hh.out.mono ?_
  rintro e w1 ⟨rfl, rfl⟩
  clear hh
  by_cases hu : u0 = up
  · have hV : Hid (V = T) := hE2.out.trans (if_neg (by simp [hu]))
    subst hu
    clear hE2 hE1 hdr hfo hre
    go_wp2
    exact v_ret rfl rfl ⟨rfl, m, by rw [hV.out]; exact h.out, Goes.refl _ _⟩
  · have hV : Hid (V = V2) := hE2.out.trans (if_pos hu)
    have huq : (u0 == up) = false := by cases u0 <;> cases up <;> simp_all
    clear hE2 hu h
    go_wp2_with fail
    refine hdr.out.mono ?_
    rintro e w3 ⟨rfl, hT3, hG3⟩
    have hf3 := hide (hfo.out _ hT3)
    have hG4 := hide (hE1.out.2.trans hG3)
    clear hdr hfo hE1 hT3 hG3
    go_wp2_with fail
    refine hf3.out.mono ?_
    rintro e w5 ⟨rfl, hT5, hG5⟩
    have hr5 := hide (hre.out _ hT5)
    have hG6 := hide (hG4.out.trans hG5)
    clear hf3 hre hT5 hG5 hG4
    go_wp2_with fail
    refine hr5.out.mono ?_
    rintro e w7 ⟨rfl, m7, hT7, hG7⟩
    replace hT7 := hide hT7
    have hG8 := hide (hG6.out.trans hG7)
    clear hr5 hG7 hG6
    go_wp2
    exact v_end rfl rfl ⟨rfl, m7, by rw [hV.out]; exact hT7.out, hG8.out⟩
end Go.Proofs.Ytoejoneecanbbaa
