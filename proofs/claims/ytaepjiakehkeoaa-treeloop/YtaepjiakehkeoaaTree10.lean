/-
  Contracts of tree's growOld, countDown, State. Conditions: those that each theorem names.
-/
import Derived.Test.YtaepjiakehkeoaaTree9
namespace Go.Proofs.Ytaepjiakehkeoaa
open Go.RowKit
set_option linter.unusedVariables false
set_option maxRecDepth 20000

def dimN (c : Int) : Int := if c ≤ 0 then 0 else c - 1
def dimP (p : Tp) : Tp := { p with change := dimN p.change }
def lessP (p : Tp) : Tp := { dimP p with left := p.left - 1 }
def lostP (p : Tp) : Bool := p.b.has && decide (p.left - 1 ≤ 0)
def oldP (p : Tp) : Tp := if p.b.has = false then dimP p else if p.left - 1 ≤ 0 then dropP (lessP p) else lessP p
def oldTo (T : Tt) : Nat → Tt
  | 0 => T
  | k + 1 => setP (oldTo T k) k (oldP ((oldTo T k).at k))
def lostTo (T : Tt) : Nat → Bool
  | 0 => false
  | k + 1 => lostTo T k || lostP ((oldTo T k).at k)
theorem oldTo_len (T : Tt) : ∀ k, (oldTo T k).ps.length = T.ps.length
  | 0 => rfl
  | k + 1 => by rw [oldTo, setP_len, oldTo_len T k]
theorem dimN_ok {c : Int} (h : 0 ≤ c ∧ c ≤ 4) : 0 ≤ dimN c ∧ dimN c ≤ 4 := by
  unfold dimN
  split <;> omega
theorem oldP_ok {p : Tp} (h : p.ok) : (oldP p).ok := by
  have hd : (dimP p).ok := ⟨h.b, h.age, h.left, h.wait, dimN_ok h.change, h.role, h.state⟩
  unfold oldP
  split
  · exact hd
  · split
    · have h2 := dropP_ok hd
      exact ⟨h2.b, h2.age, h2.left, h2.wait, h2.change, h2.role, h2.state⟩
    · have := h.left
      exact ⟨hd.b, hd.age, by show 0 ≤ p.left - 1 ∧ p.left - 1 ≤ 6; omega, hd.wait, hd.change, hd.role, hd.state⟩
theorem oldTo_ok {T : Tt} (h : T.ok) : ∀ k, (oldTo T k).ok
  | 0 => h
  | k + 1 => setP_ok (oldTo_ok h k) _ _ (oldP_ok (at_ok (oldTo_ok h k) k))
theorem same_oldTo (T : Tt) : ∀ k, Same T (oldTo T k)
  | 0 => Same.refl _
  | k + 1 => (same_oldTo T k).trans (same_setP _ _ _)
set_option maxHeartbeats 4000000 in
theorem growOld_any {w : World} {m : Mt} {T : Tt} (h : Tr w m T) (hok : T.ok) :
    Calls Try.prog 66 #[.pointer (some ⟨m.tb, 0, none⟩)] w fun e w' => e = .returned (.bool (lostTo T T.ps.length)) ∧ Tr w' m (oldTo T T.ps.length) ∧ Goes m w m w' := by
  obtain ⟨a, cap0, hv⟩ := h.ports.shape
  have c1 := h.cell 1
  simp only [treeRow, List.getElem?_cons_succ, List.getElem?_cons_zero] at c1
  rw [hv] at c1
  clear hv
  have hlen : Hid (∀ k, (oldTo T k).ps.length = T.ps.length) := oldTo_len T
  have hoks : Hid (∀ k, (oldTo T k).ok) := oldTo_ok hok
  have hfew := h.few
  replace h := hide h
  generalize hn : T.ps.length = n at *
  replace hn := hide hn
  go_enter Try.func66, Try.ntmps66
  go_wp2_with fail
  clear c1
  go_loopw [11, 3] (fun i l wr => ∃ j : Nat, j ≤ n ∧ i = .int .i64 j ∧ l = .bool (lostTo T j) ∧ Hid (Tr wr m (oldTo T j)) ∧ Hid (Goes m w m wr)) (fun i _ _ => n - (intOf i).toNat)
  case atStart => exact ⟨0, Nat.zero_le _, rfl, rfl, h, hide (Goes.refl _ _)⟩
  case round =>
    obtain ⟨j, hj, rfl, rfl, hT, hG⟩ := hrel
    clear h
    by_cases hlt : j < n
    · have hS : Hid (oldTo T (j + 1) = setP (oldTo T j) j (oldP ((oldTo T j).at j))) := rfl
      have hC : Hid (lostTo T (j + 1) = (lostTo T j || lostP ((oldTo T j).at j))) := rfl
      have hl := hlen.out j
      have hokj := at_ok (hoks.out j) j
      generalize hVE : oldTo T (j + 1) = V at *
      generalize hCE : lostTo T (j + 1) = C at *
      replace hVE := hide hVE
      replace hCE := hide hCE
      generalize oldTo T j = U at *
      generalize lostTo T j = lo at *
      obtain ⟨pb, cap, sp, hP, c1, hne, hlp⟩ := hT.out.at_i j (by omega)
      rw [hl] at c1
      have hc := hP.fl.tp j hP.hi
      have hi := hP.hi
      replace hP := hide hP
      have c3 := hc.c3
      have c12 := hc.c12
      have c14 := hc.c14
      have z14 := hP.out.fl.frozen (j * 16 + 14)
      have z12 := hP.out.fl.frozen (j * 16 + 12)
      have F1 := (hP.out.fl.at_set Tp.zero j hi).put wide_T 14 (.int .i64 (dimN (U.at j).change)) (dimP (U.at j)) hi (by omega) rfl
      have hE1 := hide (hT.out.put hP.out (dimP (U.at j)) F1 ((Wr.refl _ _).cell _ _))
      have F2 := F1.put wide_T 12 (.int .i64 ((U.at j).left - 1)) (lessP (U.at j)) hi (by omega) rfl
      have hE2 := hide (hT.out.put hP.out (lessP (U.at j)) F2 (((Wr.refl _ _).cell _ _).cell _ _))
      have hoE : Hid (oldP (U.at j) = if (U.at j).b.has = false then dimP (U.at j) else if (U.at j).left - 1 ≤ 0 then dropP (lessP (U.at j)) else lessP (U.at j)) := rfl
      have hlE : Hid (lostP (U.at j) = ((U.at j).b.has && decide ((U.at j).left - 1 ≤ 0))) := rfl
      have hgat : Hid ((setP U j (lessP (U.at j))).ps.getD j Tp.zero = lessP (U.at j)) := (setP_at U j j _ hi).trans (if_pos rfl)
      have hdr := hide (dropTold_any hE2.out.1 (i := j) (pb := pb) (cap := cap) (sp := sp) ⟨by rw [setP_len]; exact hP.out.pv, F2, by rw [setP_len]; exact hi⟩)
      rw [hgat.out, setP_setP] at hdr
      have hat : Hid (U.at j = U.ps.getD j Tp.zero) := rfl
      have hch := hokj.change
      have hle := hokj.left
      have hdim : Hid (dimN (U.at j).change = if (U.at j).change ≤ 0 then 0 else (U.at j).change - 1) := rfl
      clear F1 F2 hgat hP hc hokj hi
      rw [← hat.out] at c3 c12 c14
      have hVa : Hid ((U.at j).b.has = false → V = setP U j (dimP (U.at j)) ∧ C = lo) := fun e => ⟨by rw [hS.out, hoE.out, if_pos e], by rw [hC.out, hlE.out, e]; simp⟩
      have hVb : Hid ((U.at j).b.has = true → (U.at j).left - 1 ≤ 0 → V = setP U j (dropP (lessP (U.at j))) ∧ C = true) := fun e e2 => ⟨by rw [hS.out, hoE.out, if_neg (by simp [e]), if_pos e2], by rw [hC.out, hlE.out, e]; simp [e2]⟩
      have hVc : Hid ((U.at j).b.has = true → ¬ (U.at j).left - 1 ≤ 0 → V = setP U j (lessP (U.at j)) ∧ C = lo) := fun e e2 => ⟨by rw [hS.out, hoE.out, if_neg (by simp [e]), if_neg e2], by rw [hC.out, hlE.out, e, decide_eq_false e2]; simp⟩
      clear hS hC hoE hlE hat
      generalize setP U j (lessP (U.at j)) = U2 at *
      generalize setP U j (dropP (lessP (U.at j))) = U3 at *
      generalize setP U j (dimP (U.at j)) = U1 at *
      generalize dimN (U.at j).change = dm at *
      generalize (U.at j).change = ch at *
      generalize (U.at j).left = le at *
      generalize (U.at j).b.has = hs at *
      obtain ⟨hch0, hch1⟩ := hch
      obtain ⟨hle0, hle1⟩ := hle
      rcases (show ch = 0 ∨ ch = 1 ∨ 2 ≤ ch by omega) with rfl | rfl | hc2
      · obtain rfl : dm = 0 := hdim.out
        cases hs
        · obtain ⟨hV, hC2⟩ := hVa.out rfl
          replace hV := hide hV
          replace hC2 := hide hC2
          have hG2 := hide (hG.out.trans hE1.out.2)
          have hT2 := hide hE1.out.1
          clear hVa hVb hVc hE1 hE2 hdr hT hG
          go_wp2
          go_round
          case rel => exact ⟨j + 1, by omega, by go_num, by rw [hCE.out, hC2.out], by rw [hVE.out, hV.out]; exact hT2, hG2⟩
          case measure => simp [intOf]; omega
        by_cases hz : le - 1 ≤ 0
        · obtain ⟨hV, hC2⟩ := hVb.out rfl hz
          replace hV := hide hV
          replace hC2 := hide hC2
          have hG2 := hide (hG.out.trans hE2.out.2)
          clear hVa hVb hVc hE1 hT hG
          go_wp2_with fail
          refine hdr.out.mono ?_
          rintro e w5 ⟨rfl, hT5, hG5⟩
          replace hT5 := hide hT5
          have hG6 := hide (hG2.out.trans hG5)
          clear hdr hE2 hG2 hG5
          go_wp2
          go_round
          case rel => exact ⟨j + 1, by omega, by go_num, by rw [hCE.out, hC2.out], by rw [hVE.out, hV.out]; exact hT5, hG6⟩
          case measure => simp [intOf]; omega
        · obtain ⟨hV, hC2⟩ := hVc.out rfl hz
          replace hV := hide hV
          replace hC2 := hide hC2
          have hG2 := hide (hG.out.trans hE2.out.2)
          have hT2 := hide hE2.out.1
          clear hVa hVb hVc hE1 hE2 hdr hT hG
          go_wp2
          go_round
          case rel => exact ⟨j + 1, by omega, by go_num, by rw [hCE.out, hC2.out], by rw [hVE.out, hV.out]; exact hT2, hG2⟩
          case measure => simp [intOf]; omega
      · obtain rfl : dm = 0 := hdim.out
        cases hs
        · obtain ⟨hV, hC2⟩ := hVa.out rfl
          replace hV := hide hV
          replace hC2 := hide hC2
          have hG2 := hide (hG.out.trans hE1.out.2)
          have hT2 := hide hE1.out.1
          clear hVa hVb hVc hE1 hE2 hdr hT hG
          go_wp2
          go_round
          case rel => exact ⟨j + 1, by omega, by go_num, by rw [hCE.out, hC2.out], by rw [hVE.out, hV.out]; exact hT2, hG2⟩
          case measure => simp [intOf]; omega
        by_cases hz : le - 1 ≤ 0
        · obtain ⟨hV, hC2⟩ := hVb.out rfl hz
          replace hV := hide hV
          replace hC2 := hide hC2
          have hG2 := hide (hG.out.trans hE2.out.2)
          clear hVa hVb hVc hE1 hT hG
          go_wp2_with fail
          refine hdr.out.mono ?_
          rintro e w5 ⟨rfl, hT5, hG5⟩
          replace hT5 := hide hT5
          have hG6 := hide (hG2.out.trans hG5)
          clear hdr hE2 hG2 hG5
          go_wp2
          go_round
          case rel => exact ⟨j + 1, by omega, by go_num, by rw [hCE.out, hC2.out], by rw [hVE.out, hV.out]; exact hT5, hG6⟩
          case measure => simp [intOf]; omega
        · obtain ⟨hV, hC2⟩ := hVc.out rfl hz
          replace hV := hide hV
          replace hC2 := hide hC2
          have hG2 := hide (hG.out.trans hE2.out.2)
          have hT2 := hide hE2.out.1
          clear hVa hVb hVc hE1 hE2 hdr hT hG
          go_wp2
          go_round
          case rel => exact ⟨j + 1, by omega, by go_num, by rw [hCE.out, hC2.out], by rw [hVE.out, hV.out]; exact hT2, hG2⟩
          case measure => simp [intOf]; omega
      · obtain rfl : dm = ch - 1 := hdim.out.trans (if_neg (by omega))
        cases hs
        · obtain ⟨hV, hC2⟩ := hVa.out rfl
          replace hV := hide hV
          replace hC2 := hide hC2
          have hG2 := hide (hG.out.trans hE1.out.2)
          have hT2 := hide hE1.out.1
          clear hVa hVb hVc hE1 hE2 hdr hT hG
          go_wp2
          go_round
          case rel => exact ⟨j + 1, by omega, by go_num, by rw [hCE.out, hC2.out], by rw [hVE.out, hV.out]; exact hT2, hG2⟩
          case measure => simp [intOf]; omega
        by_cases hz : le - 1 ≤ 0
        · obtain ⟨hV, hC2⟩ := hVb.out rfl hz
          replace hV := hide hV
          replace hC2 := hide hC2
          have hG2 := hide (hG.out.trans hE2.out.2)
          clear hVa hVb hVc hE1 hT hG
          go_wp2_with fail
          refine hdr.out.mono ?_
          rintro e w5 ⟨rfl, hT5, hG5⟩
          replace hT5 := hide hT5
          have hG6 := hide (hG2.out.trans hG5)
          clear hdr hE2 hG2 hG5
          go_wp2
          go_round
          case rel => exact ⟨j + 1, by omega, by go_num, by rw [hCE.out, hC2.out], by rw [hVE.out, hV.out]; exact hT5, hG6⟩
          case measure => simp [intOf]; omega
        · obtain ⟨hV, hC2⟩ := hVc.out rfl hz
          replace hV := hide hV
          replace hC2 := hide hC2
          have hG2 := hide (hG.out.trans hE2.out.2)
          have hT2 := hide hE2.out.1
          clear hVa hVb hVc hE1 hE2 hdr hT hG
          go_wp2
          go_round
          case rel => exact ⟨j + 1, by omega, by go_num, by rw [hCE.out, hC2.out], by rw [hVE.out, hV.out]; exact hT2, hG2⟩
          case measure => simp [intOf]; omega
    · obtain rfl : n = j := by omega
      go_wp2
      go_ret
      exact ⟨rfl, hT.out, hG.out⟩
end Go.Proofs.Ytaepjiakehkeoaa
