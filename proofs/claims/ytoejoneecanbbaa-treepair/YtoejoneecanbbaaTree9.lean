
/-
  The contract of tree's renew: the walk. Conditions: those that the theorem names.
-/
import Derived.Test.YtoejoneecanbbaaTree8
namespace Go.Proofs.Ytoejoneecanbbaa
open Go.RowKit
set_option linter.unusedVariables false
set_option maxRecDepth 20000

theorem bne_no8 {a b : Int} (h : a = b) : (a != b) = false := by rw [bne, (beq_iff_eq (a := a)).2 h]; rfl
theorem bne_yes8 {a b : Int} (h : a ≠ b) : (a != b) = true := by rw [bne, (beq_eq_false_iff_ne (a := a)).2 h]; rfl
set_option maxHeartbeats 8000000 in
theorem renew_any {w : World} {m : Mt} {T : Tt} (h : Tr w m T) (hok : T.ok) (ho : T.outs.length ≤ 700000) (asked : Bool) :
    Calls Try.prog 39 #[.pointer (some ⟨m.tb, 0, none⟩), .bool asked] w fun e w' => e = .returned (.tuple #[]) ∧ ∃ m', Tr w' m' (renewT T asked) ∧ Goes m w m' w' := by
  have q2 := h.cell 2
  have q3 := h.cell 3
  have q4 := h.cell 4
  have q5 := h.cell 5
  simp only [treeRow, List.getElem?_cons_succ, List.getElem?_cons_zero] at q2 q3 q4 q5
  have hltb := h.ltb
  have hfew := h.few
  have hE : Hid (renewT T asked = if (chTo (if newsB T (selT T) = true then disT (selT T) else selT T) (selT T).roles (newsB T (selT T)) T.ps.length || asked) = true then allT (midT T) else midT T) := rfl
  have hM : Hid (midT T = rootT (takeTo (if newsB T (selT T) = true then disT (selT T) else selT T) (selT T).roles T.ps.length)) := rfl
  have hMok := hide (midT_ok hok)
  have hSok := hide (selT_ok hok)
  have hnB : Hid (newsB T (selT T) = (((selT T).y.root != T.y.root) || ((selT T).y.cost != T.y.cost))) := rfl
  have hSsame : Hid ((selT T).outs = T.outs ∧ (selT T).ps = T.ps) := ⟨rfl, rfl⟩
  have hrr := hide (selT_role T)
  replace h := hide h
  generalize renewT T asked = R at *
  generalize midT T = MM at *
  generalize newsB T (selT T) = nb at *
  have hA := below1 w (.cells (Vc.row T.y) 30)
  have hY0 := heap_alloc_new w (.cells (Vc.row T.y) 30)
  have hsel := hide (selectRoles_any (h.out.below hA) hok)
  have htell := hide (fun (W : World) (hW : Tr W m T) => hW)
  have hput := hide (fun (w1 : World) (hb : Below (w.alloc (.cells (Vc.row T.y) 30)).heap.size (w.alloc (.cells (Vc.row T.y) 30)) w1) (ib vb : Nat) => (h.out.below hA).sel hb ib vb)
  have hG0 : Hid (Goes m w m (w.alloc (.cells (Vc.row T.y) 30))) := Goes.of_below hA
  generalize hUE : selT T = U at *
  replace hUE := hide hUE
  generalize hTy : T.y = ty at *
  obtain ⟨y0, y1, y2, y3⟩ := ty
  replace hTy := hide hTy
  dsimp only at *
  go_enter Try.func39, Try.ntmps39
  go_wp2_with fail
  refine hsel.out.mono ?_
  rintro e w1 ⟨ib, vb, rfl, hb1, hle1, hle2, hne, hi1, hv1⟩
  obtain ⟨hT2, hG2⟩ := hput.out w1 hb1 ib vb hle1 hle2 hi1 hv1
  have hT1 := (h.out.below hA).below hb1
  have hth : w1.there m.tb 2 7 := fun j hj => ⟨by
    rw [hT1.cell]
    rcases (show j = 0 ∨ j = 1 ∨ j = 2 ∨ j = 3 ∨ j = 4 ∨ j = 5 ∨ j = 6 by omega) with rfl | rfl | rfl | rfl | rfl | rfl | rfl
    all_goals rfl, hT1.frozen _⟩
  have hY1 := heap_kept hb1 hY0
  have hwtb : w.heap.size ≠ m.tb := by omega
  have hY2 := (heap_setCells_other m.tb (rolesRow U.y U.rp (.slice (some ⟨ib, 0, none⟩) T.ps.length T.ps.length) (.slice (some ⟨vb, 0, none⟩) T.ps.length T.ps.length)).toList 2 w1 w.heap.size hwtb).trans hY1
  have hG2' := hide (hG0.out.trans hG2)
  replace hT2 := hide hT2
  replace hY2 := hide hY2
  replace hth := hide hth
  clear hi1 hv1 hb1 hT1 hY1 hY0 hA hsel hput hG0 hG2 q2 q3 q4 q5 htell h
  go_wp2_with ((with_reducible change wpList _ _ _ _ _ _); refine stop_store 64 (.tmp 19) (.tmp 17) rfl ?_)
  refine hide ?_
  have hth2 : w1.there m.tb 2 (rolesRow U.y U.rp (.slice (some ⟨ib, 0, none⟩) T.ps.length T.ps.length) (.slice (some ⟨vb, 0, none⟩) T.ps.length T.ps.length)).size := hth.out
  refine wpList_store_mid rfl 64 (.tmp 19) (.tmp 17) rfl m.tb 2 (rolesRow U.y U.rp (.slice (some ⟨ib, 0, none⟩) T.ps.length T.ps.length) (.slice (some ⟨vb, 0, none⟩) T.ps.length T.ps.length)) rfl rfl hth2 (rolesSize Vc.zero 0 (.bool true) (.bool true)) (by simp [Value.oneCell']) ?_
  clear hth2 hth
  generalize w1.setCells m.tb 2 (rolesRow U.y U.rp (.slice (some ⟨ib, 0, none⟩) T.ps.length T.ps.length) (.slice (some ⟨vb, 0, none⟩) T.ps.length T.ps.length)).toList = w2 at *
  have c2 := hT2.out.cell 2
  have c3 := hT2.out.cell 3
  have c4 := hT2.out.cell 4
  have c5 := hT2.out.cell 5
  simp only [treeRow, List.getElem?_cons_succ, List.getElem?_cons_zero] at c2 c3 c4 c5
  have d0 : w2.cell? ⟨w.heap.size, 0, none⟩ = some (.int .u64 y0) := (cell_of_row _ _ _ _ _ _ hY2.out).trans rfl
  have d1 : w2.cell? ⟨w.heap.size, 1, none⟩ = some (.int .u64 y1) := (cell_of_row _ _ _ _ _ _ hY2.out).trans rfl
  have hd0l := block_lt_of_cell d0
  have hA3 := below1 w2 (.cells (Vc.row U.y) 30)
  have hT3 := hide (hT2.out.below hA3)
  have hG3 := hide (hG2'.out.trans (Goes.of_below hA3))
  have hltb2 := hT2.out.ltb
  have hT3' := hT2
  clear hA3 hT2 hG2' hY2
  generalize hUy : U.y = uy at *
  obtain ⟨x0, x1, x2, x3⟩ := uy
  replace hUy := hide hUy
  dsimp only at *
  clear hle1 hle2
  generalize hTn : T.ps.length = n at *
  replace hTn := hide hTn
  have c7 := hT3'.out.cell 7
  simp only [treeRow, List.getElem?_cons_succ, List.getElem?_cons_zero] at c7
  have hUn : U.ps.length = n := by rw [hSsame.out.2]; exact hTn.out
  rw [hUn] at c7
  generalize hrsE : U.roles = rs at *
  replace hrsE := hide hrsE
  have hrsok : Hid (∀ i, 0 ≤ rs.getD i 0 ∧ rs.getD i 0 ≤ 4) := hrr
  by_cases hr0 : x0 = y0
  · have hb0 := bne_no8 hr0
    by_cases hr1 : x1 = y1
    · have hb1 := bne_no8 hr1
      have hnb : Hid (nb = false) := by rw [hnB.out, hb0, hb1]; exact rfl
      clear hr0 hr1
      have hU1E : Hid ((if nb = true then disT U else U) = U) := by rw [hnb.out]; exact rfl
      have hU1ok : Hid ((U).ok) := hSok
      have hU1s : Hid (Same U (U)) := Same.refl _
      have hU1n : Hid ((U).ps.length = n) := hUn
      have hU1r : Hid ((U).roles = rs) := hU1s.out.roles.trans hrsE.out
      have hU1o : Hid ((U).outs = T.outs) := hU1s.out.outs.trans hSsame.out.1
      go_wp2_with fail
      clear c2 c3 c4 c5 d0 d1 c7
      generalize w2.alloc (.cells (Vc.row ⟨x0, x1, x2, x3⟩) 30) = w3 at *
      generalize hU1g : U = U1 at *
      have hTL := hT3
      have hGL := hG3
      go_loopw [46, 6] (fun i nw wr => ∃ j : Nat, j ≤ n ∧ i = .int .i64 j ∧ nw = .bool (chTo U1 rs nb j) ∧ Hid (Tr wr ⟨m.tb, m.pv, m.ov, ib, vb⟩ (takeTo U1 rs j)) ∧ Hid (Goes m w ⟨m.tb, m.pv, m.ov, ib, vb⟩ wr)) (fun i _ _ => n - (intOf i).toNat)
      case atStart => exact ⟨0, Nat.zero_le _, rfl, by rw [hnb.out]; rfl, hTL, hGL⟩
      case round =>
        obtain ⟨j, hj, rfl, rfl, hTj, hGj⟩ := hrel
        clear hTL hGL
        by_cases hlt : j < n
        · have hS1 : Hid (takeTo U1 rs (j + 1) = if ((takeTo U1 rs j).at j).role ≠ rs.getD j 0 then takeT (takeTo U1 rs j) j (rs.getD j 0) else takeTo U1 rs j) := rfl
          have hS2 : Hid (chTo U1 rs nb (j + 1) = if ((takeTo U1 rs j).at j).role ≠ rs.getD j 0 then true else chTo U1 rs nb j) := rfl
          have hlj := (takeTo_len U1 rs j).trans hU1n.out
          have hrsj : Hid ((takeTo U1 rs j).roles = rs) := (same_takeTo U1 rs j).roles.trans hU1r.out
          generalize hVE : takeTo U1 rs (j + 1) = V at *
          generalize hCE : chTo U1 rs nb (j + 1) = C at *
          replace hVE := hide hVE
          replace hCE := hide hCE
          generalize takeTo U1 rs j = X at *
          generalize chTo U1 rs nb j = cb at *
          obtain ⟨pb, cap, sp, hP, c1, hne1, hlp⟩ := hTj.out.at_i j (by omega)
          rw [hlj] at c1
          have c9 := (hP.fl.tp j hP.hi).c9
          have hrc := hTj.out.roles.cell wide_I 0 j 0 (by rw [hTj.out.rl]; omega) (by omega)
          rw [hrsj.out] at hrc
          simp only [Nat.mul_one, Nat.add_zero, List.getElem?_cons_zero] at hrc
          have hTk := hide (takeRole_any hTj.out j (by omega) (rs.getD j 0))
          dsimp only at c1 hTk hrc
          have hS1' : Hid (V = if (X.ps.getD j Tp.zero).role ≠ rs.getD j 0 then takeT X j (rs.getD j 0) else X) := hS1.out
          have hS2' : Hid (C = if (X.ps.getD j Tp.zero).role ≠ rs.getD j 0 then true else cb) := hS2.out
          clear hP hS1 hS2
          generalize rs.getD j 0 = r at *
          generalize (X.ps.getD j Tp.zero).role = ro at *
          by_cases hro : ro = r
          · have hq := bne_no8 hro
            have hV : Hid (V = X) := hS1'.out.trans (if_neg (by simp [hro]))
            have hC : Hid (C = cb) := hS2'.out.trans (if_neg (by simp [hro]))
            clear hTk hS1' hS2' hro
            go_wp2
            go_round
            case rel => exact ⟨j + 1, by omega, by go_num, by rw [hCE.out, hC.out], by rw [hVE.out, hV.out]; exact hTj, hGj⟩
            case measure => simp [intOf]; omega
          · have hq := bne_yes8 hro
            have hV : Hid (V = takeT X j r) := hS1'.out.trans (if_pos hro)
            have hC : Hid (C = true) := hS2'.out.trans (if_pos hro)
            clear hS1' hS2'
            go_wp2_with fail
            refine hTk.out.mono ?_
            rintro e w7 ⟨rfl, hT7, hG7⟩
            replace hT7 := hide hT7
            have hG8 := hide (hGj.out.trans hG7)
            clear hTk hG7 hTj hGj c1 c9 hrc
            go_wp2
            go_round
            case rel => exact ⟨j + 1, by omega, by go_num, by rw [hCE.out, hC.out], by rw [hVE.out, hV.out]; exact hT7, hG8⟩
            case measure => simp [intOf]; omega
        · obtain rfl : n = j := by omega
          have hsm := hide (same_takeTo U1 rs n)
          have hokn := hide (takeTo_ok hU1ok.out rs hrsok.out n)
          have hXn := (takeTo_len U1 rs n).trans hU1n.out
          have hMX : Hid (MM = rootT (takeTo U1 rs n)) := by rw [hM.out, hU1E.out]; exact rfl
          have hRX : Hid (R = if (chTo U1 rs nb n || asked) = true then allT MM else MM) := by rw [hE.out, hU1E.out]; exact rfl
          have hXo : Hid ((takeTo U1 rs n).outs.length ≤ 700000) := by show _ ≤ _; rw [hsm.out.outs, hU1o.out]; exact ho
          generalize takeTo U1 rs n = X at *
          generalize chTo U1 rs nb n = cb at *
          have c6 := hTj.out.cell 6
          simp only [treeRow, List.getElem?_cons_succ, List.getElem?_cons_zero] at c6
          have hrt : Hid (rootT X = if 0 ≤ X.rp ∧ (X.at X.rp.toNat).state ≠ 2 then forwardT X X.rp.toNat else X) := rfl
          have hrpn := hokn.out.rp
          have hMo : Hid (MM.outs.length = X.outs.length) := by show _ = _; rw [hMX.out, (same_root X).outs]
          have hXol := hXo.out
          by_cases hrp0 : X.rp < 0
          · have hrX : rootT X = X := by rw [hrt.out, if_neg (by omega)]
            have hTz : Hid (Tr wr ⟨m.tb, m.pv, m.ov, ib, vb⟩ MM) := by rw [hMX.out, hrX]; exact hTj
            have hGz := hGj
            clear hrX hTj hGj hrt hMX hrpn hokn hsm hXn hXo
            generalize X.rp = xrp at *
            generalize X.outs.length = xol at *
            have hAll := hide (tellAll_any hTz.out hMok.out (by rw [hMo.out]; omega))
            dsimp only at hAll
            cases cb
            · cases asked
              · have hRt : Hid (R = MM) := hRX.out
                clear hAll
                go_wp2
                exact v_end rfl rfl ⟨rfl, ⟨m.tb, m.pv, m.ov, ib, vb⟩, by rw [hRt.out]; exact hTz.out, hGz.out⟩
              · have hRt : Hid (R = allT MM) := hRX.out
                go_wp2_with fail
                refine hAll.out.mono ?_
                rintro e w9 ⟨rfl, m9, hT9, hG9⟩
                replace hT9 := hide hT9
                have hG10 := hide (hGz.out.trans hG9)
                clear hAll hG9 hTz hGz
                go_wp2
                exact v_end rfl rfl ⟨rfl, m9, by rw [hRt.out]; exact hT9.out, hG10.out⟩
            · have hRt : Hid (R = allT MM) := hRX.out
              go_wp2_with fail
              refine hAll.out.mono ?_
              rintro e w9 ⟨rfl, m9, hT9, hG9⟩
              replace hT9 := hide hT9
              have hG10 := hide (hGz.out.trans hG9)
              clear hAll hG9 hTz hGz
              go_wp2
              exact v_end rfl rfl ⟨rfl, m9, by rw [hRt.out]; exact hT9.out, hG10.out⟩
          obtain ⟨r, hr⟩ := Int.eq_ofNat_of_zero_le (show 0 ≤ X.rp by omega)
          obtain ⟨pb, cap, sp, hP, c1, hne1, hlp⟩ := hTj.out.at_i r (by omega)
          rw [hXn] at c1
          have c10 := (hP.fl.tp r hP.hi).c10
          have hFw := hide (forward_any hTj.out r (by omega))
          dsimp only at c1 hFw
          have hrn : r < n := by omega
          have hrt2 : Hid (rootT X = if (X.ps.getD r Tp.zero).state ≠ 2 then forwardT X r else X) := by
            show _ = _
            rw [hrt.out, hr]
            simp [Tt.at]
          rw [hr] at c6
          clear hP hrt hr hrp0 hrpn
          generalize (X.ps.getD r Tp.zero).state = st at *
          have hr0 : ¬ ((r : Int) < 0) := by omega
          by_cases hst : st = 2
          · have hsq := bne_no8 hst
            have hrX : rootT X = X := by rw [hrt2.out, if_neg (by simp [hst])]
            have hTz : Hid (Tr wr ⟨m.tb, m.pv, m.ov, ib, vb⟩ MM) := by rw [hMX.out, hrX]; exact hTj
            have hGz := hGj
            clear hrX hTj hGj hMX hokn hsm hXn hXo hFw hrt2 hst
            generalize X.outs.length = xol at *
            have hAll := hide (tellAll_any hTz.out hMok.out (by rw [hMo.out]; omega))
            dsimp only at hAll
            cases cb
            · cases asked
              · have hRt : Hid (R = MM) := hRX.out
                clear hAll
                go_wp2
                exact v_end rfl rfl ⟨rfl, ⟨m.tb, m.pv, m.ov, ib, vb⟩, by rw [hRt.out]; exact hTz.out, hGz.out⟩
              · have hRt : Hid (R = allT MM) := hRX.out
                go_wp2_with fail
                refine hAll.out.mono ?_
                rintro e w9 ⟨rfl, m9, hT9, hG9⟩
                replace hT9 := hide hT9
                have hG10 := hide (hGz.out.trans hG9)
                clear hAll hG9 hTz hGz
                go_wp2
                exact v_end rfl rfl ⟨rfl, m9, by rw [hRt.out]; exact hT9.out, hG10.out⟩
            · have hRt : Hid (R = allT MM) := hRX.out
              go_wp2_with fail
              refine hAll.out.mono ?_
              rintro e w9 ⟨rfl, m9, hT9, hG9⟩
              replace hT9 := hide hT9
              have hG10 := hide (hGz.out.trans hG9)
              clear hAll hG9 hTz hGz
              go_wp2
              exact v_end rfl rfl ⟨rfl, m9, by rw [hRt.out]; exact hT9.out, hG10.out⟩
          · have hsq := bne_yes8 hst
            have hrX : rootT X = forwardT X r := by rw [hrt2.out, if_pos hst]
            go_wp2_with fail
            refine hFw.out.mono ?_
            rintro e w8 ⟨rfl, hT8, hG8⟩
            have hTz : Hid (Tr w8 ⟨m.tb, m.pv, m.ov, ib, vb⟩ MM) := by rw [hMX.out, hrX]; exact hT8
            have hGz := hide (hGj.out.trans hG8)
            clear hrX hTj hGj hMX hokn hsm hXn hXo hFw hrt2 hst hT8 hG8 c1 c10 c6
            generalize X.outs.length = xol at *
            have hAll := hide (tellAll_any hTz.out hMok.out (by rw [hMo.out]; omega))
            dsimp only at hAll
            cases cb
            · cases asked
              · have hRt : Hid (R = MM) := hRX.out
                clear hAll
                go_wp2
                exact v_end rfl rfl ⟨rfl, ⟨m.tb, m.pv, m.ov, ib, vb⟩, by rw [hRt.out]; exact hTz.out, hGz.out⟩
              · have hRt : Hid (R = allT MM) := hRX.out
                go_wp2_with fail
                refine hAll.out.mono ?_
                rintro e w9 ⟨rfl, m9, hT9, hG9⟩
                replace hT9 := hide hT9
                have hG10 := hide (hGz.out.trans hG9)
                clear hAll hG9 hTz hGz
                go_wp2
                exact v_end rfl rfl ⟨rfl, m9, by rw [hRt.out]; exact hT9.out, hG10.out⟩
            · have hRt : Hid (R = allT MM) := hRX.out
              go_wp2_with fail
              refine hAll.out.mono ?_
              rintro e w9 ⟨rfl, m9, hT9, hG9⟩
              replace hT9 := hide hT9
              have hG10 := hide (hGz.out.trans hG9)
              clear hAll hG9 hTz hGz
              go_wp2
              exact v_end rfl rfl ⟨rfl, m9, by rw [hRt.out]; exact hT9.out, hG10.out⟩
    · have hb1 := bne_yes8 hr1
      clear hr1
      have hnb : Hid (nb = true) := by rw [hnB.out, hb0, hb1]; exact rfl
      have hU1E : Hid ((if nb = true then disT U else U) = disT U) := by rw [hnb.out]; exact rfl
      have hU1ok : Hid ((disT U).ok) := disTo_ok hSok.out _
      have hU1s : Hid (Same U (disT U)) := same_disTo U _
      have hU1n : Hid ((disT U).ps.length = n) := (disT_len U).trans hUn
      have hU1r : Hid ((disT U).roles = rs) := hU1s.out.roles.trans hrsE.out
      have hU1o : Hid ((disT U).outs = T.outs) := hU1s.out.outs.trans hSsame.out.1
      have hdr := hide (dropAgreements_any hT3.out)
      dsimp only at hdr
      clear hr0
      go_wp2_with fail
      refine hdr.out.mono ?_
      rintro e w4 ⟨rfl, hT4, hG4⟩
      have hTL := hide hT4
      have hGL := hide (hG3.out.trans hG4)
      have e7 := hT4.cell 7
      simp only [treeRow, List.getElem?_cons_succ, List.getElem?_cons_zero] at e7
      rw [hU1n.out] at e7
      clear hdr hG4 hT4 hT3 hG3 c2 c3 c4 c5 d0 d1 c7 hT3'
      generalize hU1g : disT U = U1 at *
      replace hU1g := hide hU1g
      go_wp2_with fail
      clear e7
      go_loopw [46, 6] (fun i nw wr => ∃ j : Nat, j ≤ n ∧ i = .int .i64 j ∧ nw = .bool (chTo U1 rs nb j) ∧ Hid (Tr wr ⟨m.tb, m.pv, m.ov, ib, vb⟩ (takeTo U1 rs j)) ∧ Hid (Goes m w ⟨m.tb, m.pv, m.ov, ib, vb⟩ wr)) (fun i _ _ => n - (intOf i).toNat)
      case atStart => exact ⟨0, Nat.zero_le _, rfl, by rw [hnb.out]; rfl, hTL, hGL⟩
      case round =>
        obtain ⟨j, hj, rfl, rfl, hTj, hGj⟩ := hrel
        clear hTL hGL
        by_cases hlt : j < n
        · have hS1 : Hid (takeTo U1 rs (j + 1) = if ((takeTo U1 rs j).at j).role ≠ rs.getD j 0 then takeT (takeTo U1 rs j) j (rs.getD j 0) else takeTo U1 rs j) := rfl
          have hS2 : Hid (chTo U1 rs nb (j + 1) = if ((takeTo U1 rs j).at j).role ≠ rs.getD j 0 then true else chTo U1 rs nb j) := rfl
          have hlj := (takeTo_len U1 rs j).trans hU1n.out
          have hrsj : Hid ((takeTo U1 rs j).roles = rs) := (same_takeTo U1 rs j).roles.trans hU1r.out
          generalize hVE : takeTo U1 rs (j + 1) = V at *
          generalize hCE : chTo U1 rs nb (j + 1) = C at *
          replace hVE := hide hVE
          replace hCE := hide hCE
          generalize takeTo U1 rs j = X at *
          generalize chTo U1 rs nb j = cb at *
          obtain ⟨pb, cap, sp, hP, c1, hne1, hlp⟩ := hTj.out.at_i j (by omega)
          rw [hlj] at c1
          have c9 := (hP.fl.tp j hP.hi).c9
          have hrc := hTj.out.roles.cell wide_I 0 j 0 (by rw [hTj.out.rl]; omega) (by omega)
          rw [hrsj.out] at hrc
          simp only [Nat.mul_one, Nat.add_zero, List.getElem?_cons_zero] at hrc
          have hTk := hide (takeRole_any hTj.out j (by omega) (rs.getD j 0))
          dsimp only at c1 hTk hrc
          have hS1' : Hid (V = if (X.ps.getD j Tp.zero).role ≠ rs.getD j 0 then takeT X j (rs.getD j 0) else X) := hS1.out
          have hS2' : Hid (C = if (X.ps.getD j Tp.zero).role ≠ rs.getD j 0 then true else cb) := hS2.out
          clear hP hS1 hS2
          generalize rs.getD j 0 = r at *
          generalize (X.ps.getD j Tp.zero).role = ro at *
          by_cases hro : ro = r
          · have hq := bne_no8 hro
            have hV : Hid (V = X) := hS1'.out.trans (if_neg (by simp [hro]))
            have hC : Hid (C = cb) := hS2'.out.trans (if_neg (by simp [hro]))
            clear hTk hS1' hS2' hro
            go_wp2
            go_round
            case rel => exact ⟨j + 1, by omega, by go_num, by rw [hCE.out, hC.out], by rw [hVE.out, hV.out]; exact hTj, hGj⟩
            case measure => simp [intOf]; omega
          · have hq := bne_yes8 hro
            have hV : Hid (V = takeT X j r) := hS1'.out.trans (if_pos hro)
            have hC : Hid (C = true) := hS2'.out.trans (if_pos hro)
            clear hS1' hS2'
            go_wp2_with fail
            refine hTk.out.mono ?_
            rintro e w7 ⟨rfl, hT7, hG7⟩
            replace hT7 := hide hT7
            have hG8 := hide (hGj.out.trans hG7)
            clear hTk hG7 hTj hGj c1 c9 hrc
            go_wp2
            go_round
            case rel => exact ⟨j + 1, by omega, by go_num, by rw [hCE.out, hC.out], by rw [hVE.out, hV.out]; exact hT7, hG8⟩
            case measure => simp [intOf]; omega
        · obtain rfl : n = j := by omega
          have hsm := hide (same_takeTo U1 rs n)
          have hokn := hide (takeTo_ok hU1ok.out rs hrsok.out n)
          have hXn := (takeTo_len U1 rs n).trans hU1n.out
          have hMX : Hid (MM = rootT (takeTo U1 rs n)) := by rw [hM.out, hU1E.out]; exact rfl
          have hRX : Hid (R = if (chTo U1 rs nb n || asked) = true then allT MM else MM) := by rw [hE.out, hU1E.out]; exact rfl
          have hXo : Hid ((takeTo U1 rs n).outs.length ≤ 700000) := by show _ ≤ _; rw [hsm.out.outs, hU1o.out]; exact ho
          generalize takeTo U1 rs n = X at *
          generalize chTo U1 rs nb n = cb at *
          have c6 := hTj.out.cell 6
          simp only [treeRow, List.getElem?_cons_succ, List.getElem?_cons_zero] at c6
          have hrt : Hid (rootT X = if 0 ≤ X.rp ∧ (X.at X.rp.toNat).state ≠ 2 then forwardT X X.rp.toNat else X) := rfl
          have hrpn := hokn.out.rp
          have hMo : Hid (MM.outs.length = X.outs.length) := by show _ = _; rw [hMX.out, (same_root X).outs]
          have hXol := hXo.out
          by_cases hrp0 : X.rp < 0
          · have hrX : rootT X = X := by rw [hrt.out, if_neg (by omega)]
            have hTz : Hid (Tr wr ⟨m.tb, m.pv, m.ov, ib, vb⟩ MM) := by rw [hMX.out, hrX]; exact hTj
            have hGz := hGj
            clear hrX hTj hGj hrt hMX hrpn hokn hsm hXn hXo
            generalize X.rp = xrp at *
            generalize X.outs.length = xol at *
            have hAll := hide (tellAll_any hTz.out hMok.out (by rw [hMo.out]; omega))
            dsimp only at hAll
            cases cb
            · cases asked
              · have hRt : Hid (R = MM) := hRX.out
                clear hAll
                go_wp2
                exact v_end rfl rfl ⟨rfl, ⟨m.tb, m.pv, m.ov, ib, vb⟩, by rw [hRt.out]; exact hTz.out, hGz.out⟩
              · have hRt : Hid (R = allT MM) := hRX.out
                go_wp2_with fail
                refine hAll.out.mono ?_
                rintro e w9 ⟨rfl, m9, hT9, hG9⟩
                replace hT9 := hide hT9
                have hG10 := hide (hGz.out.trans hG9)
                clear hAll hG9 hTz hGz
                go_wp2
                exact v_end rfl rfl ⟨rfl, m9, by rw [hRt.out]; exact hT9.out, hG10.out⟩
            · have hRt : Hid (R = allT MM) := hRX.out
              go_wp2_with fail
              refine hAll.out.mono ?_
              rintro e w9 ⟨rfl, m9, hT9, hG9⟩
              replace hT9 := hide hT9
              have hG10 := hide (hGz.out.trans hG9)
              clear hAll hG9 hTz hGz
              go_wp2
              exact v_end rfl rfl ⟨rfl, m9, by rw [hRt.out]; exact hT9.out, hG10.out⟩
          obtain ⟨r, hr⟩ := Int.eq_ofNat_of_zero_le (show 0 ≤ X.rp by omega)
          obtain ⟨pb, cap, sp, hP, c1, hne1, hlp⟩ := hTj.out.at_i r (by omega)
          rw [hXn] at c1
          have c10 := (hP.fl.tp r hP.hi).c10
          have hFw := hide (forward_any hTj.out r (by omega))
          dsimp only at c1 hFw
          have hrn : r < n := by omega
          have hrt2 : Hid (rootT X = if (X.ps.getD r Tp.zero).state ≠ 2 then forwardT X r else X) := by
            show _ = _
            rw [hrt.out, hr]
            simp [Tt.at]
          rw [hr] at c6
          clear hP hrt hr hrp0 hrpn
          generalize (X.ps.getD r Tp.zero).state = st at *
          have hr0 : ¬ ((r : Int) < 0) := by omega
          by_cases hst : st = 2
          · have hsq := bne_no8 hst
            have hrX : rootT X = X := by rw [hrt2.out, if_neg (by simp [hst])]
            have hTz : Hid (Tr wr ⟨m.tb, m.pv, m.ov, ib, vb⟩ MM) := by rw [hMX.out, hrX]; exact hTj
            have hGz := hGj
            clear hrX hTj hGj hMX hokn hsm hXn hXo hFw hrt2 hst
            generalize X.outs.length = xol at *
            have hAll := hide (tellAll_any hTz.out hMok.out (by rw [hMo.out]; omega))
            dsimp only at hAll
            cases cb
            · cases asked
              · have hRt : Hid (R = MM) := hRX.out
                clear hAll
                go_wp2
                exact v_end rfl rfl ⟨rfl, ⟨m.tb, m.pv, m.ov, ib, vb⟩, by rw [hRt.out]; exact hTz.out, hGz.out⟩
              · have hRt : Hid (R = allT MM) := hRX.out
                go_wp2_with fail
                refine hAll.out.mono ?_
                rintro e w9 ⟨rfl, m9, hT9, hG9⟩
                replace hT9 := hide hT9
                have hG10 := hide (hGz.out.trans hG9)
                clear hAll hG9 hTz hGz
                go_wp2
                exact v_end rfl rfl ⟨rfl, m9, by rw [hRt.out]; exact hT9.out, hG10.out⟩
            · have hRt : Hid (R = allT MM) := hRX.out
              go_wp2_with fail
              refine hAll.out.mono ?_
              rintro e w9 ⟨rfl, m9, hT9, hG9⟩
              replace hT9 := hide hT9
              have hG10 := hide (hGz.out.trans hG9)
              clear hAll hG9 hTz hGz
              go_wp2
              exact v_end rfl rfl ⟨rfl, m9, by rw [hRt.out]; exact hT9.out, hG10.out⟩
          · have hsq := bne_yes8 hst
            have hrX : rootT X = forwardT X r := by rw [hrt2.out, if_pos hst]
            go_wp2_with fail
            refine hFw.out.mono ?_
            rintro e w8 ⟨rfl, hT8, hG8⟩
            have hTz : Hid (Tr w8 ⟨m.tb, m.pv, m.ov, ib, vb⟩ MM) := by rw [hMX.out, hrX]; exact hT8
            have hGz := hide (hGj.out.trans hG8)
            clear hrX hTj hGj hMX hokn hsm hXn hXo hFw hrt2 hst hT8 hG8 c1 c10 c6
            generalize X.outs.length = xol at *
            have hAll := hide (tellAll_any hTz.out hMok.out (by rw [hMo.out]; omega))
            dsimp only at hAll
            cases cb
            · cases asked
              · have hRt : Hid (R = MM) := hRX.out
                clear hAll
                go_wp2
                exact v_end rfl rfl ⟨rfl, ⟨m.tb, m.pv, m.ov, ib, vb⟩, by rw [hRt.out]; exact hTz.out, hGz.out⟩
              · have hRt : Hid (R = allT MM) := hRX.out
                go_wp2_with fail
                refine hAll.out.mono ?_
                rintro e w9 ⟨rfl, m9, hT9, hG9⟩
                replace hT9 := hide hT9
                have hG10 := hide (hGz.out.trans hG9)
                clear hAll hG9 hTz hGz
                go_wp2
                exact v_end rfl rfl ⟨rfl, m9, by rw [hRt.out]; exact hT9.out, hG10.out⟩
            · have hRt : Hid (R = allT MM) := hRX.out
              go_wp2_with fail
              refine hAll.out.mono ?_
              rintro e w9 ⟨rfl, m9, hT9, hG9⟩
              replace hT9 := hide hT9
              have hG10 := hide (hGz.out.trans hG9)
              clear hAll hG9 hTz hGz
              go_wp2
              exact v_end rfl rfl ⟨rfl, m9, by rw [hRt.out]; exact hT9.out, hG10.out⟩
  · have hb0 := bne_yes8 hr0
    have hnb : Hid (nb = true) := by rw [hnB.out, hb0]; exact rfl
    have hU1E : Hid ((if nb = true then disT U else U) = disT U) := by rw [hnb.out]; exact rfl
    have hU1ok : Hid ((disT U).ok) := disTo_ok hSok.out _
    have hU1s : Hid (Same U (disT U)) := same_disTo U _
    have hU1n : Hid ((disT U).ps.length = n) := (disT_len U).trans hUn
    have hU1r : Hid ((disT U).roles = rs) := hU1s.out.roles.trans hrsE.out
    have hU1o : Hid ((disT U).outs = T.outs) := hU1s.out.outs.trans hSsame.out.1
    have hdr := hide (dropAgreements_any hT3.out)
    dsimp only at hdr
    clear hr0
    go_wp2_with fail
    refine hdr.out.mono ?_
    rintro e w4 ⟨rfl, hT4, hG4⟩
    have hTL := hide hT4
    have hGL := hide (hG3.out.trans hG4)
    have e7 := hT4.cell 7
    simp only [treeRow, List.getElem?_cons_succ, List.getElem?_cons_zero] at e7
    rw [hU1n.out] at e7
    clear hdr hG4 hT4 hT3 hG3 c2 c3 c4 c5 d0 d1 c7 hT3'
    generalize hU1g : disT U = U1 at *
    replace hU1g := hide hU1g
    go_wp2_with fail
    clear e7
    go_loopw [46, 6] (fun i nw wr => ∃ j : Nat, j ≤ n ∧ i = .int .i64 j ∧ nw = .bool (chTo U1 rs nb j) ∧ Hid (Tr wr ⟨m.tb, m.pv, m.ov, ib, vb⟩ (takeTo U1 rs j)) ∧ Hid (Goes m w ⟨m.tb, m.pv, m.ov, ib, vb⟩ wr)) (fun i _ _ => n - (intOf i).toNat)
    case atStart => exact ⟨0, Nat.zero_le _, rfl, by rw [hnb.out]; rfl, hTL, hGL⟩
    case round =>
      obtain ⟨j, hj, rfl, rfl, hTj, hGj⟩ := hrel
      clear hTL hGL
      by_cases hlt : j < n
      · have hS1 : Hid (takeTo U1 rs (j + 1) = if ((takeTo U1 rs j).at j).role ≠ rs.getD j 0 then takeT (takeTo U1 rs j) j (rs.getD j 0) else takeTo U1 rs j) := rfl
        have hS2 : Hid (chTo U1 rs nb (j + 1) = if ((takeTo U1 rs j).at j).role ≠ rs.getD j 0 then true else chTo U1 rs nb j) := rfl
        have hlj := (takeTo_len U1 rs j).trans hU1n.out
        have hrsj : Hid ((takeTo U1 rs j).roles = rs) := (same_takeTo U1 rs j).roles.trans hU1r.out
        generalize hVE : takeTo U1 rs (j + 1) = V at *
        generalize hCE : chTo U1 rs nb (j + 1) = C at *
        replace hVE := hide hVE
        replace hCE := hide hCE
        generalize takeTo U1 rs j = X at *
        generalize chTo U1 rs nb j = cb at *
        obtain ⟨pb, cap, sp, hP, c1, hne1, hlp⟩ := hTj.out.at_i j (by omega)
        rw [hlj] at c1
        have c9 := (hP.fl.tp j hP.hi).c9
        have hrc := hTj.out.roles.cell wide_I 0 j 0 (by rw [hTj.out.rl]; omega) (by omega)
        rw [hrsj.out] at hrc
        simp only [Nat.mul_one, Nat.add_zero, List.getElem?_cons_zero] at hrc
        have hTk := hide (takeRole_any hTj.out j (by omega) (rs.getD j 0))
        dsimp only at c1 hTk hrc
        have hS1' : Hid (V = if (X.ps.getD j Tp.zero).role ≠ rs.getD j 0 then takeT X j (rs.getD j 0) else X) := hS1.out
        have hS2' : Hid (C = if (X.ps.getD j Tp.zero).role ≠ rs.getD j 0 then true else cb) := hS2.out
        clear hP hS1 hS2
        generalize rs.getD j 0 = r at *
        generalize (X.ps.getD j Tp.zero).role = ro at *
        by_cases hro : ro = r
        · have hq := bne_no8 hro
          have hV : Hid (V = X) := hS1'.out.trans (if_neg (by simp [hro]))
          have hC : Hid (C = cb) := hS2'.out.trans (if_neg (by simp [hro]))
          clear hTk hS1' hS2' hro
          go_wp2
          go_round
          case rel => exact ⟨j + 1, by omega, by go_num, by rw [hCE.out, hC.out], by rw [hVE.out, hV.out]; exact hTj, hGj⟩
          case measure => simp [intOf]; omega
        · have hq := bne_yes8 hro
          have hV : Hid (V = takeT X j r) := hS1'.out.trans (if_pos hro)
          have hC : Hid (C = true) := hS2'.out.trans (if_pos hro)
          clear hS1' hS2'
          go_wp2_with fail
          refine hTk.out.mono ?_
          rintro e w7 ⟨rfl, hT7, hG7⟩
          replace hT7 := hide hT7
          have hG8 := hide (hGj.out.trans hG7)
          clear hTk hG7 hTj hGj c1 c9 hrc
          go_wp2
          go_round
          case rel => exact ⟨j + 1, by omega, by go_num, by rw [hCE.out, hC.out], by rw [hVE.out, hV.out]; exact hT7, hG8⟩
          case measure => simp [intOf]; omega
      · obtain rfl : n = j := by omega
        have hsm := hide (same_takeTo U1 rs n)
        have hokn := hide (takeTo_ok hU1ok.out rs hrsok.out n)
        have hXn := (takeTo_len U1 rs n).trans hU1n.out
        have hMX : Hid (MM = rootT (takeTo U1 rs n)) := by rw [hM.out, hU1E.out]; exact rfl
        have hRX : Hid (R = if (chTo U1 rs nb n || asked) = true then allT MM else MM) := by rw [hE.out, hU1E.out]; exact rfl
        have hXo : Hid ((takeTo U1 rs n).outs.length ≤ 700000) := by show _ ≤ _; rw [hsm.out.outs, hU1o.out]; exact ho
        generalize takeTo U1 rs n = X at *
        generalize chTo U1 rs nb n = cb at *
        have c6 := hTj.out.cell 6
        simp only [treeRow, List.getElem?_cons_succ, List.getElem?_cons_zero] at c6
        have hrt : Hid (rootT X = if 0 ≤ X.rp ∧ (X.at X.rp.toNat).state ≠ 2 then forwardT X X.rp.toNat else X) := rfl
        have hrpn := hokn.out.rp
        have hMo : Hid (MM.outs.length = X.outs.length) := by show _ = _; rw [hMX.out, (same_root X).outs]
        have hXol := hXo.out
        by_cases hrp0 : X.rp < 0
        · have hrX : rootT X = X := by rw [hrt.out, if_neg (by omega)]
          have hTz : Hid (Tr wr ⟨m.tb, m.pv, m.ov, ib, vb⟩ MM) := by rw [hMX.out, hrX]; exact hTj
          have hGz := hGj
          clear hrX hTj hGj hrt hMX hrpn hokn hsm hXn hXo
          generalize X.rp = xrp at *
          generalize X.outs.length = xol at *
          have hAll := hide (tellAll_any hTz.out hMok.out (by rw [hMo.out]; omega))
          dsimp only at hAll
          cases cb
          · cases asked
            · have hRt : Hid (R = MM) := hRX.out
              clear hAll
              go_wp2
              exact v_end rfl rfl ⟨rfl, ⟨m.tb, m.pv, m.ov, ib, vb⟩, by rw [hRt.out]; exact hTz.out, hGz.out⟩
            · have hRt : Hid (R = allT MM) := hRX.out
              go_wp2_with fail
              refine hAll.out.mono ?_
              rintro e w9 ⟨rfl, m9, hT9, hG9⟩
              replace hT9 := hide hT9
              have hG10 := hide (hGz.out.trans hG9)
              clear hAll hG9 hTz hGz
              go_wp2
              exact v_end rfl rfl ⟨rfl, m9, by rw [hRt.out]; exact hT9.out, hG10.out⟩
          · have hRt : Hid (R = allT MM) := hRX.out
            go_wp2_with fail
            refine hAll.out.mono ?_
            rintro e w9 ⟨rfl, m9, hT9, hG9⟩
            replace hT9 := hide hT9
            have hG10 := hide (hGz.out.trans hG9)
            clear hAll hG9 hTz hGz
            go_wp2
            exact v_end rfl rfl ⟨rfl, m9, by rw [hRt.out]; exact hT9.out, hG10.out⟩
        obtain ⟨r, hr⟩ := Int.eq_ofNat_of_zero_le (show 0 ≤ X.rp by omega)
        obtain ⟨pb, cap, sp, hP, c1, hne1, hlp⟩ := hTj.out.at_i r (by omega)
        rw [hXn] at c1
        have c10 := (hP.fl.tp r hP.hi).c10
        have hFw := hide (forward_any hTj.out r (by omega))
        dsimp only at c1 hFw
        have hrn : r < n := by omega
        have hrt2 : Hid (rootT X = if (X.ps.getD r Tp.zero).state ≠ 2 then forwardT X r else X) := by
          show _ = _
          rw [hrt.out, hr]
          simp [Tt.at]
        rw [hr] at c6
        clear hP hrt hr hrp0 hrpn
        generalize (X.ps.getD r Tp.zero).state = st at *
        have hr0 : ¬ ((r : Int) < 0) := by omega
        by_cases hst : st = 2
        · have hsq := bne_no8 hst
          have hrX : rootT X = X := by rw [hrt2.out, if_neg (by simp [hst])]
          have hTz : Hid (Tr wr ⟨m.tb, m.pv, m.ov, ib, vb⟩ MM) := by rw [hMX.out, hrX]; exact hTj
          have hGz := hGj
          clear hrX hTj hGj hMX hokn hsm hXn hXo hFw hrt2 hst
          generalize X.outs.length = xol at *
          have hAll := hide (tellAll_any hTz.out hMok.out (by rw [hMo.out]; omega))
          dsimp only at hAll
          cases cb
          · cases asked
            · have hRt : Hid (R = MM) := hRX.out
              clear hAll
              go_wp2
              exact v_end rfl rfl ⟨rfl, ⟨m.tb, m.pv, m.ov, ib, vb⟩, by rw [hRt.out]; exact hTz.out, hGz.out⟩
            · have hRt : Hid (R = allT MM) := hRX.out
              go_wp2_with fail
              refine hAll.out.mono ?_
              rintro e w9 ⟨rfl, m9, hT9, hG9⟩
              replace hT9 := hide hT9
              have hG10 := hide (hGz.out.trans hG9)
              clear hAll hG9 hTz hGz
              go_wp2
              exact v_end rfl rfl ⟨rfl, m9, by rw [hRt.out]; exact hT9.out, hG10.out⟩
          · have hRt : Hid (R = allT MM) := hRX.out
            go_wp2_with fail
            refine hAll.out.mono ?_
            rintro e w9 ⟨rfl, m9, hT9, hG9⟩
            replace hT9 := hide hT9
            have hG10 := hide (hGz.out.trans hG9)
            clear hAll hG9 hTz hGz
            go_wp2
            exact v_end rfl rfl ⟨rfl, m9, by rw [hRt.out]; exact hT9.out, hG10.out⟩
        · have hsq := bne_yes8 hst
          have hrX : rootT X = forwardT X r := by rw [hrt2.out, if_pos hst]
          go_wp2_with fail
          refine hFw.out.mono ?_
          rintro e w8 ⟨rfl, hT8, hG8⟩
          have hTz : Hid (Tr w8 ⟨m.tb, m.pv, m.ov, ib, vb⟩ MM) := by rw [hMX.out, hrX]; exact hT8
          have hGz := hide (hGj.out.trans hG8)
          clear hrX hTj hGj hMX hokn hsm hXn hXo hFw hrt2 hst hT8 hG8 c1 c10 c6
          generalize X.outs.length = xol at *
          have hAll := hide (tellAll_any hTz.out hMok.out (by rw [hMo.out]; omega))
          dsimp only at hAll
          cases cb
          · cases asked
            · have hRt : Hid (R = MM) := hRX.out
              clear hAll
              go_wp2
              exact v_end rfl rfl ⟨rfl, ⟨m.tb, m.pv, m.ov, ib, vb⟩, by rw [hRt.out]; exact hTz.out, hGz.out⟩
            · have hRt : Hid (R = allT MM) := hRX.out
              go_wp2_with fail
              refine hAll.out.mono ?_
              rintro e w9 ⟨rfl, m9, hT9, hG9⟩
              replace hT9 := hide hT9
              have hG10 := hide (hGz.out.trans hG9)
              clear hAll hG9 hTz hGz
              go_wp2
              exact v_end rfl rfl ⟨rfl, m9, by rw [hRt.out]; exact hT9.out, hG10.out⟩
          · have hRt : Hid (R = allT MM) := hRX.out
            go_wp2_with fail
            refine hAll.out.mono ?_
            rintro e w9 ⟨rfl, m9, hT9, hG9⟩
            replace hT9 := hide hT9
            have hG10 := hide (hGz.out.trans hG9)
            clear hAll hG9 hTz hGz
            go_wp2
            exact v_end rfl rfl ⟨rfl, m9, by rw [hRt.out]; exact hT9.out, hG10.out⟩
end Go.Proofs.Ytoejoneecanbbaa
