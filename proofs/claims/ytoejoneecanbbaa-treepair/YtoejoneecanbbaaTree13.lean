
/-
  The contract of tree's Tick. Conditions: those that each theorem names.
-/
import Derived.Test.YtoejoneecanbbaaTree10
namespace Go.Proofs.Ytoejoneecanbbaa
open Go.RowKit
set_option linter.unusedVariables false
set_option maxRecDepth 20000

def cntTo (T : Tt) : Nat → Tt
  | 0 => T
  | k + 1 => countT (cntTo T k) k
theorem cntTo_len (T : Tt) : ∀ k, (cntTo T k).ps.length = T.ps.length
  | 0 => rfl
  | k + 1 => by rw [cntTo, countT_len, cntTo_len T k]
theorem cntTo_ok {T : Tt} (h : T.ok) : ∀ k, k ≤ T.ps.length → (cntTo T k).ok
  | 0, _ => h
  | k + 1, hk => countT_ok (cntTo_ok h k (by omega)) k (by rw [cntTo_len]; omega)
theorem same_cntTo (T : Tt) : ∀ k, Same T (cntTo T k)
  | 0 => Same.refl _
  | k + 1 => (same_cntTo T k).trans (same_count _ _)
def setQ (T : Tt) (n : Int) : Tt := { T with quiet := n }
theorem treeRow_quiet (m : Mt) (T : Tt) (v : Int) (hf : T.fg.length = 16) : (treeRow m T).set 26 (.int .i64 v) = treeRow m (setQ T v) := by
  simp only [treeRow, setQ, List.set_cons_succ]
  rw [List.set_append_right _ _ (by simp [hf])]
  simp [hf]
theorem treeRow_at26 (m : Mt) (T : Tt) (hf : T.fg.length = 16) : (treeRow m T)[26]? = some (.int .i64 T.quiet) := by
  simp only [treeRow, List.getElem?_cons_succ]
  rw [List.getElem?_append_right (by simp [hf])]
  simp [hf]
theorem setQ_ok {T : Tt} (h : T.ok) (v : Int) : (setQ T v).ok := ⟨h.id, h.port, h.rp, h.tells⟩
def seenT (T : Tt) : Tt := if lostTo T T.ps.length = true then renewT (oldTo T T.ps.length) false else oldTo T T.ps.length
def goneT (T : Tt) : Tt := cntTo (seenT T) T.ps.length
def tickT (T : Tt) : Tt := if (goneT T).quiet = 0 then setQ (allT (goneT T)) 1 else setQ (goneT T) ((goneT T).quiet - 1)
theorem seenT_len (T : Tt) : (seenT T).ps.length = T.ps.length := by
  unfold seenT
  split
  · rw [renewT_len, oldTo_len]
  · exact oldTo_len T _
theorem seenT_ok {T : Tt} (h : T.ok) : (seenT T).ok := by
  unfold seenT
  split
  · exact renewT_ok (oldTo_ok h _) _
  · exact oldTo_ok h _
theorem seenT_outs (T : Tt) : (seenT T).outs.length ≤ T.outs.length + T.ps.length ∧ (seenT T).quiet = T.quiet := by
  unfold seenT
  split
  · have h1 := renewT_outs (oldTo T T.ps.length) false
    rw [oldTo_len, (same_oldTo T _).outs, (same_oldTo T _).quiet] at h1
    exact h1
  · rw [(same_oldTo T _).outs, (same_oldTo T _).quiet]
    exact ⟨by omega, rfl⟩
set_option maxHeartbeats 4000000 in
theorem Tick_any {w : World} {m : Mt} {T : Tt} (h : Tr w m T) (hok : T.ok) (ho : T.outs.length ≤ 600000) (hq : 0 ≤ T.quiet ∧ T.quiet ≤ 2) :
    Calls Try.prog 17 #[.pointer (some ⟨m.tb, 0, none⟩)] w fun e w' => e = .returned (.tuple #[]) ∧ ∃ m', Tr w' m' (tickT T) ∧ Goes m w m' w' := by
  have hfew := h.few
  have hgr := hide (growOld_any h hok)
  have hre := hide (fun (W : World) (hW : Tr W m (oldTo T T.ps.length)) => renew_any hW (oldTo_ok hok _) (by rw [(same_oldTo T _).outs]; omega) false)
  have hSe : Hid (seenT T = if lostTo T T.ps.length = true then renewT (oldTo T T.ps.length) false else oldTo T T.ps.length) := rfl
  have hGn : Hid (goneT T = cntTo (seenT T) T.ps.length) := rfl
  have hE : Hid (tickT T = if (goneT T).quiet = 0 then setQ (allT (goneT T)) 1 else setQ (goneT T) ((goneT T).quiet - 1)) := rfl
  have hSl := hide (seenT_len T)
  have hSok := hide (seenT_ok hok)
  have hSo := hide (seenT_outs T)
  clear h
  generalize tickT T = R at *
  generalize goneT T = G at *
  generalize hSeE : seenT T = S at *
  replace hSeE := hide hSeE
  generalize renewT (oldTo T T.ps.length) false = T2 at *
  generalize oldTo T T.ps.length = T1 at *
  generalize lostTo T T.ps.length = lo at *
  generalize hn : T.ps.length = n at *
  replace hn := hide hn
  go_enter Try.func17, Try.ntmps17
  go_wp2_with fail
  refine hgr.out.mono ?_
  rintro e w1 ⟨rfl, hT1, hG1⟩
  have hr1 := hide (hre.out _ hT1)
  replace hT1 := hide hT1
  replace hG1 := hide hG1
  clear hgr hre
  cases lo
  · obtain rfl : S = T1 := hSe.out
    obtain ⟨m2, hm2⟩ : ∃ m2, m2 = m := ⟨_, rfl⟩
    have hT2 : Hid (Tr w1 m2 S) := by rw [hm2]; exact hT1
    have hG2 : Hid (Goes m w m2 w1) := by rw [hm2]; exact hG1
    clear hr1 hT1 hG1 hSe
    replace hm2 := hide hm2
    have htb := hG2.out.tb
    obtain ⟨a0, cap0, hv⟩ := hT2.out.ports.shape
    have c1 := hT2.out.cell 1
    simp only [treeRow, List.getElem?_cons_succ, List.getElem?_cons_zero] at c1
    rw [hv, hSl.out, htb] at c1
    clear hv
    go_wp2_with fail
    clear c1
    go_loopw [12] (fun i wr => ∃ j : Nat, j ≤ n ∧ i = .int .i64 j ∧ Hid (Tr wr m2 (cntTo S j)) ∧ Hid (Goes m w m2 wr)) (fun i _ => n - (intOf i).toNat)
    case atStart => exact ⟨0, Nat.zero_le _, rfl, hT2, hG2⟩
    case round =>
      obtain ⟨j, hj, rfl, hTj, hGj⟩ := hrel
      clear hT2 hG2
      by_cases hlt : j < n
      · have hS1 : Hid (cntTo S (j + 1) = countT (cntTo S j) j) := rfl
        have hlj := (cntTo_len S j).trans hSl.out
        have hcd := hide (countDown_any hTj.out (cntTo_ok hSok.out j (by rw [hSl.out]; omega)) j (by omega))
        rw [htb] at hcd
        rw [← hS1.out] at hcd
        generalize hVE : cntTo S (j + 1) = V at *
        replace hVE := hide hVE
        clear hS1 hTj
        go_wp2_with fail
        refine hcd.out.mono ?_
        rintro e w5 ⟨rfl, hT5, hG5⟩
        replace hT5 := hide hT5
        have hG6 := hide (hGj.out.trans hG5)
        clear hcd hG5 hGj
        go_wp2
        go_round
        case rel => exact ⟨j + 1, by omega, by go_num, by rw [hVE.out]; exact hT5, hG6⟩
        case measure => simp [intOf]; omega
      · obtain rfl : n = j := by omega
        have hGE : Hid (cntTo S n = G) := hGn.out.symm
        have hGok : Hid (G.ok) := by rw [← hGE.out]; exact cntTo_ok hSok.out n (by rw [hSl.out]; omega)
        have hGq : Hid (G.quiet = T.quiet) := by rw [← hGE.out]; exact (same_cntTo S n).quiet.trans hSo.out.2
        have hGo : Hid (G.outs.length ≤ 700000) := by
          show _ ≤ _
          rw [← hGE.out, (same_cntTo S n).outs]
          have := hSo.out.1
          omega
        rw [hGE.out] at hTj
        have hc26 := (hTj.out.cell 26).trans (treeRow_at26 m2 G hTj.out.fg)
        have hz26 := hTj.out.frozen 26
        rw [htb] at hc26 hz26
        obtain ⟨hq0, hq1⟩ := hq
        have hqg : 0 ≤ G.quiet ∧ G.quiet ≤ 2 := by rw [hGq.out]; exact ⟨hq0, hq1⟩
        by_cases hz : G.quiet = 0
        · have hR : Hid (R = setQ (allT G) 1) := hE.out.trans (if_pos hz)
          have hall := hide (tellAll_any hTj.out hGok.out (by have := hGo.out; omega))
          rw [htb] at hall
          rw [hz] at hc26
          clear hTj hE hz hqg hGq hq0 hq1
          go_wp2_with fail
          refine hall.out.mono ?_
          rintro e w6 ⟨rfl, m6, hT6, hG6⟩
          have htb6 : m6.tb = m.tb := hG6.tb.trans htb
          have k1 := hT6.own 26 (.int .i64 2) (treeRow_quiet m6 _ 2 hT6.fg) rfl rfl rfl rfl hT6.fg
          have k2 := k1.1.own 26 (.int .i64 1) (treeRow_quiet m6 _ 1 k1.1.fg) rfl rfl rfl rfl k1.1.fg
          have c26 := (hT6.cell 26).trans (treeRow_at26 m6 _ hT6.fg)
          have z26 := hT6.frozen 26
          rw [htb6] at k1 k2 c26 z26
          have hfin := hide k2.1
          have hgf := hide (((hGj.out.trans hG6).trans k1.2).trans k2.2)
          generalize (allT G).quiet = qq at *
          have hss : Hid (setQ (setQ (allT G) 2) 1 = setQ (allT G) 1) := rfl
          rw [hss.out] at hfin
          clear k1 k2 hall hG6 hT6 hGj hc26 hz26
          go_wp2
          exact v_end rfl rfl ⟨rfl, m6, by rw [hR.out]; exact hfin.out, hgf.out⟩
        · have hR : Hid (R = setQ G (G.quiet - 1)) := hE.out.trans (if_neg hz)
          have hzq : (G.quiet == 0) = false := by rw [beq_eq_false_iff_ne]; exact hz
          have k1 := hTj.out.own 26 (.int .i64 (G.quiet - 1)) (treeRow_quiet m2 _ _ hTj.out.fg) rfl rfl rfl rfl hTj.out.fg
          rw [htb] at k1
          have hfin := hide k1.1
          have hgf := hide (hGj.out.trans k1.2)
          obtain ⟨hg0, hg1⟩ := hqg
          clear k1 hTj hGj hE hz hGq hq0 hq1
          generalize hqE : G.quiet = qq at *
          replace hqE := hide hqE
          go_wp2
          exact v_end rfl rfl ⟨rfl, m2, by rw [hR.out]; exact hfin.out, hgf.out⟩
  · obtain rfl : S = T2 := hSe.out
    clear hT1 hSe
    go_wp2_with fail
    refine hr1.out.mono ?_
    rintro e w2 ⟨rfl, m2, hT2, hG2'⟩
    replace hT2 := hide hT2
    have hG2 := hide (hG1.out.trans hG2')
    clear hr1 hG1 hG2'
    have htb := hG2.out.tb
    obtain ⟨a0, cap0, hv⟩ := hT2.out.ports.shape
    have c1 := hT2.out.cell 1
    simp only [treeRow, List.getElem?_cons_succ, List.getElem?_cons_zero] at c1
    rw [hv, hSl.out, htb] at c1
    clear hv
    go_wp2_with fail
    clear c1
    go_loopw [12] (fun i wr => ∃ j : Nat, j ≤ n ∧ i = .int .i64 j ∧ Hid (Tr wr m2 (cntTo S j)) ∧ Hid (Goes m w m2 wr)) (fun i _ => n - (intOf i).toNat)
    case atStart => exact ⟨0, Nat.zero_le _, rfl, hT2, hG2⟩
    case round =>
      obtain ⟨j, hj, rfl, hTj, hGj⟩ := hrel
      clear hT2 hG2
      by_cases hlt : j < n
      · have hS1 : Hid (cntTo S (j + 1) = countT (cntTo S j) j) := rfl
        have hlj := (cntTo_len S j).trans hSl.out
        have hcd := hide (countDown_any hTj.out (cntTo_ok hSok.out j (by rw [hSl.out]; omega)) j (by omega))
        rw [htb] at hcd
        rw [← hS1.out] at hcd
        generalize hVE : cntTo S (j + 1) = V at *
        replace hVE := hide hVE
        clear hS1 hTj
        go_wp2_with fail
        refine hcd.out.mono ?_
        rintro e w5 ⟨rfl, hT5, hG5⟩
        replace hT5 := hide hT5
        have hG6 := hide (hGj.out.trans hG5)
        clear hcd hG5 hGj
        go_wp2
        go_round
        case rel => exact ⟨j + 1, by omega, by go_num, by rw [hVE.out]; exact hT5, hG6⟩
        case measure => simp [intOf]; omega
      · obtain rfl : n = j := by omega
        have hGE : Hid (cntTo S n = G) := hGn.out.symm
        have hGok : Hid (G.ok) := by rw [← hGE.out]; exact cntTo_ok hSok.out n (by rw [hSl.out]; omega)
        have hGq : Hid (G.quiet = T.quiet) := by rw [← hGE.out]; exact (same_cntTo S n).quiet.trans hSo.out.2
        have hGo : Hid (G.outs.length ≤ 700000) := by
          show _ ≤ _
          rw [← hGE.out, (same_cntTo S n).outs]
          have := hSo.out.1
          omega
        rw [hGE.out] at hTj
        have hc26 := (hTj.out.cell 26).trans (treeRow_at26 m2 G hTj.out.fg)
        have hz26 := hTj.out.frozen 26
        rw [htb] at hc26 hz26
        obtain ⟨hq0, hq1⟩ := hq
        have hqg : 0 ≤ G.quiet ∧ G.quiet ≤ 2 := by rw [hGq.out]; exact ⟨hq0, hq1⟩
        by_cases hz : G.quiet = 0
        · have hR : Hid (R = setQ (allT G) 1) := hE.out.trans (if_pos hz)
          have hall := hide (tellAll_any hTj.out hGok.out (by have := hGo.out; omega))
          rw [htb] at hall
          rw [hz] at hc26
          clear hTj hE hz hqg hGq hq0 hq1
          go_wp2_with fail
          refine hall.out.mono ?_
          rintro e w6 ⟨rfl, m6, hT6, hG6⟩
          have htb6 : m6.tb = m.tb := hG6.tb.trans htb
          have k1 := hT6.own 26 (.int .i64 2) (treeRow_quiet m6 _ 2 hT6.fg) rfl rfl rfl rfl hT6.fg
          have k2 := k1.1.own 26 (.int .i64 1) (treeRow_quiet m6 _ 1 k1.1.fg) rfl rfl rfl rfl k1.1.fg
          have c26 := (hT6.cell 26).trans (treeRow_at26 m6 _ hT6.fg)
          have z26 := hT6.frozen 26
          rw [htb6] at k1 k2 c26 z26
          have hfin := hide k2.1
          have hgf := hide (((hGj.out.trans hG6).trans k1.2).trans k2.2)
          generalize (allT G).quiet = qq at *
          have hss : Hid (setQ (setQ (allT G) 2) 1 = setQ (allT G) 1) := rfl
          rw [hss.out] at hfin
          clear k1 k2 hall hG6 hT6 hGj hc26 hz26
          go_wp2
          exact v_end rfl rfl ⟨rfl, m6, by rw [hR.out]; exact hfin.out, hgf.out⟩
        · have hR : Hid (R = setQ G (G.quiet - 1)) := hE.out.trans (if_neg hz)
          have hzq : (G.quiet == 0) = false := by rw [beq_eq_false_iff_ne]; exact hz
          have k1 := hTj.out.own 26 (.int .i64 (G.quiet - 1)) (treeRow_quiet m2 _ _ hTj.out.fg) rfl rfl rfl rfl hTj.out.fg
          rw [htb] at k1
          have hfin := hide k1.1
          have hgf := hide (hGj.out.trans k1.2)
          obtain ⟨hg0, hg1⟩ := hqg
          clear k1 hTj hGj hE hz hGq hq0 hq1
          generalize hqE : G.quiet = qq at *
          replace hqE := hide hqE
          go_wp2
          exact v_end rfl rfl ⟨rfl, m2, by rw [hR.out]; exact hfin.out, hgf.out⟩
end Go.Proofs.Ytoejoneecanbbaa
