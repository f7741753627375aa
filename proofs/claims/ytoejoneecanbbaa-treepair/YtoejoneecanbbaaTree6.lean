
/-
  Contracts of tree's tellAll, selectRoles and renew. Conditions: those that each theorem names.
-/
import Derived.Test.YtoejoneecanbbaaTree5
namespace Go.Proofs.Ytoejoneecanbbaa
open Go.RowKit
set_option linter.unusedVariables false
set_option maxRecDepth 20000

@[reducible] def Tp.row (p : Tp) : Array Value := #[.int .i64 p.b.id, .int .u64 p.b.cost, .bool p.b.up, .bool p.b.has, .int .u64 p.b.told.root, .int .u64 p.b.told.cost, .int .u64 p.b.told.bridge, .int .i64 p.b.told.port, .bool p.edge, .int .i64 p.role, .int .i64 p.state, .int .i64 p.age, .int .i64 p.left, .int .i64 p.wait, .int .i64 p.change, .bool p.agreed]
theorem tpSize (p : Tp) : (Try.prog.info? 34).map (·.size) = some p.row.size := by kernel_rfl
theorem tpLen (p : Tp) : (Try.prog.info? 34).map (·.size) = some (fT p).length := by kernel_rfl
theorem Tp.row_all (p : Tp) : p.row.all (·.oneCell') = true := by simp [Value.oneCell']
/-- Numbers as they should be. -/
structure Tp.ok (p : Tp) : Prop where
  b : p.b.wf
  age : 0 ≤ p.age ∧ p.age ≤ 66000
  left : 0 ≤ p.left ∧ p.left ≤ 6
  wait : 0 ≤ p.wait ∧ p.wait ≤ 15
  change : 0 ≤ p.change ∧ p.change ≤ 4
  role : 0 ≤ p.role ∧ p.role ≤ 4
  state : 0 ≤ p.state ∧ p.state ≤ 2
structure Tt.ok (T : Tt) : Prop where
  id : U64 T.id
  port : ∀ i, i < T.ps.length → (T.at i).ok
  rp : -1 ≤ T.rp ∧ T.rp < T.ps.length
  tells : ∀ i, i < T.ps.length → (T.tells.getD i Vc.zero).wf
theorem ageT_ok {T : Tt} (h : T.ok) : 0 ≤ ageT T ∧ ageT T ≤ 66000 := by
  unfold ageT
  split
  · omega
  · have := h.rp
    exact (h.port T.rp.toNat (by omega)).age
theorem msgRole_ok (r : Int) : 0 ≤ msgRole r ∧ msgRole r ≤ 3 := by
  unfold msgRole
  repeat' split
  all_goals omega
theorem msgT_wf {T : Tt} (h : T.ok) (i : Nat) (hi : i < T.ps.length) (ag : Bool) : (msgT T i ag).wf := by
  have hv := h.tells i hi
  have ha := ageT_ok h
  have hr := msgRole_ok (T.at i).role
  unfold msgT msgP
  exact ⟨by simp [I64], hv.root, hv.cost, hv.bridge, hv.port, by unfold I64; dsimp only; omega, by unfold I64; dsimp only; omega, by simp [I64], by simp [I64], by simp [I64]⟩
theorem tellT_ps (T : Tt) (i : Nat) (ag : Bool) : (tellT T i ag).ps = T.ps ∧ (tellT T i ag).tells = T.tells ∧ (tellT T i ag).rp = T.rp ∧ (tellT T i ag).id = T.id ∧ (tellT T i ag).fg = T.fg ∧ (tellT T i ag).y = T.y ∧ (tellT T i ag).quiet = T.quiet ∧ (tellT T i ag).roles = T.roles := by
  unfold tellT
  split <;> exact ⟨rfl, rfl, rfl, rfl, rfl, rfl, rfl, rfl⟩
theorem tellT_ok {T : Tt} (h : T.ok) (i : Nat) (ag : Bool) : (tellT T i ag).ok := by
  obtain ⟨h1, h2, h3, h4, _⟩ := tellT_ps T i ag
  refine ⟨by rw [h4]; exact h.id, fun j hj => ?_, by rw [h3, h1]; exact h.rp, fun j hj => ?_⟩
  · unfold Tt.at
    rw [h1] at hj ⊢
    exact h.port j hj
  · rw [h2]
    rw [h1] at hj
    exact h.tells j hj
theorem tellT_outs (T : Tt) (i : Nat) (ag : Bool) : (tellT T i ag).outs.length ≤ T.outs.length + 1 := by
  unfold tellT
  split
  · simp
  · omega
def tellB (p : Tp) : Bool := decide (p.role = 2) || (decide (p.role = 1) && decide (0 < p.change))
def allTo (T : Tt) : Nat → Tt
  | 0 => T
  | k + 1 => if tellB (T.at k) = true then tellT (allTo T k) k false else allTo T k
def allT (T : Tt) : Tt := allTo T T.ps.length
theorem allTo_ps (T : Tt) : ∀ k, (allTo T k).ps = T.ps ∧ (allTo T k).outs.length ≤ T.outs.length + k
  | 0 => ⟨rfl, by simp [allTo]⟩
  | k + 1 => by
    obtain ⟨h1, h2⟩ := allTo_ps T k
    rw [allTo]
    split
    · exact ⟨(tellT_ps _ _ _).1.trans h1, by have := tellT_outs (allTo T k) k false; omega⟩
    · exact ⟨h1, by omega⟩
theorem allTo_ok {T : Tt} (h : T.ok) : ∀ k, (allTo T k).ok
  | 0 => h
  | k + 1 => by
    rw [allTo]
    split
    · exact tellT_ok (allTo_ok h k) _ _
    · exact allTo_ok h k
set_option maxHeartbeats 4000000 in
theorem tellAll_any {w : World} {m : Mt} {T : Tt} (h : Tr w m T) (hok : T.ok) (ho : T.outs.length ≤ 800000) :
    Calls Try.prog 42 #[.pointer (some ⟨m.tb, 0, none⟩)] w fun e w' => e = .returned (.tuple #[]) ∧ ∃ m', Tr w' m' (allT T) ∧ Goes m w m' w' := by
  obtain ⟨a, cap0, hv⟩ := h.ports.shape
  have c1 := h.cell 1
  simp only [treeRow, List.getElem?_cons_succ, List.getElem?_cons_zero] at c1
  rw [hv] at c1
  have hpa : Hid (m.pv = .slice a T.ps.length cap0) := hv
  clear hv
  have hF : Hid (allT T = allTo T T.ps.length) := rfl
  have hps : Hid (∀ k, (allTo T k).ps = T.ps ∧ (allTo T k).outs.length ≤ T.outs.length + k) := allTo_ps T
  have hoks : Hid (∀ k, (allTo T k).ok) := allTo_ok hok
  have hfew := h.few
  replace h := hide h
  generalize hn : T.ps.length = n at *
  replace hn := hide hn
  go_enter Try.func42, Try.ntmps42
  go_wp2_with fail
  clear c1
  go_loopw [9] (fun i wr => ∃ (j : Nat) (m' : Mt), j ≤ n ∧ i = .int .i64 j ∧ Hid (Tr wr m' (allTo T j)) ∧ Hid (Goes m w m' wr) ∧ Hid (m'.pv = m.pv)) (fun i _ => n - (intOf i).toNat)
  case atStart => exact ⟨0, m, Nat.zero_le _, rfl, h, hide (Goes.refl _ _), hide rfl⟩
  case round =>
    obtain ⟨j, m', hj, rfl, hT, hG, hpv⟩ := hrel
    clear h
    by_cases hlt : j < n
    · have hS : Hid (allTo T (j + 1) = if tellB (T.at j) = true then tellT (allTo T j) j false else allTo T j) := rfl
      obtain ⟨hl, hlo⟩ := hps.out j
      have hokj := hide (hoks.out j)
      generalize hVE : allTo T (j + 1) = V at *
      replace hVE := hide hVE
      generalize allTo T j = U at *
      have hUn : U.ps.length = n := by rw [hl]; exact hn.out
      obtain ⟨pb, cap, sp, hP, c1, hne, hlp⟩ := hT.out.at_i j (by omega)
      rw [hUn] at c1
      have haa : a = some ⟨pb, 0, none⟩ ∧ cap0 = cap := by
        have e := hP.pv
        rw [hpv.out, hpa.out] at e
        simp only [Value.slice.injEq] at e
        exact ⟨e.1, e.2.2⟩
      obtain ⟨rfl, rfl⟩ := haa
      have hc := hP.fl.tp j hP.hi
      have hUat : Hid (U.ps.getD j Tp.zero = T.at j) := by show _ = _; unfold Tt.at; rw [hl]
      rw [hUat.out] at hc
      have hrg0 : Hid (wr.rangeAt pb (j * 16) (fT (T.at j))) := by
        have := hP.fl.range wide_T Tp.zero j hP.hi
        rw [hUat.out] at this
        exact this
      have hTe := hide (fun (W : World) (hW : Below wr.heap.size wr W) => tell_any (hT.out.below hW) j (by omega) false (by have := hokj.out.rp; omega) (msgT_wf hokj.out j (by omega) false) (by omega))
      rw [hG.out.tb] at hTe
      have htB : Hid (tellB (T.at j) = (decide ((T.at j).role = 2) || (decide ((T.at j).role = 1) && decide (0 < (T.at j).change)))) := rfl
      generalize tellB (T.at j) = tb at *
      generalize T.at j = p at *
      obtain ⟨⟨id, cost, up, has, ⟨a0, a1, a2, a3⟩⟩, ed, ro, st, age, left, wait, ch, agr⟩ := p
      clear hP hc
      dsimp only at *
      have hrg : wr.rangeAt pb (j * 16) (fT ⟨⟨id, cost, up, has, ⟨a0, a1, a2, a3⟩⟩, ed, ro, st, age, left, wait, ch, agr⟩) := hrg0.out
      go_wp2_with (first | ((with_reducible change wpList _ _ _ _ _ _); refine wpList_load_mid rfl 34 (.tmp 12) rfl pb (j * 16) rfl (fT ⟨⟨id, cost, up, has, ⟨a0, a1, a2, a3⟩⟩, ed, ro, st, age, left, wait, ch, agr⟩) _ hrg Try.underlying34 rfl (tpLen _) ?_) | ((with_reducible change wpList _ _ _ _ _ _); refine wpList_store_fresh rfl 34 (.tmp 3) (.tmp 13) rfl (Tp.row ⟨⟨id, cost, up, has, ⟨a0, a1, a2, a3⟩⟩, ed, ro, st, age, left, wait, ch, agr⟩) Tp.zero.row rfl rfl 34 (tpSize _) rfl (Tp.row_all _) ?_; intro w3 hH3 hb3; refine unhB ?_))
      have k9 : w3.cell? ⟨wr.heap.size, 9, none⟩ = some (.int .i64 ro) := (cell_of_row _ _ _ _ _ _ hH3).trans rfl
      have k14 : w3.cell? ⟨wr.heap.size, 14, none⟩ = some (.int .i64 ch) := (cell_of_row _ _ _ _ _ _ hH3).trans rfl
      have hA := hide hb3
      have hGA := hide (hG.out.trans (Goes.of_below hb3))
      have hTA := hide (hT.out.below hb3)
      have hTe3 := hide (hTe.out _ hb3)
      clear hH3 hb3 hTe hT hG hrg hrg0
      refine hide ?_
      by_cases h2 : ro = 2
      · subst h2
        have hV : Hid (V = tellT U j false) := hS.out.trans (if_pos (by rw [htB.out]; rfl))
        clear hS htB
        go_wp2_with fail
        refine hTe3.out.mono ?_
        rintro e w2 ⟨rfl, m2, hT2, hG2⟩
        replace hT2 := hide hT2
        have hG3 := hide (hGA.out.trans hG2)
        have hp3 := hide (hG2.pv.trans hpv.out)
        clear hTe3 hA hGA hG2 hTA
        go_wp2
        go_round
        case rel => exact ⟨j + 1, m2, by omega, by go_num, by rw [hVE.out, hV.out]; exact hT2, hG3, hp3⟩
        case measure => simp [intOf]; omega
      have h2q : (ro == 2) = false := by rw [beq_eq_false_iff_ne]; exact h2
      by_cases h1 : ro = 1
      · subst h1
        by_cases hc0 : 0 < ch
        · have hV : Hid (V = tellT U j false) := hS.out.trans (if_pos (by rw [htB.out]; simp [hc0]))
          clear hS htB
          go_wp2_with fail
          refine hTe3.out.mono ?_
          rintro e w2 ⟨rfl, m2, hT2, hG2⟩
          replace hT2 := hide hT2
          have hG3 := hide (hGA.out.trans hG2)
          have hp3 := hide (hG2.pv.trans hpv.out)
          clear hTe3 hA hGA hG2 hTA
          go_wp2
          go_round
          case rel => exact ⟨j + 1, m2, by omega, by go_num, by rw [hVE.out, hV.out]; exact hT2, hG3, hp3⟩
          case measure => simp [intOf]; omega
        · have hV : Hid (V = U) := hS.out.trans (if_neg (by rw [htB.out]; simp; omega))
          clear hS htB
          clear hTe3 hA
          go_wp2
          go_round
          case rel => exact ⟨j + 1, m', by omega, by go_num, by rw [hVE.out, hV.out]; exact hTA, hGA, hpv⟩
          case measure => simp [intOf]; omega
      · have h1q : (ro == 1) = false := by rw [beq_eq_false_iff_ne]; exact h1
        have hV : Hid (V = U) := hS.out.trans (if_neg (by rw [htB.out]; simp [h1, h2]))
        clear hS htB
        clear hTe3 hA
        go_wp2
        go_round
        case rel => exact ⟨j + 1, m', by omega, by go_num, by rw [hVE.out, hV.out]; exact hTA, hGA, hpv⟩
        case measure => simp [intOf]; omega
    · obtain rfl : j = n := by omega
      go_wp2
      exact v_end rfl rfl ⟨rfl, m', by rw [hF.out]; exact hT.out, hG.out⟩
end Go.Proofs.Ytoejoneecanbbaa
