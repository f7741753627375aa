/-
  Mathematics of the tree: what TreeEdge asks. No Go text. Conditions: those that each theorem names.
-/
import Derived.Test.YtaepjiakehkeoaaLTd
namespace Go.Proofs.Ytaepjiakehkeoaa
open Go.RowKit
set_option linter.unusedVariables false
set_option maxRecDepth 20000

/-- What was told at once. -/
theorem outs_allTo (U : Tt) : ∀ k, ∀ o ∈ (allTo U k).outs, o ∈ U.outs ∨ ∃ i, i < k ∧ tellB (U.at i) = true ∧ o = ⟨i, msgT U i false⟩
  | 0, o, ho => .inl ho
  | k + 1, o, ho => by
    have ih := outs_allTo U k
    have hkeep : ∀ o ∈ (allTo U k).outs, o ∈ U.outs ∨ ∃ i, i < k + 1 ∧ tellB (U.at i) = true ∧ o = ⟨i, msgT U i false⟩ := fun o ho => by
      rcases ih o ho with h | ⟨i, h1, h2⟩
      · exact .inl h
      · exact .inr ⟨i, by omega, h2⟩
    rw [allTo] at ho
    split at ho
    · rename_i ht
      unfold tellT at ho
      split at ho
      · have ho' : o ∈ (allTo U k).outs ++ [⟨k, msgT (allTo U k) k false⟩] := ho
        rcases List.mem_append.1 ho' with h | h
        · exact hkeep o h
        · obtain rfl := List.mem_singleton.1 h
          refine .inr ⟨k, by omega, ht, ?_⟩
          have hs := stp_allTo U k
          have hps := (allTo_ps U k).1
          have hat : ∀ i, (allTo U k).at i = U.at i := fun i => by unfold Tt.at; rw [hps]
          unfold msgT ageT
          rw [hs.rp, hs.tells, hat, hat]
      · exact hkeep o ho
    · exact hkeep o ho
/-- The edge, and that a port that leads to the root, or is designated, forwards. -/
structure EdF (T : Tt) (i : Nat) (ed : Bool) : Prop where
  edge : (T.at i).edge = ed
  fwd : (T.at i).role = 1 ∨ (T.at i).role = 2 → (T.at i).state = 2
theorem EdF.samec {T U : Tt} {i : Nat} {ed : Bool} (h : EdF T i ed) (s : SameC T U) : EdF U i ed := by
  have e := s.at' i
  have e1 : (U.at i).edge = (T.at i).edge := congrArg Cr.edge e
  have e2 : (U.at i).role = (T.at i).role := congrArg Cr.role e
  have e3 : (U.at i).state = (T.at i).state := congrArg Cr.state e
  exact ⟨e1.trans h.edge, by rw [e2, e3]; exact h.fwd⟩
theorem EdF.renew {T : Tt} {i : Nat} {ed : Bool} (h : EdF T i ed) (hi : i < T.ps.length) (h2 : (T.at i).role = 2) (a : Bool) : EdF (renewT T a) i ed := by
  have hc := renew_core T a i hi
  have hE : ∀ r, (newC (T.at i).core r).edge = (T.at i).edge := fun r => by unfold newC; split <;> rfl
  by_cases hr : (selT T).rp = i
  · rw [if_pos hr] at hc
    have e1 : ((renewT T a).at i).edge = _ := congrArg Cr.edge hc
    have e3 : ((renewT T a).at i).state = _ := congrArg Cr.state hc
    exact ⟨e1.trans ((hE _).trans h.edge), fun _ => e3⟩
  · rw [if_neg hr] at hc
    have e1 : ((renewT T a).at i).edge = _ := congrArg Cr.edge hc
    have e2 : ((renewT T a).at i).role = _ := congrArg Cr.role hc
    have e3 : ((renewT T a).at i).state = _ := congrArg Cr.state hc
    refine ⟨e1.trans ((hE _).trans h.edge), ?_⟩
    rw [e2, e3, newC_role]
    intro hro
    have hne1 : (selT T).roles.getD i 0 ≠ 1 := fun e => by
      rw [sel_role T i hi] at e
      unfold roleN at e
      split at e
      · omega
      · split at e
        · rename_i hd; simp only [decide_eq_true_eq] at hd; exact hr hd.symm
        · split at e
          · omega
          · split at e <;> omega
    rcases hro with e | e
    · exact absurd e hne1
    · rw [e]
      unfold newC
      rw [if_pos (show (T.at i).core.role = 2 from h2)]
      exact h.fwd (.inr h2)
theorem hold_self (T : Tt) (i : Nat) : ∀ k, (holdTo T i k).at i = T.at i
  | 0 => rfl
  | k + 1 => by
    rw [holdTo]
    unfold stepH
    split
    · rename_i h
      have hne : i ≠ k := fun e => h.1 (by rw [e])
      show (setP (holdTo T i k) k (waitP ((holdTo T i k).at k))).at i = _
      by_cases hk : k < (holdTo T i k).ps.length
      · rw [setP_at _ k i _ hk, if_neg hne]; exact hold_self T i k
      · have : setP (holdTo T i k) k (waitP ((holdTo T i k).at k)) = holdTo T i k := by unfold setP; rw [List.set_eq_of_length_le (by omega)]
        rw [this]; exact hold_self T i k
    · exact hold_self T i k
theorem EdF.prop {T : Tt} {i : Nat} {ed : Bool} (h : EdF T i ed) : EdF (propT T i) i ed := by
  unfold propT
  repeat' split
  · exact h.samec (samec_tell _ _ _)
  · have h1 : EdF (holdT T i) i ed := by
      have e : (holdT T i).at i = T.at i := hold_self T i _
      exact ⟨by rw [e]; exact h.edge, by rw [e]; exact h.fwd⟩
    exact (h1.samec (samec_tell _ _ _)).samec (samec_all _)
  · exact h
theorem EdF.recv {T : Tt} {i : Nat} (h : EdF T i true) (hi : i < T.ps.length) (hup : (T.at i).b.up = true) (h2 : (T.at i).role = 2) (b : Bp) : EdF (recvT T i b) i (!decide (bcheckE b = 0)) := by
  unfold recvT
  by_cases hc : bcheckE b = 0
  · rw [if_pos ⟨by omega, by omega, by rw [show (i : Int).toNat = i by omega]; exact hup, hc⟩, show (i : Int).toNat = i by omega, decide_eq_true hc]
    have hat : (setP T i (plainP (T.at i))).at i = plainP (T.at i) := (setP_at T i i _ hi).trans (if_pos rfl)
    have hl : i < (setP T i (plainP (T.at i))).ps.length := by rw [setP_len]; exact hi
    have h0 : EdF (setP T i (plainP (T.at i))) i false := ⟨by rw [hat]; rfl, by rw [hat]; exact h.fwd⟩
    have hr : ((setP T i (plainP (T.at i))).at i).role = 2 := by rw [hat]; exact h2
    have hs : ((setP T i (plainP (T.at i))).at i).state = 2 := h0.fwd (.inr hr)
    unfold heardT
    generalize setP T i (plainP (T.at i)) = U at *
    have hm : EdF (midR U i b) i false := by
      unfold midR
      repeat' split
      · exact h0.samec (samec_hear _ _)
      · unfold ansT
        rw [if_neg (by unfold ansB; rw [hs]; simp)]
        exact h0
      · have ht : EdF (toldT U i b) i false := by
          have hself : (setP U i (tookP (U.at i) b)).at i = tookP (U.at i) b := (setP_at U i i _ hl).trans (if_pos rfl)
          have hte : (tookP (U.at i) b).edge = (U.at i).edge := by unfold tookP; split <;> rfl
          have hto := took_facts (U.at i) b
          have h3 : EdF (setP U i (tookP (U.at i) b)) i false := ⟨by rw [hself, hte]; exact h0.edge, by rw [hself, hto.1, hto.2.1]; exact h0.fwd⟩
          have h4 := h3.renew (by rw [setP_len]; exact hl) (by rw [hself, hto.1]; exact hr) false
          unfold toldT gotT
          repeat' split
          · exact h4.prop
          · exact h4
          · exact h0
        unfold rootHT
        split
        · exact ht.samec (samec_tell _ _ _)
        · exact ht
    split
    · exact hm.samec (samec_hear _ _)
    · exact hm
  · rw [if_neg (fun e => hc e.2.2.2), decide_eq_false hc]
    exact h
/-- A port with nothing but stations whose link came up. -/
def E0 (id : Int) : Tt := linkT (newT id [⟨⟨1, 10, false, false, Vc.zero⟩, true, 0, 0, 0, 0, 0, 0, false⟩, portP 2]) 0 true
theorem E0_port (id : Int) : (E0 id).ps.length = 2 ∧ ((E0 id).at 0).b.up = true ∧ ((E0 id).at 0).edge = true ∧ ((E0 id).at 0).role = 2 ∧ ((E0 id).at 0).state = 2 ∧ ((E0 id).at 1).role = 0 := by
  have hI := inv_new id [⟨⟨1, 10, false, false, Vc.zero⟩, true, 0, 0, 0, 0, 0, 0, false⟩, portP 2]
  have hl0 := newT_len id [⟨⟨1, 10, false, false, Vc.zero⟩, true, 0, 0, 0, 0, 0, 0, false⟩, portP 2]
  have hlu := link_up hI 0 (by rw [hl0]; decide) rfl
  have hIl := inv_link hI 0 true
  have hlen : (E0 id).ps.length = 2 := by unfold E0 linkT; split <;> simp only [renewT_len, forgetT_len, setP_len, newT_len] <;> rfl
  have hb1 : ((E0 id).at 1).b.up = false := by
    unfold E0 linkT
    split
    · rw [renew_b]; rfl
    · rfl
  have he : ((E0 id).at 0).edge = true := by
    unfold E0 linkT
    split
    · rename_i hc
      generalize hU : forgetT (setP (newT id [⟨⟨1, 10, false, false, Vc.zero⟩, true, 0, 0, 0, 0, 0, 0, false⟩, portP 2]) (0 : Int).toNat (dropP (setUp ((newT id [⟨⟨1, 10, false, false, Vc.zero⟩, true, 0, 0, 0, 0, 0, 0, false⟩, portP 2]).at (0 : Int).toNat) true))) (0 : Int).toNat = U at *
      have hUl : 0 < U.ps.length := by rw [← hU, forgetT_len, setP_len, newT_len]; decide
      have hUe : (U.at 0).edge = true := by rw [← hU]; rfl
      have hcc := renew_core U true 0 hUl
      have hE : ∀ r, (newC (U.at 0).core r).edge = (U.at 0).edge := fun r => by unfold newC; split <;> rfl
      split at hcc
      · have e1 : ((renewT U true).at 0).edge = _ := congrArg Cr.edge hcc
        exact e1.trans ((hE _).trans hUe)
      · have e1 : ((renewT U true).at 0).edge = _ := congrArg Cr.edge hcc
        exact e1.trans ((hE _).trans hUe)
    · rfl
  refine ⟨hlen, hlu.1, he, hlu.2.2.2.1, ?_, ?_⟩
  · have := hlu.2.2.2.2
    have he' : ((linkT (newT id [⟨⟨1, 10, false, false, Vc.zero⟩, true, 0, 0, 0, 0, 0, 0, false⟩, portP 2]) ((0 : Nat) : Int) true).at 0).edge = true := he
    rw [he', if_pos rfl] at this
    exact this
  · have hr := hIl.role 1 (by show 1 < (E0 id).ps.length; rw [hlen]; omega)
    have : ((E0 id).at 1).role = _ := hr
    rw [this]
    exact down_role _ 1 (by show 1 < (E0 id).ps.length; rw [hlen]; omega) hb1
theorem E0_outs (id : Int) : ∀ o ∈ (E0 id).outs, o.m.proposal = false ∧ o.m.forwarding = true := by
  obtain ⟨hl, hu, he, hr, hs, h1⟩ := E0_port id
  intro o ho
  have hcc : 0 ≤ (0 : Int) ∧ (0 : Int) < (newT id [⟨⟨1, 10, false, false, Vc.zero⟩, true, 0, 0, 0, 0, 0, 0, false⟩, portP 2]).ps.length ∧ ((newT id [⟨⟨1, 10, false, false, Vc.zero⟩, true, 0, 0, 0, 0, 0, 0, false⟩, portP 2]).at (0 : Int).toNat).b.up ≠ true := ⟨by omega, by rw [newT_len]; decide, by intro e; cases e⟩
  have hE : E0 id = renewT (forgetT (setP (newT id [⟨⟨1, 10, false, false, Vc.zero⟩, true, 0, 0, 0, 0, 0, 0, false⟩, portP 2]) (0 : Int).toNat (dropP (setUp ((newT id [⟨⟨1, 10, false, false, Vc.zero⟩, true, 0, 0, 0, 0, 0, 0, false⟩, portP 2]).at (0 : Int).toNat) true))) (0 : Int).toNat) true := by unfold E0 linkT; rw [if_pos hcc]
  have hUo : (forgetT (setP (newT id [⟨⟨1, 10, false, false, Vc.zero⟩, true, 0, 0, 0, 0, 0, 0, false⟩, portP 2]) (0 : Int).toNat (dropP (setUp ((newT id [⟨⟨1, 10, false, false, Vc.zero⟩, true, 0, 0, 0, 0, 0, 0, false⟩, portP 2]).at (0 : Int).toNat) true))) (0 : Int).toNat).outs = [] := rfl
  generalize forgetT (setP (newT id [⟨⟨1, 10, false, false, Vc.zero⟩, true, 0, 0, 0, 0, 0, 0, false⟩, portP 2]) (0 : Int).toNat (dropP (setUp ((newT id [⟨⟨1, 10, false, false, Vc.zero⟩, true, 0, 0, 0, 0, 0, 0, false⟩, portP 2]).at (0 : Int).toNat) true))) (0 : Int).toNat = U at *
  have hR : renewT U true = allT (midT U) := by unfold renewT; rw [if_pos (by simp)]
  rw [hE, hR] at ho hl hu he hr hs h1
  have hps : (allT (midT U)).ps = (midT U).ps := (allTo_ps (midT U) _).1
  have hat : ∀ i, (allT (midT U)).at i = (midT U).at i := fun i => by unfold Tt.at; rw [hps]
  rw [hat] at hu he hr hs h1
  have hml : (midT U).ps.length = 2 := by rw [← hps]; exact hl
  rcases outs_allTo (midT U) _ o ho with h | ⟨i, hi, hb, rfl⟩
  · rw [(midT_outs U).1, hUo] at h; simp at h
  · rw [hml] at hi
    rcases (show i = 0 ∨ i = 1 by omega) with rfl | rfl
    · unfold msgT msgP
      simp [he, hr, hs]
    · unfold tellB at hb
      rw [h1] at hb
      simp at hb
end Go.Proofs.Ytaepjiakehkeoaa
