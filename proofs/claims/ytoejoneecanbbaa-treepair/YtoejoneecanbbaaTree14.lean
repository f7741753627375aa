
/-
  The contract of tree's hearProposal. Conditions: those that each theorem names.
-/
import Derived.Test.YtoejoneecanbbaaTree13
namespace Go.Proofs.Ytoejoneecanbbaa
open Go.RowKit
set_option linter.unusedVariables false
set_option maxRecDepth 20000

def propT (T : Tt) (i : Nat) : Tt := if (T.at i).role = 3 ∨ (T.at i).role = 4 then tellT T i true else if (T.at i).role = 1 then allT (tellT (holdT T i) i true) else T
theorem holdT_len (T : Tt) (fr : Int) : (holdT T fr).ps.length = T.ps.length := holdTo_len T fr _
theorem propT_ok {T : Tt} (h : T.ok) (i : Nat) : (propT T i).ok := by
  unfold propT
  repeat' split
  · exact tellT_ok h _ _
  · exact allTo_ok (tellT_ok (holdTo_ok h _ _) _ _) _
  · exact h
theorem propT_len (T : Tt) (i : Nat) : (propT T i).ps.length = T.ps.length := by
  unfold propT
  repeat' split
  · rw [(tellT_ps T i true).1]
  · rw [allT_len, (tellT_ps (holdT T i) i true).1, holdT_len]
  · rfl
set_option maxHeartbeats 4000000 in
theorem hearProposal_any {w : World} {m : Mt} {T : Tt} (h : Tr w m T) (hok : T.ok) (ho : T.outs.length ≤ 700000) (i : Nat) (hi : i < T.ps.length) :
    Calls Try.prog 62 #[.pointer (some ⟨m.tb, 0, none⟩), .int .i64 i] w fun e w' => e = .returned (.tuple #[]) ∧ ∃ m', Tr w' m' (propT T i) ∧ Goes m w m' w' := by
  obtain ⟨pb, cap, sp, hP, c1, hne, hlp⟩ := h.at_i i hi
  have c9 := (hP.fl.tp i hi).c9
  have hS : Hid (propT T i = if (T.ps.getD i Tp.zero).role = 3 ∨ (T.ps.getD i Tp.zero).role = 4 then tellT T i true else if (T.ps.getD i Tp.zero).role = 1 then allT (tellT (holdT T i) i true) else T) := rfl
  have hte := hide (tell_any h i hi true (by have := hok.rp; omega) (msgT_wf hok i hi true) (by omega))
  have hho := hide (holdOthers_any h i)
  have hHok : Hid ((holdT T i).ok) := holdTo_ok hok _ _
  have hHl := hide (holdT_len T i)
  have hHo : Hid ((holdT T i).outs = T.outs) := (same_holdTo T i _).outs
  replace h := hide h
  generalize propT T i = V at *
  generalize hTT : tellT T i true = TT at *
  replace hTT := hide hTT
  generalize holdT T i = H at *
  generalize (T.ps.getD i Tp.zero).role = ro at *
  generalize hn : T.ps.length = n at *
  replace hn := hide hn
  clear hP
  go_enter Try.func62, Try.ntmps62
  by_cases h3 : ro = 3
  · have hV : Hid (V = TT) := hS.out.trans (if_pos (.inl h3))
    subst h3
    clear hS hho
    go_wp2_with fail
    refine hte.out.mono ?_
    rintro e w2 ⟨rfl, m2, hT2, hG2⟩
    replace hT2 := hide hT2
    replace hG2 := hide hG2
    clear hte
    go_wp2
    exact v_end rfl rfl ⟨rfl, m2, by rw [hV.out]; exact hT2.out, hG2.out⟩
  have h3q : (ro == 3) = false := by rw [beq_eq_false_iff_ne]; exact h3
  by_cases h4 : ro = 4
  · have hV : Hid (V = TT) := hS.out.trans (if_pos (.inr h4))
    subst h4
    clear hS hho h3
    go_wp2_with fail
    refine hte.out.mono ?_
    rintro e w2 ⟨rfl, m2, hT2, hG2⟩
    replace hT2 := hide hT2
    replace hG2 := hide hG2
    clear hte
    go_wp2
    exact v_end rfl rfl ⟨rfl, m2, by rw [hV.out]; exact hT2.out, hG2.out⟩
  have h4q : (ro == 4) = false := by rw [beq_eq_false_iff_ne]; exact h4
  by_cases h1 : ro = 1
  · have hV : Hid (V = allT (tellT H i true)) := hS.out.trans (by rw [if_neg (by simp [h3, h4]), if_pos h1])
    subst h1
    clear hS hte h3 h4
    go_wp2_with fail
    refine hho.out.mono ?_
    rintro e w2 ⟨rfl, hT2, hG2⟩
    have ht2 := hide (tell_any hT2 i (by rw [hHl.out]; exact hi) true (by have := hHok.out.rp; omega) (msgT_wf hHok.out i (by rw [hHl.out]; exact hi) true) (by rw [hHo.out]; omega))
    replace hG2 := hide hG2
    clear hho hT2
    go_wp2_with fail
    refine ht2.out.mono ?_
    rintro e w3 ⟨rfl, m3, hT3, hG3⟩
    have htb := hG3.tb
    have ha3 := hide (tellAll_any hT3 (tellT_ok hHok.out _ _) (by have := tellT_outs H i true; rw [hHo.out] at this; omega))
    rw [htb] at ha3
    have hG4 := hide (hG2.out.trans hG3)
    clear ht2 hT3 hG3 hG2 htb
    go_wp2_with fail
    refine ha3.out.mono ?_
    rintro e w5 ⟨rfl, m5, hT5, hG5⟩
    replace hT5 := hide hT5
    have hG6 := hide (hG4.out.trans hG5)
    clear ha3 hG4 hG5
    go_wp2
    exact v_end rfl rfl ⟨rfl, m5, by rw [hV.out]; exact hT5.out, hG6.out⟩
  · have h1q : (ro == 1) = false := by rw [beq_eq_false_iff_ne]; exact h1
    have hV : Hid (V = T) := hS.out.trans (by rw [if_neg (by simp [h3, h4]), if_neg h1])
    clear hS hte hho h1 h3 h4
    go_wp2
    exact v_end rfl rfl ⟨rfl, m, by rw [hV.out]; exact h.out, Goes.refl _ _⟩
end Go.Proofs.Ytoejoneecanbbaa
