/-
  Contracts of tree's countDown, Tick, Link, State. Conditions: those that each theorem names.
-/
import Derived.Test.YtaepjiakehkeoaaTree10
namespace Go.Proofs.Ytaepjiakehkeoaa
open Go.RowKit
set_option linter.unusedVariables false
set_option maxRecDepth 20000

def downW (p : Tp) : Tp := { p with wait := p.wait - 1 }
def learnP (p : Tp) : Tp := { p with state := 1, wait := 15 }
def countT (T : Tt) (i : Nat) : Tt := if (T.at i).role ≠ 2 ∨ (T.at i).state = 2 then T else if 0 < (T.at i).wait - 1 then setP T i (downW (T.at i)) else if (T.at i).state = 0 then setP T i (learnP (T.at i)) else forwardT (setP T i (downW (T.at i))) i
theorem countT_len (T : Tt) (i : Nat) : (countT T i).ps.length = T.ps.length := by
  unfold countT
  repeat' split
  · rfl
  · exact setP_len _ _ _
  · exact setP_len _ _ _
  · rw [forwardT_len, setP_len]
theorem fwd_ok' {T : Tt} (h : T.ok) (i : Nat) (hi : i < T.ps.length) (p : Tp) (hp : (fwdP p).ok) : (forwardT (setP T i p) i).ok := by
  have hat : (setP T i p).at i = p := (setP_at T i i p hi).trans (if_pos rfl)
  unfold forwardT
  rw [hat, setP_setP, setP_setP]
  split
  · exact setP_ok h _ _ hp
  · exact spreadTo_ok (setP_ok h _ _ (changeP_ok hp)) _ _
theorem countT_ok {T : Tt} (h : T.ok) (i : Nat) (hi : i < T.ps.length) : (countT T i).ok := by
  have hp := at_ok h i
  unfold countT
  split
  · exact h
  · split
    · rename_i _ hw
      have := hp.wait
      exact setP_ok h _ _ ⟨hp.b, hp.age, hp.left, by show 0 ≤ (T.at i).wait - 1 ∧ (T.at i).wait - 1 ≤ 15; omega, hp.change, hp.role, hp.state⟩
    · split
      · exact setP_ok h _ _ ⟨hp.b, hp.age, hp.left, by simp [learnP], hp.change, hp.role, by simp [learnP]⟩
      · exact fwd_ok' h i hi _ ⟨hp.b, hp.age, hp.left, by simp [fwdP], hp.change, hp.role, by simp [fwdP]⟩
theorem same_count (T : Tt) (i : Nat) : Same T (countT T i) := by
  unfold countT
  repeat' split
  · exact Same.refl _
  · exact same_setP _ _ _
  · exact same_setP _ _ _
  · exact (same_setP _ _ _).trans (same_forward _ _)
set_option maxHeartbeats 4000000 in
theorem countDown_any {w : World} {m : Mt} {T : Tt} (h : Tr w m T) (hok : T.ok) (i : Nat) (hi : i < T.ps.length) :
    Calls Try.prog 67 #[.pointer (some ⟨m.tb, 0, none⟩), .int .i64 i] w fun e w' => e = .returned (.tuple #[]) ∧ Tr w' m (countT T i) ∧ Goes m w m w' := by
  obtain ⟨pb, cap, sp, hP, c1, hne, hlp⟩ := h.at_i i hi
  have hc := hP.fl.tp i hi
  have c9 := hc.c9
  have c10 := hc.c10
  have c13 := hc.c13
  have z10 := hP.fl.frozen (i * 16 + 10)
  have z13 := hP.fl.frozen (i * 16 + 13)
  have F1 := (hP.fl.at_set Tp.zero i hi).put wide_T 13 (.int .i64 ((T.at i).wait - 1)) (downW (T.at i)) hi (by omega) rfl
  have hE1 := hide (h.put hP (downW (T.at i)) F1 ((Wr.refl _ _).cell _ _))
  have F3 := (F1.put wide_T 10 (.int .i64 1) { downW (T.at i) with state := 1 } hi (by omega) rfl).put wide_T 13 (.int .i64 15) (learnP (T.at i)) hi (by omega) rfl
  have hE3 := hide (h.put hP (learnP (T.at i)) F3 ((((Wr.refl _ _).cell _ _).cell _ _).cell _ _))
  have hfw := hide (forward_any hE1.out.1 i (by rw [setP_len]; exact hi))
  have hS : Hid (countT T i = if (T.at i).role ≠ 2 ∨ (T.at i).state = 2 then T else if 0 < (T.at i).wait - 1 then setP T i (downW (T.at i)) else if (T.at i).state = 0 then setP T i (learnP (T.at i)) else forwardT (setP T i (downW (T.at i))) i) := rfl
  have hwt := (at_ok hok i).wait
  have hTat : Hid (T.ps.getD i Tp.zero = T.at i) := rfl
  rw [hTat.out] at c9 c10 c13
  replace h := hide h
  generalize countT T i = V at *
  generalize setP T i (learnP (T.at i)) = U3 at *
  generalize setP T i (downW (T.at i)) = U1 at *
  generalize forwardT U1 i = U4 at *
  generalize (T.at i).role = ro at *
  generalize (T.at i).state = st at *
  generalize (T.at i).wait = wt at *
  generalize T.ps.length = n at *
  obtain ⟨hw0, hw1⟩ := hwt
  clear hP hc F1 F3 hTat
  go_enter Try.func67, Try.ntmps67
  by_cases h2 : ro = 2
  rotate_left
  · have hq := bne_yes8 h2
    have hV : Hid (V = T) := hS.out.trans (if_pos (.inl h2))
    clear hE1 hE3 hfw hS h2
    go_wp2
    exact v_ret rfl rfl ⟨rfl, by rw [hV.out]; exact h.out, Goes.refl _ _⟩
  have hq := bne_no8 h2
  have h2' := hide h2
  clear h2
  by_cases hs2 : st = 2
  · have hV : Hid (V = T) := hS.out.trans (if_pos (.inr hs2))
    have hsq : (st == 2) = true := by rw [beq_iff_eq]; exact hs2
    clear hE1 hE3 hfw hS hs2
    go_wp2
    exact v_ret rfl rfl ⟨rfl, by rw [hV.out]; exact h.out, Goes.refl _ _⟩
  have hsq : (st == 2) = false := by rw [beq_eq_false_iff_ne]; exact hs2
  have hS2 : Hid (V = if 0 < wt - 1 then U1 else if st = 0 then U3 else U4) := hS.out.trans (if_neg (by simp [h2'.out, hs2]))
  have hs2' := hide hs2
  clear hS hs2
  by_cases hw : 0 < wt - 1
  · have hV : Hid (V = U1) := hS2.out.trans (if_pos hw)
    clear hE3 hfw hS2
    go_wp2
    exact v_end rfl rfl ⟨rfl, by rw [hV.out]; exact hE1.out.1, hE1.out.2⟩
  by_cases hs0 : st = 0
  · have hV : Hid (V = U3) := hS2.out.trans (by rw [if_neg hw, if_pos hs0])
    subst hs0
    clear hE1 hfw hS2
    go_wp2
    exact v_end rfl rfl ⟨rfl, by rw [hV.out]; exact hE3.out.1, hE3.out.2⟩
  · have hV : Hid (V = U4) := hS2.out.trans (by rw [if_neg hw, if_neg hs0])
    have hsq0 : (st == 0) = false := by rw [beq_eq_false_iff_ne]; exact hs0
    clear hE3 hS2 hs0
    go_wp2_with fail
    refine hfw.out.mono ?_
    rintro e w5 ⟨rfl, hT5, hG5⟩
    replace hT5 := hide hT5
    have hG6 := hide (hE1.out.2.trans hG5)
    clear hfw hE1 hG5
    go_wp2
    exact v_end rfl rfl ⟨rfl, by rw [hV.out]; exact hT5.out, hG6.out⟩
theorem State_any {w : World} {m : Mt} {T : Tt} (h : Tr w m T) (i : Int) :
    Calls Try.prog 39 #[.pointer (some ⟨m.tb, 0, none⟩), .int .i64 i] w fun e w' => e = .returned (.int .i64 (if 0 ≤ i ∧ i < T.ps.length then (T.at i.toNat).state else 0)) ∧ w' = w := by
  have hh := hide (has_any h i)
  go_enter Try.func39, Try.ntmps39
  by_cases hb : 0 ≤ i ∧ i < T.ps.length
  · obtain ⟨r, rfl⟩ := Int.eq_ofNat_of_zero_le hb.1
    obtain ⟨pb, cap, sp, hP, c1, hne, hlp⟩ := h.at_i r (by omega)
    have c10 := (hP.fl.tp r hP.hi).c10
    have hrl : r < T.ps.length := hP.hi
    rw [show (decide (0 ≤ (r : Int)) && decide ((r : Int) < T.ps.length)) = true by simp; omega] at hh
    have hres : Hid ((if 0 ≤ (r : Int) ∧ (r : Int) < T.ps.length then (T.at (r : Int).toNat).state else 0) = (T.ps.getD r Tp.zero).state) := by rw [if_pos hb]; exact rfl
    generalize (T.ps.getD r Tp.zero).state = st at *
    rw [hres.out]
    generalize T.ps.length = n at *
    clear hP h hres hb
    go_wp2_with fail
    refine hh.out.mono ?_
    rintro e w1 ⟨rfl, rfl⟩
    clear hh
    go_wp2
    go_ret
    exact ⟨rfl, rfl⟩
  · rw [if_neg hb]
    rw [show (decide (0 ≤ i) && decide (i < T.ps.length)) = false by simp; omega] at hh
    clear hb h
    go_wp2_with fail
    refine hh.out.mono ?_
    rintro e w1 ⟨rfl, rfl⟩
    clear hh
    go_wp2
    go_ret
    exact ⟨rfl, rfl⟩
end Go.Proofs.Ytaepjiakehkeoaa
