/-
  Contracts of tree's Tick and Link. Conditions: those that each theorem names.
-/
import Derived.Test.YtaepjiakehkeoaaTree11
namespace Go.Proofs.Ytaepjiakehkeoaa
open Go.RowKit
set_option linter.unusedVariables false
set_option maxRecDepth 20000

theorem selT_same (T : Tt) : (selT T).outs = T.outs ∧ (selT T).ps = T.ps ∧ (selT T).quiet = T.quiet ∧ (selT T).id = T.id := ⟨rfl, rfl, rfl, rfl⟩
theorem midT_outs (T : Tt) : (midT T).outs = T.outs ∧ (midT T).quiet = T.quiet := by
  unfold midT
  have h1 := same_root (takeTo (if newsB T (selT T) = true then disT (selT T) else selT T) (selT T).roles T.ps.length)
  have h2 := same_takeTo (if newsB T (selT T) = true then disT (selT T) else selT T) (selT T).roles T.ps.length
  have h3 : Same (selT T) (if newsB T (selT T) = true then disT (selT T) else selT T) := by
    split
    · exact same_disTo _ _
    · exact Same.refl _
  have h4 := (h3.trans h2).trans h1
  exact ⟨h4.outs, h4.quiet⟩
theorem midT_len (T : Tt) : (midT T).ps.length = T.ps.length := by
  unfold midT
  rw [rootT_len, takeTo_len]
  split
  · rw [disT_len]; rfl
  · rfl
theorem allTo_quiet (T : Tt) : ∀ k, (allTo T k).quiet = T.quiet
  | 0 => rfl
  | k + 1 => by
    rw [allTo]
    split
    · exact (tellT_ps _ _ _).2.2.2.2.2.2.1.trans (allTo_quiet T k)
    · exact allTo_quiet T k
theorem allT_len (T : Tt) : (allT T).ps.length = T.ps.length := by unfold allT; rw [(allTo_ps T _).1]
theorem renewT_or (T : Tt) (b : Bool) : renewT T b = allT (midT T) ∨ renewT T b = midT T := by
  unfold renewT
  generalize (chTo (if newsB T (selT T) = true then disT (selT T) else selT T) (selT T).roles (newsB T (selT T)) T.ps.length || b) = x
  cases x
  · exact .inr rfl
  · exact .inl rfl
theorem renewT_len (T : Tt) (b : Bool) : (renewT T b).ps.length = T.ps.length := by
  rcases renewT_or T b with h | h <;> rw [h]
  · rw [allT_len, midT_len]
  · exact midT_len T
theorem renewT_ok {T : Tt} (h : T.ok) (b : Bool) : (renewT T b).ok := by
  rcases renewT_or T b with e | e <;> rw [e]
  · exact allTo_ok (midT_ok h) _
  · exact midT_ok h
theorem renewT_outs (T : Tt) (b : Bool) : (renewT T b).outs.length ≤ T.outs.length + T.ps.length ∧ (renewT T b).quiet = T.quiet := by
  rcases renewT_or T b with e | e <;> rw [e]
  · have := (allTo_ps (midT T) (midT T).ps.length).2
    rw [(midT_outs T).1, midT_len] at this
    refine ⟨?_, (allTo_quiet _ _).trans (midT_outs T).2⟩
    show (allTo (midT T) (midT T).ps.length).outs.length ≤ _
    rw [midT_len]; exact this
  · rw [(midT_outs T).1]; exact ⟨by omega, (midT_outs T).2⟩
def setUp (p : Tp) (up : Bool) : Tp := { p with b := { p.b with up := up } }
def linkT (T : Tt) (i : Int) (up : Bool) : Tt := if 0 ≤ i ∧ i < T.ps.length ∧ (T.at i.toNat).b.up ≠ up then renewT (forgetT (setP T i.toNat (dropP (setUp (T.at i.toNat) up))) i.toNat) true else T
theorem Link_any {w : World} {m : Mt} {T : Tt} (h : Tr w m T) (hok : T.ok) (ho : T.outs.length ≤ 700000) (i : Int) (up : Bool) :
    Calls Try.prog 37 #[.pointer (some ⟨m.tb, 0, none⟩), .int .i64 i, .bool up] w fun e w' => e = .returned (.tuple #[]) ∧ ∃ m', Tr w' m' (linkT T i up) ∧ Goes m w m' w' := by
  have hh := hide (has_any h i)
  have hE : Hid (linkT T i up = if 0 ≤ i ∧ i < T.ps.length ∧ (T.at i.toNat).b.up ≠ up then renewT (forgetT (setP T i.toNat (dropP (setUp (T.at i.toNat) up))) i.toNat) true else T) := rfl
  generalize linkT T i up = V at *
  go_enter Try.func37, Try.ntmps37
  by_cases hb : 0 ≤ i ∧ i < T.ps.length
  rotate_left
  · have hV : Hid (V = T) := hE.out.trans (if_neg (fun e => hb ⟨e.1, e.2.1⟩))
    rw [show (decide (0 ≤ i) && decide (i < T.ps.length)) = false by simp; omega] at hh
    replace h := hide h
    clear hb hE
    go_wp2_with fail
    refine hh.out.mono ?_
    rintro e w1 ⟨rfl, rfl⟩
    clear hh
    go_wp2
    exact v_ret rfl rfl ⟨rfl, m, by rw [hV.out]; exact h.out, Goes.refl _ _⟩
  obtain ⟨r, rfl⟩ := Int.eq_ofNat_of_zero_le hb.1
  obtain ⟨pb, cap, sp, hP, c1, hne, hlp⟩ := h.at_i r (by omega)
  have hrl : r < T.ps.length := hP.hi
  have c2 := (hP.fl.tp r hP.hi).c2
  have z2 := hP.fl.frozen (r * 16 + 2)
  rw [show (decide (0 ≤ (r : Int)) && decide ((r : Int) < T.ps.length)) = true by simp; omega] at hh
  have F1 := (hP.fl.at_set Tp.zero r hrl).put wide_T 2 (.bool up) (setUp (T.at r) up) hrl (by omega) rfl
  have hE1 := hide (h.put hP (setUp (T.at r) up) F1 ((Wr.refl _ _).cell _ _))
  have hat1 : (setP T r (setUp (T.at r) up)).ps.getD r Tp.zero = setUp (T.at r) up := (setP_at T r r _ hrl).trans (if_pos rfl)
  have hdr := hide (dropTold_any hE1.out.1 (i := r) (pb := pb) (cap := cap) (sp := sp) ⟨by rw [setP_len]; exact hP.pv, F1, by rw [setP_len]; exact hrl⟩)
  rw [hat1, setP_setP] at hdr
  have hp1 := at_ok hok r
  have hup : (setUp (T.at r) up).ok := ⟨⟨hp1.b.id, hp1.b.cost, hp1.b.told⟩, hp1.age, hp1.left, hp1.wait, hp1.change, hp1.role, hp1.state⟩
  have hok2 : Hid ((forgetT (setP T r (dropP (setUp (T.at r) up))) r).ok) := forgetT_ok (setP_ok hok r _ (dropP_ok hup)) r
  clear hup
  have hE2 : Hid (V = if (T.ps.getD r Tp.zero).b.up ≠ up then renewT (forgetT (setP T r (dropP (setUp (T.at r) up))) r) true else T) := by
    show _ = _
    rw [hE.out]
    by_cases e : (T.ps.getD r Tp.zero).b.up ≠ up
    · rw [if_pos e, if_pos ⟨hb.1, hb.2, e⟩]; rfl
    · rw [if_neg e, if_neg (fun x => e x.2.2)]
  have hfo := hide (fun (W : World) (hW : Tr W m (setP T r (dropP (setUp (T.at r) up)))) => forget_any hW r (by rw [setP_len]; exact hrl))
  have hre := hide (fun (W : World) (hW : Tr W m (forgetT (setP T r (dropP (setUp (T.at r) up))) r)) => renew_any hW hok2.out ho true)
  replace h := hide h
  generalize renewT (forgetT (setP T r (dropP (setUp (T.at r) up))) r) true = V2 at *
  generalize forgetT (setP T r (dropP (setUp (T.at r) up))) r = U3 at *
  generalize setP T r (dropP (setUp (T.at r) up)) = U2 at *
  generalize setP T r (setUp (T.at r) up) = U1 at *
  generalize (T.ps.getD r Tp.zero).b.up = u0 at *
  generalize T.ps.length = n at *
  clear hP F1 hat1 hE hb hp1
  go_wp2_with fail
  refine hh.out.mono ?_
  rintro e w1 ⟨rfl, rfl⟩
  clear hh
  by_cases hu : u0 = up
  · have hV : Hid (V = T) := hE2.out.trans (if_neg (by simp [hu]))
    subst hu
    clear hE2 hE1 hdr hfo hre
    go_wp2
    exact v_ret rfl rfl ⟨rfl, m, by rw [hV.out]; exact h.out, Goes.refl _ _⟩
  · have hV : Hid (V = V2) := hE2.out.trans (if_pos hu)
    have huq : (u0 == up) = false := by cases u0 <;> cases up <;> simp_all
    clear hE2 hu h
    go_wp2_with fail
    refine hdr.out.mono ?_
    rintro e w3 ⟨rfl, hT3, hG3⟩
    have hf3 := hide (hfo.out _ hT3)
    have hG4 := hide (hE1.out.2.trans hG3)
    clear hdr hfo hE1 hT3 hG3
    go_wp2_with fail
    refine hf3.out.mono ?_
    rintro e w5 ⟨rfl, hT5, hG5⟩
    have hr5 := hide (hre.out _ hT5)
    have hG6 := hide (hG4.out.trans hG5)
    clear hf3 hre hT5 hG5 hG4
    go_wp2_with fail
    refine hr5.out.mono ?_
    rintro e w7 ⟨rfl, m7, hT7, hG7⟩
    replace hT7 := hide hT7
    have hG8 := hide (hG6.out.trans hG7)
    clear hr5 hG7 hG6
    go_wp2
    exact v_end rfl rfl ⟨rfl, m7, by rw [hV.out]; exact hT7.out, hG8.out⟩
end Go.Proofs.Ytaepjiakehkeoaa
