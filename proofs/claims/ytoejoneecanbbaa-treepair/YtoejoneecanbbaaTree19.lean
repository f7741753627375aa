
/-
  The contract of tree's Receive. Conditions: those that each theorem names.
-/
import Derived.Test.YtoejoneecanbbaaTree18
namespace Go.Proofs.Ytoejoneecanbbaa
open Go.RowKit
set_option linter.unusedVariables false
set_option maxRecDepth 20000

def plainP (p : Tp) : Tp := { p with edge := false }
def midR (U : Tt) (i : Nat) (b : Bp) : Tt := if b.kind = 2 then hearT U i else if b.kind = 1 ∧ b.role ≠ 3 then ansT U i b else rootHT U i b
def heardT (T : Tt) (i : Nat) (b : Bp) : Tt := if b.change = true then hearT (midR (setP T i (plainP (T.at i))) i b) i else midR (setP T i (plainP (T.at i))) i b
def recvT (T : Tt) (i : Int) (b : Bp) : Tt := if 0 ≤ i ∧ i < T.ps.length ∧ (T.at i.toNat).b.up = true ∧ bcheckE b = 0 then heardT T i.toNat b else T
theorem plainP_ok {p : Tp} (h : p.ok) : (plainP p).ok := ⟨h.b, h.age, h.left, h.wait, h.change, h.role, h.state⟩
theorem same_spreadT (T : Tt) (fr : Int) : Same T (spreadT T fr) := same_spreadTo T fr _
theorem same_hear (T : Tt) (i : Nat) : Same T (hearT T i) := by
  unfold hearT
  split
  · exact same_spreadT _ _
  · exact Same.refl _
theorem hearT_len (T : Tt) (i : Nat) : (hearT T i).ps.length = T.ps.length := by
  unfold hearT
  split
  · exact spreadTo_len _ _ _
  · rfl
theorem hearT_ok {T : Tt} (h : T.ok) (i : Nat) : (hearT T i).ok := by
  unfold hearT
  split
  · exact spreadTo_ok h _ _
  · exact h
theorem check_age {b : Bp} (h : bcheckE b = 0) (hk : b.kind ≠ 2) : 0 ≤ b.age ∧ b.age ≤ 65535 := by
  unfold bcheckE at h
  have h2 : numsB b = true := by
    cases e : numsB b
    · by_cases h0 : b.kind < 0 ∨ 3 ≤ b.kind
      · rw [if_pos h0] at h; omega
      · rw [if_neg h0, if_neg hk, if_pos (Or.inl e)] at h; omega
    · rfl
  simp only [numsB, Bp.five, List.all_cons, List.all_nil, Bool.and_true, Bool.and_eq_true, pairB, decide_eq_true_eq] at h2
  exact h2.2.2.1
theorem midR_len (U : Tt) (i : Nat) (b : Bp) : (midR U i b).ps.length = U.ps.length := by
  unfold midR
  repeat' split
  · exact hearT_len _ _
  · exact ansT_len _ _ _
  · exact rootHT_len _ _ _
theorem midR_ok {U : Tt} (h : U.ok) (i : Nat) {b : Bp} (hb : b.wf) (hc : bcheckE b = 0) : (midR U i b).ok := by
  unfold midR
  repeat' split
  · exact hearT_ok h _
  · exact ansT_ok h _ _
  · exact rootHT_ok h i hb (check_age hc (by assumption))
theorem midR_outs (U : Tt) (i : Nat) (b : Bp) : (midR U i b).outs.length ≤ U.outs.length + 2 * U.ps.length + 2 := by
  unfold midR
  repeat' split
  · rw [(same_hear _ _).outs]; omega
  · have := ansT_outs U i b; omega
  · exact rootHT_outs U i b
theorem heardT_len (T : Tt) (i : Nat) (b : Bp) : (heardT T i b).ps.length = T.ps.length := by
  unfold heardT
  split
  · rw [hearT_len, midR_len, setP_len]
  · rw [midR_len, setP_len]
theorem recvT_len (T : Tt) (i : Int) (b : Bp) : (recvT T i b).ps.length = T.ps.length := by
  unfold recvT
  split
  · exact heardT_len _ _ _
  · rfl
theorem recvT_ok {T : Tt} (h : T.ok) (i : Int) {b : Bp} (hb : b.wf) : (recvT T i b).ok := by
  unfold recvT
  split
  · rename_i h1
    have h2 := midR_ok (setP_ok h i.toNat _ (plainP_ok (at_ok h i.toNat))) i.toNat hb h1.2.2.2
    unfold heardT
    split
    · exact hearT_ok h2 _
    · exact h2
  · exact h
theorem recvT_outs (T : Tt) (i : Int) (b : Bp) : (recvT T i b).outs.length ≤ T.outs.length + 2 * T.ps.length + 2 := by
  unfold recvT
  split
  · have h1 := midR_outs (setP T i.toNat (plainP (T.at i.toNat))) i.toNat b
    rw [setP_len] at h1
    have h2 : (setP T i.toNat (plainP (T.at i.toNat))).outs = T.outs := rfl
    rw [h2] at h1
    unfold heardT
    split
    · rw [(same_hear _ _).outs]; exact h1
    · exact h1
  · omega
set_option maxHeartbeats 8000000 in
theorem Receive_any {w : World} {m : Mt} {T : Tt} (h : Tr w m T) (hok : T.ok) (ho : T.outs.length ≤ 500000) (i : Int) (b : Bp) (hwf : b.wf) :
    Calls Try.prog 25 #[.pointer (some ⟨m.tb, 0, none⟩), .int .i64 i, .agg b.row] w fun e w' => e = .returned (.tuple #[]) ∧ ∃ m', Tr w' m' (recvT T i b) ∧ Goes m w m' w' := by
  have hE : Hid (recvT T i b = if 0 ≤ i ∧ i < T.ps.length ∧ (T.ps.getD i.toNat Tp.zero).b.up = true ∧ bcheckE b = 0 then heardT T i.toNat b else T) := rfl
  have hfew := h.few
  have hA := below1 w (.cells b.row 40)
  have hM0 := hide (heap_alloc_new w (.cells b.row 40))
  have hTA := h.below hA
  have hGA : Hid (Goes m w m (w.alloc (.cells b.row 40))) := Goes.of_below hA
  have hnf : Hid (¬ m.foot w.heap.size) := fun e => by have := h.lt _ e; omega
  have hgl : Hid (w.heap.size < (w.alloc (.cells b.row 40)).heap.size) := by show _ < _; rw [World.size_alloc]; omega
  have hh := hide (has_any hTA i)
  have hck := hide (fun (W : World) => BCheck_any b W hwf)
  generalize recvT T i b = V at *
  clear h hA
  by_cases hb : 0 ≤ i ∧ i < T.ps.length
  rotate_left
  · have hV : Hid (V = T) := hE.out.trans (if_neg (fun e => hb ⟨e.1, e.2.1⟩))
    rw [show (decide (0 ≤ i) && decide (i < T.ps.length)) = false by simp; omega] at hh
    replace hTA := hide hTA
    clear hb hE hck hM0
    go_enter Try.func25, Try.ntmps25
    go_wp2_with fail
    refine hh.out.mono ?_
    rintro e w1 ⟨rfl, rfl⟩
    clear hh
    go_wp2
    exact v_ret rfl rfl ⟨rfl, m, by rw [hV.out]; exact hTA.out, hGA.out⟩
  obtain ⟨r, rfl⟩ := Int.eq_ofNat_of_zero_le hb.1
  have hrl : r < T.ps.length := by omega
  rw [show (decide (0 ≤ (r : Int)) && decide ((r : Int) < T.ps.length)) = true by simp; omega] at hh
  obtain ⟨pb, cap, sp, hP, c1, hne, hlp⟩ := hTA.at_i r hrl
  have c2 := (hP.fl.tp r hP.hi).c2
  have hPo := hide hP.own
  rw [show (r : Int).toNat = r by omega] at hE
  by_cases hup : (T.ps.getD r Tp.zero).b.up = true
  rotate_left
  · have hV : Hid (V = T) := hE.out.trans (if_neg (fun e => hup e.2.2.1))
    rw [Bool.eq_false_iff.2 hup] at c2
    replace hTA := hide hTA
    generalize T.ps.length = n at *
    clear hb hE hck hM0 hP hup
    go_enter Try.func25, Try.ntmps25
    go_wp2_with fail
    refine hh.out.mono ?_
    rintro e w1 ⟨rfl, rfl⟩
    clear hh
    go_wp2
    exact v_ret rfl rfl ⟨rfl, m, by rw [hV.out]; exact hTA.out, hGA.out⟩
  rw [hup] at c2
  by_cases hc : bcheckE b = 0
  rotate_left
  · have hV : Hid (V = T) := hE.out.trans (if_neg (fun e => hc e.2.2.2))
    have hcq : (bcheckE b != 0) = true := bne_yes8 hc
    replace hTA := hide hTA
    generalize bcheckE b = ce at *
    generalize T.ps.length = n at *
    clear hb hE hP hup hc
    go_enter Try.func25, Try.ntmps25
    go_wp2_with fail
    generalize hg : w.heap.size = g at *
    replace hg := hide hg
    generalize w.alloc (.cells b.row 40) = w0 at *
    refine hh.out.mono ?_
    rintro e w1 ⟨rfl, hw⟩
    subst hw
    clear hh
    go_wp2_with ((with_reducible change wpList _ _ _ _ _ _); refine wpList_load_row_on rfl 40 (.tmp 5) rfl g rfl 40 _ _ _ hM0.out Try.underlying40 rfl (bpSize Bp.zero) ?_)
    refine (hck.out _).mono ?_
    rintro e w2 ⟨rfl, hb2⟩
    have hT2 := hide (hTA.out.below hb2)
    have hG2 := hide (hGA.out.trans (Goes.of_below hb2))
    clear hck hb2 hM0
    go_wp2
    exact v_ret rfl rfl ⟨rfl, m, by rw [hV.out]; exact hT2.out, hG2.out⟩
  have hVH : Hid (V = if b.change = true then hearT (midR (setP T r (plainP (T.at r))) r b) r else midR (setP T r (plainP (T.at r))) r b) := hE.out.trans (if_pos ⟨hb.1, hb.2, hup, hc⟩)
  have hpl : Hid ((setP T r (plainP (T.at r))).ps.length = T.ps.length) := setP_len _ _ _
  have hpo : Hid ((setP T r (plainP (T.at r))).outs.length ≤ 500000) := ho
  have hpok := hide (setP_ok hok r _ (plainP_ok (at_ok hok r)))
  have hXE : Hid (midR (setP T r (plainP (T.at r))) r b = if b.kind = 2 then hearT (setP T r (plainP (T.at r))) r else if b.kind = 1 ∧ b.role ≠ 3 then ansT (setP T r (plainP (T.at r))) r b else rootHT (setP T r (plainP (T.at r))) r b) := rfl
  have hXl : Hid ((midR (setP T r (plainP (T.at r))) r b).ps.length = T.ps.length) := by show _ = _; rw [midR_len, setP_len]
  have hXok := hide (midR_ok hpok.out r hwf hc)
  have hag := hide (check_age hc)
  have hcell : Hid (∀ W : World, Below (w.alloc (.cells b.row 40)).heap.size (w.alloc (.cells b.row 40)) W → W.cell? ⟨m.tb, 1, none⟩ = some (.slice (some ⟨pb, 0, none⟩) T.ps.length cap) ∧ W.cell? ⟨pb, r * 16 + 8, none⟩ = some (.bool (T.ps.getD r Tp.zero).edge) ∧ W.frozen? ⟨pb, r * 16 + 8, none⟩ = false ∧ Tr (W.setCell ⟨pb, r * 16 + 8, none⟩ (.bool false)) m (setP T r (plainP (T.at r))) ∧ Goes m W m (W.setCell ⟨pb, r * 16 + 8, none⟩ (.bool false))) := fun W hbW => by
    have hF := hP.fl.below hbW
    have hPW : PtAt W m T r pb cap sp := ⟨hP.pv, hF, hrl⟩
    have F1 := (hF.at_set Tp.zero r hrl).put wide_T 8 (.bool false) (plainP (T.at r)) hrl (by omega) rfl
    exact ⟨((bcell hbW).1 _ _ hTA.ltb).trans c1, (hF.tp r hrl).c8, hF.frozen _, (hTA.below hbW).put hPW (plainP (T.at r)) F1 ((Wr.refl _ _).cell _ _)⟩
  generalize hXX : midR (setP T r (plainP (T.at r))) r b = X at *
  clear hXX
  generalize setP T r (plainP (T.at r)) = U1 at *
  generalize (T.ps.getD r Tp.zero).edge = ed at *
  replace hTA := hide hTA
  have hrn := hide hrl
  generalize hn : T.ps.length = n at *
  replace hn := hide hn
  replace hwf := hide hwf
  rw [hc] at hck
  clear hP hup hE hb hc
  go_enter Try.func25, Try.ntmps25
  go_wp2_with fail
  generalize hg : w.heap.size = g at *
  replace hg := hide hg
  generalize w.alloc (.cells b.row 40) = w0 at *
  refine hh.out.mono ?_
  rintro e w1 ⟨rfl, hw⟩
  subst hw
  clear hh
  go_wp2_with ((with_reducible change wpList _ _ _ _ _ _); refine wpList_load_row_on rfl 40 (.tmp 5) rfl g rfl 40 _ _ _ hM0.out Try.underlying40 rfl (bpSize Bp.zero) ?_)
  refine (hck.out _).mono ?_
  rintro e w2 ⟨rfl, hb2⟩
  obtain ⟨c12, c82, z82, hT3, hG3⟩ := hcell.out _ hb2
  have hM2 := heap_kept hb2 hM0.out
  have hwa : g ≠ pb := fun e => hnf.out (.inr (.inl (by rw [e]; exact hPo.out)))
  have hMs := hide ((heap_setCell_other w2 ⟨pb, r * 16 + 8, none⟩ g (.bool false) hwa).trans hM2)
  have hGs : Hid (Goes m w1 m (w2.setCell ⟨pb, r * 16 + 8, none⟩ (.bool false))) := (Goes.of_below hb2).trans hG3
  replace hT3 := hide hT3
  have k0 : (w2.setCell ⟨pb, r * 16 + 8, none⟩ (.bool false)).cell? ⟨g, 0, none⟩ = some (.int .i64 b.kind) := (cell_of_row _ _ _ _ _ _ hMs.out).trans rfl
  have k11 : (w2.setCell ⟨pb, r * 16 + 8, none⟩ (.bool false)).cell? ⟨g, 11, none⟩ = some (.int .i64 b.role) := (cell_of_row _ _ _ _ _ _ hMs.out).trans rfl
  clear hck hcell hb2 hG3 hM2 c1 c2
  generalize hkd : b.kind = kd at *
  generalize hro : b.role = ro at *
  replace hkd := hide hkd
  replace hro := hide hro
  by_cases h2 : kd = 2
  · subst h2
    have hX2 : Hid (X = hearT U1 r) := hXE.out.trans (if_pos rfl)
    go_wp2_with fail
    refine (hearChange_any hT3.out r (by rw [hpl.out]; exact hrn.out)).mono ?_
    rintro e w5 ⟨rfl, hT5, hG5⟩
    replace hT5 := hide hT5
    rw [← hX2.out] at hT5
    replace hG5 := hide (hGs.out.trans hG5)
    clear hT3 hGs hMs hX2 hXE k0 k11
    have k5 : w5.cell? ⟨g, 5, none⟩ = some (.bool b.change) := (cell_of_row _ _ _ _ _ _ ((hG5.out.block g hgl.out hnf.out).trans hM0.out)).trans rfl
    have hhc := hide (hearChange_any hT5.out r (by rw [hXl.out]; exact hrn.out))
    generalize hbc : b.change = bc at *
    replace hbc := hide hbc
    cases bc
    · have hV : Hid (V = X) := hVH.out
      clear hhc hVH
      go_wp2
      exact v_end rfl rfl ⟨rfl, m, by rw [hV.out]; exact hT5.out, hGA.out.trans hG5.out⟩
    · have hV : Hid (V = hearT X r) := hVH.out
      clear hVH
      go_wp2_with fail
      refine hhc.out.mono ?_
      rintro e w7 ⟨rfl, hT7, hG7⟩
      replace hT7 := hide hT7
      have hG8 := hide (hG5.out.trans hG7)
      clear hhc hG7 hG5 hT5
      go_wp2
      exact v_end rfl rfl ⟨rfl, m, by rw [hV.out]; exact hT7.out, hGA.out.trans hG8.out⟩
  have h2q : (kd == 2) = false := by rw [beq_eq_false_iff_ne]; exact h2
  by_cases h1 : kd = 1 ∧ ro ≠ 3
  · obtain ⟨h11, h13⟩ := h1
    have hX2 : Hid (X = ansT U1 r b) := hXE.out.trans (by rw [if_neg h2, if_pos ⟨h11, h13⟩])
    subst h11
    have h3q : (ro != 3) = true := bne_yes8 h13
    clear h13 h2
    go_wp2_with ((with_reducible change wpList _ _ _ _ _ _); refine wpList_load_row rfl 40 (.tmp 5) rfl g rfl 40 _ _ _ hMs.out Try.underlying40 rfl (bpSize Bp.zero) ?_)
    refine (hearAnswer_any hT3.out hpok.out (Nat.le_trans hpo.out (by omega)) r (by rw [hpl.out]; exact hrn.out) b).mono ?_
    rintro e w5 ⟨rfl, m5, hT5, hG5⟩
    replace hT5 := hide hT5
    rw [← hX2.out] at hT5
    replace hG5 := hide (hGs.out.trans hG5)
    clear hT3 hGs hMs hX2 hXE k0 k11
    have k5 : w5.cell? ⟨g, 5, none⟩ = some (.bool b.change) := (cell_of_row _ _ _ _ _ _ ((hG5.out.block g hgl.out hnf.out).trans hM0.out)).trans rfl
    have hhc := hide (hearChange_any hT5.out r (by rw [hXl.out]; exact hrn.out))
    rw [hG5.out.tb] at hhc
    generalize hbc : b.change = bc at *
    replace hbc := hide hbc
    cases bc
    · have hV : Hid (V = X) := hVH.out
      clear hhc hVH
      go_wp2
      exact v_end rfl rfl ⟨rfl, m5, by rw [hV.out]; exact hT5.out, hGA.out.trans hG5.out⟩
    · have hV : Hid (V = hearT X r) := hVH.out
      clear hVH
      go_wp2_with fail
      refine hhc.out.mono ?_
      rintro e w7 ⟨rfl, hT7, hG7⟩
      replace hT7 := hide hT7
      have hG8 := hide (hG5.out.trans hG7)
      clear hhc hG7 hG5 hT5
      go_wp2
      exact v_end rfl rfl ⟨rfl, m5, by rw [hV.out]; exact hT7.out, hGA.out.trans hG8.out⟩
  have hX2 : Hid (X = rootHT U1 r b) := hXE.out.trans (by rw [if_neg h2, if_neg h1])
  have hagg := hide (hag.out h2)
  by_cases h11 : kd = 1
  · obtain rfl : ro = 3 := by
      by_cases e : ro = 3
      · exact e
      · exact absurd ⟨h11, e⟩ h1
    subst h11
    clear h1 h2
    go_wp2_with ((with_reducible change wpList _ _ _ _ _ _); refine wpList_load_row rfl 40 (.tmp 5) rfl g rfl 40 _ _ _ hMs.out Try.underlying40 rfl (bpSize Bp.zero) ?_)
    refine (hearRoot_any hT3.out hpok.out (Nat.le_trans hpo.out (by omega)) r (by rw [hpl.out]; exact hrn.out) b hwf.out hagg.out).mono ?_
    rintro e w5 ⟨rfl, m5, hT5, hG5⟩
    replace hT5 := hide hT5
    rw [← hX2.out] at hT5
    replace hG5 := hide (hGs.out.trans hG5)
    clear hT3 hGs hMs hX2 hXE k0 k11
    have k5 : w5.cell? ⟨g, 5, none⟩ = some (.bool b.change) := (cell_of_row _ _ _ _ _ _ ((hG5.out.block g hgl.out hnf.out).trans hM0.out)).trans rfl
    have hhc := hide (hearChange_any hT5.out r (by rw [hXl.out]; exact hrn.out))
    rw [hG5.out.tb] at hhc
    generalize hbc : b.change = bc at *
    replace hbc := hide hbc
    cases bc
    · have hV : Hid (V = X) := hVH.out
      clear hhc hVH
      go_wp2
      exact v_end rfl rfl ⟨rfl, m5, by rw [hV.out]; exact hT5.out, hGA.out.trans hG5.out⟩
    · have hV : Hid (V = hearT X r) := hVH.out
      clear hVH
      go_wp2_with fail
      refine hhc.out.mono ?_
      rintro e w7 ⟨rfl, hT7, hG7⟩
      replace hT7 := hide hT7
      have hG8 := hide (hG5.out.trans hG7)
      clear hhc hG7 hG5 hT5
      go_wp2
      exact v_end rfl rfl ⟨rfl, m5, by rw [hV.out]; exact hT7.out, hGA.out.trans hG8.out⟩
  · have h11q : (kd == 1) = false := by rw [beq_eq_false_iff_ne]; exact h11
    clear h1 h2 h11
    go_wp2_with ((with_reducible change wpList _ _ _ _ _ _); refine wpList_load_row rfl 40 (.tmp 5) rfl g rfl 40 _ _ _ hMs.out Try.underlying40 rfl (bpSize Bp.zero) ?_)
    refine (hearRoot_any hT3.out hpok.out (Nat.le_trans hpo.out (by omega)) r (by rw [hpl.out]; exact hrn.out) b hwf.out hagg.out).mono ?_
    rintro e w5 ⟨rfl, m5, hT5, hG5⟩
    replace hT5 := hide hT5
    rw [← hX2.out] at hT5
    replace hG5 := hide (hGs.out.trans hG5)
    clear hT3 hGs hMs hX2 hXE k0 k11
    have k5 : w5.cell? ⟨g, 5, none⟩ = some (.bool b.change) := (cell_of_row _ _ _ _ _ _ ((hG5.out.block g hgl.out hnf.out).trans hM0.out)).trans rfl
    have hhc := hide (hearChange_any hT5.out r (by rw [hXl.out]; exact hrn.out))
    rw [hG5.out.tb] at hhc
    generalize hbc : b.change = bc at *
    replace hbc := hide hbc
    cases bc
    · have hV : Hid (V = X) := hVH.out
      clear hhc hVH
      go_wp2
      exact v_end rfl rfl ⟨rfl, m5, by rw [hV.out]; exact hT5.out, hGA.out.trans hG5.out⟩
    · have hV : Hid (V = hearT X r) := hVH.out
      clear hVH
      go_wp2_with fail
      refine hhc.out.mono ?_
      rintro e w7 ⟨rfl, hT7, hG7⟩
      replace hT7 := hide hT7
      have hG8 := hide (hG5.out.trans hG7)
      clear hhc hG7 hG5 hT5
      go_wp2
      exact v_end rfl rfl ⟨rfl, m5, by rw [hV.out]; exact hT7.out, hGA.out.trans hG8.out⟩
end Go.Proofs.Ytoejoneecanbbaa
