/-
  The walk of WholeRoles. Conditions: those that the theorem names.
-/
import Derived.Test.YtaepjiakehkeoaaLWr
namespace Go.Proofs.Ytaepjiakehkeoaa
open Go.RowKit
set_option linter.unusedVariables false
set_option maxRecDepth 20000

theorem cmp_self (v : Vc) : cmpN v v = 0 := by simp [cmpN, ordN, orL]
/-- What the statement compares. -/
theorem wr_end (id : Int) (l : List Vc) (n : Nat) (hid : U64 id) (hn : n ≤ 10) (hfit : ∀ i, i < n → fitV (l.getD i Vc.zero)) (hwf : ∀ i, i < n → (l.getD i Vc.zero).wf) :
    Fine n id (wrL (newT id (wrPs n)) l n) ∧ (wrL (newT id (wrPs n)) l n).y = (bestW id (hrPs l n) n).v ∧ (wrL (newT id (wrPs n)) l n).rp = (bestW id (hrPs l n) n).place ∧
      ∀ i, i < n → ((wrL (newT id (wrPs n)) l n).at i).role = (rolesL id (hrPs l n)).getD i 0 ∧ ((wrL (newT id (wrPs n)) l n).at i).b.told = l.getD i Vc.zero := by
  have hF0 := fine_new (id := id) (ps := wrPs n) hid (wrPs_wf n (by omega))
  rw [wrPs_len] at hF0
  have hF := fine_wrL hF0 l n hwf
  have hbs := wrL_bs id l n hfit
  have hb := (wrL_b id l n hfit n (Nat.le_refl _)).2
  generalize wrL (newT id (wrPs n)) l n = T at *
  have hid' := hF.id'
  have hlen := hF.len
  refine ⟨hF, ?_, ?_, fun i hi => ⟨?_, ?_⟩⟩
  · rw [hF.inv.y]; show (bestW T.id T.bs T.ps.length).v = _; rw [hid', hbs, hlen]
  · rw [hF.inv.rp]; show (bestW T.id T.bs T.ps.length).place = _; rw [hid', hbs, hlen]
  · rw [hF.inv.role i (by rw [hlen]; exact hi)]; show (rolesL T.id T.bs).getD i 0 = _; rw [hid', hbs]
  · rw [hb i hi, if_pos hi]; rfl
theorem bestW_wfS (id : Int) (l : List Vc) (n : Nat) (hid : U64 id) (hn : n ≤ 10) (hwf : ∀ i, i < n → (l.getD i Vc.zero).wf) : (bestW id (hrPs l n) n).v.wf := bestW_wf _ _ _ hid (fun i hi => by rw [hrPs_at l n i hi]; exact hrP_wf i (by omega) (hwf i hi))
set_option maxHeartbeats 8000000 in
theorem Wr_walk (id : Int) (a : Option Addr) (n cap : Nat) (l : List Vc) (w : World) (hid : U64 id) (hI : Hid (Vcs w a n l)) : Calls Try.prog 17 #[.int .u64 id, .slice a n cap] w fun e w' => e = .returned (.bool true) ∧ Below w.heap.size w w' := by
  have hbA := hide (below1 w (.cells (fT ⟨⟨1, 0, false, false, ⟨0, 0, 0, 0⟩⟩, false, 0, 0, 0, 0, 0, 0, false⟩).toArray 50))
  have hF0 : Fl (w.alloc (.cells (fT ⟨⟨1, 0, false, false, ⟨0, 0, 0, 0⟩⟩, false, 0, 0, 0, 0, 0, 0, false⟩).toArray 50)) w.heap.size 50 fT [⟨⟨1, 0, false, false, ⟨0, 0, 0, 0⟩⟩, false, 0, 0, 0, 0, 0, 0, false⟩] [] := by
    unfold Fl
    rw [show (flat fT [(⟨⟨1, 0, false, false, ⟨0, 0, 0, 0⟩⟩, false, 0, 0, 0, 0, 0, 0, false⟩ : Tp)] ++ []) = fT ⟨⟨1, 0, false, false, ⟨0, 0, 0, 0⟩⟩, false, 0, 0, 0, 0, 0, 0, false⟩ by simp [flat]]
    exact heap_alloc_new _ _
  have hT0 : Hid (Tps (w.alloc (.cells (fT ⟨⟨1, 0, false, false, ⟨0, 0, 0, 0⟩⟩, false, 0, 0, 0, 0, 0, 0, false⟩).toArray 50)) (some ⟨w.heap.size, 0, none⟩) 1 [⟨⟨1, 0, false, false, ⟨0, 0, 0, 0⟩⟩, false, 0, 0, 0, 0, 0, 0, false⟩]) := ⟨rfl, fun i hi => ⟨w.heap.size, 0, rfl, by rw [Nat.zero_add]; exact hF0.tp i hi, by
    obtain rfl : i = 0 := by omega
    exact ⟨by simp [I64], by simp [U64], ⟨by simp [U64], by simp [U64], by simp [U64], by simp [I64]⟩⟩⟩⟩
  have hnew := hide (ONew 9 (some ⟨w.heap.size, 0, none⟩) 1 1 [⟨⟨1, 0, false, false, ⟨0, 0, 0, 0⟩⟩, false, 0, 0, 0, 0, 0, 0, false⟩] _ (fun k => k < w.heap.size) (fun k hk => Nat.lt_of_lt_of_le hk hbA.out.size) (by simp [U64]) (by omega) (by omega) (by simp) hT0)
  clear hF0 hT0
  go_enter Try.func17, Try.ntmps17
  go_wp2_with fail
  refine hnew.out.mono ?_
  rintro e w1 ⟨tb0, rfl, hO1, hb1⟩
  have hB1 := hide (hbA.out.later hb1)
  have hp1 := hide (OPorts hO1)
  have hl1 : Hid ((newT 9 [⟨⟨1, 0, false, false, ⟨0, 0, 0, 0⟩⟩, false, 0, 0, 0, 0, 0, 0, false⟩]).ps.length = 1) := newT_len _ _
  clear hnew hbA hb1 hO1
  go_wp2_with fail
  refine hp1.out.mono ?_
  rintro e w2 ⟨v2, rfl, hS2, hb2, hf2⟩
  obtain ⟨a2, c2, rfl⟩ := hS2.shape
  rw [hl1.out]
  have hB2 := hide (hB1.out.later hb2)
  clear hp1 hS2 hb2 hf2 hB1 hl1
  go_wp2_with fail
  refine (Name_any 1 _).mono ?_
  rintro e w3 ⟨rfl, hw3⟩
  subst hw3
  have hnm : nameS 1 = { data := #[114, 111, 111, 116] } := by rfl
  rw [hnm]
  clear hnm
  by_cases hn : n > 10
  · have hnq : decide ((n : Int) > 10) = true := by simp; omega
    go_wp2
    go_ret
    exact ⟨rfl, hB2.out⟩
  go_wp2_with fail
  go_loopw [38, 6, 7] (fun i v u wr => ∃ j : Nat, j ≤ n ∧ i = .int .i64 j ∧ Hid (Below w.heap.size w wr) ∧ Hid (Sl wr v 50 16 fT (wrPs j)) ∧ Hid (Sl wr u 38 8 fP (hrPs l j)) ∧ Hid (Fresh w.heap.size v) ∧ Hid (Fresh w.heap.size u) ∧ Hid (∀ x, v.ownBlock = some x → u.ownBlock ≠ some x) ∧ Hid (∀ i, i < j → fitV (l.getD i Vc.zero))) (fun i _ _ _ => n - (intOf i).toNat)
  case atStart => exact ⟨0, Nat.zero_le _, rfl, hB2, Sl.nil _ _ _ _, Sl.nil _ _ _ _, fun x e => by simp [Value.ownBlock] at e, fun x e => by simp [Value.ownBlock] at e, fun x e => by simp [Value.ownBlock] at e, fun i hi => by omega⟩
  case round =>
    obtain ⟨j, hj, rfl, hB, hSv, hSu, hFv, hFu, hAp, hfit⟩ := hrel
    clear hB2
    by_cases hlt : j < n
    · obtain ⟨bb, off, rfl, d0, d1, d2, d3, hwf⟩ := (hI.out.below hB.out) j hlt
      have hP1 := hide (wrPs_push j)
      have hP2 := hide (hrPs_push l j)
      have hL1 : (wrPs j).length ≤ 10 := by rw [wrPs_len]; omega
      have hL2 : (hrPs l j).length ≤ 10 := by rw [hrPs_len]; omega
      have hq1 : Hid (wrP j = ⟨⟨(j : Int) + 1, 7, false, false, ⟨0, 0, 0, 0⟩⟩, false, 0, 0, 0, 0, 0, 0, false⟩) := rfl
      have hq2 : Hid (hrP j (l.getD j Vc.zero) = ⟨(j : Int) + 1, 7, true, true, l.getD j Vc.zero⟩) := rfl
      have hfn : Hid (fitV (l.getD j Vc.zero) → ∀ i, i < j + 1 → fitV (l.getD i Vc.zero)) := fun h i hi => by
        by_cases e : i = j
        · subst e; exact h
        · exact hfit.out i (by omega)
      generalize hw1' : wrPs (j + 1) = W1 at *
      generalize hw2' : hrPs l (j + 1) = W2 at *
      replace hw1' := hide hw1'
      replace hw2' := hide hw2'
      generalize wrPs j = L1 at *
      generalize hrPs l j = L2 at *
      generalize wrP j = p1 at *
      generalize hrP j (l.getD j Vc.zero) = p2 at *
      generalize hvv : l.getD j Vc.zero = v at *
      replace hvv := hide hvv
      obtain ⟨v0, v1, v2, v3⟩ := v
      dsimp only at d0 d1 d2 d3
      replace hwf := hide hwf
      have hbV := hide (below1 wr (.cells (Vc.row ⟨v0, v1, v2, v3⟩) 26))
      have hkV := hide (heap_alloc_new wr (.cells (Vc.row ⟨v0, v1, v2, v3⟩) 26))
      have kc1 : (wr.alloc (.cells (Vc.row ⟨v0, v1, v2, v3⟩) 26)).cell? ⟨wr.heap.size, 1, none⟩ = some (.int .u64 v1) := (cell_of_row _ _ _ _ _ _ hkV.out).trans rfl
      have kc3 : (wr.alloc (.cells (Vc.row ⟨v0, v1, v2, v3⟩) 26)).cell? ⟨wr.heap.size, 3, none⟩ = some (.int .i64 v3) := (cell_of_row _ _ _ _ _ _ hkV.out).trans rfl
      by_cases hc1 : v1 > 4294967295
      · go_wp2
        go_ret
        exact ⟨rfl, hB.out.later hbV.out⟩
      by_cases hc2 : v3 < 0
      · go_wp2
        go_ret
        exact ⟨rfl, hB.out.later hbV.out⟩
      by_cases hc3 : v3 > 65535
      · go_wp2
        go_ret
        exact ⟨rfl, hB.out.later hbV.out⟩
      have hfit2 := hide (hfn.out ⟨by show v1 ≤ 4294967295; omega, by show 0 ≤ v3; omega, by show v3 ≤ 65535; omega⟩)
      clear hfn
      go_wp2_with (at_builtin; refine unhB ?_)
      have hbT := hide (hbV.out.later (below1 (wr.alloc (.cells (Vc.row ⟨v0, v1, v2, v3⟩) 26)) (.cells (fT ⟨⟨(j : Int) + 1, 7, false, false, ⟨0, 0, 0, 0⟩⟩, false, 0, 0, 0, 0, 0, 0, false⟩).toArray 50)))
      have hkT : Hid (((wr.alloc (.cells (Vc.row ⟨v0, v1, v2, v3⟩) 26)).alloc (.cells (fT ⟨⟨(j : Int) + 1, 7, false, false, ⟨0, 0, 0, 0⟩⟩, false, 0, 0, 0, 0, 0, 0, false⟩).toArray 50)).heap[wr.heap.size + 1]? = some (.cells (fT ⟨⟨(j : Int) + 1, 7, false, false, ⟨0, 0, 0, 0⟩⟩, false, 0, 0, 0, 0, 0, 0, false⟩).toArray 50)) := heap_alloc2_newB wr _ _
      have hkO : Hid (((wr.alloc (.cells (Vc.row ⟨v0, v1, v2, v3⟩) 26)).alloc (.cells (fT ⟨⟨(j : Int) + 1, 7, false, false, ⟨0, 0, 0, 0⟩⟩, false, 0, 0, 0, 0, 0, 0, false⟩).toArray 50)).heap[wr.heap.size]? = some (.cells (Vc.row ⟨v0, v1, v2, v3⟩) 26)) := heap_alloc2_oldB wr _ _
      have hS3 := hide (hSv.out.below hbT.out)
      have hU3 := hide (hSu.out.below hbT.out)
      have hB3 := hide (hB.out.later hbT.out)
      have hvl : Hid (∀ x, u6.ownBlock = some x → x < wr.heap.size) := fun x e => hSv.out.lt e
      have hul : Hid (∀ x, u7.ownBlock = some x → x < wr.heap.size) := fun x e => hSu.out.lt e
      have hsz : Hid (w.heap.size ≤ wr.heap.size) := hB.out.size
      have hgl : Hid (wr.heap.size < ((wr.alloc (.cells (Vc.row ⟨v0, v1, v2, v3⟩) 26)).alloc (.cells (fT ⟨⟨(j : Int) + 1, 7, false, false, ⟨0, 0, 0, 0⟩⟩, false, 0, 0, 0, 0, 0, 0, false⟩).toArray 50)).heap.size) := (Array.getElem?_eq_some_iff.1 hkO.out).1
      clear kc1 kc3 hkV hbV hbT d0 d1 d2 d3 hB hSv hSu
      generalize (wr.alloc (.cells (Vc.row ⟨v0, v1, v2, v3⟩) 26)).alloc (.cells (fT ⟨⟨(j : Int) + 1, 7, false, false, ⟨0, 0, 0, 0⟩⟩, false, 0, 0, 0, 0, 0, 0, false⟩).toArray 50) = w4 at *
      refine hide ?_
      refine wpList_append_sl rfl (.tmp 56) (.tmp 61) rfl wide_T sty_T u6 L1 rfl hS3.out ⟨wr.heap.size + 1, 0, none⟩ 1 1 [p1] rfl rfl (fun x u hx => ?_) (by simp; omega) (by omega) ?_
      · rw [Addr.add_lit, cell_of_row _ _ _ _ _ _ hkT.out, ← hx, hq1.out]
        simp [flat]
      intro v5 w5 hS5 hg5 ho5
      rw [hP1.out] at hS5
      have hU5 := hide (hU3.out.blk (w' := w5) fun b e => hg5.block b (by have := hul.out b e; have := hgl.out; omega) (fun e' => hAp.out b e'.symm e))
      have hkO5 := (hg5.block wr.heap.size hgl.out (fun e => by have := hvl.out _ e.symm; omega)).trans hkO.out
      have kv0 : w5.cell? ⟨wr.heap.size, 0, none⟩ = some (.int .u64 v0) := (cell_of_row _ _ _ _ _ _ hkO5).trans rfl
      have kv1 : w5.cell? ⟨wr.heap.size, 1, none⟩ = some (.int .u64 v1) := (cell_of_row _ _ _ _ _ _ hkO5).trans rfl
      have kv2 : w5.cell? ⟨wr.heap.size, 2, none⟩ = some (.int .u64 v2) := (cell_of_row _ _ _ _ _ _ hkO5).trans rfl
      have kv3 : w5.cell? ⟨wr.heap.size, 3, none⟩ = some (.int .i64 v3) := (cell_of_row _ _ _ _ _ _ hkO5).trans rfl
      have hB5 : Hid (Below w.heap.size w w5) := grown_below hg5 hB3.out (by have := hgl.out; have := hsz.out; omega) hFv.out
      have hown5 : Hid (∀ x, v5.ownBlock = some x → (u6.ownBlock = some x ∨ x = w4.heap.size) ∧ x < w5.heap.size) := fun x e => ⟨by
        rcases ho5 with e1 | e1
        · rw [e1] at e; exact .inl e
        · rw [e1] at e; exact .inr (Option.some.inj e).symm, hS5.lt e⟩
      have hF5 : Hid (Fresh w.heap.size v5) := fun x e => by
        rcases (hown5.out x e).1 with e1 | e1
        · exact hFv.out x e1
        · have := hgl.out; have := hsz.out; omega
      have hA5 : Hid (∀ x, v5.ownBlock = some x → u7.ownBlock ≠ some x) := fun x e e' => by
        rcases (hown5.out x e).1 with e1 | e1
        · exact hAp.out x e1 e'
        · have := hul.out x e'; have := hgl.out; omega
      have h45 : Hid (w4.heap.size ≤ w5.heap.size) := hg5.size
      obtain ⟨av, cv, rfl⟩ := hS5.shape
      generalize hln : W1.length = ln1 at *
      replace hln := hide hln
      replace hS5 := hide hS5
      clear hg5 ho5 hS3 hU3 hB3 hkT hkO hkO5 hq1 hP1 hvl hAp hFv
      go_wp2_with (at_builtin; refine unhB ?_)
      have hbR := hide (below1 w5 (.cells (fP ⟨(j : Int) + 1, 7, true, true, ⟨v0, v1, v2, v3⟩⟩).toArray 38))
      have hkR := hide (heap_alloc_new w5 (.cells (fP ⟨(j : Int) + 1, 7, true, true, ⟨v0, v1, v2, v3⟩⟩).toArray 38))
      have hsR : Hid ((w5.alloc (.cells (fP ⟨(j : Int) + 1, 7, true, true, ⟨v0, v1, v2, v3⟩⟩).toArray 38)).heap.size = w5.heap.size + 1) := World.size_alloc _ _
      have hS6 := hide (hS5.out.below hbR.out)
      have hU6 := hide (hU5.out.below hbR.out)
      have hB6 := hide (hB5.out.later hbR.out)
      clear kv0 kv1 kv2 kv3 hbR hS5 hU5 hB5
      generalize w5.alloc (.cells (fP ⟨(j : Int) + 1, 7, true, true, ⟨v0, v1, v2, v3⟩⟩).toArray 38) = w6 at *
      refine hide ?_
      refine wpList_append_sl rfl (.tmp 63) (.tmp 68) rfl wide_P sty_P u7 L2 rfl hU6.out ⟨w5.heap.size, 0, none⟩ 1 1 [p2] rfl rfl (fun x u hx => ?_) (by simp; omega) (by omega) ?_
      · rw [Addr.add_lit, cell_of_row _ _ _ _ _ _ hkR.out, ← hx, hq2.out]
        simp [flat]
      intro v7 w7 hS7 hg7 ho7
      rw [hP2.out] at hS7
      have hV7 := hide (hS6.out.blk (w' := w7) fun b e => hg7.block b (by have := (hown5.out b e).2; have := hsR.out; omega) (fun e' => hA5.out b e e'.symm))
      have hB7 : Hid (Below w.heap.size w w7) := grown_below hg7 hB6.out (by have := hgl.out; have := hsz.out; have := h45.out; have := hsR.out; omega) hFu.out
      have hF7 : Hid (Fresh w.heap.size v7) := fun x e => by
        rcases ho7 with e1 | e1
        · rw [e1] at e; exact hFu.out x e
        · rw [e1] at e; have e2 : w6.heap.size = x := Option.some.inj e; have := hgl.out; have := hsz.out; have := h45.out; have := hsR.out; omega
      have hA7 : Hid (∀ x, (Value.slice av ln1 cv).ownBlock = some x → v7.ownBlock ≠ some x) := fun x e e' => by
        rcases ho7 with e1 | e1
        · rw [e1] at e'; exact hA5.out x e e'
        · rw [e1] at e'; have e2 : w6.heap.size = x := Option.some.inj e'; have := (hown5.out x e).2; have := hsR.out; omega
      obtain ⟨au, cu, rfl⟩ := hS7.shape
      generalize hln2 : W2.length = ln2 at *
      replace hln2 := hide hln2
      replace hS7 := hide hS7
      clear hg7 ho7 hS6 hU6 hB6 hkR hq2 hP2 hFu hA5 hown5 hsR h45 hgl hsz hul
      go_wp2
      go_round
      case rel => exact ⟨j + 1, by omega, by go_num, hB7, by rw [hw1'.out]; exact hV7, by rw [hw2'.out]; exact hS7, hF5, hF7, hA7, hfit2⟩
      case measure => simp [intOf]; omega
    · obtain rfl : n = j := by omega
      obtain ⟨a1, c1, rfl, hc1, hcn1, hT1⟩ := hSv.out.tps (wrPs_wf n (by omega))
      rw [wrPs_len] at hc1 hT1 ⊢
      obtain ⟨au, cu, hue⟩ := hSu.out.shape
      rw [hrPs_len] at hue
      subst hue
      have hwfl : Hid (∀ i, i < n → (l.getD i Vc.zero).wf) := fun i hi => by
        obtain ⟨_, _, _, _, _, _, _, h⟩ := hI.out i hi
        exact h
      have hEnd := hide (wr_end id l n hid (by omega) hfit.out hwfl.out)
      have hYwf := hide (bestW_wfS id l n hid (by omega) hwfl.out)
      have hnew := hide (ONew id a1 n c1 (wrPs n) wr (fun k => k < w.heap.size ∨ (Value.slice au n cu).ownBlock = some k) (fun k hk => by
        rcases hk with h | h
        · exact Nat.lt_of_lt_of_le h hB.out.size
        · exact hSu.out.lt h) hid (by omega) hc1 hcn1 hT1)
      clear hSv hFv hAp hc1 hcn1 hT1 hlt hj
      go_wp2_with fail
      refine hnew.out.mono ?_
      rintro e w4 ⟨tb, rfl, hO4, hb4⟩
      have hB4 := hide (hB.out.later hb4)
      have hU4 := hide (hSu.out.below hb4)
      replace hO4 := hide hO4
      clear hnew hb4 hB hSu
      go_wp2_with fail
      go_loopw [76] (fun i wr => ∃ j : Nat, j ≤ n ∧ i = .int .i64 j ∧ Hid (Ow wr tb (fun k => k < w.heap.size ∨ (Value.slice au n cu).ownBlock = some k) (0 + 80 * j) (wrL (newT id (wrPs n)) l j)) ∧ Hid (Below w.heap.size w wr) ∧ Hid (Sl wr (.slice au n cu) 38 8 fP (hrPs l n))) (fun i _ => n - (intOf i).toNat)
      case atStart => exact ⟨0, Nat.zero_le _, rfl, hO4, hB4, hU4⟩
      case round =>
        obtain ⟨j, hj, rfl, hO, hB, hU⟩ := hrel
        clear hO4 hB4 hU4
        by_cases hlt : j < n
        · obtain ⟨bb, off, rfl, d0, d1, d2, d3, hwf⟩ := (hI.out.below hB.out) j hlt
          have hS1 : Hid (wrL (newT id (wrPs n)) l (j + 1) = recvT (linkT (wrL (newT id (wrPs n)) l j) j true) j (cfgM (l.getD j Vc.zero))) := rfl
          generalize hV1 : wrL (newT id (wrPs n)) l (j + 1) = V1 at *
          replace hV1 := hide hV1
          generalize wrL (newT id (wrPs n)) l j = V0 at *
          generalize l.getD j Vc.zero = v at *
          obtain ⟨v0, v1, v2, v3⟩ := v
          dsimp only at d0 d1 d2 d3
          have hcw : (cfgM ⟨v0, v1, v2, v3⟩).wf := ⟨by simp [I64, cfgM], hwf.root, hwf.cost, hwf.bridge, hwf.port, by simp [I64, cfgM], by simp [I64, cfgM], by simp [I64, cfgM], by simp [I64, cfgM], by simp [I64, cfgM]⟩
          have hbV := below1 wr (.cells (Vc.row ⟨v0, v1, v2, v3⟩) 26)
          have hkV := hide (heap_alloc_new wr (.cells (Vc.row ⟨v0, v1, v2, v3⟩) 26))
          have hO5 := hO.out.fresh hbV (fun k => (k < w.heap.size ∨ (Value.slice au n cu).ownBlock = some k) ∨ k = wr.heap.size) (fun k hk => by
            rcases hk with h | h
            · exact .inl h
            · exact .inr ⟨by omega, by rw [World.size_alloc]; omega⟩)
          have hl5 := hide (OLink hO5 (by omega) (j : Int) true)
          have hB5 := hide (hB.out.later hbV)
          have hU5 := hide (hU.out.below hbV)
          clear hbV hO5 hO hB hU hwf
          go_wp2_with fail
          generalize wr.alloc (.cells (Vc.row ⟨v0, v1, v2, v3⟩) 26) = w5 at *
          refine hl5.out.mono ?_
          rintro e w6 ⟨rfl, hO6, hK6⟩
          have hk6 := (hK6.block wr.heap.size (.inr rfl)).trans hkV.out
          have kv0 : w6.cell? ⟨wr.heap.size, 0, none⟩ = some (.int .u64 v0) := (cell_of_row _ _ _ _ _ _ hk6).trans rfl
          have kv1 : w6.cell? ⟨wr.heap.size, 1, none⟩ = some (.int .u64 v1) := (cell_of_row _ _ _ _ _ _ hk6).trans rfl
          have kv2 : w6.cell? ⟨wr.heap.size, 2, none⟩ = some (.int .u64 v2) := (cell_of_row _ _ _ _ _ _ hk6).trans rfl
          have kv3 : w6.cell? ⟨wr.heap.size, 3, none⟩ = some (.int .i64 v3) := (cell_of_row _ _ _ _ _ _ hk6).trans rfl
          have hB6 := hide (hK6.below hB5.out (fun k hk => .inl (.inl hk)))
          have hU6 := hide (hU5.out.blk (w' := w6) fun b e => hK6.block b (.inl (.inr e)))
          have hr6 := hide (OReceive hO6 (by omega) (j : Int) (cfgM ⟨v0, v1, v2, v3⟩) hcw)
          clear hl5 hK6 hk6 hkV hB5 hU5 hO6 hcw d0 d1 d2 d3
          go_wp2_with fail
          refine hr6.out.mono ?_
          rintro e w7 ⟨rfl, hO7, hK7⟩
          have hB7 := hide (hK7.below hB6.out (fun k hk => .inl (.inl hk)))
          have hU7 := hide (hU6.out.blk (w' := w7) fun b e => hK7.block b (.inl (.inr e)))
          have hO8 := hide ((hO7.mono (A' := fun k => k < w.heap.size ∨ (Value.slice au n cu).ownBlock = some k) (fun k hk => .inl hk)).le (show 0 + 80 * j + 40 + 40 ≤ 0 + 80 * (j + 1) by omega))
          rw [← hS1.out] at hO8
          clear hr6 hK7 kv0 kv1 kv2 kv3 hB6 hU6 hO7
          go_wp2
          go_round
          case rel => exact ⟨j + 1, by omega, by go_num, by rw [hV1.out]; exact hO8, hB7, hU7⟩
          case measure => simp [intOf]; omega
        · obtain rfl : n = j := by omega
          obtain ⟨hFn, hy, hrp, hat⟩ := hEnd.out
          generalize wrL (newT id (wrPs n)) l n = T at *
          have hRps : Hid (Rps wr au n (hrPs l n)) := by
            obtain ⟨a', c', e', hR⟩ := hU.out.rps (fun i hi => by rw [hrPs_len] at hi; rw [hrPs_at l n i hi]; exact hrP_wf i (by omega) (hwfl.out i hi))
            rw [hrPs_len] at e' hR
            simp only [Value.slice.injEq] at e'
            obtain ⟨rfl, -, -⟩ := e'
            exact hR
          have hsel := hide (Select_any id au n cu (hrPs l n) wr (by omega) hRps)
          replace hFn := hide hFn
          replace hat := hide hat
          have hRo := hide (fun (W : World) (h : Below wr.heap.size wr W) => ORoot (hO.out.below h))
          rw [hy, hrp] at hRo
          clear hy hrp hEnd hU hRps
          generalize bestW id (hrPs l n) n = Y at *
          obtain ⟨⟨y0, y1, y2, y3⟩, pl, yi⟩ := Y
          dsimp only at *
          have hRL : Hid ((rolesL id (hrPs l n)).length = n) := by show _ = _; rw [rolesL_len, hrPs_len]
          generalize rolesL id (hrPs l n) = RL at *
          go_wp2_with fail
          refine hsel.out.mono ?_
          rintro e w5 ⟨ib, vb, rfl, hb5, hle1, hle2, hne, hi5, hv5⟩
          replace hb5 := hide hb5
          replace hi5 := hide hi5
          clear hsel hv5
          go_wp2_with ((with_reducible change wpList _ _ _ _ _ _); refine wpList_store_fresh rfl 30 (.tmp 12) (.tmp 92) rfl (rolesRow ⟨y0, y1, y2, y3⟩ pl (.slice (some ⟨ib, 0, none⟩) n n) (.slice (some ⟨vb, 0, none⟩) n n)) (rolesRow Vc.zero 0 (.slice none 0 0) (.slice none 0 0)) rfl rfl 30 (rolesSize Vc.zero 0 (.bool true) (.bool true)) rfl (by simp [Value.oneCell']) ?_; intro w6 hH6 hb6; refine unhB ?_)
          have hb7 := hide (hb5.out.later hb6)
          have hr6 := hide (hRo.out _ hb7.out)
          have hi6 := hide (hi5.out.below hb6)
          replace hH6 := hide hH6
          have hg5 : Hid (w5.heap.size < w6.heap.size) := (Array.getElem?_eq_some_iff.1 hH6.out).1
          clear hRo hb5 hb6 hi5
          refine hide ?_
          go_wp2_with fail
          refine hr6.out.mono ?_
          rintro e w7 ⟨rfl, hb8⟩
          have hbv := hb8.later (below1 w7 (.cells (Vc.row ⟨y0, y1, y2, y3⟩) 26))
          have hb9 := hide (hb7.out.later hbv)
          have hH9 := hide (heap_kept hbv hH6.out)
          have hi9 := hide (hi6.out.below hbv)
          have hV9 := hide (heap_alloc_new w7 (.cells (Vc.row ⟨y0, y1, y2, y3⟩) 26))
          have k0 : (w7.alloc (.cells (Vc.row ⟨y0, y1, y2, y3⟩) 26)).cell? ⟨w5.heap.size, 0, none⟩ = some (.int .u64 y0) := (cell_of_row _ _ _ _ _ _ hH9.out).trans rfl
          have k1 : (w7.alloc (.cells (Vc.row ⟨y0, y1, y2, y3⟩) 26)).cell? ⟨w5.heap.size, 1, none⟩ = some (.int .u64 y1) := (cell_of_row _ _ _ _ _ _ hH9.out).trans rfl
          have k2 : (w7.alloc (.cells (Vc.row ⟨y0, y1, y2, y3⟩) 26)).cell? ⟨w5.heap.size, 2, none⟩ = some (.int .u64 y2) := (cell_of_row _ _ _ _ _ _ hH9.out).trans rfl
          have k3 : (w7.alloc (.cells (Vc.row ⟨y0, y1, y2, y3⟩) 26)).cell? ⟨w5.heap.size, 3, none⟩ = some (.int .i64 y3) := (cell_of_row _ _ _ _ _ _ hH9.out).trans rfl
          have k4 : (w7.alloc (.cells (Vc.row ⟨y0, y1, y2, y3⟩) 26)).cell? ⟨w5.heap.size, 4, none⟩ = some (.int .i64 pl) := (cell_of_row _ _ _ _ _ _ hH9.out).trans rfl
          have q0 : (w7.alloc (.cells (Vc.row ⟨y0, y1, y2, y3⟩) 26)).cell? ⟨w7.heap.size, 0, none⟩ = some (.int .u64 y0) := (cell_of_row _ _ _ _ _ _ hV9.out).trans rfl
          have q1 : (w7.alloc (.cells (Vc.row ⟨y0, y1, y2, y3⟩) 26)).cell? ⟨w7.heap.size, 1, none⟩ = some (.int .u64 y1) := (cell_of_row _ _ _ _ _ _ hV9.out).trans rfl
          have q2 : (w7.alloc (.cells (Vc.row ⟨y0, y1, y2, y3⟩) 26)).cell? ⟨w7.heap.size, 2, none⟩ = some (.int .u64 y2) := (cell_of_row _ _ _ _ _ _ hV9.out).trans rfl
          have q3 : (w7.alloc (.cells (Vc.row ⟨y0, y1, y2, y3⟩) 26)).cell? ⟨w7.heap.size, 3, none⟩ = some (.int .i64 y3) := (cell_of_row _ _ _ _ _ _ hV9.out).trans rfl
          have hneq : ∀ W : World, (binOp .neq 26 (.agg #[.int .u64 y0, .int .u64 y1, .int .u64 y2, .int .i64 y3]) (.agg #[.int .u64 y0, .int .u64 y1, .int .u64 y2, .int .i64 y3])).run Try.prog W = .ok (.bool false) W := fun W => by
            have := vec_neq ⟨y0, y1, y2, y3⟩ ⟨y0, y1, y2, y3⟩ hYwf.out hYwf.out W
            simpa using this
          have hp9 := hide (OPorts (hO.out.below hb9.out))
          clear hr6 hb8 hbv hb7 hH6 hi6
          go_wp2_with fail
          clear k0 k1 k2 k3 k4 q0 q1 q2 q3 hneq
          generalize w7.alloc (.cells (Vc.row ⟨y0, y1, y2, y3⟩) 26) = w9 at *
          generalize w7.heap.size = g13 at *
          refine hp9.out.mono ?_
          rintro e w10 ⟨v10, rfl, hS10, hb10, hf10⟩
          obtain ⟨a10, c10, rfl, -, -, hT10⟩ := hS10.tps (fun i hi => (at_ok hFn.out.ok i).b)
          rw [hFn.out.len] at hT10 ⊢
          replace hT10 := hide hT10
          have hH10 := hide (heap_kept hb10 hH9.out)
          have hi10 := hide (hi9.out.below hb10)
          have hV10 := hide (heap_kept hb10 hV9.out)
          have hb11 := hide (hb9.out.later hb10)
          clear hp9 hS10 hb10 hf10 hb9 hH9 hi9 hV9
          go_wp2_with fail
          go_loopw [111] (fun i wr => ∃ x : Nat, x ≤ n ∧ i = .int .i64 x ∧ Hid (Below w10.heap.size w10 wr)) (fun i _ => n - (intOf i).toNat)
          case atStart => exact ⟨0, Nat.zero_le _, rfl, hide (Below.refl _ _)⟩
          case round =>
            obtain ⟨x, hx, rfl, hbx⟩ := hrel
            have hBx := hide (hB.out.later (hb11.out.later hbx.out))
            by_cases hxl : x < n
            · obtain ⟨pb, off8, rfl, hpt, -⟩ := (hT10.out.below hbx.out).2 x hxl
              obtain ⟨bb, off, rfl, d0, d1, d2, d3, hwf⟩ := (hI.out.below hBx.out) x hxl
              obtain ⟨f1, f2⟩ := hat.out x hxl
              have hrg0 := hpt.range
              have hTx : Hid (T.ps.getD x Tp.zero = T.at x) := rfl
              rw [hTx.out] at hrg0
              have hri := (hi10.out.below hbx.out).cell wide_I 0 x 0 (by rw [hRL.out]; exact hxl) (by omega)
              rw [← f1, Nat.mul_one, Nat.add_zero] at hri
              replace hrg0 := hide hrg0
              clear hpt hTx
              generalize T.at x = tp at *
              generalize l.getD x Vc.zero = v at *
              obtain ⟨v0, v1, v2, v3⟩ := v
              obtain ⟨⟨pid, cost, up, has, ⟨x0, x1, x2, x3⟩⟩, ed, ro, st, age, left, wait, ch, agr⟩ := tp
              dsimp only at f2 d0 d1 d2 d3
              simp only [Vc.mk.injEq] at f2
              obtain ⟨rfl, rfl, rfl, rfl⟩ := f2
              have hri' : wr.cell? ⟨ib, x, none⟩ = some (.int .i64 ro) := hri
              have hrg := hrg0.out
              have hneq : ∀ W : World, (binOp .neq 26 (.agg #[.int .u64 x0, .int .u64 x1, .int .u64 x2, .int .i64 x3]) (.agg #[.int .u64 x0, .int .u64 x1, .int .u64 x2, .int .i64 x3])).run Try.prog W = .ok (.bool false) W := fun W => by
                have := vec_neq ⟨x0, x1, x2, x3⟩ ⟨x0, x1, x2, x3⟩ hwf hwf W
                simpa using this
              have hroq : (ro != ro) = false := bne_no8 rfl
              have hHx := heap_kept hbx.out hH10.out
              have c5 : wr.cell? ⟨w5.heap.size, 5, none⟩ = some (.slice (some ⟨ib, 0, none⟩) n n) := (cell_of_row _ _ _ _ _ _ hHx).trans rfl
              have hbbl : bb < wr.heap.size := block_lt_of_cell d0
              have hibl : ib < wr.heap.size := block_lt_of_cell hri'
              have hg5l : w5.heap.size < wr.heap.size := block_lt_of_cell c5
              replace d0 := hide d0
              replace d1 := hide d1
              replace d2 := hide d2
              replace d3 := hide d3
              replace hri' := hide hri'
              replace c5 := hide c5
              clear hri f1 hwf hrg0 hHx
              go_wp2_with (first | ((with_reducible change wpList _ _ _ _ _ _); refine wpList_load_mid rfl 50 (.tmp 114) rfl pb (off8 + x * 16) rfl (fT ⟨⟨pid, cost, up, has, ⟨x0, x1, x2, x3⟩⟩, ed, ro, st, age, left, wait, ch, agr⟩) _ hrg Try.underlying50 rfl (tpLen _) ?_) | ((with_reducible change wpList _ _ _ _ _ _); refine wpList_store_fresh rfl 50 (.tmp 16) (.tmp 115) rfl (Tp.row ⟨⟨pid, cost, up, has, ⟨x0, x1, x2, x3⟩⟩, ed, ro, st, age, left, wait, ch, agr⟩) Tp.zero.row rfl rfl 50 (tpSize _) rfl (Tp.row_all _) ?_; intro w12 hH12 hb12; refine unhB ?_))
              have hbd : Below wr.heap.size wr w12.drew := below_drewN hb12 1
              have hSS : Hid (w12.drew.cell? ⟨wr.heap.size, 9, none⟩ = some (.int .i64 ro) ∧ w12.drew.cell? ⟨wr.heap.size, 4, none⟩ = some (.int .u64 x0) ∧ w12.drew.cell? ⟨wr.heap.size, 5, none⟩ = some (.int .u64 x1) ∧ w12.drew.cell? ⟨wr.heap.size, 6, none⟩ = some (.int .u64 x2) ∧ w12.drew.cell? ⟨wr.heap.size, 7, none⟩ = some (.int .i64 x3) ∧ w12.drew.cell? ⟨w5.heap.size, 5, none⟩ = some (.slice (some ⟨ib, 0, none⟩) n n) ∧ w12.drew.cell? ⟨ib, x, none⟩ = some (.int .i64 ro) ∧ w12.drew.cell? ⟨bb, off + x * 4, none⟩ = some (.int .u64 x0) ∧ w12.drew.cell? ⟨bb, off + x * 4 + 1, none⟩ = some (.int .u64 x1) ∧ w12.drew.cell? ⟨bb, off + x * 4 + 2, none⟩ = some (.int .u64 x2) ∧ w12.drew.cell? ⟨bb, off + x * 4 + 3, none⟩ = some (.int .i64 x3)) := by
                have hH12d : w12.drew.heap[wr.heap.size]? = _ := hH12
                have hq := (bcell hbd).1
                exact ⟨(cell_of_row _ _ _ _ _ _ hH12d).trans rfl, (cell_of_row _ _ _ _ _ _ hH12d).trans rfl, (cell_of_row _ _ _ _ _ _ hH12d).trans rfl, (cell_of_row _ _ _ _ _ _ hH12d).trans rfl, (cell_of_row _ _ _ _ _ _ hH12d).trans rfl, (hq _ _ hg5l).trans c5.out, (hq _ _ hibl).trans hri'.out, (hq _ _ hbbl).trans d0.out, (hq _ _ hbbl).trans d1.out, (hq _ _ hbbl).trans d2.out, (hq _ _ hbbl).trans d3.out⟩
              have hby := hide (hbx.out.later hbd)
              clear hH12 hb12 hrg hbx hbd d0 d1 d2 d3 hri' c5 hBx
              refine hide ?_
              go_wp2_with fail
              refine wp_region_noPanic ?_
              refine wp_region_held_drew (S := fun W => W.cell? ⟨wr.heap.size, 9, none⟩ = some (.int .i64 ro) ∧ W.cell? ⟨wr.heap.size, 4, none⟩ = some (.int .u64 x0) ∧ W.cell? ⟨wr.heap.size, 5, none⟩ = some (.int .u64 x1) ∧ W.cell? ⟨wr.heap.size, 6, none⟩ = some (.int .u64 x2) ∧ W.cell? ⟨wr.heap.size, 7, none⟩ = some (.int .i64 x3) ∧ W.cell? ⟨w5.heap.size, 5, none⟩ = some (.slice (some ⟨ib, 0, none⟩) n n) ∧ W.cell? ⟨ib, x, none⟩ = some (.int .i64 ro) ∧ W.cell? ⟨bb, off + x * 4, none⟩ = some (.int .u64 x0) ∧ W.cell? ⟨bb, off + x * 4 + 1, none⟩ = some (.int .u64 x1) ∧ W.cell? ⟨bb, off + x * 4 + 2, none⟩ = some (.int .u64 x2) ∧ W.cell? ⟨bb, off + x * 4 + 3, none⟩ = some (.int .i64 x3)) (by kernel_rfl) hSS.out (fun hHeld => ?_)
              refine wpAnyH_take (i := 0) (oi := { dst := some 116, op := Op.fieldAddr 50 (Operand.tmp 16) 2, type := 0, pos := "top05.go:40", after := #[], guard := none }) (v := ?v1) rfl (by kernel_rfl) (by kernel_rfl) (by kernel_rfl) (fun _ _ _ h => h) (Or.inl ⟨by rfl, ?y1⟩) (by assumption) ?r1
              case y1 => (intro w hSw; (try dsimp only at hSw); (try (go_split_ands)); go_simp; try with_reducible rfl)
              try simp only [Act.put, List.setIfInBounds_toArray, List.set_cons_zero, List.set_cons_succ]
              refine wpAnyH_take (i := 1) (oi := { dst := some 117, op := Op.load 3 (Operand.tmp 116), type := 3, pos := "top05.go:40", after := #[{ on := 0, ground := Ground.data }], guard := none }) (v := ?v2) rfl (by kernel_rfl) (by kernel_rfl) (by kernel_rfl) (fun _ _ _ h => h) (Or.inl ⟨by rfl, ?y2⟩) (by assumption) ?r2
              case y2 => (intro w hSw; (try dsimp only at hSw); (try (go_split_ands)); go_simp; try with_reducible rfl)
              try simp only [Act.put, List.setIfInBounds_toArray, List.set_cons_zero, List.set_cons_succ]
              refine wpAnyH_take (i := 2) (oi := { dst := some 118, op := Op.fieldAddr 30 (Operand.tmp 12) 2, type := 0, pos := "top05.go:40", after := #[], guard := none }) (v := ?v3) rfl (by kernel_rfl) (by kernel_rfl) (by kernel_rfl) (fun _ _ _ h => h) (Or.inl ⟨by rfl, ?y3⟩) (by assumption) ?r3
              case y3 => (intro w hSw; (try dsimp only at hSw); (try (go_split_ands)); go_simp; try with_reducible rfl)
              try simp only [Act.put, List.setIfInBounds_toArray, List.set_cons_zero, List.set_cons_succ]
              refine wpAnyH_take (i := 3) (oi := { dst := some 119, op := Op.load 27 (Operand.tmp 118), type := 27, pos := "top05.go:40", after := #[{ on := 2, ground := Ground.data }], guard := none }) (v := ?v4) rfl (by kernel_rfl) (by kernel_rfl) (by kernel_rfl) (fun _ _ _ h => h) (Or.inl ⟨by rfl, ?y4⟩) (by assumption) ?r4
              case y4 => (intro w hSw; (try dsimp only at hSw); (try (go_split_ands)); go_simp; try with_reducible rfl)
              try simp only [Act.put, List.setIfInBounds_toArray, List.set_cons_zero, List.set_cons_succ]
              refine wpAnyH_take (i := 4) (oi := { dst := some 120, op := Op.move (Operand.tmp 15), type := 3, pos := "top05.go:40", after := #[], guard := none }) (v := ?v5) rfl (by kernel_rfl) (by kernel_rfl) (by kernel_rfl) (fun _ _ _ h => h) (Or.inl ⟨by rfl, ?y5⟩) (by assumption) ?r5
              case y5 => (intro w hSw; (try dsimp only at hSw); (try (go_split_ands)); go_simp; try with_reducible rfl)
              try simp only [Act.put, List.setIfInBounds_toArray, List.set_cons_zero, List.set_cons_succ]
              refine wpAnyH_take (i := 5) (oi := { dst := some 121, op := Op.indexAddr 27 (Operand.tmp 119) (Operand.tmp 120), type := 0, pos := "top05.go:40", after := #[{ on := 3, ground := Ground.data }, { on := 4, ground := Ground.data }], guard := none }) (v := ?v6) rfl (by kernel_rfl) (by kernel_rfl) (by kernel_rfl) (fun _ _ _ h => h) (Or.inl ⟨by rfl, ?y6⟩) (by assumption) ?r6
              case y6 => (intro w hSw; (try dsimp only at hSw); (try (go_split_ands)); go_simp; try with_reducible rfl)
              try simp only [Act.put, List.setIfInBounds_toArray, List.set_cons_zero, List.set_cons_succ]
              refine wpAnyH_take (i := 6) (oi := { dst := some 122, op := Op.load 3 (Operand.tmp 121), type := 3, pos := "top05.go:40", after := #[{ on := 5, ground := Ground.data }], guard := none }) (v := ?v7) rfl (by kernel_rfl) (by kernel_rfl) (by kernel_rfl) (fun _ _ _ h => h) (Or.inl ⟨by rfl, ?y7⟩) (by assumption) ?r7
              case y7 => (intro w hSw; (try dsimp only at hSw); (try (go_split_ands)); go_simp; try with_reducible rfl)
              try simp only [Act.put, List.setIfInBounds_toArray, List.set_cons_zero, List.set_cons_succ]
              refine wpAnyH_take (i := 7) (oi := { dst := some 123, op := Op.binOp BinOp.neq 3 (Operand.tmp 117) (Operand.tmp 122) 3, type := 4, pos := "top05.go:40", after := #[{ on := 1, ground := Ground.data }, { on := 6, ground := Ground.data }], guard := none }) (v := ?v8) rfl (by kernel_rfl) (by kernel_rfl) (by kernel_rfl) (fun _ _ _ h => h) (Or.inl ⟨by rfl, ?y8⟩) (by assumption) ?r8
              case y8 => (intro w hSw; (try dsimp only at hSw); (try (go_split_ands)); go_simp; try with_reducible rfl)
              try simp only [Act.put, List.setIfInBounds_toArray, List.set_cons_zero, List.set_cons_succ]
              refine wpAnyH_take (i := 8) (oi := { dst := some 124, op := Op.move (Operand.tmp 123), type := 4, pos := "top05.go:40", after := #[{ on := 7, ground := Ground.data }], guard := none }) (v := ?v9) rfl (by kernel_rfl) (by kernel_rfl) (by kernel_rfl) (fun _ _ _ h => h) (Or.inl ⟨by rfl, ?y9⟩) (by assumption) ?r9
              case y9 => (intro w hSw; (try dsimp only at hSw); (try (go_split_ands)); go_simp; try with_reducible rfl)
              try simp only [Act.put, List.setIfInBounds_toArray, List.set_cons_zero, List.set_cons_succ]
              refine wpAnyH_take (i := 9) (oi := { dst := some 125, op := Op.fieldAddr 50 (Operand.tmp 16) 0, type := 0, pos := "top05.go:40", after := #[{ on := 8, ground := Ground.guard }], guard := some (8, false) }) (v := ?v10) rfl (by kernel_rfl) (by kernel_rfl) (by kernel_rfl) (fun _ _ _ h => h) (Or.inl ⟨by rfl, ?y10⟩) (by assumption) ?r10
              case y10 => (intro w hSw; (try dsimp only at hSw); (try (go_split_ands)); go_simp; try with_reducible rfl)
              try simp only [Act.put, List.setIfInBounds_toArray, List.set_cons_zero, List.set_cons_succ]
              refine wpAnyH_take (i := 10) (oi := { dst := some 126, op := Op.fieldAddr 38 (Operand.tmp 125) 4, type := 0, pos := "top05.go:40", after := #[{ on := 9, ground := Ground.data }, { on := 8, ground := Ground.guard }], guard := some (8, false) }) (v := ?v11) rfl (by kernel_rfl) (by kernel_rfl) (by kernel_rfl) (fun _ _ _ h => h) (Or.inl ⟨by rfl, ?y11⟩) (by assumption) ?r11
              case y11 => (intro w hSw; (try dsimp only at hSw); (try (go_split_ands)); go_simp; try with_reducible rfl)
              try simp only [Act.put, List.setIfInBounds_toArray, List.set_cons_zero, List.set_cons_succ]
              refine wpAnyH_take (i := 11) (oi := { dst := some 127, op := Op.load 26 (Operand.tmp 126), type := 26, pos := "top05.go:40", after := #[{ on := 10, ground := Ground.data }, { on := 8, ground := Ground.guard }], guard := some (8, false) }) (v := ?v12) rfl (by kernel_rfl) (by kernel_rfl) (by kernel_rfl) (fun _ _ _ h => h) (Or.inl ⟨by rfl, ?y12⟩) (by assumption) ?r12
              case y12 => (intro w hSw; (try dsimp only at hSw); (try (go_split_ands)); go_simp; try with_reducible rfl)
              try simp only [Act.put, List.setIfInBounds_toArray, List.set_cons_zero, List.set_cons_succ]
              refine wpAnyH_take (i := 12) (oi := { dst := some 128, op := Op.move (Operand.tmp 1), type := 28, pos := "top05.go:40", after := #[{ on := 8, ground := Ground.guard }], guard := some (8, false) }) (v := ?v13) rfl (by kernel_rfl) (by kernel_rfl) (by kernel_rfl) (fun _ _ _ h => h) (Or.inl ⟨by rfl, ?y13⟩) (by assumption) ?r13
              case y13 => (intro w hSw; (try dsimp only at hSw); (try (go_split_ands)); go_simp; try with_reducible rfl)
              try simp only [Act.put, List.setIfInBounds_toArray, List.set_cons_zero, List.set_cons_succ]
              refine wpAnyH_take (i := 13) (oi := { dst := some 129, op := Op.move (Operand.tmp 15), type := 3, pos := "top05.go:40", after := #[{ on := 8, ground := Ground.guard }], guard := some (8, false) }) (v := ?v14) rfl (by kernel_rfl) (by kernel_rfl) (by kernel_rfl) (fun _ _ _ h => h) (Or.inl ⟨by rfl, ?y14⟩) (by assumption) ?r14
              case y14 => (intro w hSw; (try dsimp only at hSw); (try (go_split_ands)); go_simp; try with_reducible rfl)
              try simp only [Act.put, List.setIfInBounds_toArray, List.set_cons_zero, List.set_cons_succ]
              refine wpAnyH_take (i := 14) (oi := { dst := some 130, op := Op.indexAddr 28 (Operand.tmp 128) (Operand.tmp 129), type := 0, pos := "top05.go:40", after := #[{ on := 12, ground := Ground.data }, { on := 13, ground := Ground.data }, { on := 8, ground := Ground.guard }], guard := some (8, false) }) (v := ?v15) rfl (by kernel_rfl) (by kernel_rfl) (by kernel_rfl) (fun _ _ _ h => h) (Or.inl ⟨by rfl, ?y15⟩) (by assumption) ?r15
              case y15 => (intro w hSw; (try dsimp only at hSw); (try (go_split_ands)); go_simp; try with_reducible rfl)
              try simp only [Act.put, List.setIfInBounds_toArray, List.set_cons_zero, List.set_cons_succ]
              refine wpAnyH_take (i := 15) (oi := { dst := some 131, op := Op.load 26 (Operand.tmp 130), type := 26, pos := "top05.go:40", after := #[{ on := 14, ground := Ground.data }, { on := 8, ground := Ground.guard }], guard := some (8, false) }) (v := ?v16) rfl (by kernel_rfl) (by kernel_rfl) (by kernel_rfl) (fun _ _ _ h => h) (Or.inl ⟨by rfl, ?y16⟩) (by assumption) ?r16
              case y16 => (intro w hSw; (try dsimp only at hSw); (try (go_split_ands)); go_simp; try with_reducible rfl)
              try simp only [Act.put, List.setIfInBounds_toArray, List.set_cons_zero, List.set_cons_succ]
              refine wpAnyH_take (i := 16) (oi := { dst := some 132, op := Op.binOp BinOp.neq 26 (Operand.tmp 127) (Operand.tmp 131) 26, type := 4, pos := "top05.go:40", after := #[{ on := 11, ground := Ground.data }, { on := 15, ground := Ground.data }, { on := 8, ground := Ground.guard }], guard := some (8, false) }) (v := ?v17) rfl (by kernel_rfl) (by kernel_rfl) (by kernel_rfl) (fun _ _ _ h => h) (Or.inl ⟨by rfl, ?y17⟩) (by assumption) ?r17
              case y17 => (intro w hSw; (try dsimp only at hSw); (try (go_split_ands)); go_simp; try with_reducible rfl)
              try simp only [Act.put, List.setIfInBounds_toArray, List.set_cons_zero, List.set_cons_succ]
              refine wpAnyH_take (i := 17) (oi := { dst := some 133, op := Op.pick (Operand.tmp 124) (Operand.const (Value.bool true)) (Operand.tmp 132), type := 4, pos := "top05.go:40", after := #[{ on := 8, ground := Ground.data }, { on := 16, ground := Ground.data }], guard := none }) (v := ?v18) rfl (by kernel_rfl) (by kernel_rfl) (by kernel_rfl) (fun _ _ _ h => h) (Or.inl ⟨by rfl, ?y18⟩) (by assumption) ?r18
              case y18 => (intro w hSw; (try dsimp only at hSw); (try (go_split_ands)); go_simp; try with_reducible rfl)
              try simp only [Act.put, List.setIfInBounds_toArray, List.set_cons_zero, List.set_cons_succ]
              refine wpAnyH_done (by kernel_rfl) ?_ _
              refine NoPanic.normal ?_
              clear hHeld hSS
              go_wp2
              go_round
              case rel => exact ⟨x + 1, by omega, by go_num, hby⟩
              case measure => simp [intOf]; omega
            · obtain rfl : n = x := by omega
              have hHx := heap_kept hbx.out hH10.out
              have hVx := heap_kept hbx.out hV10.out
              have k0 : wr.cell? ⟨w5.heap.size, 0, none⟩ = some (.int .u64 y0) := (cell_of_row _ _ _ _ _ _ hHx).trans rfl
              have k1 : wr.cell? ⟨w5.heap.size, 1, none⟩ = some (.int .u64 y1) := (cell_of_row _ _ _ _ _ _ hHx).trans rfl
              have k2 : wr.cell? ⟨w5.heap.size, 2, none⟩ = some (.int .u64 y2) := (cell_of_row _ _ _ _ _ _ hHx).trans rfl
              have k3 : wr.cell? ⟨w5.heap.size, 3, none⟩ = some (.int .i64 y3) := (cell_of_row _ _ _ _ _ _ hHx).trans rfl
              have q0 : wr.cell? ⟨g13, 0, none⟩ = some (.int .u64 y0) := (cell_of_row _ _ _ _ _ _ hVx).trans rfl
              have q1 : wr.cell? ⟨g13, 1, none⟩ = some (.int .u64 y1) := (cell_of_row _ _ _ _ _ _ hVx).trans rfl
              have q2 : wr.cell? ⟨g13, 2, none⟩ = some (.int .u64 y2) := (cell_of_row _ _ _ _ _ _ hVx).trans rfl
              have q3 : wr.cell? ⟨g13, 3, none⟩ = some (.int .i64 y3) := (cell_of_row _ _ _ _ _ _ hVx).trans rfl
              clear hHx hVx hH10 hV10 hi10 hT10 hbx
              by_cases hn0 : n = 0
              · have hnq : ((n : Int) == 0) = true := by rw [beq_iff_eq]; omega
                go_wp2
                go_ret
                exact ⟨rfl, hBx.out⟩
              · have hnq : ((n : Int) == 0) = false := by rw [beq_eq_false_iff_ne]; omega
                go_wp2_with fail
                refine (Compare_any ⟨y0, y1, y2, y3⟩ ⟨y0, y1, y2, y3⟩ _).mono ?_
                rintro e w13 ⟨rfl, hb13⟩
                rw [cmp_self]
                have hB13 := hide (hBx.out.later hb13)
                clear hb13 k0 k1 k2 k3 q0 q1 q2 q3
                go_wp2
                go_ret
                exact ⟨rfl, hB13.out⟩
end Go.Proofs.Ytaepjiakehkeoaa
