/-
  The contract of the statements' own 'ports'. Conditions: those that each theorem names.
  The contract of the statements' own 'grows': it answers true. Conditions: those that each theorem names.
-/
import Derived.Test.YtoejoneecanbbaaTree23
namespace Go.Proofs.Ytoejoneecanbbaa
open Go.RowKit
set_option linter.unusedVariables false
set_option maxRecDepth 20000

def portP (id : Int) : Tp := ⟨⟨id, 10, false, false, Vc.zero⟩, false, 0, 0, 0, 0, 0, 0, false⟩
/-- Numbers in a row. -/
def Ins (w : World) (a : Option Addr) (n : Nat) (l : List Int) : Prop := l.length = n ∧ ∀ i, i < n → ∃ b off, a = some ⟨b, off, none⟩ ∧ w.cell? ⟨b, off + i, none⟩ = some (.int .i64 (l.getD i 0))
theorem Ins.below {w w' : World} {a : Option Addr} {n : Nat} {l : List Int} (h : Ins w a n l) (hb : Below w.heap.size w w') : Ins w' a n l := by
  refine ⟨h.1, fun i hi => ?_⟩
  obtain ⟨b, off, e, hc⟩ := h.2 i hi
  exact ⟨b, off, e, ((bcell hb).1 _ _ (block_lt_of_cell hc)).trans hc⟩
theorem Fl.ins {w : World} {b : Nat} {t : TypeId} {l : List Int} {sp : List Value} (h : Fl w b t fI l sp) : Ins w (some ⟨b, 0, none⟩) l.length l := by
  refine ⟨rfl, fun i hi => ⟨b, 0, rfl, ?_⟩⟩
  have := h.cell wide_I 0 i 0 hi (by omega)
  rw [Nat.mul_one, Nat.add_zero] at this
  rw [Nat.zero_add, this]
  rfl
theorem Sl.ins {w : World} {v : Value} {t : TypeId} {l : List Int} (h : Sl w v t 1 fI l) : ∃ a cap, v = .slice a l.length cap ∧ Ins w a l.length l := by
  rcases h with ⟨rfl, rfl⟩ | ⟨b, cap, sp, rfl, h1, h2, h3, h4⟩
  · exact ⟨none, 0, rfl, rfl, fun i hi => by simp at hi⟩
  · exact ⟨_, cap, rfl, h1.ins⟩
theorem take_pushI {α : Type} (l : List α) (j : Nat) (d : α) (hj : j < l.length) : l.take j ++ [l.getD j d] = l.take (j + 1) := by
  rw [List.take_add_one, List.getElem?_eq_getElem hj]
  simp [hj]
theorem ports_any (a : Option Addr) (n cap : Nat) (l : List Int) (w : World) (hn : n ≤ 1000) (hI : Hid (Ins w a n l)) :
    Calls Try.prog 14 #[.slice a n cap] w fun r w' => ∃ v', r = .returned v' ∧ Sl w' v' 34 16 fT (l.map portP) ∧ Below w.heap.size w w' ∧ Fresh w.heap.size v' := by
  go_enter Try.func14, Try.ntmps14
  go_wp2_with fail
  go_loopw [8, 3] (fun i v wr => ∃ j : Nat, j ≤ n ∧ i = .int .i64 j ∧ Hid (Below w.heap.size w wr) ∧ Hid (Sl wr v 34 16 fT ((l.take j).map portP)) ∧ Hid (Fresh w.heap.size v)) (fun i _ _ => n - (intOf i).toNat)
  case atStart => exact ⟨0, Nat.zero_le _, rfl, hide (Below.refl _ _), by rw [List.take_zero]; exact Sl.nil _ _ _ _, fun x e => by simp [Value.ownBlock] at e⟩
  case round =>
    obtain ⟨j, hj, rfl, hB, hS, hO⟩ := hrel
    by_cases hlt : j < n
    · obtain ⟨bb, off, rfl, hP⟩ := (hI.out.below hB.out).2 j hlt
      have hTk : Hid ((l.take j).map portP ++ [portP (l.getD j 0)] = (l.take (j + 1)).map portP) := by show _ = _; rw [← take_pushI l j 0 (by rw [hI.out.1]; exact hlt), List.map_append]; rfl
      have hll : ((l.take j).map portP).length ≤ 1000 := by rw [List.length_map, List.length_take]; omega
      generalize hT1 : (l.take (j + 1)).map portP = lt1 at *
      generalize (l.take j).map portP = lt at *
      replace hT1 := hide hT1
      have hq : Hid (portP (l.getD j 0) = ⟨⟨l.getD j 0, 10, false, false, ⟨0, 0, 0, 0⟩⟩, false, 0, 0, 0, 0, 0, 0, false⟩) := rfl
      generalize portP (l.getD j 0) = q at *
      generalize l.getD j 0 = pid at *
      have hbA : Hid (Below wr.heap.size wr (wr.alloc (.cells (fT ⟨⟨pid, 10, false, false, ⟨0, 0, 0, 0⟩⟩, false, 0, 0, 0, 0, 0, 0, false⟩).toArray 34))) := below1 _ _
      have hSk : Hid ((wr.alloc (.cells (fT ⟨⟨pid, 10, false, false, ⟨0, 0, 0, 0⟩⟩, false, 0, 0, 0, 0, 0, 0, false⟩).toArray 34)).heap[wr.heap.size]? = some (.cells (fT ⟨⟨pid, 10, false, false, ⟨0, 0, 0, 0⟩⟩, false, 0, 0, 0, 0, 0, 0, false⟩).toArray 34)) := heap_alloc_new _ _
      go_wp2_with (at_builtin; refine unhB ?_)
      have hS3 := hide (hS.out.below hbA.out)
      have hB3 := hide (hB.out.later hbA.out)
      have hs3 : Hid (w.heap.size ≤ (wr.alloc (.cells (fT ⟨⟨pid, 10, false, false, ⟨0, 0, 0, 0⟩⟩, false, 0, 0, 0, 0, 0, 0, false⟩).toArray 34)).heap.size) := hB3.out.size
      clear hP hB hS hbA
      generalize wr.alloc (.cells (fT ⟨⟨pid, 10, false, false, ⟨0, 0, 0, 0⟩⟩, false, 0, 0, 0, 0, 0, 0, false⟩).toArray 34) = w3 at *
      refine hide ?_
      refine wpList_append_sl rfl (.tmp 12) (.tmp 16) rfl wide_T sty_T u3 lt rfl hS3.out ⟨wr.heap.size, 0, none⟩ 1 1 [q] rfl rfl (fun x u hx => ?_) (by simp; omega) (by omega) ?_
      · rw [Addr.add_lit, cell_of_row _ _ _ _ _ _ hSk.out, ← hx, hq.out]
        simp [flat]
      intro v4 w4 hS4 hg4 ho4
      rw [hTk.out] at hS4
      have hB4 : Hid (Below w.heap.size w w4) := grown_below hg4 hB3.out hs3.out hO.out
      have hO4 : Hid (Fresh w.heap.size v4) := fun x e => by
        rcases ho4 with e1 | e1
        · rw [e1] at e; exact hO.out x e
        · rw [e1] at e; have e2 : w3.heap.size = x := Option.some.inj e; have := hs3.out; omega
      replace hS4 := hide hS4
      obtain ⟨av, cv, rfl⟩ := hS4.out.shape
      clear hg4 ho4 hS3 hB3 hSk hs3 hTk
      generalize hln : lt1.length = ltn at *
      replace hln := hide hln
      go_wp2
      go_round
      case rel => exact ⟨j + 1, by omega, by go_num, hB4, by rw [hT1.out]; exact hS4, hO4⟩
      case measure => simp [intOf]; omega
    · obtain rfl : n = j := by omega
      have hfull : Hid (Sl wr u3 34 16 fT (l.map portP)) := by
        have h1 := hS.out; rw [List.take_of_length_le (by rw [hI.out.1]; omega)] at h1; exact h1
      clear hS
      go_wp2
      go_ret
      exact ⟨_, rfl, hfull.out, hB.out, hO.out⟩
end Go.Proofs.Ytoejoneecanbbaa

namespace Go.Proofs.Ytoejoneecanbbaa
open Go.RowKit
set_option linter.unusedVariables false
set_option maxRecDepth 100000

def tickN (T : Tt) : Nat → Tt
  | 0 => T
  | k + 1 => tickT (tickN T k)
theorem tickN_len (T : Tt) : ∀ k, (tickN T k).ps.length = T.ps.length
  | 0 => rfl
  | k + 1 => by
    have h1 : (tickT (tickN T k)).ps.length = (tickN T k).ps.length := by
      unfold tickT
      split
      · show (allT (goneT (tickN T k))).ps.length = _
        rw [allT_len]; unfold goneT; rw [cntTo_len, seenT_len]
      · show (goneT (tickN T k)).ps.length = _
        unfold goneT; rw [cntTo_len, seenT_len]
    exact h1.trans (tickN_len T k)
def G0 : Tt := linkT (newT 5 [portP 1, portP 2]) 0 true
theorem G_29 : ((tickN G0 29).at 0).state = 1 := by decide
theorem G_30 : ((tickN G0 30).at 0).state = 2 ∧ ((tickN G0 30).at 1).state = 0 ∧ (tickN G0 30).outs.length = 16 ∧ (tickN G0 30).rp = -1 ∧ (tickN G0 30).y.root = 5 ∧ (flL (tickN G0 30).fg 16).length = 1 ∧ (tickN G0 30).ps.length = 2 := by decide
theorem portP_wf (id : Int) (h : I64 id) : (portP id).b.wf := ⟨h, by simp [U64, portP], ⟨by simp [U64, portP], by simp [U64, portP], by simp [U64, portP], by simp [I64, portP]⟩⟩
theorem ports_wf {l : List Int} (h : ∀ i, i < l.length → I64 (l.getD i 0)) : ∀ i, i < (l.map portP).length → ((l.map portP).getD i Tp.zero).b.wf := fun i hi => by
  have hi' : i < l.length := by simpa using hi
  have e : (l.map portP).getD i Tp.zero = portP (l.getD i 0) := by simp [hi']
  rw [e]
  exact portP_wf _ (h i hi')
set_option maxHeartbeats 4000000 in
theorem grows_any (w : World) :
    Calls Try.prog 5 #[] w fun r w' => r = .returned (.bool true) ∧ Below w.heap.size w w' := by
  have hb0 := hide (below1 w (.cells #[.int .i64 1, .int .i64 2] 3))
  have hF0 : Fl (w.alloc (.cells #[.int .i64 1, .int .i64 2] 3)) w.heap.size 3 fI [1, 2] [] := heap_alloc_new _ _
  have hp := hide (ports_any (some ⟨w.heap.size, 0, none⟩) 2 2 [1, 2] (w.alloc (.cells #[.int .i64 1, .int .i64 2] 3)) (by omega) hF0.ins)
  clear hF0
  go_enter Try.func5, Try.ntmps5
  go_wp2_with fail
  refine hp.out.mono ?_
  rintro e w1 ⟨v1, rfl, hS1, hB1, hF1⟩
  have hB := hide (hb0.out.later hB1)
  obtain ⟨a1, c1, rfl, hc1, hcn1, hT1⟩ := hS1.tps (ports_wf (l := [1, 2]) (fun i hi => by have hi' : i < 2 := hi; rcases (show i = 0 ∨ i = 1 by omega) with rfl | rfl <;> simp [I64]))
  have hn := hide (ONew 5 a1 2 c1 [portP 1, portP 2] w1 (fun k => k < w.heap.size) (fun k hk => Nat.lt_of_lt_of_le hk hB.out.size) (by simp [U64]) (by omega) hc1 hcn1 hT1)
  clear hp hb0 hS1 hB1 hF1 hc1 hcn1 hT1
  go_wp2_with fail
  refine hn.out.mono ?_
  rintro e w2 ⟨tb, rfl, hO2, hb2⟩
  have hB2 := hide (hB.out.later hb2)
  have hp2 := hide (OPorts hO2)
  have hO2' := hide hO2
  clear hn hB hb2 hO2
  go_wp2_with fail
  refine hp2.out.mono ?_
  rintro e w3 ⟨v3, rfl, hS3, hb3, hF3⟩
  obtain ⟨a3, c3, rfl⟩ := hS3.shape
  have hl3 : (newT 5 [portP 1, portP 2]).ps.length = 2 := by rfl
  rw [hl3]
  have hO3 := hide (hO2'.out.below hb3)
  have hB3 := hide (hB2.out.later hb3)
  have hk3 := hide (OLink hO3.out (by omega) 0 true)
  clear hp2 hS3 hF3 hb3 hO2' hB2 hl3
  go_wp2_with fail
  refine hk3.out.mono ?_
  rintro e w4 ⟨rfl, hO4, hK4⟩
  have hB4 := hide (hK4.below hB3.out (fun k hk => hk))
  replace hO4 := hide hO4
  have hG : Hid (linkT (newT 5 [portP 1, portP 2]) 0 true = tickN G0 0) := rfl
  rw [hG.out] at hO4
  clear hk3 hK4 hB3 hO3 hG
  go_wp2_with fail
  go_loopw [18] (fun i wr => ∃ j : Nat, j ≤ 29 ∧ i = .int .i64 j ∧ Hid (Ow wr tb (fun k => k < w.heap.size) (0 + 40 + 40 * j) (tickN G0 j)) ∧ Hid (Below w.heap.size w wr)) (fun i _ => 29 - (intOf i).toNat)
  case atStart => exact ⟨0, Nat.zero_le _, rfl, hO4, hB4⟩
  case round =>
    obtain ⟨j, hj, rfl, hO, hB⟩ := hrel
    clear hO4 hB4
    by_cases hlt : j < 29
    · have ht := hide (OTick hO.out (by omega))
      go_wp2_with fail
      refine ht.out.mono ?_
      rintro e w5 ⟨rfl, hO5, hK5⟩
      have hB5 := hide (hK5.below hB.out (fun k hk => hk))
      replace hO5 := hide hO5
      clear ht hK5 hO hB
      go_wp2
      go_round
      case rel => exact ⟨j + 1, by omega, by go_num, hO5, hB5⟩
      case measure => simp [intOf]; omega
    · obtain rfl : j = 29 := by omega
      have hs := hide (OState hO.out 0)
      have e1 : (if 0 ≤ (0 : Int) ∧ (0 : Int) < (tickN G0 29).ps.length then ((tickN G0 29).at (0 : Int).toNat).state else 0) = 1 := by rw [if_pos (by rw [tickN_len]; decide)]; exact G_29
      rw [e1] at hs
      have ht := hide (OTick hO.out (by omega))
      clear e1
      go_wp2_with fail
      refine hs.out.mono ?_
      rintro e w5 ⟨rfl, rfl⟩
      clear hs
      go_wp2_with fail
      refine ht.out.mono ?_
      rintro e w6 ⟨rfl, hO6, hK6⟩
      have hB6 := hide (hK6.below hB.out (fun k hk => hk))
      replace hO6 := hide hO6
      have hG : Hid (tickT (tickN G0 29) = tickN G0 30) := rfl
      rw [hG.out] at hO6
      have hr := hide (ORoot hO6.out)
      clear ht hK6 hO hB hG
      obtain ⟨f1, f2, f3, f4, f5, f6, f7⟩ := G_30
      generalize tickN G0 30 = T at *
      rw [f4] at hr
      generalize hy : T.y = y at *
      obtain ⟨y0, y1, y2, y3⟩ := y
      have f5' : y0 = 5 := f5
      subst f5'
      replace f1 := hide f1
      replace f2 := hide f2
      replace f3 := hide f3
      replace f4 := hide f4
      replace f6 := hide f6
      replace f7 := hide f7
      clear f5 hy
      go_wp2_with fail
      refine hr.out.mono ?_
      rintro e w7 ⟨rfl, hb7⟩
      have hO7 := hO6.out.below hb7
      have hB7 := hB6.out.later hb7
      clear hr hO6 hB6 hb7
      have hbA := below1 w7 (.cells (Vc.row ⟨5, y1, y2, y3⟩) 30)
      have hO8 := hide (hO7.below hbA)
      have hB8 := hide (hB7.later hbA)
      have hk8 : (w7.alloc (.cells (Vc.row ⟨5, y1, y2, y3⟩) 30)).cell? ⟨w7.heap.size, 0, none⟩ = some (.int .u64 5) := (cell_of_row _ _ _ _ _ _ (heap_alloc_new w7 (.cells (Vc.row ⟨5, y1, y2, y3⟩) 30))).trans rfl
      clear hbA hO7 hB7
      go_wp2_with fail
      generalize w7.alloc (.cells (Vc.row ⟨5, y1, y2, y3⟩) 30) = w8 at *
      have hs0 := hide (OState hO8.out 0)
      rw [show (if 0 ≤ (0 : Int) ∧ (0 : Int) < T.ps.length then (T.at (0 : Int).toNat).state else 0) = 2 by rw [if_pos (by rw [f7.out]; decide)]; exact f1.out] at hs0
      have hs1 := hide (OState hO8.out 1)
      rw [show (if 0 ≤ (1 : Int) ∧ (1 : Int) < T.ps.length then (T.at (1 : Int).toNat).state else 0) = 0 by rw [if_pos (by rw [f7.out]; decide)]; exact f2.out] at hs1
      have hs9 := hide (OState hO8.out 9)
      rw [show (if 0 ≤ (9 : Int) ∧ (9 : Int) < T.ps.length then (T.at (9 : Int).toNat).state else 0) = 0 by rw [if_neg (by rw [f7.out]; decide)]] at hs9
      have ho8 := hide (OOuts hO8.out (by omega))
      rw [show 0 + 40 + 40 * 29 + 40 = 1240 by rfl] at hO8
      refine hs0.out.mono ?_
      rintro e w9 ⟨rfl, hw⟩
      subst hw
      clear hs0
      go_wp2_with fail
      refine hs1.out.mono ?_
      rintro e w10 ⟨rfl, hw⟩
      subst hw
      clear hs1
      go_wp2_with fail
      refine hs9.out.mono ?_
      rintro e w11 ⟨rfl, hw⟩
      subst hw
      clear hs9
      go_wp2_with fail
      refine ho8.out.mono ?_
      rintro e w12 ⟨v12, rfl, hS12, hF12, hO12, hK12⟩
      obtain ⟨a12, c12, rfl⟩ := hS12.shape
      rw [f3.out]
      have hB12 := hide (hK12.below hB8.out (fun k hk => hk))
      have hO12' := hide (hO12.mono (A' := fun k => k < w.heap.size) (fun k hk => .inl hk))
      have ho12 := hide (OOuts hO12'.out (by omega))
      clear ho8 hS12 hF12 hO12 hK12 hO8 hB8 hk8
      go_wp2_with fail
      refine ho12.out.mono ?_
      rintro e w13 ⟨v13, rfl, hS13, hF13, hO13, hK13⟩
      obtain ⟨a13, c13, rfl⟩ := hS13.shape
      have hz : (tookT T).outs.length = 0 := rfl
      rw [hz]
      have hB13 := hide (hK13.below hB12.out (fun k hk => hk))
      have hO13' := hide (hO13.mono (A' := fun k => k < w.heap.size) (fun k hk => .inl hk))
      have ho13 := hide (OFlushes hO13'.out)
      have hfg : (tookT (tookT T)).fg = T.fg := rfl
      rw [hfg] at ho13
      clear ho12 hS13 hF13 hO13 hK13 hO12' hB12 hz hfg
      go_wp2_with fail
      refine ho13.out.mono ?_
      rintro e w14 ⟨v14, rfl, hS14, hF14, hO14, hK14⟩
      obtain ⟨a14, c14, rfl⟩ := hS14.shape
      rw [f6.out]
      have hB14 := hide (hK14.below hB13.out (fun k hk => hk))
      clear ho13 hS14 hF14 hO14 hK14 hO13' hB13
      go_wp2
      go_ret
      exact ⟨rfl, hB14.out⟩
end Go.Proofs.Ytoejoneecanbbaa
