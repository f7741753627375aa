
/-
  The contract of the statements' own 'pair'. Conditions: those that each theorem names.
-/
import Derived.Test.YtoejoneecanbbaaLTp
namespace Go.Proofs.Ytoejoneecanbbaa
open Go.RowKit
set_option linter.unusedVariables false
set_option maxRecDepth 20000

@[reducible] def fL (i : Nat) : List Value := [.int .i64 i, .int .i64 i]
theorem wide_L : Wide fL 2 := ⟨fun _ => rfl, fun x u hu => by simp at hu; rw [hu]; rfl⟩
theorem twoLen (i : Nat) : (Try.prog.info? 51).map (·.size) = some (fL i).length := by kernel_rfl
theorem twoSize (a b : Value) : (Try.prog.info? 51).map (·.size) = some (#[a, b] : Array Value).size := by kernel_rfl
def Held (B : Nat → Prop) (v : Value) : Prop := ∀ k, v.ownBlock = some k → B k
theorem Sl.held {α : Type} {w w' : World} {v : Value} {e : TypeId} {m : Nat} {f : α → List Value} {l : List α} {B : Nat → Prop} (h : Sl w v e m f l) (hK : Kp B w w') (hB : Held B v) : Sl w' v e m f l := h.blk fun b e => hK.block b (hB b e)
theorem Two.fresh {w w' : World} {ta tb N M : Nat} {B B' : Nat → Prop} {S T : Tt} (h : Two w ta tb B N M S T) (hb : Below w.heap.size w w') (hB : ∀ k, B' k → B k ∨ (w.heap.size ≤ k ∧ k < w'.heap.size)) : Two w' ta tb B' N M S T := by
  obtain ⟨ma, mb, h1, h2, h3, h4, h5, h6⟩ := h.ex
  refine ⟨⟨ma, mb, h1, h2, h3.below hb, h4.below hb, h5, fun k hk => ?_⟩, h.oks, h.okt, h.qs, h.qt, h.os, h.ot⟩
  rcases hB k hk with e | ⟨e1, e2⟩
  · exact ⟨(h6 k e).1, (h6 k e).2.1, Nat.lt_of_lt_of_le (h6 k e).2.2 hb.size⟩
  · exact ⟨fun e => by have := h3.lt k e; omega, fun e => by have := h4.lt k e; omega, e2⟩
theorem Two.le {w : World} {ta tb N M N' : Nat} {B : Nat → Prop} {S T : Tt} (h : Two w ta tb B N M S T) (hn : N ≤ N') : Two w ta tb B N' M S T := ⟨h.ex, h.oks, h.okt, h.qs, h.qt, Nat.le_trans h.os hn, h.ot⟩
theorem Two.ltB {w : World} {ta tb N M : Nat} {B : Nat → Prop} {S T : Tt} (h : Two w ta tb B N M S T) : ∀ k, B k → k < w.heap.size := fun k hk => by
  obtain ⟨ma, mb, h1, h2, h3, h4, h5, h6⟩ := h.ex
  exact (h6 k hk).2.2
def updT (p : Int) (z : Nat) (U V : Tt) : Tt := if (z : Int) ≤ p then U else V
/-- Between two passings. -/
def StP (C : Int → Int → Prop) (n : Nat) (ida idb : Int) (w : World) (ta tb : Nat) (B : Nat → Prop) (k : Nat) (E : Tt × Tt) : Prop := ∃ c d S T, RT C D1 c S ∧ RT C D1 d T ∧ okPr k c d = true ∧ Fine n ida S ∧ Fine n idb T ∧ pairN k S T = E ∧ Two w ta tb B 100000 100000 S T
set_option maxHeartbeats 16000000 in
theorem pair_any {C : Int → Int → Prop} (L : LabOk C D1) {n : Nat} {ida idb : Int} {w : World} {ta tb : Nat} {B : Nat → Prop} {E : Tt × Tt} {al : Option Addr} {cl : Nat} (hn : n ≤ 6) (h : StP C n ida idb w ta tb B 200 E) (hl : Sl w (.slice al n cl) 51 2 fL (List.range n)) (hBl : Held B (.slice al n cl)) :
    Calls Try.prog 16 #[.pointer (some ⟨ta, 0, none⟩), .pointer (some ⟨tb, 0, none⟩), .slice al n cl] w fun r w' => r = .returned (.bool true) ∧ Two w' ta tb B 0 0 E.1 E.2 ∧ Kp B w w' := by
  replace L := hide L
  have hS0 : Hid (StP C n ida idb w ta tb B (200 - 0) E) := h
  replace hl := hide hl
  replace hBl := hide hBl
  clear h
  go_enter Try.func16, Try.ntmps16
  go_wp2_with fail
  go_loopw [17] (fun i wr => ∃ q : Nat, q ≤ 200 ∧ i = .int .i64 q ∧ Hid (StP C n ida idb wr ta tb B (200 - q) E) ∧ Hid (Kp B w wr)) (fun i _ => 200 - (intOf i).toNat)
  case atStart => exact ⟨0, Nat.zero_le _, rfl, hS0, hide (Kp.refl _ _)⟩
  case round =>
    obtain ⟨q, hq, rfl, hS, hK⟩ := hrel
    clear hS0
    obtain ⟨c, d, S, T, g1, g2, g3, g4, g5, g6, g7⟩ := hS.out
    by_cases hqe : q = 200
    · subst hqe
      exact absurd g3 (by simp [okPr])
    have hqq : decide ((q : Int) < 200) = true := by simp; omega
    have hle := okPr_le g3
    have hb1 : S.outs.length ≤ 1000 := by rw [← g1.outs.len]; exact hle.1
    have hb2 : T.outs.length ≤ 1000 := by rw [← g2.outs.len]; exact hle.2
    have h2 := hide (g7.tight hb1 hb2)
    rw [show 200 - q = (199 - q) + 1 by omega] at g3 g6
    replace g1 := hide g1
    replace g2 := hide g2
    replace g3 := hide g3
    replace g4 := hide g4
    replace g5 := hide g5
    replace g6 := hide g6
    have hlr := hide (hl.out.held hK.out hBl.out)
    clear g7 hS hle
    have ho1 := hide (TOuts h2.out (by omega))
    go_wp2_with fail
    refine ho1.out.mono ?_
    rintro e w1 ⟨v1, rfl, hS1, hT1, hK1⟩
    have ho2 := hide (TOuts hT1.swap (by omega))
    have hl1 := hide (hlr.out.held hK1 hBl.out)
    have hK2 := hide (hK.out.trans hK1)
    obtain ⟨a1, c1, rfl⟩ := hS1.shape
    replace hS1 := hide hS1
    clear ho1 hT1 hK1 h2 hlr hK
    go_wp2_with fail
    refine ho2.out.mono ?_
    rintro e w2 ⟨v2, rfl, hS2, hT2, hK3⟩
    obtain ⟨a2, c2, rfl⟩ := hS2.shape
    have hl2 := hide (hl1.out.held hK3 (fun k e => .inl (hBl.out k e)))
    have hS1' := hide (hS1.out.held hK3 (fun k e => .inr e))
    have hK4 := hide (hK2.out.trans (hK3.mono (fun k hk => .inl hk)))
    generalize hM1 : S.outs.length = M1 at *
    generalize hM2 : T.outs.length = M2 at *
    have hTT := hide (hT2.mono (B' := fun k => B k ∨ (Value.slice a1 M1 c1).ownBlock = some k ∨ (Value.slice a2 M2 c2).ownBlock = some k) (fun k hk => by
      rcases hk with h | h | h
      · exact .inl (.inl h)
      · exact .inl (.inr h)
      · exact .inr h))
    replace hS2 := hide hS2
    replace hM1 := hide hM1
    replace hM2 := hide hM2
    clear ho2 hT2 hK3 hK2 hl1 hS1
    by_cases hz : M1 = 0 ∧ M2 = 0
    · obtain ⟨hz1, hz2⟩ := hz
      subst hz1 hz2
      have hE : Hid (E = (tookT S, tookT T)) := g6.out.symm.trans (pairN_end ⟨hM1.out, hM2.out⟩)
      have hF : Hid (Two w2 ta tb B 0 0 (tookT S) (tookT T)) := (hTT.out.swap).mono (fun k hk => .inl hk)
      clear hTT hS2 hl2 hS1'
      go_wp2
      go_ret
      exact ⟨rfl, by rw [hE.out]; exact hF.out, hK4.out⟩
    have hne : Hid (¬ (S.outs.length = 0 ∧ T.outs.length = 0)) := by show ¬ _; rw [hM1.out, hM2.out]; exact hz
    have hgo : Hid (E = pairN (199 - q) (passT (tookT S) T.outs) (passT (tookT T) S.outs)) := g6.out.symm.trans (pairN_next hne.out)
    have hB1 : Hid (∀ k, B k → (fun k => B k ∨ (Value.slice a1 M1 c1).ownBlock = some k ∨ (Value.slice a2 M2 c2).ownBlock = some k) k) := fun k hk => .inl hk
    have hH1 : Hid (Held (fun k => B k ∨ (Value.slice a1 M1 c1).ownBlock = some k ∨ (Value.slice a2 M2 c2).ownBlock = some k) (Value.slice a1 M1 c1)) := fun k e => .inr (.inl e)
    have hH2 : Hid (Held (fun k => B k ∨ (Value.slice a1 M1 c1).ownBlock = some k ∨ (Value.slice a2 M2 c2).ownBlock = some k) (Value.slice a2 M2 c2)) := fun k e => .inr (.inr e)
    generalize (fun k => B k ∨ (Value.slice a1 M1 c1).ownBlock = some k ∨ (Value.slice a2 M2 c2).ownBlock = some k) = Bx at *
    have hHl : Hid (Held Bx (.slice al n cl)) := fun k e => hB1.out k (hBl.out k e)
    by_cases hz1 : M1 = 0
    · have hz1q : ((M1 : Int) == 0) = true := by rw [beq_iff_eq]; omega
      have hz2q : ((M2 : Int) == 0) = false := by rw [beq_eq_false_iff_ne]; omega
      replace hz1 := hide hz1
      replace hz := hide hz
      go_wp2_with fail
      clear hz1q hz2q
      go_loopw [33] (fun i wr => ∃ x : Nat, x ≤ M1 ∧ i = .int .i64 x ∧ Hid (Two wr tb ta Bx (40 * x) 0 (passT (tookT T) (S.outs.take x)) (tookT S)) ∧ Hid (Kp B w wr) ∧ Hid (Sl wr (.slice al n cl) 51 2 fL (List.range n)) ∧ Hid (Sl wr (.slice a1 M1 c1) 77 17 fO S.outs) ∧ Hid (Sl wr (.slice a2 M2 c2) 77 17 fO T.outs)) (fun i _ => M1 - (intOf i).toNat)
      case atStart => exact ⟨0, Nat.zero_le _, rfl, hTT, hK4, hl2, hS1', hS2⟩
      case round =>
        obtain ⟨x, hx, rfl, hTw, hKx, hLx, hAx, hBx'⟩ := hrel
        clear hTT hK4 hl2 hS1' hS2
        by_cases hxl : x < M1
        · have hxo : x < S.outs.length := by rw [hM1.out]; exact hxl
          obtain ⟨pb, cp, sp, hse, hFl, -, -⟩ := hAx.out.at_i (show 0 < S.outs.length by omega)
          have hrg0 := hide (hFl.range wide_O Ot.zero x hxo)
          obtain ⟨q1, q2, q3, q4, q5⟩ := g4.out.out.at x hxo
          have hstep : Hid (passT (tookT T) (S.outs.take (x + 1)) = recvT (passT (tookT T) (S.outs.take x)) (S.outs.getD x Ot.zero).port (S.outs.getD x Ot.zero).m) := by
            show _ = _
            rw [← take_pushI S.outs x Ot.zero hxo, passT_push]
          have hV0 : Hid ((passT (tookT T) (S.outs.take x)).outs.length ≤ 40 * x) := hTw.out.os
          have hae : a1 = some ⟨pb, 0, none⟩ := by simp only [Value.slice.injEq] at hse; exact hse.1
          generalize hV1 : passT (tookT T) (S.outs.take (x + 1)) = V1 at *
          replace hV1 := hide hV1
          generalize passT (tookT T) (S.outs.take x) = V0 at *
          generalize S.outs.getD x Ot.zero = ot at *
          obtain ⟨op, ⟨m0, m1, m2, m3, m4, m5, m6, m7, m8, m9, m10, m11, m12, m13, m14, m15⟩⟩ := ot
          dsimp only at q2 q3
          replace q5 := hide q5
          have hrg := hrg0.out
          subst hae
          clear hFl q1 q4 hrg0 hse
          go_wp2_with (first | ((with_reducible change wpList _ _ _ _ _ _); refine wpList_load_mid rfl 77 (.tmp 35) rfl pb (x * 17) rfl (fO ⟨op, ⟨m0, m1, m2, m3, m4, m5, m6, m7, m8, m9, m10, m11, m12, m13, m14, m15⟩⟩) _ hrg Try.underlying77 rfl (otLen _) ?_) | ((with_reducible change wpList _ _ _ _ _ _); refine wpList_store_fresh rfl 77 (.tmp 10) (.tmp 36) rfl (Ot.row ⟨op, ⟨m0, m1, m2, m3, m4, m5, m6, m7, m8, m9, m10, m11, m12, m13, m14, m15⟩⟩) Ot.zero.row rfl rfl 77 (otSize _) rfl (Ot.row_all _) ?_; intro w11 hH11 hb11; refine unhB ?_))
          generalize hg : wr.heap.size = g at *
          have hgl : g < w11.heap.size := (Array.getElem?_eq_some_iff.1 hH11).1
          have hT3 : Hid (Two w11 tb ta (fun k => Bx k ∨ k = g) (40 * (x + 1)) 0 (updT op 0 V0 V1) (tookT S)) := by
            have e : updT op 0 V0 V1 = V0 := if_pos q2
            rw [e]
            exact (hTw.out.fresh (by rw [hg]; exact hb11) (fun k hk => by
              rcases hk with h | h
              · exact .inl h
              · exact .inr ⟨by omega, by omega⟩)).le (by omega)
          have hbw : Below wr.heap.size wr w11 := by rw [hg]; exact hb11
          have hK3 := hide (hKx.out.trans (Kp.of_below (A := B) hbw (fun k hk => hTw.out.ltB k (hB1.out k hk))))
          have hL3 := hide (hLx.out.below hbw)
          have hA3 := hide (hAx.out.below hbw)
          have hC3 := hide (hBx'.out.below hbw)
          replace hH11 := hide hH11
          clear hTw hKx hLx hAx hBx' hb11 hbw hrg hg hgl
          refine hide ?_
          go_wp2_with fail
          go_loopw [39] (fun i wr => ∃ z : Nat, z ≤ n ∧ i = .int .i64 z ∧ Hid (Two wr tb ta (fun k => Bx k ∨ k = g) (40 * (x + 1)) 0 (updT op z V0 V1) (tookT S)) ∧ Hid (Kp B w wr) ∧ Hid (Sl wr (.slice al n cl) 51 2 fL (List.range n)) ∧ Hid (Sl wr (.slice (some ⟨pb, 0, none⟩) M1 c1) 77 17 fO S.outs) ∧ Hid (Sl wr (.slice a2 M2 c2) 77 17 fO T.outs) ∧ Hid (wr.heap[g]? = some (.cells (Ot.row ⟨op, ⟨m0, m1, m2, m3, m4, m5, m6, m7, m8, m9, m10, m11, m12, m13, m14, m15⟩⟩) 77 (0, 0)))) (fun i _ => n - (intOf i).toNat)
          case atStart => exact ⟨0, Nat.zero_le _, rfl, hT3, hK3, hL3, hA3, hC3, hH11⟩
          case round =>
            obtain ⟨z, hzn, rfl, hTz, hKz, hLz, hAz, hCz, hHz⟩ := hrel
            clear hT3 hK3 hL3 hA3 hC3 hH11
            by_cases hzl : z < n
            · obtain ⟨lb, lc, ls, hlse, hLf, -, -⟩ := hLz.out.at_i (show 0 < (List.range n).length by simp; omega)
              have hrz := hLf.range wide_L 0 z (by simp; exact hzl)
              rw [show (List.range n).getD z 0 = z by simp [hzl]] at hrz
              have hle : al = some ⟨lb, 0, none⟩ := by simp only [Value.slice.injEq] at hlse; exact hlse.1
              subst hle
              have hgl : g < wr.heap.size := (Array.getElem?_eq_some_iff.1 hHz.out).1
              have hwz := hide (fun (W : World) (hb : Below wr.heap.size wr W) => hTz.out.below hb)
              have hkz := hide (fun (W : World) (hb : Below wr.heap.size wr W) => hKz.out.trans (Kp.of_below (A := B) hb (fun k hk => hTz.out.ltB k (.inl (hB1.out k hk)))))
              have hlz := hide (fun (W : World) (hb : Below wr.heap.size wr W) => (⟨hLz.out.below hb, hAz.out.below hb, hCz.out.below hb⟩ : _ ∧ _ ∧ _))
              clear hLf hlse hTz hKz hLz hAz hCz
              go_wp2_with (first | ((with_reducible change wpList _ _ _ _ _ _); refine wpList_load_mid rfl 51 (.tmp 41) rfl lb (z * 2) rfl (fL z) _ hrz Try.underlying51 rfl (twoLen z) ?_) | ((with_reducible change wpList _ _ _ _ _ _); refine wpList_store_fresh rfl 51 (.tmp 12) (.tmp 42) rfl #[.int .i64 z, .int .i64 z] #[.int .i64 0, .int .i64 0] rfl rfl 51 (twoSize _ _) rfl (by simp [Value.oneCell']) ?_; intro w12 hH12 hb12; refine unhB ?_))
              have c0 : w12.cell? ⟨wr.heap.size, 0, none⟩ = some (.int .i64 z) := (cell_of_row _ _ _ _ _ _ hH12).trans rfl
              have c1' : w12.cell? ⟨wr.heap.size, 1, none⟩ = some (.int .i64 z) := (cell_of_row _ _ _ _ _ _ hH12).trans rfl
              have hH13 := heap_kept hb12 hHz.out
              have p0 : w12.cell? ⟨g, 0, none⟩ = some (.int .i64 op) := (cell_of_row _ _ _ _ _ _ hH13).trans rfl
              have hrg2 : w12.rangeAt g 1 (fB ⟨m0, m1, m2, m3, m4, m5, m6, m7, m8, m9, m10, m11, m12, m13, m14, m15⟩) := range_of_row (cs := fO ⟨op, ⟨m0, m1, m2, m3, m4, m5, m6, m7, m8, m9, m10, m11, m12, m13, m14, m15⟩⟩) hH13 1 _ (fun j v hj => by rw [Nat.add_comm]; exact hj)
              have hT13 := hide (hwz.out _ hb12)
              have hK13 := hide (hkz.out _ hb12)
              obtain ⟨hL13, hA13, hC13⟩ := hlz.out _ hb12
              replace hL13 := hide hL13
              replace hA13 := hide hA13
              replace hC13 := hide hC13
              replace hH13 := hide hH13
              clear hwz hkz hlz hb12 hH12 hHz hrz hgl
              refine hide ?_
              by_cases he : (z : Int) = op
              · have heq : ((z : Int) == op) = true := by rw [beq_iff_eq]; exact he
                have eU : updT op z V0 V1 = V0 := if_pos (by omega)
                have eV : updT op (z + 1) V0 V1 = V1 := if_neg (by omega)
                have hrc := hT13.out
                rw [eU] at hrc
                have hrc2 := hide (TReceive (hrc.tight hV0.out hrc.ot) (by omega) (z : Int) ⟨m0, m1, m2, m3, m4, m5, m6, m7, m8, m9, m10, m11, m12, m13, m14, m15⟩ q5.out)
                replace he := hide he
                replace eV := hide eV
                clear hrc hT13 eU
                go_wp2_with ((with_reducible change wpList _ _ _ _ _ _); refine wpList_load_mid rfl 40 (.tmp 51) rfl g 1 rfl (fB ⟨m0, m1, m2, m3, m4, m5, m6, m7, m8, m9, m10, m11, m12, m13, m14, m15⟩) _ hrg2 Try.underlying40 rfl (bpLen _) ?_)
                refine hrc2.out.mono ?_
                rintro e w14 ⟨rfl, hT14, hK14⟩
                have hT15 : Hid (Two w14 tb ta (fun k => Bx k ∨ k = g) (40 * (x + 1)) 0 (updT op (z + 1) V0 V1) (tookT S)) := by
                  rw [he.out, ← hstep.out] at hT14
                  rw [eV.out]
                  exact hT14.le (by omega)
                have hK15 := hide (hK13.out.trans (hK14.mono (fun k hk => .inl (hB1.out k hk))))
                have hL15 := hide (hL13.out.held hK14 (fun k e => .inl (hHl.out k e)))
                have hA15 := hide (hA13.out.held hK14 (fun k e => .inl (hH1.out k e)))
                have hC15 := hide (hC13.out.held hK14 (fun k e => .inl (hH2.out k e)))
                have hH15 := hide ((hK14.block g (.inr rfl)).trans hH13.out)
                clear hrc2 hT14 hK14 hK13 hL13 hA13 hC13 hH13 hrg2 c0 c1' p0
                go_wp2
                go_round
                case rel => exact ⟨z + 1, by omega, by go_num, hT15, hK15, hL15, hA15, hC15, hH15⟩
                case measure => simp [intOf]; omega
              · have heq : ((z : Int) == op) = false := by rw [beq_eq_false_iff_ne]; exact he
                have eU : Hid (updT op (z + 1) V0 V1 = updT op z V0 V1) := by
                  show _ = _
                  unfold updT
                  by_cases h : (z : Int) ≤ op
                  · rw [if_pos h, if_pos (by omega)]
                  · rw [if_neg h, if_neg (by omega)]
                rw [← eU.out] at hT13
                clear hrg2
                go_wp2
                go_round
                case rel => exact ⟨z + 1, by omega, by go_num, hT13, hK13, hL13, hA13, hC13, hH13⟩
                case measure => simp [intOf]; omega
            · obtain rfl : n = z := by omega
              have eV : updT op n V0 V1 = V1 := if_neg (by omega)
              rw [eV] at hTz
              have hTo := hide (hTz.out.mono (B' := Bx) (fun k hk => .inl hk))
              clear eV hTz
              go_wp2
              go_round
              case rel => exact ⟨x + 1, by omega, by go_num, by rw [hV1.out]; exact hTo, hKz, hLz, hAz, hCz⟩
              case measure => simp [intOf]; omega
        · obtain rfl : M1 = x := by omega
          have hall : S.outs.take M1 = S.outs := List.take_of_length_le (by rw [hM1.out]; omega)
          have hTd := hTw.out
          rw [hall] at hTd
          replace hTd := hide hTd
          clear hall hTw
          have hT5 := hide hTd.out.swap
          have hK5 := hKx
          have hL5 := hLx
          have hA5 := hAx
          have hC5 := hBx'
          clear hTd hKx hLx hAx hBx'
          go_wp2_with fail
          go_loopw [58] (fun i wr => ∃ x : Nat, x ≤ M2 ∧ i = .int .i64 x ∧ Hid (Two wr ta tb Bx (40 * x) (40 * M1) (passT (tookT S) (T.outs.take x)) (passT (tookT T) S.outs)) ∧ Hid (Kp B w wr) ∧ Hid (Sl wr (.slice al n cl) 51 2 fL (List.range n)) ∧ Hid (Sl wr (.slice a1 M1 c1) 77 17 fO S.outs) ∧ Hid (Sl wr (.slice a2 M2 c2) 77 17 fO T.outs)) (fun i _ => M2 - (intOf i).toNat)
          case atStart => exact ⟨0, Nat.zero_le _, rfl, hT5, hK5, hL5, hA5, hC5⟩
          case round =>
            obtain ⟨x, hx, rfl, hTw, hKx, hLx, hAx, hBx'⟩ := hrel
            clear hT5 hK5 hL5 hA5 hC5
            by_cases hxl : x < M2
            · have hxo : x < T.outs.length := by rw [hM2.out]; exact hxl
              obtain ⟨pb, cp, sp, hse, hFl, -, -⟩ := hBx'.out.at_i (show 0 < T.outs.length by omega)
              have hrg0 := hide (hFl.range wide_O Ot.zero x hxo)
              obtain ⟨q1, q2, q3, q4, q5⟩ := g5.out.out.at x hxo
              have hstep : Hid (passT (tookT S) (T.outs.take (x + 1)) = recvT (passT (tookT S) (T.outs.take x)) (T.outs.getD x Ot.zero).port (T.outs.getD x Ot.zero).m) := by
                show _ = _
                rw [← take_pushI T.outs x Ot.zero hxo, passT_push]
              have hV0 : Hid ((passT (tookT S) (T.outs.take x)).outs.length ≤ 40 * x) := hTw.out.os
              have hae : a2 = some ⟨pb, 0, none⟩ := by simp only [Value.slice.injEq] at hse; exact hse.1
              generalize hV1 : passT (tookT S) (T.outs.take (x + 1)) = V1 at *
              replace hV1 := hide hV1
              generalize passT (tookT S) (T.outs.take x) = V0 at *
              generalize T.outs.getD x Ot.zero = ot at *
              obtain ⟨op, ⟨m0, m1, m2, m3, m4, m5, m6, m7, m8, m9, m10, m11, m12, m13, m14, m15⟩⟩ := ot
              dsimp only at q2 q3
              replace q5 := hide q5
              have hrg := hrg0.out
              subst hae
              clear hFl q1 q4 hrg0 hse
              go_wp2_with (first | ((with_reducible change wpList _ _ _ _ _ _); refine wpList_load_mid rfl 77 (.tmp 60) rfl pb (x * 17) rfl (fO ⟨op, ⟨m0, m1, m2, m3, m4, m5, m6, m7, m8, m9, m10, m11, m12, m13, m14, m15⟩⟩) _ hrg Try.underlying77 rfl (otLen _) ?_) | ((with_reducible change wpList _ _ _ _ _ _); refine wpList_store_fresh rfl 77 (.tmp 14) (.tmp 61) rfl (Ot.row ⟨op, ⟨m0, m1, m2, m3, m4, m5, m6, m7, m8, m9, m10, m11, m12, m13, m14, m15⟩⟩) Ot.zero.row rfl rfl 77 (otSize _) rfl (Ot.row_all _) ?_; intro w11 hH11 hb11; refine unhB ?_))
              generalize hg : wr.heap.size = g at *
              have hgl : g < w11.heap.size := (Array.getElem?_eq_some_iff.1 hH11).1
              have hT3 : Hid (Two w11 ta tb (fun k => Bx k ∨ k = g) (40 * (x + 1)) (40 * M1) (updT op 0 V0 V1) (passT (tookT T) S.outs)) := by
                have e : updT op 0 V0 V1 = V0 := if_pos q2
                rw [e]
                exact (hTw.out.fresh (by rw [hg]; exact hb11) (fun k hk => by
                  rcases hk with h | h
                  · exact .inl h
                  · exact .inr ⟨by omega, by omega⟩)).le (by omega)
              have hbw : Below wr.heap.size wr w11 := by rw [hg]; exact hb11
              have hK3 := hide (hKx.out.trans (Kp.of_below (A := B) hbw (fun k hk => hTw.out.ltB k (hB1.out k hk))))
              have hL3 := hide (hLx.out.below hbw)
              have hA3 := hide (hAx.out.below hbw)
              have hC3 := hide (hBx'.out.below hbw)
              replace hH11 := hide hH11
              clear hTw hKx hLx hAx hBx' hb11 hbw hrg hg hgl
              refine hide ?_
              go_wp2_with fail
              go_loopw [64] (fun i wr => ∃ z : Nat, z ≤ n ∧ i = .int .i64 z ∧ Hid (Two wr ta tb (fun k => Bx k ∨ k = g) (40 * (x + 1)) (40 * M1) (updT op z V0 V1) (passT (tookT T) S.outs)) ∧ Hid (Kp B w wr) ∧ Hid (Sl wr (.slice al n cl) 51 2 fL (List.range n)) ∧ Hid (Sl wr (.slice a1 M1 c1) 77 17 fO S.outs) ∧ Hid (Sl wr (.slice (some ⟨pb, 0, none⟩) M2 c2) 77 17 fO T.outs) ∧ Hid (wr.heap[g]? = some (.cells (Ot.row ⟨op, ⟨m0, m1, m2, m3, m4, m5, m6, m7, m8, m9, m10, m11, m12, m13, m14, m15⟩⟩) 77 (0, 0)))) (fun i _ => n - (intOf i).toNat)
              case atStart => exact ⟨0, Nat.zero_le _, rfl, hT3, hK3, hL3, hA3, hC3, hH11⟩
              case round =>
                obtain ⟨z, hzn, rfl, hTz, hKz, hLz, hAz, hCz, hHz⟩ := hrel
                clear hT3 hK3 hL3 hA3 hC3 hH11
                by_cases hzl : z < n
                · obtain ⟨lb, lc, ls, hlse, hLf, -, -⟩ := hLz.out.at_i (show 0 < (List.range n).length by simp; omega)
                  have hrz := hLf.range wide_L 0 z (by simp; exact hzl)
                  rw [show (List.range n).getD z 0 = z by simp [hzl]] at hrz
                  have hle : al = some ⟨lb, 0, none⟩ := by simp only [Value.slice.injEq] at hlse; exact hlse.1
                  subst hle
                  have hgl : g < wr.heap.size := (Array.getElem?_eq_some_iff.1 hHz.out).1
                  have hwz := hide (fun (W : World) (hb : Below wr.heap.size wr W) => hTz.out.below hb)
                  have hkz := hide (fun (W : World) (hb : Below wr.heap.size wr W) => hKz.out.trans (Kp.of_below (A := B) hb (fun k hk => hTz.out.ltB k (.inl (hB1.out k hk)))))
                  have hlz := hide (fun (W : World) (hb : Below wr.heap.size wr W) => (⟨hLz.out.below hb, hAz.out.below hb, hCz.out.below hb⟩ : _ ∧ _ ∧ _))
                  clear hLf hlse hTz hKz hLz hAz hCz
                  go_wp2_with (first | ((with_reducible change wpList _ _ _ _ _ _); refine wpList_load_mid rfl 51 (.tmp 66) rfl lb (z * 2) rfl (fL z) _ hrz Try.underlying51 rfl (twoLen z) ?_) | ((with_reducible change wpList _ _ _ _ _ _); refine wpList_store_fresh rfl 51 (.tmp 16) (.tmp 67) rfl #[.int .i64 z, .int .i64 z] #[.int .i64 0, .int .i64 0] rfl rfl 51 (twoSize _ _) rfl (by simp [Value.oneCell']) ?_; intro w12 hH12 hb12; refine unhB ?_))
                  have c0 : w12.cell? ⟨wr.heap.size, 0, none⟩ = some (.int .i64 z) := (cell_of_row _ _ _ _ _ _ hH12).trans rfl
                  have c1' : w12.cell? ⟨wr.heap.size, 1, none⟩ = some (.int .i64 z) := (cell_of_row _ _ _ _ _ _ hH12).trans rfl
                  have hH13 := heap_kept hb12 hHz.out
                  have p0 : w12.cell? ⟨g, 0, none⟩ = some (.int .i64 op) := (cell_of_row _ _ _ _ _ _ hH13).trans rfl
                  have hrg2 : w12.rangeAt g 1 (fB ⟨m0, m1, m2, m3, m4, m5, m6, m7, m8, m9, m10, m11, m12, m13, m14, m15⟩) := range_of_row (cs := fO ⟨op, ⟨m0, m1, m2, m3, m4, m5, m6, m7, m8, m9, m10, m11, m12, m13, m14, m15⟩⟩) hH13 1 _ (fun j v hj => by rw [Nat.add_comm]; exact hj)
                  have hT13 := hide (hwz.out _ hb12)
                  have hK13 := hide (hkz.out _ hb12)
                  obtain ⟨hL13, hA13, hC13⟩ := hlz.out _ hb12
                  replace hL13 := hide hL13
                  replace hA13 := hide hA13
                  replace hC13 := hide hC13
                  replace hH13 := hide hH13
                  clear hwz hkz hlz hb12 hH12 hHz hrz hgl
                  refine hide ?_
                  by_cases he : (z : Int) = op
                  · have heq : ((z : Int) == op) = true := by rw [beq_iff_eq]; exact he
                    have eU : updT op z V0 V1 = V0 := if_pos (by omega)
                    have eV : updT op (z + 1) V0 V1 = V1 := if_neg (by omega)
                    have hrc := hT13.out
                    rw [eU] at hrc
                    have hrc2 := hide (TReceive (hrc.tight hV0.out hrc.ot) (by omega) (z : Int) ⟨m0, m1, m2, m3, m4, m5, m6, m7, m8, m9, m10, m11, m12, m13, m14, m15⟩ q5.out)
                    replace he := hide he
                    replace eV := hide eV
                    clear hrc hT13 eU
                    go_wp2_with ((with_reducible change wpList _ _ _ _ _ _); refine wpList_load_mid rfl 40 (.tmp 76) rfl g 1 rfl (fB ⟨m0, m1, m2, m3, m4, m5, m6, m7, m8, m9, m10, m11, m12, m13, m14, m15⟩) _ hrg2 Try.underlying40 rfl (bpLen _) ?_)
                    refine hrc2.out.mono ?_
                    rintro e w14 ⟨rfl, hT14, hK14⟩
                    have hT15 : Hid (Two w14 ta tb (fun k => Bx k ∨ k = g) (40 * (x + 1)) (40 * M1) (updT op (z + 1) V0 V1) (passT (tookT T) S.outs)) := by
                      rw [he.out, ← hstep.out] at hT14
                      rw [eV.out]
                      exact hT14.le (by omega)
                    have hK15 := hide (hK13.out.trans (hK14.mono (fun k hk => .inl (hB1.out k hk))))
                    have hL15 := hide (hL13.out.held hK14 (fun k e => .inl (hHl.out k e)))
                    have hA15 := hide (hA13.out.held hK14 (fun k e => .inl (hH1.out k e)))
                    have hC15 := hide (hC13.out.held hK14 (fun k e => .inl (hH2.out k e)))
                    have hH15 := hide ((hK14.block g (.inr rfl)).trans hH13.out)
                    clear hrc2 hT14 hK14 hK13 hL13 hA13 hC13 hH13 hrg2 c0 c1' p0
                    go_wp2
                    go_round
                    case rel => exact ⟨z + 1, by omega, by go_num, hT15, hK15, hL15, hA15, hC15, hH15⟩
                    case measure => simp [intOf]; omega
                  · have heq : ((z : Int) == op) = false := by rw [beq_eq_false_iff_ne]; exact he
                    have eU : Hid (updT op (z + 1) V0 V1 = updT op z V0 V1) := by
                      show _ = _
                      unfold updT
                      by_cases h : (z : Int) ≤ op
                      · rw [if_pos h, if_pos (by omega)]
                      · rw [if_neg h, if_neg (by omega)]
                    rw [← eU.out] at hT13
                    clear hrg2
                    go_wp2
                    go_round
                    case rel => exact ⟨z + 1, by omega, by go_num, hT13, hK13, hL13, hA13, hC13, hH13⟩
                    case measure => simp [intOf]; omega
                · obtain rfl : n = z := by omega
                  have eV : updT op n V0 V1 = V1 := if_neg (by omega)
                  rw [eV] at hTz
                  have hTo := hide (hTz.out.mono (B' := Bx) (fun k hk => .inl hk))
                  clear eV hTz
                  go_wp2
                  go_round
                  case rel => exact ⟨x + 1, by omega, by go_num, by rw [hV1.out]; exact hTo, hKz, hLz, hAz, hCz⟩
                  case measure => simp [intOf]; omega
            · obtain rfl : M2 = x := by omega
              have hall : T.outs.take M2 = T.outs := List.take_of_length_le (by rw [hM2.out]; omega)
              have hTd := hTw.out
              rw [hall] at hTd
              replace hTd := hide hTd
              clear hall hTw
              have hfin : Hid (StP C n ida idb wr ta tb B (200 - (q + 1)) E) := by
                rw [show 200 - (q + 1) = 199 - q by omega]
                have hcn : ¬ (c.outs.length = 0 ∧ d.outs.length = 0) := by rw [g1.out.outs.len, g2.out.outs.len]; exact hne.out
                exact ⟨passT (tookT c) d.outs, passT (tookT d) c.outs, passT (tookT S) T.outs, passT (tookT T) S.outs, rt_pass L.out (rt_took g1.out) g2.out.outs, rt_pass L.out (rt_took g2.out) g1.out.outs, okPr_next g3.out hcn, fine_pass (fine_took g4.out) _ (fun o ho => (g5.out.out o ho).2.2.2.2), fine_pass (fine_took g5.out) _ (fun o ho => (g4.out.out o ho).2.2.2.2), hgo.out.symm, (hTd.out.mono (fun k hk => hB1.out k hk)).tight (Nat.le_trans hTd.out.os (by omega)) (Nat.le_trans hTd.out.ot (by omega))⟩
              clear hTd hLx hAx hBx'
              go_wp2
              go_round
              case rel => exact ⟨q + 1, by omega, by go_num, hfin, hKx⟩
              case measure => simp [intOf]; omega
    · have hz1q : ((M1 : Int) == 0) = false := by rw [beq_eq_false_iff_ne]; omega
      replace hz1 := hide hz1
      replace hz := hide hz
      go_wp2_with fail
      clear hz1q
      go_loopw [33] (fun i wr => ∃ x : Nat, x ≤ M1 ∧ i = .int .i64 x ∧ Hid (Two wr tb ta Bx (40 * x) 0 (passT (tookT T) (S.outs.take x)) (tookT S)) ∧ Hid (Kp B w wr) ∧ Hid (Sl wr (.slice al n cl) 51 2 fL (List.range n)) ∧ Hid (Sl wr (.slice a1 M1 c1) 77 17 fO S.outs) ∧ Hid (Sl wr (.slice a2 M2 c2) 77 17 fO T.outs)) (fun i _ => M1 - (intOf i).toNat)
      case atStart => exact ⟨0, Nat.zero_le _, rfl, hTT, hK4, hl2, hS1', hS2⟩
      case round =>
        obtain ⟨x, hx, rfl, hTw, hKx, hLx, hAx, hBx'⟩ := hrel
        clear hTT hK4 hl2 hS1' hS2
        by_cases hxl : x < M1
        · have hxo : x < S.outs.length := by rw [hM1.out]; exact hxl
          obtain ⟨pb, cp, sp, hse, hFl, -, -⟩ := hAx.out.at_i (show 0 < S.outs.length by omega)
          have hrg0 := hide (hFl.range wide_O Ot.zero x hxo)
          obtain ⟨q1, q2, q3, q4, q5⟩ := g4.out.out.at x hxo
          have hstep : Hid (passT (tookT T) (S.outs.take (x + 1)) = recvT (passT (tookT T) (S.outs.take x)) (S.outs.getD x Ot.zero).port (S.outs.getD x Ot.zero).m) := by
            show _ = _
            rw [← take_pushI S.outs x Ot.zero hxo, passT_push]
          have hV0 : Hid ((passT (tookT T) (S.outs.take x)).outs.length ≤ 40 * x) := hTw.out.os
          have hae : a1 = some ⟨pb, 0, none⟩ := by simp only [Value.slice.injEq] at hse; exact hse.1
          generalize hV1 : passT (tookT T) (S.outs.take (x + 1)) = V1 at *
          replace hV1 := hide hV1
          generalize passT (tookT T) (S.outs.take x) = V0 at *
          generalize S.outs.getD x Ot.zero = ot at *
          obtain ⟨op, ⟨m0, m1, m2, m3, m4, m5, m6, m7, m8, m9, m10, m11, m12, m13, m14, m15⟩⟩ := ot
          dsimp only at q2 q3
          replace q5 := hide q5
          have hrg := hrg0.out
          subst hae
          clear hFl q1 q4 hrg0 hse
          go_wp2_with (first | ((with_reducible change wpList _ _ _ _ _ _); refine wpList_load_mid rfl 77 (.tmp 35) rfl pb (x * 17) rfl (fO ⟨op, ⟨m0, m1, m2, m3, m4, m5, m6, m7, m8, m9, m10, m11, m12, m13, m14, m15⟩⟩) _ hrg Try.underlying77 rfl (otLen _) ?_) | ((with_reducible change wpList _ _ _ _ _ _); refine wpList_store_fresh rfl 77 (.tmp 10) (.tmp 36) rfl (Ot.row ⟨op, ⟨m0, m1, m2, m3, m4, m5, m6, m7, m8, m9, m10, m11, m12, m13, m14, m15⟩⟩) Ot.zero.row rfl rfl 77 (otSize _) rfl (Ot.row_all _) ?_; intro w11 hH11 hb11; refine unhB ?_))
          generalize hg : wr.heap.size = g at *
          have hgl : g < w11.heap.size := (Array.getElem?_eq_some_iff.1 hH11).1
          have hT3 : Hid (Two w11 tb ta (fun k => Bx k ∨ k = g) (40 * (x + 1)) 0 (updT op 0 V0 V1) (tookT S)) := by
            have e : updT op 0 V0 V1 = V0 := if_pos q2
            rw [e]
            exact (hTw.out.fresh (by rw [hg]; exact hb11) (fun k hk => by
              rcases hk with h | h
              · exact .inl h
              · exact .inr ⟨by omega, by omega⟩)).le (by omega)
          have hbw : Below wr.heap.size wr w11 := by rw [hg]; exact hb11
          have hK3 := hide (hKx.out.trans (Kp.of_below (A := B) hbw (fun k hk => hTw.out.ltB k (hB1.out k hk))))
          have hL3 := hide (hLx.out.below hbw)
          have hA3 := hide (hAx.out.below hbw)
          have hC3 := hide (hBx'.out.below hbw)
          replace hH11 := hide hH11
          clear hTw hKx hLx hAx hBx' hb11 hbw hrg hg hgl
          refine hide ?_
          go_wp2_with fail
          go_loopw [39] (fun i wr => ∃ z : Nat, z ≤ n ∧ i = .int .i64 z ∧ Hid (Two wr tb ta (fun k => Bx k ∨ k = g) (40 * (x + 1)) 0 (updT op z V0 V1) (tookT S)) ∧ Hid (Kp B w wr) ∧ Hid (Sl wr (.slice al n cl) 51 2 fL (List.range n)) ∧ Hid (Sl wr (.slice (some ⟨pb, 0, none⟩) M1 c1) 77 17 fO S.outs) ∧ Hid (Sl wr (.slice a2 M2 c2) 77 17 fO T.outs) ∧ Hid (wr.heap[g]? = some (.cells (Ot.row ⟨op, ⟨m0, m1, m2, m3, m4, m5, m6, m7, m8, m9, m10, m11, m12, m13, m14, m15⟩⟩) 77 (0, 0)))) (fun i _ => n - (intOf i).toNat)
          case atStart => exact ⟨0, Nat.zero_le _, rfl, hT3, hK3, hL3, hA3, hC3, hH11⟩
          case round =>
            obtain ⟨z, hzn, rfl, hTz, hKz, hLz, hAz, hCz, hHz⟩ := hrel
            clear hT3 hK3 hL3 hA3 hC3 hH11
            by_cases hzl : z < n
            · obtain ⟨lb, lc, ls, hlse, hLf, -, -⟩ := hLz.out.at_i (show 0 < (List.range n).length by simp; omega)
              have hrz := hLf.range wide_L 0 z (by simp; exact hzl)
              rw [show (List.range n).getD z 0 = z by simp [hzl]] at hrz
              have hle : al = some ⟨lb, 0, none⟩ := by simp only [Value.slice.injEq] at hlse; exact hlse.1
              subst hle
              have hgl : g < wr.heap.size := (Array.getElem?_eq_some_iff.1 hHz.out).1
              have hwz := hide (fun (W : World) (hb : Below wr.heap.size wr W) => hTz.out.below hb)
              have hkz := hide (fun (W : World) (hb : Below wr.heap.size wr W) => hKz.out.trans (Kp.of_below (A := B) hb (fun k hk => hTz.out.ltB k (.inl (hB1.out k hk)))))
              have hlz := hide (fun (W : World) (hb : Below wr.heap.size wr W) => (⟨hLz.out.below hb, hAz.out.below hb, hCz.out.below hb⟩ : _ ∧ _ ∧ _))
              clear hLf hlse hTz hKz hLz hAz hCz
              go_wp2_with (first | ((with_reducible change wpList _ _ _ _ _ _); refine wpList_load_mid rfl 51 (.tmp 41) rfl lb (z * 2) rfl (fL z) _ hrz Try.underlying51 rfl (twoLen z) ?_) | ((with_reducible change wpList _ _ _ _ _ _); refine wpList_store_fresh rfl 51 (.tmp 12) (.tmp 42) rfl #[.int .i64 z, .int .i64 z] #[.int .i64 0, .int .i64 0] rfl rfl 51 (twoSize _ _) rfl (by simp [Value.oneCell']) ?_; intro w12 hH12 hb12; refine unhB ?_))
              have c0 : w12.cell? ⟨wr.heap.size, 0, none⟩ = some (.int .i64 z) := (cell_of_row _ _ _ _ _ _ hH12).trans rfl
              have c1' : w12.cell? ⟨wr.heap.size, 1, none⟩ = some (.int .i64 z) := (cell_of_row _ _ _ _ _ _ hH12).trans rfl
              have hH13 := heap_kept hb12 hHz.out
              have p0 : w12.cell? ⟨g, 0, none⟩ = some (.int .i64 op) := (cell_of_row _ _ _ _ _ _ hH13).trans rfl
              have hrg2 : w12.rangeAt g 1 (fB ⟨m0, m1, m2, m3, m4, m5, m6, m7, m8, m9, m10, m11, m12, m13, m14, m15⟩) := range_of_row (cs := fO ⟨op, ⟨m0, m1, m2, m3, m4, m5, m6, m7, m8, m9, m10, m11, m12, m13, m14, m15⟩⟩) hH13 1 _ (fun j v hj => by rw [Nat.add_comm]; exact hj)
              have hT13 := hide (hwz.out _ hb12)
              have hK13 := hide (hkz.out _ hb12)
              obtain ⟨hL13, hA13, hC13⟩ := hlz.out _ hb12
              replace hL13 := hide hL13
              replace hA13 := hide hA13
              replace hC13 := hide hC13
              replace hH13 := hide hH13
              clear hwz hkz hlz hb12 hH12 hHz hrz hgl
              refine hide ?_
              by_cases he : (z : Int) = op
              · have heq : ((z : Int) == op) = true := by rw [beq_iff_eq]; exact he
                have eU : updT op z V0 V1 = V0 := if_pos (by omega)
                have eV : updT op (z + 1) V0 V1 = V1 := if_neg (by omega)
                have hrc := hT13.out
                rw [eU] at hrc
                have hrc2 := hide (TReceive (hrc.tight hV0.out hrc.ot) (by omega) (z : Int) ⟨m0, m1, m2, m3, m4, m5, m6, m7, m8, m9, m10, m11, m12, m13, m14, m15⟩ q5.out)
                replace he := hide he
                replace eV := hide eV
                clear hrc hT13 eU
                go_wp2_with ((with_reducible change wpList _ _ _ _ _ _); refine wpList_load_mid rfl 40 (.tmp 51) rfl g 1 rfl (fB ⟨m0, m1, m2, m3, m4, m5, m6, m7, m8, m9, m10, m11, m12, m13, m14, m15⟩) _ hrg2 Try.underlying40 rfl (bpLen _) ?_)
                refine hrc2.out.mono ?_
                rintro e w14 ⟨rfl, hT14, hK14⟩
                have hT15 : Hid (Two w14 tb ta (fun k => Bx k ∨ k = g) (40 * (x + 1)) 0 (updT op (z + 1) V0 V1) (tookT S)) := by
                  rw [he.out, ← hstep.out] at hT14
                  rw [eV.out]
                  exact hT14.le (by omega)
                have hK15 := hide (hK13.out.trans (hK14.mono (fun k hk => .inl (hB1.out k hk))))
                have hL15 := hide (hL13.out.held hK14 (fun k e => .inl (hHl.out k e)))
                have hA15 := hide (hA13.out.held hK14 (fun k e => .inl (hH1.out k e)))
                have hC15 := hide (hC13.out.held hK14 (fun k e => .inl (hH2.out k e)))
                have hH15 := hide ((hK14.block g (.inr rfl)).trans hH13.out)
                clear hrc2 hT14 hK14 hK13 hL13 hA13 hC13 hH13 hrg2 c0 c1' p0
                go_wp2
                go_round
                case rel => exact ⟨z + 1, by omega, by go_num, hT15, hK15, hL15, hA15, hC15, hH15⟩
                case measure => simp [intOf]; omega
              · have heq : ((z : Int) == op) = false := by rw [beq_eq_false_iff_ne]; exact he
                have eU : Hid (updT op (z + 1) V0 V1 = updT op z V0 V1) := by
                  show _ = _
                  unfold updT
                  by_cases h : (z : Int) ≤ op
                  · rw [if_pos h, if_pos (by omega)]
                  · rw [if_neg h, if_neg (by omega)]
                rw [← eU.out] at hT13
                clear hrg2
                go_wp2
                go_round
                case rel => exact ⟨z + 1, by omega, by go_num, hT13, hK13, hL13, hA13, hC13, hH13⟩
                case measure => simp [intOf]; omega
            · obtain rfl : n = z := by omega
              have eV : updT op n V0 V1 = V1 := if_neg (by omega)
              rw [eV] at hTz
              have hTo := hide (hTz.out.mono (B' := Bx) (fun k hk => .inl hk))
              clear eV hTz
              go_wp2
              go_round
              case rel => exact ⟨x + 1, by omega, by go_num, by rw [hV1.out]; exact hTo, hKz, hLz, hAz, hCz⟩
              case measure => simp [intOf]; omega
        · obtain rfl : M1 = x := by omega
          have hall : S.outs.take M1 = S.outs := List.take_of_length_le (by rw [hM1.out]; omega)
          have hTd := hTw.out
          rw [hall] at hTd
          replace hTd := hide hTd
          clear hall hTw
          have hT5 := hide hTd.out.swap
          have hK5 := hKx
          have hL5 := hLx
          have hA5 := hAx
          have hC5 := hBx'
          clear hTd hKx hLx hAx hBx'
          go_wp2_with fail
          go_loopw [58] (fun i wr => ∃ x : Nat, x ≤ M2 ∧ i = .int .i64 x ∧ Hid (Two wr ta tb Bx (40 * x) (40 * M1) (passT (tookT S) (T.outs.take x)) (passT (tookT T) S.outs)) ∧ Hid (Kp B w wr) ∧ Hid (Sl wr (.slice al n cl) 51 2 fL (List.range n)) ∧ Hid (Sl wr (.slice a1 M1 c1) 77 17 fO S.outs) ∧ Hid (Sl wr (.slice a2 M2 c2) 77 17 fO T.outs)) (fun i _ => M2 - (intOf i).toNat)
          case atStart => exact ⟨0, Nat.zero_le _, rfl, hT5, hK5, hL5, hA5, hC5⟩
          case round =>
            obtain ⟨x, hx, rfl, hTw, hKx, hLx, hAx, hBx'⟩ := hrel
            clear hT5 hK5 hL5 hA5 hC5
            by_cases hxl : x < M2
            · have hxo : x < T.outs.length := by rw [hM2.out]; exact hxl
              obtain ⟨pb, cp, sp, hse, hFl, -, -⟩ := hBx'.out.at_i (show 0 < T.outs.length by omega)
              have hrg0 := hide (hFl.range wide_O Ot.zero x hxo)
              obtain ⟨q1, q2, q3, q4, q5⟩ := g5.out.out.at x hxo
              have hstep : Hid (passT (tookT S) (T.outs.take (x + 1)) = recvT (passT (tookT S) (T.outs.take x)) (T.outs.getD x Ot.zero).port (T.outs.getD x Ot.zero).m) := by
                show _ = _
                rw [← take_pushI T.outs x Ot.zero hxo, passT_push]
              have hV0 : Hid ((passT (tookT S) (T.outs.take x)).outs.length ≤ 40 * x) := hTw.out.os
              have hae : a2 = some ⟨pb, 0, none⟩ := by simp only [Value.slice.injEq] at hse; exact hse.1
              generalize hV1 : passT (tookT S) (T.outs.take (x + 1)) = V1 at *
              replace hV1 := hide hV1
              generalize passT (tookT S) (T.outs.take x) = V0 at *
              generalize T.outs.getD x Ot.zero = ot at *
              obtain ⟨op, ⟨m0, m1, m2, m3, m4, m5, m6, m7, m8, m9, m10, m11, m12, m13, m14, m15⟩⟩ := ot
              dsimp only at q2 q3
              replace q5 := hide q5
              have hrg := hrg0.out
              subst hae
              clear hFl q1 q4 hrg0 hse
              go_wp2_with (first | ((with_reducible change wpList _ _ _ _ _ _); refine wpList_load_mid rfl 77 (.tmp 60) rfl pb (x * 17) rfl (fO ⟨op, ⟨m0, m1, m2, m3, m4, m5, m6, m7, m8, m9, m10, m11, m12, m13, m14, m15⟩⟩) _ hrg Try.underlying77 rfl (otLen _) ?_) | ((with_reducible change wpList _ _ _ _ _ _); refine wpList_store_fresh rfl 77 (.tmp 14) (.tmp 61) rfl (Ot.row ⟨op, ⟨m0, m1, m2, m3, m4, m5, m6, m7, m8, m9, m10, m11, m12, m13, m14, m15⟩⟩) Ot.zero.row rfl rfl 77 (otSize _) rfl (Ot.row_all _) ?_; intro w11 hH11 hb11; refine unhB ?_))
              generalize hg : wr.heap.size = g at *
              have hgl : g < w11.heap.size := (Array.getElem?_eq_some_iff.1 hH11).1
              have hT3 : Hid (Two w11 ta tb (fun k => Bx k ∨ k = g) (40 * (x + 1)) (40 * M1) (updT op 0 V0 V1) (passT (tookT T) S.outs)) := by
                have e : updT op 0 V0 V1 = V0 := if_pos q2
                rw [e]
                exact (hTw.out.fresh (by rw [hg]; exact hb11) (fun k hk => by
                  rcases hk with h | h
                  · exact .inl h
                  · exact .inr ⟨by omega, by omega⟩)).le (by omega)
              have hbw : Below wr.heap.size wr w11 := by rw [hg]; exact hb11
              have hK3 := hide (hKx.out.trans (Kp.of_below (A := B) hbw (fun k hk => hTw.out.ltB k (hB1.out k hk))))
              have hL3 := hide (hLx.out.below hbw)
              have hA3 := hide (hAx.out.below hbw)
              have hC3 := hide (hBx'.out.below hbw)
              replace hH11 := hide hH11
              clear hTw hKx hLx hAx hBx' hb11 hbw hrg hg hgl
              refine hide ?_
              go_wp2_with fail
              go_loopw [64] (fun i wr => ∃ z : Nat, z ≤ n ∧ i = .int .i64 z ∧ Hid (Two wr ta tb (fun k => Bx k ∨ k = g) (40 * (x + 1)) (40 * M1) (updT op z V0 V1) (passT (tookT T) S.outs)) ∧ Hid (Kp B w wr) ∧ Hid (Sl wr (.slice al n cl) 51 2 fL (List.range n)) ∧ Hid (Sl wr (.slice a1 M1 c1) 77 17 fO S.outs) ∧ Hid (Sl wr (.slice (some ⟨pb, 0, none⟩) M2 c2) 77 17 fO T.outs) ∧ Hid (wr.heap[g]? = some (.cells (Ot.row ⟨op, ⟨m0, m1, m2, m3, m4, m5, m6, m7, m8, m9, m10, m11, m12, m13, m14, m15⟩⟩) 77 (0, 0)))) (fun i _ => n - (intOf i).toNat)
              case atStart => exact ⟨0, Nat.zero_le _, rfl, hT3, hK3, hL3, hA3, hC3, hH11⟩
              case round =>
                obtain ⟨z, hzn, rfl, hTz, hKz, hLz, hAz, hCz, hHz⟩ := hrel
                clear hT3 hK3 hL3 hA3 hC3 hH11
                by_cases hzl : z < n
                · obtain ⟨lb, lc, ls, hlse, hLf, -, -⟩ := hLz.out.at_i (show 0 < (List.range n).length by simp; omega)
                  have hrz := hLf.range wide_L 0 z (by simp; exact hzl)
                  rw [show (List.range n).getD z 0 = z by simp [hzl]] at hrz
                  have hle : al = some ⟨lb, 0, none⟩ := by simp only [Value.slice.injEq] at hlse; exact hlse.1
                  subst hle
                  have hgl : g < wr.heap.size := (Array.getElem?_eq_some_iff.1 hHz.out).1
                  have hwz := hide (fun (W : World) (hb : Below wr.heap.size wr W) => hTz.out.below hb)
                  have hkz := hide (fun (W : World) (hb : Below wr.heap.size wr W) => hKz.out.trans (Kp.of_below (A := B) hb (fun k hk => hTz.out.ltB k (.inl (hB1.out k hk)))))
                  have hlz := hide (fun (W : World) (hb : Below wr.heap.size wr W) => (⟨hLz.out.below hb, hAz.out.below hb, hCz.out.below hb⟩ : _ ∧ _ ∧ _))
                  clear hLf hlse hTz hKz hLz hAz hCz
                  go_wp2_with (first | ((with_reducible change wpList _ _ _ _ _ _); refine wpList_load_mid rfl 51 (.tmp 66) rfl lb (z * 2) rfl (fL z) _ hrz Try.underlying51 rfl (twoLen z) ?_) | ((with_reducible change wpList _ _ _ _ _ _); refine wpList_store_fresh rfl 51 (.tmp 16) (.tmp 67) rfl #[.int .i64 z, .int .i64 z] #[.int .i64 0, .int .i64 0] rfl rfl 51 (twoSize _ _) rfl (by simp [Value.oneCell']) ?_; intro w12 hH12 hb12; refine unhB ?_))
                  have c0 : w12.cell? ⟨wr.heap.size, 0, none⟩ = some (.int .i64 z) := (cell_of_row _ _ _ _ _ _ hH12).trans rfl
                  have c1' : w12.cell? ⟨wr.heap.size, 1, none⟩ = some (.int .i64 z) := (cell_of_row _ _ _ _ _ _ hH12).trans rfl
                  have hH13 := heap_kept hb12 hHz.out
                  have p0 : w12.cell? ⟨g, 0, none⟩ = some (.int .i64 op) := (cell_of_row _ _ _ _ _ _ hH13).trans rfl
                  have hrg2 : w12.rangeAt g 1 (fB ⟨m0, m1, m2, m3, m4, m5, m6, m7, m8, m9, m10, m11, m12, m13, m14, m15⟩) := range_of_row (cs := fO ⟨op, ⟨m0, m1, m2, m3, m4, m5, m6, m7, m8, m9, m10, m11, m12, m13, m14, m15⟩⟩) hH13 1 _ (fun j v hj => by rw [Nat.add_comm]; exact hj)
                  have hT13 := hide (hwz.out _ hb12)
                  have hK13 := hide (hkz.out _ hb12)
                  obtain ⟨hL13, hA13, hC13⟩ := hlz.out _ hb12
                  replace hL13 := hide hL13
                  replace hA13 := hide hA13
                  replace hC13 := hide hC13
                  replace hH13 := hide hH13
                  clear hwz hkz hlz hb12 hH12 hHz hrz hgl
                  refine hide ?_
                  by_cases he : (z : Int) = op
                  · have heq : ((z : Int) == op) = true := by rw [beq_iff_eq]; exact he
                    have eU : updT op z V0 V1 = V0 := if_pos (by omega)
                    have eV : updT op (z + 1) V0 V1 = V1 := if_neg (by omega)
                    have hrc := hT13.out
                    rw [eU] at hrc
                    have hrc2 := hide (TReceive (hrc.tight hV0.out hrc.ot) (by omega) (z : Int) ⟨m0, m1, m2, m3, m4, m5, m6, m7, m8, m9, m10, m11, m12, m13, m14, m15⟩ q5.out)
                    replace he := hide he
                    replace eV := hide eV
                    clear hrc hT13 eU
                    go_wp2_with ((with_reducible change wpList _ _ _ _ _ _); refine wpList_load_mid rfl 40 (.tmp 76) rfl g 1 rfl (fB ⟨m0, m1, m2, m3, m4, m5, m6, m7, m8, m9, m10, m11, m12, m13, m14, m15⟩) _ hrg2 Try.underlying40 rfl (bpLen _) ?_)
                    refine hrc2.out.mono ?_
                    rintro e w14 ⟨rfl, hT14, hK14⟩
                    have hT15 : Hid (Two w14 ta tb (fun k => Bx k ∨ k = g) (40 * (x + 1)) (40 * M1) (updT op (z + 1) V0 V1) (passT (tookT T) S.outs)) := by
                      rw [he.out, ← hstep.out] at hT14
                      rw [eV.out]
                      exact hT14.le (by omega)
                    have hK15 := hide (hK13.out.trans (hK14.mono (fun k hk => .inl (hB1.out k hk))))
                    have hL15 := hide (hL13.out.held hK14 (fun k e => .inl (hHl.out k e)))
                    have hA15 := hide (hA13.out.held hK14 (fun k e => .inl (hH1.out k e)))
                    have hC15 := hide (hC13.out.held hK14 (fun k e => .inl (hH2.out k e)))
                    have hH15 := hide ((hK14.block g (.inr rfl)).trans hH13.out)
                    clear hrc2 hT14 hK14 hK13 hL13 hA13 hC13 hH13 hrg2 c0 c1' p0
                    go_wp2
                    go_round
                    case rel => exact ⟨z + 1, by omega, by go_num, hT15, hK15, hL15, hA15, hC15, hH15⟩
                    case measure => simp [intOf]; omega
                  · have heq : ((z : Int) == op) = false := by rw [beq_eq_false_iff_ne]; exact he
                    have eU : Hid (updT op (z + 1) V0 V1 = updT op z V0 V1) := by
                      show _ = _
                      unfold updT
                      by_cases h : (z : Int) ≤ op
                      · rw [if_pos h, if_pos (by omega)]
                      · rw [if_neg h, if_neg (by omega)]
                    rw [← eU.out] at hT13
                    clear hrg2
                    go_wp2
                    go_round
                    case rel => exact ⟨z + 1, by omega, by go_num, hT13, hK13, hL13, hA13, hC13, hH13⟩
                    case measure => simp [intOf]; omega
                · obtain rfl : n = z := by omega
                  have eV : updT op n V0 V1 = V1 := if_neg (by omega)
                  rw [eV] at hTz
                  have hTo := hide (hTz.out.mono (B' := Bx) (fun k hk => .inl hk))
                  clear eV hTz
                  go_wp2
                  go_round
                  case rel => exact ⟨x + 1, by omega, by go_num, by rw [hV1.out]; exact hTo, hKz, hLz, hAz, hCz⟩
                  case measure => simp [intOf]; omega
            · obtain rfl : M2 = x := by omega
              have hall : T.outs.take M2 = T.outs := List.take_of_length_le (by rw [hM2.out]; omega)
              have hTd := hTw.out
              rw [hall] at hTd
              replace hTd := hide hTd
              clear hall hTw
              have hfin : Hid (StP C n ida idb wr ta tb B (200 - (q + 1)) E) := by
                rw [show 200 - (q + 1) = 199 - q by omega]
                have hcn : ¬ (c.outs.length = 0 ∧ d.outs.length = 0) := by rw [g1.out.outs.len, g2.out.outs.len]; exact hne.out
                exact ⟨passT (tookT c) d.outs, passT (tookT d) c.outs, passT (tookT S) T.outs, passT (tookT T) S.outs, rt_pass L.out (rt_took g1.out) g2.out.outs, rt_pass L.out (rt_took g2.out) g1.out.outs, okPr_next g3.out hcn, fine_pass (fine_took g4.out) _ (fun o ho => (g5.out.out o ho).2.2.2.2), fine_pass (fine_took g5.out) _ (fun o ho => (g4.out.out o ho).2.2.2.2), hgo.out.symm, (hTd.out.mono (fun k hk => hB1.out k hk)).tight (Nat.le_trans hTd.out.os (by omega)) (Nat.le_trans hTd.out.ot (by omega))⟩
              clear hTd hLx hAx hBx'
              go_wp2
              go_round
              case rel => exact ⟨q + 1, by omega, by go_num, hfin, hKx⟩
              case measure => simp [intOf]; omega
end Go.Proofs.Ytoejoneecanbbaa
