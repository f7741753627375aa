/-
  The walk of TreeLoop. Conditions: those that the theorem names.
-/
import Derived.Test.YtaepjiakehkeoaaLTl
namespace Go.Proofs.Ytaepjiakehkeoaa
open Go.RowKit
set_option linter.unusedVariables false
set_option maxRecDepth 20000

def StL (C D : Int → Int → Prop) (low : Nat) (id : Int) (w : World) (tb : Nat) (A : Nat → Prop) (r : Nat) : Prop := ∃ c T, RT C D c T ∧ okLp low r c = true ∧ Fine 2 id T ∧ Ow w tb A 100000 T
def StI (C D : Int → Int → Prop) (low : Nat) (id : Int) (w : World) (tb : Nat) (A : Nat → Prop) (r k : Nat) : Prop := ∃ c T, RT C D c T ∧ okIn k c = true ∧ okLp low r (tickT (innerT k c)) = true ∧ Fine 2 id T ∧ Ow w tb A 100000 T
theorem StL.inner {C D : Int → Int → Prop} {low : Nat} {id : Int} {w : World} {tb : Nat} {A : Nat → Prop} {r : Nat} (h : StL C D low id w tb A (r + 1)) : StI C D low id w tb A r 20 := by
  obtain ⟨c, T, h1, h2, h3, h4⟩ := h
  unfold okLp at h2
  rw [Bool.and_eq_true] at h2
  exact ⟨c, T, h1, h2.1, h2.2, h3, h4⟩
theorem Ow.tight {w : World} {tb N N' : Nat} {A : Nat → Prop} {T : Tt} (h : Ow w tb A N T) (hn : T.outs.length ≤ N') : Ow w tb A N' T := ⟨h.ex, h.ok, h.q, hn⟩
set_option maxHeartbeats 8000000 in
theorem Tl_walk (id one two : Int) (w : World) (hid : U64 id) (ho : I64 one) (ht : I64 two) : Calls Try.prog 14 #[.int .u64 id, .int .i64 one, .int .i64 two] w fun e w' => e = .returned (.bool true) ∧ Below w.heap.size w w' := by
  go_enter Try.func14, Try.ntmps14
  go_wp2_with fail
  refine (grows_any _).mono ?_
  rintro e w0 ⟨rfl, hb0⟩
  replace hb0 := hide hb0
  have hid' := hide hid
  have ho' := hide ho
  have ht' := hide ht
  clear hid ho ht
  by_cases h1 : one < 1
  · go_wp2
    go_ret
    exact ⟨rfl, hb0.out⟩
  by_cases h2 : two < 1
  · go_wp2
    go_ret
    exact ⟨rfl, hb0.out⟩
  by_cases h3 : one > 4000
  · go_wp2
    go_ret
    exact ⟨rfl, hb0.out⟩
  by_cases h4 : two > 4000
  · go_wp2
    go_ret
    exact ⟨rfl, hb0.out⟩
  by_cases h5 : one = two
  · have h5q : (one == two) = true := by rw [beq_iff_eq]; exact h5
    go_wp2
    go_ret
    exact ⟨rfl, hb0.out⟩
  have h5q : (one == two) = false := by rw [beq_eq_false_iff_ne]; exact h5
  obtain ⟨C, D, c0, L, hR0, hok0⟩ := L0_small id one two hid'.out (by omega) (by omega) (by omega) (by omega) h5
  have hwfp : Hid (∀ i, i < ([one, two].map portP).length → (([one, two].map portP).getD i Tp.zero).b.wf) := ports_wf (l := [one, two]) (fun i hi => by
    have hi' : i < 2 := hi
    rcases (show i = 0 ∨ i = 1 by omega) with rfl | rfl
    · exact ho'.out
    · exact ht'.out)
  generalize hlow : (if two < one then 1 else 0) = low at hok0
  replace hlow := hide hlow
  replace L := hide L
  replace hR0 := hide hR0
  replace hok0 := hide hok0
  have hb1 := hide (below1 w0 (.cells #[.int .i64 one, .int .i64 two] 3))
  have hF0 : Fl (w0.alloc (.cells #[.int .i64 one, .int .i64 two] 3)) w0.heap.size 3 fI [one, two] [] := heap_alloc_new _ _
  have hp := hide (ports_any (some ⟨w0.heap.size, 0, none⟩) 2 2 [one, two] (w0.alloc (.cells #[.int .i64 one, .int .i64 two] 3)) (by omega) hF0.ins)
  clear hF0 h5
  go_wp2_with fail
  refine hp.out.mono ?_
  rintro e w1 ⟨v1, rfl, hS1, hB1, hF1⟩
  have hB2 := hide (hb0.out.later (hb1.out.later hB1))
  obtain ⟨a1, c1, rfl, hc1, hcn1, hT1⟩ := hS1.tps hwfp.out
  have hl1 : ([one, two].map portP).length = 2 := rfl
  rw [hl1] at hc1 hT1 ⊢
  have hn := hide (ONew id a1 2 c1 [portP one, portP two] w1 (fun k => k < w.heap.size) (fun k hk => Nat.lt_of_lt_of_le hk hB2.out.size) hid'.out (by omega) hc1 hcn1 hT1)
  clear hp hb1 hB1 hF1 hS1 hc1 hcn1 hT1 hl1 hb0
  go_wp2_with fail
  refine hn.out.mono ?_
  rintro e w3 ⟨tb, rfl, hO3, hb3⟩
  have hB3 := hide (hB2.out.later hb3)
  replace hO3 := hide hO3
  clear hn hB2 hb3
  go_wp2_with fail
  refine (OLink hO3.out (by omega) 0 true).mono ?_
  rintro e w4 ⟨rfl, hO4, hK4⟩
  have hB4 := hide (hK4.below hB3.out (fun k hk => hk))
  have hl4 := hide (OLink hO4 (by omega) 1 true)
  clear hK4 hB3 hO3 hO4
  go_wp2_with fail
  refine hl4.out.mono ?_
  rintro e w5 ⟨rfl, hO5, hK5⟩
  have hB5 := hide (hK5.below hB4.out (fun k hk => hk))
  have hSt : Hid (StL C D low id w5 tb (fun k => k < w.heap.size) (35 - 0)) := ⟨c0, L0 id one two, hR0.out, hok0.out, fine_link (fine_link (fine_new (ps := [portP one, portP two]) hid'.out hwfp.out) 0 true) 1 true, hO5.le (by omega)⟩
  clear hl4 hK5 hB4 hO5 hR0 hok0 hwfp
  go_wp2_with fail
  go_loopw [44] (fun i wr => ∃ r : Nat, r ≤ 35 ∧ i = .int .i64 r ∧ Hid (StL C D low id wr tb (fun k => k < w.heap.size) (35 - r)) ∧ Hid (Below w.heap.size w wr)) (fun i _ => 35 - (intOf i).toNat)
  case atStart => exact ⟨0, Nat.zero_le _, rfl, hSt, hB5⟩
  case round =>
    obtain ⟨r, hr, rfl, hS, hB⟩ := hrel
    clear hSt hB5
    by_cases hlt : r < 35
    rotate_left
    · obtain rfl : r = 35 := by omega
      obtain ⟨c, T, g1, g2, g3, g4⟩ := hS.out
      have hfin : (T.at low).role = 2 ∧ (T.at low).state = 2 ∧ (T.at (1 - low)).role = 4 ∧ (T.at (1 - low)).state = 0 := by
        have h := of_decide_eq_true (p := (c.at low).role = 2 ∧ (c.at low).state = 2 ∧ (c.at (1 - low)).role = 4 ∧ (c.at (1 - low)).state = 0) g2
        rw [← (g1.at' low).role, ← (g1.at' low).state, ← (g1.at' (1 - low)).role, ← (g1.at' (1 - low)).state]
        exact h
      have hp4 := hide (OPorts g4)
      have hl := hide g3.len
      replace hfin := hide hfin
      clear g1 g2 g3 g4 hS L
      by_cases htw : two < one
      · obtain rfl : 1 = low := by have := hlow.out; rw [if_pos htw] at this; exact this
        go_wp2_with fail
        refine hp4.out.mono ?_
        rintro e w6 ⟨v6, rfl, hS6, hb6, hf6⟩
        obtain ⟨pb, cp, sp, rfl, hFl, hcc, -⟩ := hS6.at_i (by rw [hl.out]; omega)
        have t0 := hFl.tp 0 (by rw [hl.out]; omega)
        have t1 := hFl.tp 1 (by rw [hl.out]; omega)
        obtain ⟨f1, f2, f3, f4⟩ := hfin.out
        have p9 : w6.cell? ⟨pb, 25, none⟩ = some (.int .i64 2) := by have h := t1.c9; rw [show (T.ps.getD 1 Tp.zero).role = 2 from f1] at h; exact h
        have p10 : w6.cell? ⟨pb, 26, none⟩ = some (.int .i64 2) := by have h := t1.c10; rw [show (T.ps.getD 1 Tp.zero).state = 2 from f2] at h; exact h
        have q9 : w6.cell? ⟨pb, 9, none⟩ = some (.int .i64 4) := by have h := t0.c9; rw [show (T.ps.getD 0 Tp.zero).role = 4 from f3] at h; simpa using h
        have q10 : w6.cell? ⟨pb, 10, none⟩ = some (.int .i64 0) := by have h := t0.c10; rw [show (T.ps.getD 0 Tp.zero).state = 0 from f4] at h; simpa using h
        have hB6 := hide (hB.out.later hb6)
        rw [hl.out]
        clear t0 t1 f1 f2 f3 f4 hfin hFl hS6 hb6 hf6 hp4 hB hcc
        go_wp2
        go_ret
        exact ⟨rfl, hB6.out⟩
      · obtain rfl : 0 = low := by have := hlow.out; rw [if_neg htw] at this; exact this
        go_wp2_with fail
        refine hp4.out.mono ?_
        rintro e w6 ⟨v6, rfl, hS6, hb6, hf6⟩
        obtain ⟨pb, cp, sp, rfl, hFl, hcc, -⟩ := hS6.at_i (by rw [hl.out]; omega)
        have t0 := hFl.tp 0 (by rw [hl.out]; omega)
        have t1 := hFl.tp 1 (by rw [hl.out]; omega)
        obtain ⟨f1, f2, f3, f4⟩ := hfin.out
        have p9 : w6.cell? ⟨pb, 9, none⟩ = some (.int .i64 2) := by have h := t0.c9; rw [show (T.ps.getD 0 Tp.zero).role = 2 from f1] at h; simpa using h
        have p10 : w6.cell? ⟨pb, 10, none⟩ = some (.int .i64 2) := by have h := t0.c10; rw [show (T.ps.getD 0 Tp.zero).state = 2 from f2] at h; simpa using h
        have q9 : w6.cell? ⟨pb, 25, none⟩ = some (.int .i64 4) := by have h := t1.c9; rw [show (T.ps.getD 1 Tp.zero).role = 4 from f3] at h; exact h
        have q10 : w6.cell? ⟨pb, 26, none⟩ = some (.int .i64 0) := by have h := t1.c10; rw [show (T.ps.getD 1 Tp.zero).state = 0 from f4] at h; exact h
        have hB6 := hide (hB.out.later hb6)
        rw [hl.out]
        clear t0 t1 f1 f2 f3 f4 hfin hFl hS6 hb6 hf6 hp4 hB hcc
        go_wp2
        go_ret
        exact ⟨rfl, hB6.out⟩
    have hSI : Hid (StI C D low id wr tb (fun k => k < w.heap.size) (34 - r) (20 - 0)) := StL.inner (by rw [show 34 - r + 1 = 35 - r by omega]; exact hS.out)
    clear hS
    have hrq : decide ((r : Int) < 35) = true := by simp; omega
    go_wp2_with fail
    go_loopw [46] (fun i wr => ∃ k : Nat, k ≤ 20 ∧ i = .int .i64 k ∧ Hid (StI C D low id wr tb (fun k => k < w.heap.size) (34 - r) (20 - k)) ∧ Hid (Below w.heap.size w wr)) (fun i _ => 20 - (intOf i).toNat)
    case atStart => exact ⟨0, Nat.zero_le _, rfl, hSI, hB⟩
    case round =>
      obtain ⟨k, hk, rfl, hS, hB⟩ := hrel
      clear hSI
      obtain ⟨c, T, g1, g2, g3, g4, g5⟩ := hS.out
      have hTl : T.outs.length ≤ 1000 := by rw [← g1.outs.len]; exact okIn_le g2
      have hO := hide (g5.tight hTl)
      replace g1 := hide g1
      replace g2 := hide g2
      replace g3 := hide g3
      replace g4 := hide g4
      clear g5 hS
      by_cases hkl : k < 20
      rotate_left
      · obtain rfl : k = 20 := by omega
        have htk := hide (OTick hO.out (by omega))
        go_wp2_with fail
        refine htk.out.mono ?_
        rintro e w6 ⟨rfl, hO6, hK6⟩
        have hB6 := hide (hK6.below hB.out (fun k hk => hk))
        have hS6 : Hid (StL C D low id w6 tb (fun k => k < w.heap.size) (35 - (r + 1))) := ⟨tickT c, tickT T, rt_tick L.out g1.out, by rw [show 35 - (r + 1) = 34 - r by omega]; exact g3.out, fine_tick g4.out, hO6.le (by omega)⟩
        clear htk hK6 hO6 hO hB
        go_wp2
        go_round
        case rel => exact ⟨r + 1, by omega, by go_num, hS6, hB6⟩
        case measure => simp [intOf]; omega
      have hou := hide (OOuts hO.out (by omega))
      have hkq : decide ((k : Int) < 20) = true := by simp; omega
      go_wp2_with fail
      refine hou.out.mono ?_
      rintro e w6 ⟨v6, rfl, hS6, hF6, hO6, hK6⟩
      obtain ⟨a6, c6, rfl⟩ := hS6.shape
      have hB6 := hide (hK6.below hB.out (fun k hk => hk))
      replace hO6 := hide hO6
      replace hS6 := hide hS6
      clear hou hF6 hK6 hO hB
      by_cases hz : T.outs.length = 0
      · have hO7 := hide (hO6.out.mono (A' := fun k => k < w.heap.size) (fun k hk => .inl hk))
        have htk := hide (OTick hO7.out (by omega))
        have hcz : c.outs.length = 0 := by rw [g1.out.outs.len]; exact hz
        have hin : innerT (20 - k) c = tookT c := by
          rw [show 20 - k = (19 - k) + 1 by omega]
          unfold innerT
          rw [if_pos hcz]
        have g3' := g3.out
        rw [hin] at g3'
        replace g3' := hide g3'
        rw [hz]
        clear hcz hin hO6 hS6 hz
        go_wp2_with fail
        refine htk.out.mono ?_
        rintro e w7 ⟨rfl, hO8, hK8⟩
        have hB8 := hide (hK8.below hB6.out (fun k hk => hk))
        have hS8 : Hid (StL C D low id w7 tb (fun k => k < w.heap.size) (35 - (r + 1))) := ⟨tickT (tookT c), tickT (tookT T), rt_tick L.out (rt_took g1.out), by rw [show 35 - (r + 1) = 34 - r by omega]; exact g3'.out, fine_tick (fine_took g4.out), hO8.le (by omega)⟩
        clear htk hK8 hO8 hB6 hO7
        go_wp2
        go_round
        case rel => exact ⟨r + 1, by omega, by go_num, hS8, hB8⟩
        case measure => simp [intOf]; omega
      have hcn : Hid (c.outs.length ≠ 0) := by show _ ≠ _; rw [g1.out.outs.len]; exact hz
      have hnx : Hid (StI C D low id w6 tb (fun k => k < w.heap.size) (34 - r) (20 - k) → True) := fun _ => trivial
      generalize hM : T.outs.length = M at *
      replace hM := hide hM
      have hzq : ((M : Int) == 0) = false := by rw [beq_eq_false_iff_ne]; omega
      have hO7 : Hid (Ow w6 tb (fun k => k < w.heap.size ∨ (Value.slice a6 M c6).ownBlock = some k) (0 + 40 * 0) (giveT (tookT T) (T.outs.take 0))) := hO6.out
      clear hO6 hnx
      go_wp2_with fail
      go_loopw [55] (fun i wr => ∃ x : Nat, x ≤ M ∧ i = .int .i64 x ∧ Hid (Ow wr tb (fun k => k < w.heap.size ∨ (Value.slice a6 M c6).ownBlock = some k) (0 + 40 * x) (giveT (tookT T) (T.outs.take x))) ∧ Hid (Below w.heap.size w wr) ∧ Hid (Sl wr (.slice a6 M c6) 72 17 fO T.outs)) (fun i _ => M - (intOf i).toNat)
      case atStart => exact ⟨0, Nat.zero_le _, rfl, hO7, hB6, hS6⟩
      case round =>
        obtain ⟨x, hx, rfl, hOx, hBx, hSx⟩ := hrel
        clear hO7 hB6 hS6
        by_cases hxl : x < M
        · have hxo : x < T.outs.length := by rw [hM.out]; exact hxl
          obtain ⟨pb, cp, sp, hse, hFl, -, -⟩ := hSx.out.at_i (show 0 < T.outs.length by omega)
          simp only [Value.slice.injEq] at hse
          obtain ⟨rfl, -, -⟩ := hse
          have hrg0 := hide (hFl.range wide_O Ot.zero x hxo)
          obtain ⟨q1, q2, q3, q4, q5⟩ := g4.out.out.at x hxo
          have hstep : Hid (giveT (tookT T) (T.outs.take (x + 1)) = recvT (giveT (tookT T) (T.outs.take x)) (1 - (T.outs.getD x Ot.zero).port) (T.outs.getD x Ot.zero).m) := by
            show _ = _
            rw [← take_pushI T.outs x Ot.zero hxo, giveT_push]
          have hrc := hide (fun (W : World) (hb : Below wr.heap.size wr W) => OReceive (hOx.out.below hb) (by omega) (1 - (T.outs.getD x Ot.zero).port) (T.outs.getD x Ot.zero).m q5)
          have hkp := hide (fun (W : World) (hb : Below wr.heap.size wr W) => hBx.out.later hb)
          have hsl := hide (fun (W : World) (hb : Below wr.heap.size wr W) => hSx.out.below hb)
          rw [← hstep.out] at hrc
          generalize hV1 : giveT (tookT T) (T.outs.take (x + 1)) = V1 at *
          replace hV1 := hide hV1
          generalize T.outs.getD x Ot.zero = ot at *
          obtain ⟨op, ⟨m0, m1, m2, m3, m4, m5, m6, m7, m8, m9, m10, m11, m12, m13, m14, m15⟩⟩ := ot
          dsimp only at q2 q3
          have hrg := hrg0.out
          clear hOx hBx hSx hFl q1 q4 q5 hstep hrg0
          go_wp2_with (first | ((with_reducible change wpList _ _ _ _ _ _); refine wpList_load_mid rfl 72 (.tmp 57) rfl pb (x * 17) rfl (fO ⟨op, ⟨m0, m1, m2, m3, m4, m5, m6, m7, m8, m9, m10, m11, m12, m13, m14, m15⟩⟩) _ hrg Try.underlying72 rfl (otLen _) ?_) | ((with_reducible change wpList _ _ _ _ _ _); refine wpList_store_fresh rfl 72 (.tmp 10) (.tmp 58) rfl (Ot.row ⟨op, ⟨m0, m1, m2, m3, m4, m5, m6, m7, m8, m9, m10, m11, m12, m13, m14, m15⟩⟩) Ot.zero.row rfl rfl 72 (otSize _) rfl (Ot.row_all _) ?_; intro w11 hH11 hb11; refine unhB ?_))
          have hrg2 : w11.rangeAt wr.heap.size 1 (fB ⟨m0, m1, m2, m3, m4, m5, m6, m7, m8, m9, m10, m11, m12, m13, m14, m15⟩) := range_of_row (cs := fO ⟨op, ⟨m0, m1, m2, m3, m4, m5, m6, m7, m8, m9, m10, m11, m12, m13, m14, m15⟩⟩) hH11 1 _ (fun j v hj => by rw [Nat.add_comm]; exact hj)
          have k0 : w11.cell? ⟨wr.heap.size, 0, none⟩ = some (.int .i64 op) := (cell_of_row _ _ _ _ _ _ hH11).trans rfl
          have hr11 := hide (hrc.out _ hb11)
          have hB11 := hide (hkp.out _ hb11)
          have hS11 := hide (hsl.out _ hb11)
          clear hrc hkp hsl hb11 hrg hH11
          refine hide ?_
          go_wp2_with ((with_reducible change wpList _ _ _ _ _ _); refine wpList_load_mid rfl 56 (.tmp 63) rfl wr.heap.size 1 rfl (fB ⟨m0, m1, m2, m3, m4, m5, m6, m7, m8, m9, m10, m11, m12, m13, m14, m15⟩) _ hrg2 Try.underlying56 rfl (bpLen _) ?_)
          refine hr11.out.mono ?_
          rintro e w12 ⟨rfl, hO12, hK12⟩
          have hB12 := hide (hK12.below hB11.out (fun k hk => .inl hk))
          have hS12 := hide (hS11.out.blk (w' := w12) fun b e => hK12.block b (.inr e))
          replace hO12 := hide hO12
          clear hr11 hK12 hB11 hS11 hrg2 k0
          go_wp2
          go_round
          case rel => exact ⟨x + 1, by omega, by go_num, by rw [hV1.out]; exact hO12, hB12, hS12⟩
          case measure => simp [intOf]; omega
        · obtain rfl : M = x := by omega
          have hall : T.outs.take M = T.outs := List.take_of_length_le (by rw [hM.out]; omega)
          have hO13 := hOx.out
          rw [hall] at hO13
          have hin : innerT (20 - k) c = innerT (20 - (k + 1)) (giveT (tookT c) c.outs) := by
            rw [show 20 - k = (19 - k) + 1 by omega, show 20 - (k + 1) = 19 - k by omega]
            conv => lhs; unfold innerT
            rw [if_neg hcn.out]
          have g2' := g2.out
          rw [show 20 - k = (20 - (k + 1)) + 1 by omega] at g2'
          have g3' := g3.out
          rw [hin] at g3'
          have hSn : Hid (StI C D low id wr tb (fun k => k < w.heap.size) (34 - r) (20 - (k + 1))) := ⟨giveT (tookT c) c.outs, giveT (tookT T) T.outs, rt_give L.out (rt_took g1.out) g1.out.outs, okIn_next g2' hcn.out, g3', fine_give (fine_took g4.out) T.outs (fun o ho => (g4.out.out o ho).2.2.2.2), (hO13.mono (fun k hk => .inl hk)).le (by omega)⟩
          clear hall hO13 hin g2' g3' hOx hSx
          go_wp2
          go_round
          case rel => exact ⟨k + 1, by omega, by go_num, hSn, hBx⟩
          case measure => simp [intOf]; omega
end Go.Proofs.Ytaepjiakehkeoaa
