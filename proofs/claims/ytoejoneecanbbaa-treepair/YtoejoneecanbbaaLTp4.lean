
/-
  The walk of TreePair. Conditions: those that the theorem names.
-/
import Derived.Test.YtoejoneecanbbaaLTp3
import Derived.Test.YtoejoneecanbbaaTree24
namespace Go.Proofs.Ytoejoneecanbbaa
open Go.RowKit
set_option linter.unusedVariables false
set_option maxRecDepth 20000

theorem Try.infoTwo : (Try.prog.info? 51).map (fun i => (i.zero, i.size, i.bytes)) = some (some (.agg #[.int .i64 0, .int .i64 0]), 2, 16) := by kernel_rfl
theorem sty_Two : Sty Try.prog 50 51 2 16 := by
  obtain ⟨i, h1, h2, h3, h4⟩ := info_parts Try.infoTwo
  exact ⟨Try.underlying50, ⟨i, _, h1, h2, h3, h4, rfl⟩, by omega⟩
theorem fine_P0 {id : Int} (n : Nat) (hid : U64 id) (hn : n ≤ 1000) : Fine n id (P0 id n) := by
  have h := fine_new (id := id) (ps := (idsL n).map portP) hid (ids_wf n hn)
  rw [List.length_map, idsL_len] at h
  exact fine_lk h n
theorem fine_P1 {n : Nat} {a b : Int} {S T : Tt} (h : Fine n a S) (g : Fine n b T) : Fine n a (P1 S T).1 ∧ Fine n b (P1 S T).2 := by
  have := fine_pair 200 h g
  exact ⟨fine_tick this.1, fine_tick this.2⟩
theorem fine_P2 {n : Nat} {a b : Int} {S T : Tt} (h : Fine n a S) (g : Fine n b T) : Fine n a (P2 S T).1 ∧ Fine n b (P2 S T).2 := by
  have := fine_P1 h g
  exact fine_pair 200 this.1 this.2
set_option maxHeartbeats 16000000 in
theorem Tpr_walk (one two wires : Int) (w : World) (h1 : U64 one) (h2 : U64 two) : Calls Try.prog 4 #[.int .u64 one, .int .u64 two, .int .i64 wires] w fun r w' => r = .returned (.bool true) ∧ Below w.heap.size w w' := by
  go_enter Try.func4, Try.ntmps4
  go_wp2_with fail
  refine (grows_any _).mono ?_
  rintro e w0 ⟨rfl, hb0⟩
  replace hb0 := hide hb0
  by_cases hne : one = two
  · have hq : (one == two) = true := by rw [hne]; simp
    go_wp2
    go_ret
    exact ⟨rfl, hb0.out⟩
  have hq : (one == two) = false := beq_eq_false_iff_ne.2 hne
  by_cases c1 : wires < 1
  · go_wp2
    go_ret
    exact ⟨rfl, hb0.out⟩
  by_cases c2 : 6 < wires
  · go_wp2
    go_ret
    exact ⟨rfl, hb0.out⟩
  obtain ⟨n, rfl⟩ := Int.eq_ofNat_of_zero_le (show 0 ≤ wires by omega)
  have hn6 : n ≤ 6 := by omega
  have hn1 : Hid (0 < n) := hide (by omega)
  replace hne := hide hne
  have hd1 : decide ((n : Int) < 1) = false := decide_eq_false c1
  have hd2 : decide ((6 : Int) < (n : Int)) = false := decide_eq_false c2
  go_wp2_with fail
  clear hd1 hd2 c1 c2 hq
  go_loopw [7, 8, 32] (fun v u i wr => ∃ j : Nat, j ≤ n ∧ i = .int .i64 j ∧ Hid (Below w.heap.size w wr) ∧ Hid (Sl wr v 3 1 fI (idsL j)) ∧ Hid (Sl wr u 51 2 fL (List.range j)) ∧ Hid (Fresh w.heap.size v) ∧ Hid (Fresh w.heap.size u) ∧ Hid (∀ x, v.ownBlock = some x → u.ownBlock ≠ some x)) (fun _ _ i _ => n - (intOf i).toNat)
  case atStart => exact ⟨0, Nat.zero_le _, rfl, hb0, Sl.nil _ _ _ _, Sl.nil _ _ _ _, fun x e => by simp [Value.ownBlock] at e, fun x e => by simp [Value.ownBlock] at e, fun x e => by simp [Value.ownBlock] at e⟩
  case round =>
    obtain ⟨j, hj, rfl, hB, hS, hU, hO, hOu, hAp⟩ := hrel
    clear hb0
    by_cases hlt : j < n
    · as_aux_lemma =>
      have hP := hide (idsL_push j)
      have hR : Hid (List.range j ++ [j] = List.range (j + 1)) := List.range_succ.symm
      have hL : (idsL j).length ≤ 8 := by rw [idsL_len]; omega
      have hLr : (List.range j).length ≤ 8 := by rw [List.length_range]; omega
      generalize hW1 : idsL (j + 1) = W1 at *
      generalize hR1 : List.range (j + 1) = R1 at *
      replace hW1 := hide hW1
      replace hR1 := hide hR1
      generalize idsL j = L1 at *
      generalize List.range j = Q1 at *
      have hb1 := hide (hB.out.later (below1 wr (.cells #[.int .i64 ((j : Int) + 1)] 3)))
      have hS1 := hide (hS.out.below (below1 wr (.cells #[.int .i64 ((j : Int) + 1)] 3)))
      have hU1 := hide (hU.out.below (below1 wr (.cells #[.int .i64 ((j : Int) + 1)] 3)))
      have hul : Hid (∀ x, u8.ownBlock = some x → x < wr.heap.size) := fun x e => hU.out.lt e
      have hk : Hid ((wr.alloc (.cells #[.int .i64 ((j : Int) + 1)] 3)).heap[wr.heap.size]? = some (.cells #[.int .i64 ((j : Int) + 1)] 3)) := heap_alloc_new _ _
      have hsz : Hid (w.heap.size ≤ wr.heap.size) := hB.out.size
      go_wp2_with (at_builtin; refine unhB ?_)
      refine hide ?_
      refine wpList_append_sl rfl (.tmp 35) (.tmp 38) rfl wide_I sty_I u7 L1 rfl hS1.out ⟨wr.heap.size, 0, none⟩ 1 1 [(j : Int) + 1] rfl rfl (fun x u hx => ?_) (by simp; omega) (by omega) ?_
      · rw [Addr.add_lit, cell_of_row _ _ _ _ _ _ hk.out, ← hx]
        simp [flat]
      intro v4 w4 hS4 hg4 ho4
      rw [hP.out] at hS4
      have hB4 : Hid (Below w.heap.size w w4) := grown_below hg4 hb1.out (by rw [World.size_alloc]; have := hsz.out; omega) hO.out
      have hO4 : Hid (Fresh w.heap.size v4) := fun x e => by
        rcases ho4 with e1 | e1
        · rw [e1] at e; exact hO.out x e
        · rw [e1] at e; simp only [Option.some.injEq, World.size_alloc] at e; have := hsz.out; omega
      have hU4 : Hid (Sl w4 u8 51 2 fL Q1) := hU1.out.blk fun b e => hg4.block b (by rw [World.size_alloc]; have := hul.out b e; omega) (fun e' => hAp.out b e'.symm e)
      have hA4 : Hid (∀ x, v4.ownBlock = some x → u8.ownBlock ≠ some x) := fun x e e' => by
        rcases ho4 with e1 | e1
        · rw [e1] at e; exact hAp.out x e e'
        · rw [e1] at e; simp only [Option.some.injEq, World.size_alloc] at e; have := hul.out x e'; omega
      have hsz4 : Hid (w.heap.size ≤ w4.heap.size) := hB4.out.size
      replace hS4 := hide hS4
      obtain ⟨av, cv, rfl⟩ := hS4.out.shape
      clear hg4 ho4 hS1 hb1 hk hsz hB hS hO hP hU hU1 hul hAp
      generalize hLL : W1.length = ltn at *
      replace hLL := hide hLL
      have hb5 := hide (hB4.out.later (below1 w4 (.cells #[.int .i64 j, .int .i64 j] 51)))
      have hS5 := hide (hS4.out.below (below1 w4 (.cells #[.int .i64 j, .int .i64 j] 51)))
      have hU5 := hide (hU4.out.below (below1 w4 (.cells #[.int .i64 j, .int .i64 j] 51)))
      have hvl : Hid (∀ x, (Value.slice av ltn cv).ownBlock = some x → x < w4.heap.size) := fun x e => hS4.out.lt e
      have hk5 : Hid ((w4.alloc (.cells #[.int .i64 j, .int .i64 j] 51)).heap[w4.heap.size]? = some (.cells #[.int .i64 j, .int .i64 j] 51)) := heap_alloc_new _ _
      go_wp2_with (at_builtin; refine unhB ?_)
      refine hide ?_
      refine wpList_append_sl rfl (.tmp 40) (.tmp 44) rfl wide_L sty_Two u8 Q1 rfl hU5.out ⟨w4.heap.size, 0, none⟩ 1 1 [j] rfl rfl (fun x u hx => ?_) (by simp; omega) (by omega) ?_
      · rw [Addr.add_lit, cell_of_row _ _ _ _ _ _ hk5.out, ← hx]
        simp [flat]
      intro v6 w6 hU6 hg6 ho6
      rw [hR.out] at hU6
      have hB6 : Hid (Below w.heap.size w w6) := grown_below hg6 hb5.out (by rw [World.size_alloc]; have := hsz4.out; omega) hOu.out
      have hO6 : Hid (Fresh w.heap.size v6) := fun x e => by
        rcases ho6 with e1 | e1
        · rw [e1] at e; exact hOu.out x e
        · rw [e1] at e; simp only [Option.some.injEq, World.size_alloc] at e; have := hsz4.out; omega
      have hS6 : Hid (Sl w6 (.slice av ltn cv) 3 1 fI W1) := hS5.out.blk fun b e => hg6.block b (by rw [World.size_alloc]; have := hvl.out b e; omega) (fun e' => hA4.out b e e'.symm)
      have hA6 : Hid (∀ x, (Value.slice av ltn cv).ownBlock = some x → v6.ownBlock ≠ some x) := fun x e e' => by
        rcases ho6 with e1 | e1
        · rw [e1] at e'; exact hA4.out x e e'
        · rw [e1] at e'; simp only [Option.some.injEq, World.size_alloc] at e'; have := hvl.out x e; omega
      replace hU6 := hide hU6
      obtain ⟨au, cu, rfl⟩ := hU6.out.shape
      clear hg6 ho6 hS4 hS5 hb5 hk5 hsz4 hB4 hOu hR hU4 hU5 hvl hA4
      generalize hLr2 : R1.length = rtn at *
      replace hLr2 := hide hLr2
      go_wp2
      go_round
      case rel => exact ⟨j + 1, by omega, by go_num, hB6, by rw [hW1.out]; exact hS6, by rw [hR1.out]; exact hU6, hO4, hO6, hA6⟩
      case measure => simp [intOf]; omega
    · obtain rfl : n = j := by omega
      obtain ⟨ai, ci, rfl, hIn⟩ := hS.out.ins
      rw [idsL_len] at hIn ⊢
      have hUl : ∀ b, u8.ownBlock = some b → b < wr.heap.size := fun b e => hU.out.lt e
      obtain ⟨au, cu, rfl⟩ := hU.out.shape
      rw [List.length_range] at hU hUl hOu ⊢
      obtain ⟨A, hAw, hAl, hAs⟩ : ∃ A : Nat → Prop, (∀ k, k < w.heap.size → A k) ∧ Held A (.slice au n cu) ∧ ∀ k, A k → k < wr.heap.size := ⟨fun k => k < w.heap.size ∨ (Value.slice au n cu).ownBlock = some k, fun k hk => .inl hk, fun k hk => .inr hk, fun k hk => by
        rcases hk with e | e
        · exact Nat.lt_of_lt_of_le e hB.out.size
        · exact hUl _ e⟩
      have hp := hide (ports_any ai n ci (idsL n) wr (by omega) hIn)
      have hIw := hide hIn
      replace hAw := hide hAw
      replace hAl := hide hAl
      replace hAs := hide hAs
      clear hS hO hOu hAp hIn hlt hj hUl
      go_wp2_with fail
      refine hp.out.mono ?_
      rintro e w1 ⟨v1, rfl, hS1, hB1, hF1⟩
      have hB2 := hide (hB.out.later hB1)
      obtain ⟨a1, c1, rfl, hc1, hcn1, hT1⟩ := hS1.tps (ids_wf n (by omega))
      have hl1 : ((idsL n).map portP).length = n := by rw [List.length_map, idsL_len]
      rw [hl1] at hc1 hT1 ⊢
      have hn := hide (ONew one a1 n c1 ((idsL n).map portP) w1 A (fun k hk => Nat.lt_of_lt_of_le (hAs.out k hk) hB1.size) h1 (by omega) hc1 hcn1 hT1)
      have hI1 := hide (hIw.out.below hB1)
      have hU1 := hide (hU.out.below hB1)
      clear hp hB1 hF1 hS1 hc1 hcn1 hT1 hB hIw hU
      go_wp2_with fail
      refine hn.out.mono ?_
      rintro e w3 ⟨ta, rfl, hO3, hb3⟩
      have hB3 := hide (hB2.out.later hb3)
      have hI3 := hide (hI1.out.below hb3)
      have hU3 := hide (hU1.out.below hb3)
      replace hO3 := hide hO3
      clear hn hB2 hb3 hI1 hU1
      have hp := hide (ports_any ai n ci (idsL n) w3 (by omega) hI3)
      go_wp2_with fail
      refine hp.out.mono ?_
      rintro e w4 ⟨v4, rfl, hS4, hB4, hF4⟩
      have hB5 := hide (hB3.out.later hB4)
      have hO4 := hide (hO3.out.below hB4)
      have hU4 := hide (hU3.out.below hB4)
      obtain ⟨a2, c2, rfl, hc2, hcn2, hT2⟩ := hS4.tps (ids_wf n (by omega))
      rw [hl1] at hc2 hT2 ⊢
      have hn := hide (ONew two a2 n c2 ((idsL n).map portP) w4 (fun k => k < w4.heap.size) (fun k hk => hk) h2 (by omega) hc2 hcn2 hT2)
      clear hp hS4 hB4 hF4 hc2 hcn2 hT2 hB3 hO3 hU3 hI3 hl1
      go_wp2_with fail
      refine hn.out.mono ?_
      rintro e w5 ⟨tb, rfl, hO5, hb5⟩
      have hB6 := hide (hB5.out.later hb5)
      have hU5 := hide (hU4.out.below hb5)
      have hT0 : Hid (Two w5 ta tb A (40 * 0) (40 * 0) (lkT (newT one ((idsL n).map portP)) 0) (lkT (newT two ((idsL n).map portP)) 0)) := hO4.out.two hb5 hO5
      clear hn hb5 hO5 hO4 hU4 hB5
      go_wp2_with fail
      go_loopw [56] (fun i wr => ∃ j : Nat, j ≤ n ∧ i = .int .i64 j ∧ Hid (Below w.heap.size w wr) ∧ Hid (Two wr ta tb A (40 * j) (40 * j) (lkT (newT one ((idsL n).map portP)) j) (lkT (newT two ((idsL n).map portP)) j)) ∧ Hid (Sl wr (.slice au n cu) 51 2 fL (List.range n))) (fun i _ => n - (intOf i).toNat)
      case atStart => exact ⟨0, Nat.zero_le _, rfl, hB6, hT0, hU5⟩
      case round =>
        obtain ⟨j, hj, rfl, hB, hT, hU⟩ := hrel
        clear hB6 hT0 hU5
        by_cases hlt : j < n
        · as_aux_lemma =>
          have hk1 := hide (TLink hT.out (by omega) j true)
          go_wp2_with fail
          refine hk1.out.mono ?_
          rintro e x1 ⟨rfl, hT1, hK1⟩
          have hB1 := hide (hK1.below hB.out hAw.out)
          have hU1 := hide (hU.out.held hK1 hAl.out)
          have hk2 := hide (TLink hT1.swap (by omega) j true)
          clear hk1 hT1 hK1 hB hU hT
          go_wp2_with fail
          refine hk2.out.mono ?_
          rintro e x2 ⟨rfl, hT2, hK2⟩
          have hB2 := hide (hK2.below hB1.out hAw.out)
          have hU2 := hide (hU1.out.held hK2 hAl.out)
          have hT3 : Hid (Two x2 ta tb A (40 * (j + 1)) (40 * (j + 1)) (lkT (newT one ((idsL n).map portP)) (j + 1)) (lkT (newT two ((idsL n).map portP)) (j + 1))) := hT2.swap
          clear hk2 hT2 hK2 hB1 hU1
          go_wp2
          go_round
          case rel => exact ⟨j + 1, by omega, by go_num, hB2, hT3, hU2⟩
          case measure => simp [intOf]; omega
        obtain rfl : n = j := by omega
        obtain ⟨C, c, d, L, rc, rd, ok1, ok2, he1, he2⟩ := pair_small one two n h1 h2 hne.out hn6 hn1.out
        have hfo := fine_P0 n h1 (by omega)
        have hft := fine_P0 n h2 (by omega)
        have hS1 : Hid (StP C n one two wr ta tb A 200 (pairN 200 (P0 one n) (P0 two n))) := ⟨c, d, P0 one n, P0 two n, rc, rd, ok1, hfo, hft, rfl, ((Two.le hT.out (show 40 * n ≤ 100000 by omega)).swap.le (show 40 * n ≤ 100000 by omega)).swap⟩
        have hpr := hide (pair_any L hn6 hS1.out hU.out hAl.out)
        have hrt := rt_pair L 200 rc rd
        have hr2 := hide (And.intro (rt_tick L hrt.1) (rt_tick L hrt.2))
        have hf1 := hide (fine_P1 hfo hft)
        have hfn := hide (fine_P2 hfo hft)
        have hL := hide L
        replace ok2 := hide ok2
        replace he1 := hide he1
        replace he2 := hide he2
        clear hS1 hrt rc rd ok1 hfo hft L
        go_wp2_with fail
        refine hpr.out.mono ?_
        rintro e w6 ⟨rfl, hT6, hK6⟩
        have hB6 := hide (hK6.below hB.out hAw.out)
        have hU6 := hide (hU.out.held hK6 hAl.out)
        have ht1 := hide (TTick hT6 (by omega))
        clear hpr hT6 hK6 hB hU hT
        go_wp2_with fail
        refine ht1.out.mono ?_
        rintro e w7 ⟨rfl, hT7, hK7⟩
        have hB7 := hide (hK7.below hB6.out hAw.out)
        have hU7 := hide (hU6.out.held hK7 hAl.out)
        have ht2 := hide (TTick hT7.swap (by omega))
        clear ht1 hT7 hK7 hB6 hU6
        go_wp2_with fail
        refine ht2.out.mono ?_
        rintro e w8 ⟨rfl, hT8, hK8⟩
        have hB8 := hide (hK8.below hB7.out hAw.out)
        have hU8 := hide (hU7.out.held hK8 hAl.out)
        have hT8' : Two w8 ta tb A (0 + 40) (0 + 40) (P1 (P0 one n) (P0 two n)).1 (P1 (P0 one n) (P0 two n)).2 := hT8.swap
        have hS2 : Hid (StP C n one two w8 ta tb A 200 (P2 (P0 one n) (P0 two n))) := ⟨(P1 c d).1, (P1 c d).2, _, _, hr2.out.1, hr2.out.2, ok2.out, hf1.out.1, hf1.out.2, rfl, ((Two.le hT8' (show 0 + 40 ≤ 100000 by omega)).swap.le (show 0 + 40 ≤ 100000 by omega)).swap⟩
        have hpr := hide (pair_any hL.out hn6 hS2.out hU8.out hAl.out)
        clear ht2 hT8 hT8' hK8 hB7 hU7 hS2 hr2 ok2 hf1 hL
        go_wp2_with fail
        refine hpr.out.mono ?_
        rintro e w9 ⟨rfl, hT9, hK9⟩
        have hB9 := hide (hK9.below hB8.out hAw.out)
        replace hT9 := hide hT9
        clear hpr hK9 hB8 hU8
        by_cases hlt : two < one
        · as_aux_lemma =>
          have hEn := hide (he1.out (by omega))
          have hTf : Hid (Two w9 tb ta A 0 0 (P2 (P0 one n) (P0 two n)).2 (P2 (P0 one n) (P0 two n)).1) := hT9.out.swap
          have hlS : Hid ((P2 (P0 one n) (P0 two n)).2.ps.length = n) := hfn.out.2.len
          have hlT : Hid ((P2 (P0 one n) (P0 two n)).1.ps.length = n) := hfn.out.1.len
          have hmn : Hid (min one two = two) := by show min one two = two; omega
          generalize (P2 (P0 one n) (P0 two n)).2 = Sa at *
          generalize (P2 (P0 one n) (P0 two n)).1 = Sb at *
          have hr1 := hide (TRoot hTf.out)
          have hya := hide hEn.out.ra
          have hyb := hide hEn.out.rb
          rw [hEn.out.pa] at hr1
          generalize hyA : Sa.y = yA at *
          obtain ⟨ya0, ya1, ya2, ya3⟩ := yA
          replace hyA := hide hyA
          obtain rfl : two = ya0 := hya.out.symm
          clear hya hT9
          go_wp2_with fail
          refine hr1.out.mono ?_
          rintro e wA ⟨rfl, hbA⟩
          have hbA1 := hide (hbA.later (below1 wA (.cells #[.int .u64 two, .int .u64 ya1, .int .u64 ya2, .int .i64 ya3] 30)))
          have hkA := hide (heap_alloc_new wA (.cells #[.int .u64 two, .int .u64 ya1, .int .u64 ya2, .int .i64 ya3] 30))
          have hTb := hide (hTf.out.below hbA1.out)
          have hB10 := hide (hB9.out.later hbA1.out)
          clear hr1 hbA hTf hB9 hbA1
          go_wp2_with fail
          generalize wA.alloc (.cells #[.int .u64 two, .int .u64 ya1, .int .u64 ya2, .int .i64 ya3] 30) = wB at *
          generalize wA.heap.size = qA at *
          have hr2 := hide (TRoot hTb.out.swap)
          rw [hEn.out.pb] at hr2
          generalize hyB : Sb.y = yB at *
          obtain ⟨yb0, yb1, yb2, yb3⟩ := yB
          replace hyB := hide hyB
          obtain rfl : two = yb0 := hyb.out.symm
          refine hr2.out.mono ?_
          rintro e wC ⟨rfl, hbC⟩
          have hbC1 := hide (hbC.later (below1 wC (.cells #[.int .u64 two, .int .u64 yb1, .int .u64 yb2, .int .i64 yb3] 30)))
          have hkC := hide (heap_alloc_new wC (.cells #[.int .u64 two, .int .u64 yb1, .int .u64 yb2, .int .i64 yb3] 30))
          have hTd := hide (hTb.out.below hbC1.out)
          have hB11 := hide (hB10.out.later hbC1.out)
          have hkA2 := hide (heap_kept hbC1.out hkA.out)
          have m1 : (wC.alloc (.cells #[.int .u64 two, .int .u64 yb1, .int .u64 yb2, .int .i64 yb3] 30)).cell? ⟨qA, 0, none⟩ = some (.int .u64 two) := (cell_of_row _ _ _ _ _ _ hkA2.out).trans rfl
          have m2 : (wC.alloc (.cells #[.int .u64 two, .int .u64 yb1, .int .u64 yb2, .int .i64 yb3] 30)).cell? ⟨wC.heap.size, 0, none⟩ = some (.int .u64 two) := (cell_of_row _ _ _ _ _ _ hkC.out).trans rfl
          have hmm := hmn.out
          clear hr2 hbC hTb hB10 hbC1 hkA hkC hkA2
          go_wp2_with fail
          generalize wC.alloc (.cells #[.int .u64 two, .int .u64 yb1, .int .u64 yb2, .int .i64 yb3] 30) = wD at *
          clear m1 m2
          go_loopw [117] (fun i wr => ∃ j : Nat, j ≤ n ∧ i = .int .i64 j ∧ Hid (Below w.heap.size w wr) ∧ Hid (Two wr tb ta A 0 0 Sa Sb)) (fun i _ => n - (intOf i).toNat)
          case atStart => exact ⟨0, Nat.zero_le _, rfl, hB11, hTd⟩
          case round =>
            obtain ⟨j, hj, rfl, hB, hT⟩ := hrel
            clear hTd hB11
            by_cases hlt2 : j < n
            · have hs1 := hide (TState hT.out j)
              have hs2 := hide (TState hT.out.swap j)
              rw [if_pos ⟨by omega, by have := hlS.out; omega⟩, Int.toNat_natCast] at hs1
              rw [if_pos ⟨by omega, by have := hlT.out; omega⟩, Int.toNat_natCast] at hs2
              have hib := hEn.out.sb j hlt2
              have hia := hEn.out.sa
              generalize (Sb.at j).state = stb at *
              by_cases hj0 : j = 0
              · subst hj0
                obtain rfl : stb = 2 := hib.2 rfl
                rw [hia] at hs1
                clear hib hia
                go_wp2_with fail
                refine hs1.out.mono ?_
                rintro e z1 ⟨rfl, hz1⟩
                obtain rfl := hz1.symm
                go_wp2_with fail
                refine hs2.out.mono ?_
                rintro e z2 ⟨rfl, hz2⟩
                obtain rfl := hz2.symm
                go_wp2
                go_round
                case rel => exact ⟨0 + 1, by omega, by go_num, hB, hT⟩
                case measure => simp [intOf]; omega
              · have hb2 : (stb == 2) = false := beq_eq_false_iff_ne.2 (fun e => hj0 (hib.1 e))
                have hjq : ((j : Int) == 0) = false := beq_eq_false_iff_ne.2 (by omega)
                generalize (Sa.at j).state = sta at *
                clear hib hia
                by_cases hst : sta = 2
                · subst hst
                  go_wp2_with fail
                  refine hs1.out.mono ?_
                  rintro e z1 ⟨rfl, hz1⟩
                  obtain rfl := hz1.symm
                  go_wp2_with fail
                  refine hs2.out.mono ?_
                  rintro e z2 ⟨rfl, hz2⟩
                  obtain rfl := hz2.symm
                  go_wp2
                  go_round
                  case rel => exact ⟨j + 1, by omega, by go_num, hB, hT⟩
                  case measure => simp [intOf]; omega
                · have hsq : (sta != 2) = true := by simp [hst]
                  go_wp2_with fail
                  refine hs1.out.mono ?_
                  rintro e z1 ⟨rfl, hz1⟩
                  obtain rfl := hz1.symm
                  go_wp2_with fail
                  refine hs2.out.mono ?_
                  rintro e z2 ⟨rfl, hz2⟩
                  obtain rfl := hz2.symm
                  go_wp2
                  go_round
                  case rel => exact ⟨j + 1, by omega, by go_num, hB, hT⟩
                  case measure => simp [intOf]; omega
            · obtain rfl : n = j := by omega
              go_wp2
              go_ret
              exact ⟨rfl, hB.out⟩
        · as_aux_lemma =>
          have hEn := hide (he2.out (by omega))
          have hTf : Hid (Two w9 ta tb A 0 0 (P2 (P0 one n) (P0 two n)).1 (P2 (P0 one n) (P0 two n)).2) := hT9.out
          have hlS : Hid ((P2 (P0 one n) (P0 two n)).1.ps.length = n) := hfn.out.1.len
          have hlT : Hid ((P2 (P0 one n) (P0 two n)).2.ps.length = n) := hfn.out.2.len
          have hmn : Hid (min one two = one) := by show min one two = one; omega
          generalize (P2 (P0 one n) (P0 two n)).1 = Sa at *
          generalize (P2 (P0 one n) (P0 two n)).2 = Sb at *
          have hr1 := hide (TRoot hTf.out)
          have hya := hide hEn.out.ra
          have hyb := hide hEn.out.rb
          rw [hEn.out.pa] at hr1
          generalize hyA : Sa.y = yA at *
          obtain ⟨ya0, ya1, ya2, ya3⟩ := yA
          replace hyA := hide hyA
          obtain rfl : one = ya0 := hya.out.symm
          clear hya hT9
          go_wp2_with fail
          refine hr1.out.mono ?_
          rintro e wA ⟨rfl, hbA⟩
          have hbA1 := hide (hbA.later (below1 wA (.cells #[.int .u64 one, .int .u64 ya1, .int .u64 ya2, .int .i64 ya3] 30)))
          have hkA := hide (heap_alloc_new wA (.cells #[.int .u64 one, .int .u64 ya1, .int .u64 ya2, .int .i64 ya3] 30))
          have hTb := hide (hTf.out.below hbA1.out)
          have hB10 := hide (hB9.out.later hbA1.out)
          clear hr1 hbA hTf hB9 hbA1
          go_wp2_with fail
          generalize wA.alloc (.cells #[.int .u64 one, .int .u64 ya1, .int .u64 ya2, .int .i64 ya3] 30) = wB at *
          generalize wA.heap.size = qA at *
          have hr2 := hide (TRoot hTb.out.swap)
          rw [hEn.out.pb] at hr2
          generalize hyB : Sb.y = yB at *
          obtain ⟨yb0, yb1, yb2, yb3⟩ := yB
          replace hyB := hide hyB
          obtain rfl : one = yb0 := hyb.out.symm
          refine hr2.out.mono ?_
          rintro e wC ⟨rfl, hbC⟩
          have hbC1 := hide (hbC.later (below1 wC (.cells #[.int .u64 one, .int .u64 yb1, .int .u64 yb2, .int .i64 yb3] 30)))
          have hkC := hide (heap_alloc_new wC (.cells #[.int .u64 one, .int .u64 yb1, .int .u64 yb2, .int .i64 yb3] 30))
          have hTd := hide (hTb.out.below hbC1.out)
          have hB11 := hide (hB10.out.later hbC1.out)
          have hkA2 := hide (heap_kept hbC1.out hkA.out)
          have m1 : (wC.alloc (.cells #[.int .u64 one, .int .u64 yb1, .int .u64 yb2, .int .i64 yb3] 30)).cell? ⟨qA, 0, none⟩ = some (.int .u64 one) := (cell_of_row _ _ _ _ _ _ hkA2.out).trans rfl
          have m2 : (wC.alloc (.cells #[.int .u64 one, .int .u64 yb1, .int .u64 yb2, .int .i64 yb3] 30)).cell? ⟨wC.heap.size, 0, none⟩ = some (.int .u64 one) := (cell_of_row _ _ _ _ _ _ hkC.out).trans rfl
          have hmm := hmn.out
          clear hr2 hbC hTb hB10 hbC1 hkA hkC hkA2
          go_wp2_with fail
          generalize wC.alloc (.cells #[.int .u64 one, .int .u64 yb1, .int .u64 yb2, .int .i64 yb3] 30) = wD at *
          clear m1 m2
          go_loopw [117] (fun i wr => ∃ j : Nat, j ≤ n ∧ i = .int .i64 j ∧ Hid (Below w.heap.size w wr) ∧ Hid (Two wr ta tb A 0 0 Sa Sb)) (fun i _ => n - (intOf i).toNat)
          case atStart => exact ⟨0, Nat.zero_le _, rfl, hB11, hTd⟩
          case round =>
            obtain ⟨j, hj, rfl, hB, hT⟩ := hrel
            clear hTd hB11
            by_cases hlt2 : j < n
            · have hs1 := hide (TState hT.out j)
              have hs2 := hide (TState hT.out.swap j)
              rw [if_pos ⟨by omega, by have := hlS.out; omega⟩, Int.toNat_natCast] at hs1
              rw [if_pos ⟨by omega, by have := hlT.out; omega⟩, Int.toNat_natCast] at hs2
              have hib := hEn.out.sb j hlt2
              have hia := hEn.out.sa
              generalize (Sb.at j).state = stb at *
              by_cases hj0 : j = 0
              · subst hj0
                obtain rfl : stb = 2 := hib.2 rfl
                rw [hia] at hs1
                clear hib hia
                go_wp2_with fail
                refine hs1.out.mono ?_
                rintro e z1 ⟨rfl, hz1⟩
                obtain rfl := hz1.symm
                go_wp2_with fail
                refine hs2.out.mono ?_
                rintro e z2 ⟨rfl, hz2⟩
                obtain rfl := hz2.symm
                go_wp2
                go_round
                case rel => exact ⟨0 + 1, by omega, by go_num, hB, hT⟩
                case measure => simp [intOf]; omega
              · have hb2 : (stb == 2) = false := beq_eq_false_iff_ne.2 (fun e => hj0 (hib.1 e))
                have hjq : ((j : Int) == 0) = false := beq_eq_false_iff_ne.2 (by omega)
                generalize (Sa.at j).state = sta at *
                clear hib hia
                by_cases hst : sta = 2
                · subst hst
                  go_wp2_with fail
                  refine hs1.out.mono ?_
                  rintro e z1 ⟨rfl, hz1⟩
                  obtain rfl := hz1.symm
                  go_wp2_with fail
                  refine hs2.out.mono ?_
                  rintro e z2 ⟨rfl, hz2⟩
                  obtain rfl := hz2.symm
                  go_wp2
                  go_round
                  case rel => exact ⟨j + 1, by omega, by go_num, hB, hT⟩
                  case measure => simp [intOf]; omega
                · have hsq : (sta != 2) = true := by simp [hst]
                  go_wp2_with fail
                  refine hs1.out.mono ?_
                  rintro e z1 ⟨rfl, hz1⟩
                  obtain rfl := hz1.symm
                  go_wp2_with fail
                  refine hs2.out.mono ?_
                  rintro e z2 ⟨rfl, hz2⟩
                  obtain rfl := hz2.symm
                  go_wp2
                  go_round
                  case rel => exact ⟨j + 1, by omega, by go_num, hB, hT⟩
                  case measure => simp [intOf]; omega
            · obtain rfl : n = j := by omega
              go_wp2
              go_ret
              exact ⟨rfl, hB.out⟩
end Go.Proofs.Ytoejoneecanbbaa
