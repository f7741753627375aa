/-
  The walk of StreamFinds. Conditions: those that each theorem names.
-/
import Derived.Test.YtiahiakllpjliaaFd2
namespace Go.Proofs.Ytiahiakllpjliaa
open Go.RowKit Go.Maps
set_option linter.unusedVariables false
set_option linter.unusedSimpArgs false
set_option maxRecDepth 20000

/-- The table and the statement's own list; the header is as it came; so are the blocks of E. -/
structure Fis (w wr : World) (t : Nat) (HC : Array Value) (E : Nat → Prop) (l l2 : List Sf) (v : Value) : Prop where
  tab : Fso w.heap.size (fun k => k = w.heap.size ∨ v.ownBlock = some k ∨ E k) wr t l
  sl : Sl wr v 71 9 fSf l2
  own : ∀ k, v.ownBlock = some k → w.heap.size + 1 ≤ k
  uq : Uq l
  below : Below w.heap.size w wr
  hd : wr.heap[w.heap.size]? = some (.cells HC 65 (0, 0))
/-- Nothing of it was written. -/
theorem Fis.more {w wr wr' : World} {t : Nat} {HC : Array Value} {E E' : Nat → Prop} {l l2 : List Sf} {v : Value} (h : Fis w wr t HC E l l2 v) (hb : Below wr.heap.size wr wr') (hs : ∀ k, E' k → E k ∨ (wr.heap.size ≤ k ∧ k < wr'.heap.size)) : Fis w wr' t HC E' l l2 v :=
  ⟨h.tab.more hb fun k e => by
    rcases e with e | e | e
    · exact .inl (.inl e)
    · exact .inl (.inr (.inl e))
    · rcases hs k e with e | e
      · exact .inl (.inr (.inr e))
      · exact .inr e, h.sl.below hb, h.own, h.uq, h.below.later hb, heap_kept hb h.hd⟩
theorem Fis.later {w wr wr' : World} {t : Nat} {HC : Array Value} {E : Nat → Prop} {l l2 : List Sf} {v : Value} (h : Fis w wr t HC E l l2 v) (hb : Below wr.heap.size wr wr') : Fis w wr' t HC E l l2 v := h.more hb fun _ e => .inl e
/-- A call on the table. -/
theorem Fis.call {w wr wr' : World} {t : Nat} {HC : Array Value} {E : Nat → Prop} {l l' l2 : List Sf} {v : Value} (h : Fis w wr t HC E l l2 v) (hF : Fso w.heap.size (fun k => k = w.heap.size ∨ v.ownBlock = some k ∨ E k) wr' t l') (hb : Below w.heap.size wr wr') (hk : KptS (fun k => k = w.heap.size ∨ v.ownBlock = some k ∨ E k) wr wr') (hu : Uq l') : Fis w wr' t HC E l' l2 v :=
  ⟨hF, h.sl.blk fun b e => hk b (.inr (.inl e)), h.own, hu, h.below.trans hb, (hk _ (.inl rfl)).trans h.hd⟩
/-- The list has grown. -/
theorem Fis.grown {w wr wr' : World} {t : Nat} {HC : Array Value} {E : Nat → Prop} {l l2 l3 : List Sf} {v v' : Value} (h : Fis w wr t HC E l l2 v) (hg : wr.grownBy wr' v.ownBlock) (hS : Sl wr' v' 71 9 fSf l3) (ho : v'.ownBlock = v.ownBlock ∨ v'.ownBlock = some wr.heap.size) (hE : ∀ b, v'.ownBlock = some b → b < wr'.heap.size) : Fis w wr' t HC (fun _ => False) l l3 v' := by
  have hw := h.tab.size
  refine ⟨h.tab.grown hg (fun b e => .inr (.inl e)) fun k e => ?_, hS, fun k e => ?_, h.uq, ?_, ?_⟩
  · rcases e with e | e | e
    · exact .inl (.inl e)
    · rcases ho with o | o
      · exact .inl (.inr (.inl (o ▸ e)))
      · have := hE k e
        rw [o] at e
        simp only [Option.some.injEq] at e
        exact .inr ⟨by omega, this⟩
    · exact e.elim
  · rcases ho with o | o
    · exact h.own k (o ▸ e)
    · rw [o] at e
      simp only [Option.some.injEq] at e
      have := (Array.getElem?_eq_some_iff.1 h.hd).1
      omega
  · exact grown_below hg h.below hw fun b e => by have := h.own b e; omega
  · have := (Array.getElem?_eq_some_iff.1 h.hd).1
    rw [hg.block _ this (fun e => by have := h.own _ e.symm; omega)]
    exact h.hd
/-- Another list, all new. -/
theorem Fis.newl {w wr wr' : World} {t : Nat} {HC : Array Value} {E : Nat → Prop} {l l2 l3 : List Sf} {v v' : Value} (h : Fis w wr t HC E l l2 v) (hb : Below wr.heap.size wr wr') (hS : Sl wr' v' 71 9 fSf l3) (ho : ∀ b, v'.ownBlock = some b → wr.heap.size ≤ b) : Fis w wr' t HC (fun _ => False) l l3 v' := by
  refine ⟨h.tab.more hb fun k e => ?_, hS, fun k e => ?_, h.uq, h.below.later hb, heap_kept hb h.hd⟩
  · rcases e with e | e | e
    · exact .inl (.inl e)
    · exact .inr ⟨ho k e, hS.lt e⟩
    · exact e.elim
  · have := (Array.getElem?_eq_some_iff.1 h.hd).1
    have := ho k e
    omega
theorem addR_all (l : List Sf) (f : Sf) : (mayF f = false ∧ addR l f = (1, l)) ∨ (mayF f = true ∧ l.any (thatB f.kind f.m f.vid) = true ∧ addR l f = (22, l)) ∨ (mayF f = true ∧ l.any (thatB f.kind f.m f.vid) = false ∧ 64 ≤ l.length ∧ addR l f = (20, l)) ∨ (mayF f = true ∧ l.any (thatB f.kind f.m f.vid) = false ∧ l.length < 64 ∧ addR l f = (0, l ++ [f])) := by
  cases h1 : mayF f
  · exact .inl ⟨rfl, by unfold addR; rw [if_pos h1]⟩
  · cases h2 : l.any (thatB f.kind f.m f.vid)
    · by_cases h3 : 64 ≤ l.length
      · exact .inr (.inr (.inl ⟨rfl, rfl, h3, by unfold addR; rw [if_neg (by rw [h1]; decide), if_neg (by rw [h2]; decide), if_pos h3]⟩))
      · exact .inr (.inr (.inr ⟨rfl, rfl, by omega, by unfold addR; rw [if_neg (by rw [h1]; decide), if_neg (by rw [h2]; decide), if_neg h3]⟩))
    · exact .inr (.inl ⟨rfl, rfl, by unfold addR; rw [if_neg (by rw [h1]; decide), if_pos h2]⟩)
theorem stop_append {P : Program} {ops : Array Oper} {rest : List Oper} {o : Oper} {a : Act} {w : World} {Q : Exit → Act → World → Prop} (s x : Operand) (t : TypeId) (_ho : o.op = .call { callee := .builtin .append, args := #[s, x], argTypes := #[t, t] }) (h : Hid (wpList P ops Q (o :: rest) a w)) : wpList P ops Q (o :: rest) a w := h.out
theorem bs_Sf (f : Sf) (w : World) : (Instr.buildSlice 67 1 #[(0, .agg (fSf f).toArray)]).run Try.prog w = .ok (.slice (some ⟨w.heap.size, 0, none⟩) 1 1) (w.alloc (.cells (fSf f).toArray 71)) := by
  go_simp
theorem wpList_build1 {P : Program} {ops : Array Oper} {rest : List Oper} {o : Oper} {a : Act} {w : World} {Q : Exit → Act → World → Prop} (hgd : o.guard = none) (t : TypeId) (x : Operand) (ho : o.op = .buildSlice t 1 #[(0, x)])
    (vx v' : Value) (w' : World) (hx : a.eval x = vx) (hr : (Instr.buildSlice t 1 #[(0, vx)]).run P w = .ok v' w') (h : wpList P ops Q rest (a.put o.dst v') w') : wpList P ops Q (o :: rest) a w := by
  refine wpList_plain hgd fun K hK => ?_
  unfold Oper.wp execOp
  simp only [ho, Sem.run_bind, Sem.run_pure, Result.andThen_ok, List.map_toArray, List.map_cons, List.map_nil, hx, hr]
  exact hK _ _ h
theorem wrapS (v : Int) (h : -9223372036854775808 ≤ v) (h' : v ≤ 9223372036854775807) : IntKind.i64.wrap v = v := by
  simp [IntKind.wrap, IntKind.signed, IntKind.bits]
  omega
theorem findS_step (d s : M6) (v : Int) (l : List Sf) (k : Nat) (hk : k < l.length) : findS d s v (l.drop k) = bif tellB d s v (l.getD k Sf.zero) then (l.getD k Sf.zero).num else findS d s v (l.drop (k + 1)) := by
  rw [List.drop_eq_getElem_cons hk, show l.getD k Sf.zero = l[k] by simp [List.getD, hk]]
  unfold findS
  cases h : tellB d s v l[k]
  · rw [List.find?_cons_of_neg (by rw [h]; decide)]; rfl
  · rw [List.find?_cons_of_pos h]; rfl
theorem getD_memS (l : List Sf) (k : Nat) (h : k < l.length) : l.getD k Sf.zero ∈ l := by
  have : l.getD k Sf.zero = l[k] := by simp [List.getD, h]
  rw [this]; exact List.getElem_mem h
set_option maxHeartbeats 16000000 in
theorem StF_walk (a : Option Addr) (n cap : Nat) (ys : List Sf) (a2 : Option Addr) (n2 cap2 : Nat) (zs : List Int) (H : Hp) (w : World) (hI : Hid (SfsIn w a n ys)) (hn : n ≤ maxLen) (hZ : Hid (Zs w a2 n2 zs)) (hn2 : n2 ≤ maxLen) (hd : H.d.wf) (hs : H.s.wf) :
    Calls Try.prog 9 #[.slice a n cap, .slice a2 n2 cap2, .agg H.row] w fun r w' => r = .returned (.bool true) ∧ Below w.heap.size w w' := by
  have hb := hide (below1 w (.cells H.row 65))
  have hr := hide (heap_alloc_new w (.cells H.row 65))
  have hk := hide (finds_any (w.alloc (.cells H.row 65)))
  have hM : Hid (HdMac H.row H.d H.s) := hdC_mac _ _ _ _ _ _ _ _
  have hHv : Hid (H.row[15]? = some (.int .i64 H.vid)) := rfl
  replace hd := hide hd
  replace hs := hide hs
  unfold maxLen at hn hn2
  have hHs : Hid ((Try.prog.info? 65).map (·.size) = some H.row.size) := show (Try.prog.info? 65).map (·.size) = some 18 by kernel_rfl
  generalize H.row = HC at *
  generalize H.d = hdd at *
  generalize H.s = hss at *
  generalize H.vid = hv at *
  clear H
  go_enter Try.func9, Try.ntmps9
  go_wp2_with fail
  refine hk.out.mono ?_
  rintro _ w1 ⟨rfl, hb1⟩
  have hr1 := hide (heap_kept hb1 hr.out)
  have hB1 := hide (hb.out.later hb1)
  clear hk hb hr hb1
  by_cases h1 : 100 < n
  · go_wp2
    go_ret
    exact ⟨rfl, hB1.out⟩
  by_cases h2 : 100 < n2
  · go_wp2
    go_ret
    exact ⟨rfl, hB1.out⟩
  have hn100 : n ≤ 100 := by omega
  have hn2100 : n2 ≤ 100 := by omega
  have hd1 : decide ((100 : Int) < (n : Int)) = false := decide_eq_false (by omega)
  have hd2 : decide ((100 : Int) < (n2 : Int)) = false := decide_eq_false (by omega)
  clear h1 h2
  have hwl : Hid (w.heap.size < w1.heap.size) := (Array.getElem?_eq_some_iff.1 hr1.out).1
  have hF0 : Hid (Fis w (w1.alloc (.cells #[.slice none 0 0] 69)) w1.heap.size HC (fun _ => False) [] [] (.slice none 0 0)) := by
    refine ⟨Fso.new w1 w.heap.size _ (fun k h => ?_) hB1.out.size, Sl.nil _ _ _ _, fun k e => by simp [Value.ownBlock] at e, Uq.nil, hB1.out.later (below1 _ _), heap_kept (below1 _ _) hr1.out⟩
    rcases h with rfl | e | e
    · exact hwl.out
    · simp [Value.ownBlock] at e
    · exact e.elim
  clear hB1 hr1 hwl
  go_wp2_with fail
  generalize w1.alloc (.cells #[.slice none 0 0] 69) = w2 at *
  generalize w1.heap.size = t at *
  clear w1
  go_loopw [8, 34] (fun v i wr => ∃ (j : Nat) (l : List Sf), j ≤ n ∧ i = .int .i64 j ∧ Hid (Fis w wr t HC (fun _ => False) l l v)) (fun _ i _ => n - (intOf i).toNat)
  case atStart => exact ⟨0, _, Nat.zero_le _, rfl, hF0⟩
  case round =>
    obtain ⟨j, l, hj, rfl, hF⟩ := hrel
    clear hF0
    obtain ⟨va, vc, rfl⟩ := hF.out.sl.shape
    by_cases hlt : j < n
    · as_aux_lemma =>
      obtain ⟨b, off, hae, hrg⟩ := (hI.out.below hF.out.below).1.at_i j hlt
      subst hae
      have hfw := (hI.out).2 j hlt
      generalize ys.getD j Sf.zero = f at *
      replace hrg := hide hrg
      replace hfw := hide hfw
      have hf1 := sfSize f
      have hf2 := sf_all f
      have hm1 := hide (show (fSf f)[1]? = some (.int .u8 f.m.a) from rfl)
      have hrow := hide (fun (W : World) (q : Nat) (h : W.heap[q]? = some (.cells (fSf f).toArray 71 (0, 0))) => show W.cell? ⟨q, 0, none⟩ = some (.int .i64 f.kind) ∧ W.cell? ⟨q, 7, none⟩ = some (.int .i64 f.vid) ∧ W.rangeAt q 1 f.m.row.toList from ⟨(cell_of_row _ _ _ _ _ _ h).trans rfl, (cell_of_row _ _ _ _ _ _ h).trans rfl, sf_mac f h⟩)
      have hL := hide (fun (W : World) {A : Nat → Prop} (h : Fso w.heap.size A W t l) => SoAdd h hF.out.uq.sfs f hfw.out.m)
      have hR := hide (rightF_any f)
      generalize hfr : fSf f = fr at *
      go_wp2_with (first | ((with_reducible change wpList _ _ _ _ _ _); refine wpList_load_mid rfl 71 (.tmp 36) rfl b (off + j * 9) (by rfl) fr _ hrg.out Try.underlying71 rfl (by rw [← hfr]; exact sfLen _) ?_) | ((with_reducible change wpList _ _ _ _ _ _); refine stop_storeB 71 (.tmp 10) (.tmp 37) rfl ?_))
      refine hide (fresh_atC rfl 71 (.tmp 10) (.tmp 37) rfl wr.heap.size rfl fr.toArray (fSf Sf.zero).toArray rfl rfl 71 hf1 (by rw [← hfr]; rfl) hf2 ?_)
      intro w3 h3 hb3
      have hF3 : Hid (Fis w w3 t HC (fun k => k = wr.heap.size) l l (.slice va l.length vc)) := hF.out.more hb3 fun k e => .inr (by subst e; exact ⟨Nat.le_refl _, (Array.getElem?_eq_some_iff.1 h3).1⟩)
      replace h3 := hide h3
      clear hF hb3 hrg
      generalize wr.heap.size = q at *
      clear wr
      go_wp2_with ((with_reducible change wpList _ _ _ _ _ _); refine wpList_load_row rfl 71 (.tmp 10) rfl q rfl 71 _ _ _ h3.out Try.underlying71 rfl hf1 ?_)
      refine (hL.out _ hF3.out.tab).mono ?_
      rintro _ w4 ⟨rfl, hFn, hBn, hKn⟩
      have hE : Hid ((mayF f = false ∧ addR l f = (1, l)) ∨ (mayF f = true ∧ l.any (thatB f.kind f.m f.vid) = true ∧ addR l f = (22, l)) ∨ (mayF f = true ∧ l.any (thatB f.kind f.m f.vid) = false ∧ 64 ≤ l.length ∧ addR l f = (20, l)) ∨ (mayF f = true ∧ l.any (thatB f.kind f.m f.vid) = false ∧ l.length < 64 ∧ addR l f = (0, l ++ [f]))) := addR_all l f
      obtain ⟨eN, l', hel⟩ : ∃ eN l', addR l f = (eN, l') := ⟨_, _, rfl⟩
      rw [hel] at hFn hE
      rw [hel]
      have hu' : Uq l' := by
        rcases hE.out with ⟨_, e⟩ | ⟨_, _, e⟩ | ⟨_, _, _, e⟩ | ⟨g1, g2, g3, e⟩
        all_goals
          simp only [Prod.mk.injEq] at e
          obtain ⟨_, rfl⟩ := e
        · exact hF3.out.uq
        · exact hF3.out.uq
        · exact hF3.out.uq
        · exact hF3.out.uq.add g1 hfw.out g2 g3
      have hF4 := hide (hF3.out.call hFn hBn hKn hu')
      have hr4 := hide ((hKn q (.inr (.inr rfl))).trans h3.out)
      have hlen := hF3.out.uq.len
      replace hlen := hide hlen
      have hF3w := hide hF3.out.uq.wf
      clear hL hFn hBn hKn hF3 h3 hel hu'
      go_wp2_with fail
      go_loopw [12, 42] (fun tw i wr => ∃ k : Nat, k ≤ l.length ∧ i = .int .i64 k ∧ tw = .bool ((l.take k).any (thatB f.kind f.m f.vid)) ∧ Hid (Fis w wr t HC (fun k => k = q) l' l (.slice va l.length vc)) ∧ Hid (wr.heap[q]? = some (.cells fr.toArray 71 (0, 0)))) (fun _ i _ => l.length - (intOf i).toNat)
      case atStart => exact ⟨0, Nat.zero_le _, rfl, by simp, hF4, hr4⟩
      case round =>
        obtain ⟨k, hk, rfl, rfl, hF5, hr5⟩ := hrel
        clear hF4 hr4
        by_cases hkl : k < l.length
        · as_aux_lemma =>
          obtain ⟨bl, cl, spl, hv, hFl, _, _⟩ := hF5.out.sl.at_i (by omega)
          simp only [Value.slice.injEq, true_and] at hv
          obtain ⟨rfl, rfl⟩ := hv
          have hx := hide (hFl.range wide_Sf Sf.zero k hkl)
          have hxw := hide (hF3w.out _ (getD_memS l k hkl))
          have hT := any_upto (thatB f.kind f.m f.vid) l k hkl
          have hxd : thatB f.kind f.m f.vid (l.getD k Sf.zero) = ((l.getD k Sf.zero).kind == f.kind && decide ((l.getD k Sf.zero).m = f.m) && (l.getD k Sf.zero).vid == f.vid) := rfl
          rw [hxd] at hT
          replace hT := hide hT
          clear hxd hFl
          generalize l.getD k Sf.zero = x at *
          generalize hT1 : (l.take (k + 1)).any (thatB f.kind f.m f.vid) = T1 at *
          generalize hT0 : (l.take k).any (thatB f.kind f.m f.vid) = T0 at *
          have hx0 := hide (show ∀ (W : World) (p : Nat), W.heap[p]? = some (.cells (fSf x).toArray 71 (0, 0)) → W.cell? ⟨p, 0, none⟩ = some (.int .i64 x.kind) ∧ W.cell? ⟨p, 7, none⟩ = some (.int .i64 x.vid) ∧ W.rangeAt p 1 x.m.row.toList from fun W p h => ⟨(cell_of_row _ _ _ _ _ _ h).trans rfl, (cell_of_row _ _ _ _ _ _ h).trans rfl, sf_mac x h⟩)
          have hf1x := sfSize x
          have hf2x := sf_all x
          have hxl := sfLen x
          generalize hxr : fSf x = xr at *
          go_wp2_with (first | ((with_reducible change wpList _ _ _ _ _ _); refine wpList_load_mid rfl 71 (.tmp 44) rfl bl (k * 9) rfl xr _ hx.out Try.underlying71 rfl hxl ?_) | ((with_reducible change wpList _ _ _ _ _ _); refine stop_storeB 71 (.tmp 14) (.tmp 45) rfl ?_))
          refine hide (fresh_atC rfl 71 (.tmp 14) (.tmp 45) rfl wr.heap.size rfl xr.toArray (fSf Sf.zero).toArray rfl rfl 71 hf1x (by rw [← hxr]; rfl) hf2x ?_)
          intro w5 h5 hb5
          have hF6 := hide (hF5.out.later hb5)
          have hr6 := hide (heap_kept hb5 hr5.out)
          replace h5 := hide h5
          clear hF5 hr5 hx hb5
          generalize wr.heap.size = p at *
          clear wr
          have hk64 : k < 64 := by have := hlen.out; omega
          have hmE := m6_eql x.m f.m hxw.out.m hfw.out.m
          obtain ⟨hx0k, hx0v, hgx⟩ := hx0.out _ _ h5.out
          obtain ⟨hf0k, hf0v, hgf⟩ := hrow.out _ _ hr6.out
          replace hgx := hide hgx
          replace hgf := hide hgf
          generalize decide (x.m = f.m) = dm at *
          generalize x.kind = xk at *
          generalize x.vid = xv at *
          generalize x.m = xm at *
          clear hx0 hrow hxr
          cases T0
          · obtain hT1' : T1 = (xk == f.kind && dm && xv == f.vid) := by rw [hT.out]; rfl
            clear hT
            by_cases c1 : xk = f.kind
            · have c1' : (xk == f.kind) = true := by rw [c1]; simp
              rw [c1', Bool.true_and] at hT1'
              cases dm
              · obtain rfl : T1 = false := hT1'
                go_wp2_with (first | ((with_reducible change wpList _ _ _ _ _ _); refine wpList_load_mid_on rfl 28 (.tmp 54) rfl p 1 rfl xm.row.toList _ hgx.out Try.underlying28 rfl (m6Len _) ?_) | ((with_reducible change wpList _ _ _ _ _ _); refine stop_load 28 (.tmp 56) rfl ?_))
                refine hide (wpList_load_mid_on rfl 28 (.tmp 56) rfl q 1 rfl f.m.row.toList _ hgf.out Try.underlying28 rfl (m6Len _) ?_)
                go_wp2
                go_roundw
                case rel => exact ⟨k + 1, by omega, by go_num, by rw [hT1], hF6, hr6⟩
                case measure => simp [intOf]; omega
              · rw [Bool.true_and] at hT1'
                generalize hdv : (xv == f.vid) = dv at *
                subst hT1'
                go_wp2_with (first | ((with_reducible change wpList _ _ _ _ _ _); refine wpList_load_mid_on rfl 28 (.tmp 54) rfl p 1 rfl xm.row.toList _ hgx.out Try.underlying28 rfl (m6Len _) ?_) | ((with_reducible change wpList _ _ _ _ _ _); refine stop_load 28 (.tmp 56) rfl ?_))
                refine hide (wpList_load_mid_on rfl 28 (.tmp 56) rfl q 1 rfl f.m.row.toList _ hgf.out Try.underlying28 rfl (m6Len _) ?_)
                go_wp2
                go_roundw
                case rel => exact ⟨k + 1, by omega, by go_num, by rw [hT1], hF6, hr6⟩
                case measure => simp [intOf]; omega
            · have c1' : (xk == f.kind) = false := beq_eq_false_iff_ne.2 c1
              rw [c1', Bool.false_and, Bool.false_and] at hT1'
              obtain rfl : T1 = false := hT1'
              go_wp2
              go_roundw
              case rel => exact ⟨k + 1, by omega, by go_num, by rw [hT1], hF6, hr6⟩
              case measure => simp [intOf]; omega
          · obtain hT1' : T1 = true := by rw [hT.out]; rfl
            clear hT
            subst hT1'
            go_wp2
            go_roundw
            case rel => exact ⟨k + 1, by omega, by go_num, by rw [hT1], hF6, hr6⟩
            case measure => simp [intOf]; omega
        · have hkk : l.take k = l := List.take_of_length_le (by omega)
          rw [hkk]
          have hnl : decide ((k : Int) < (l.length : Int)) = false := decide_eq_false (by omega)
          clear hkk
          go_wp2_with ((with_reducible change wpList _ _ _ _ _ _); refine wpList_load_row rfl 71 (.tmp 10) rfl q rfl 71 _ _ _ hr5.out Try.underlying71 rfl hf1 ?_)
          refine (hR.out _).mono ?_
          rintro _ w6 ⟨rfl, hb6⟩
          have hF6 := hide (hF5.out.later hb6)
          have hr6 := hide (heap_kept hb6 hr5.out)
          have hF7 := hide (fun (h : l' = l) => (h ▸ hF6.out).more (E' := fun _ => False) (Below.refl _ _) fun k e => e.elim)
          clear hF5 hr5 hb6
          rcases hE.out with ⟨g1, e⟩ | ⟨g1, g2, e⟩ | ⟨g1, g2, g3, e⟩ | ⟨g1, g2, g3, e⟩
          all_goals
            simp only [Prod.mk.injEq] at e
            obtain ⟨rfl, rfl⟩ := e
            clear hE
          · rw [g1]
            replace hF7 := hide (hF7.out rfl)
            go_wp2
            go_roundw
            case rel => exact ⟨j + 1, l', by omega, by go_num, hF7⟩
            case measure => simp [intOf]; omega
          · rw [g1, g2]
            replace hF7 := hide (hF7.out rfl)
            go_wp2
            go_roundw
            case rel => exact ⟨j + 1, l', by omega, by go_num, hF7⟩
            case measure => simp [intOf]; omega
          · rw [g1, g2]
            replace hF7 := hide (hF7.out rfl)
            go_wp2
            go_roundw
            case rel => exact ⟨j + 1, l', by omega, by go_num, hF7⟩
            case measure => simp [intOf]; omega
          · rw [g1, g2]
            clear hF7
            have h64 : decide ((64 : Int) ≤ (l.length : Int)) = false := decide_eq_false (by omega)
            have hS7 := hide (hF6.out.sl.below (below1 w6 (.cells fr.toArray 71)))
            have hF8 := hide (hF6.out.later (below1 w6 (.cells fr.toArray 71)))
            have hnw := hide (fun i u (hu : (flat fSf [f])[i]? = some u) => show (w6.alloc (.cells fr.toArray 71)).cell? ((⟨w6.heap.size, 0, none⟩ : Addr).add i) = some u by
              rw [Addr.add_lit, Nat.zero_add, cell_of_row _ _ _ _ _ _ (heap_alloc_new w6 (.cells fr.toArray 71)), ← hu, ← hfr]
              simp [flat])
            have h65 : l.length + 1 ≤ 1000000 := by omega
            have hsf := sty_Sf
            have hbs := fun w => bs_Sf f w
            rw [hfr] at hbs
            go_wp2_with ((with_reducible change wpList _ _ _ _ _ _); refine stop_load 71 (.tmp 10) rfl ?_)
            refine hide (wpList_load_row rfl 71 (.tmp 10) rfl q rfl 71 _ _ _ hr6.out Try.underlying71 rfl hf1 ?_)
            refine wpList_build1 rfl 67 (.tmp 70) rfl (.agg fr.toArray) _ _ rfl (hbs w6) ?_
            refine wpList_append_sl rfl (.tmp 69) (.tmp 71) rfl wide_Sf hsf (.slice va l.length vc) l rfl hS7.out ⟨w6.heap.size, 0, none⟩ 1 1 [f] rfl rfl hnw.out (by simp; omega) (by omega) ?_
            intro v7 w7 hS hg ho
            have hF9 := hide (hF8.out.grown hg hS ho fun b e => hS.lt e)
            obtain ⟨a7, c7, rfl⟩ := hS.shape
            rw [show (l ++ [f]).length = l.length + 1 by simp] at hF9 ⊢
            clear hS hg ho hF8 hS7 hF6 hr6 hnw
            go_wp2
            go_roundw
            case rel => exact ⟨j + 1, l ++ [f], by omega, by go_num, hF9⟩
            case measure => simp [intOf]; omega
    · have hnl : decide ((j : Int) < (n : Int)) = false := decide_eq_false (by omega)
      go_wp2_with fail
      generalize (Value.slice va l.length vc) = v0 at *
      go_loopw [8, 94] (fun v i wr => ∃ (k : Nat) (l : List Sf), k ≤ n2 ∧ i = .int .i64 k ∧ Hid (Fis w wr t HC (fun _ => False) l l v)) (fun _ i _ => n2 - (intOf i).toNat)
      case atStart => exact ⟨0, _, Nat.zero_le _, rfl, hF⟩
      case round =>
        obtain ⟨k, l, hk, rfl, hF⟩ := hrel
        obtain ⟨va, vc, rfl⟩ := hF.out.sl.shape
        by_cases hlt : k < n2
        · as_aux_lemma =>
          obtain ⟨b2, off2, hae, hci⟩ := (hZ.out.below hF.out.below) k hlt
          subst hae
          generalize zs.getD k 0 = zi at *
          have hlen := hF.out.uq.len
          by_cases hneg : zi < 0
          · go_wp2
            go_roundw
            case rel => exact ⟨k + 1, l, by omega, by go_num, hF⟩
            case measure => simp [intOf]; omega
          obtain ⟨m, rfl⟩ := Int.eq_ofNat_of_zero_le (show 0 ≤ zi by omega)
          by_cases hbig : l.length ≤ m
          · go_wp2
            go_roundw
            case rel => exact ⟨k + 1, l, by omega, by go_num, hF⟩
            case measure => simp [intOf]; omega
          have hml : m < l.length := by omega
          have hd3 : decide ((l.length : Int) ≤ (m : Int)) = false := decide_eq_false (by omega)
          have hd4 : decide ((m : Int) < 0) = false := decide_eq_false (by omega)
          clear hneg hbig
          obtain ⟨bl, cl, spl, hv, hFl, hcl1, hcl2⟩ := hF.out.sl.at_i (by omega)
          simp only [Value.slice.injEq, true_and] at hv
          obtain ⟨rfl, rfl⟩ := hv
          have hx := hide (hFl.range wide_Sf Sf.zero m hml)
          have hxw := hide (hF.out.uq.wf _ (getD_memS l m hml))
          obtain ⟨hR1, hR2⟩ := hF.out.uq.rem hml (f := l.getD m Sf.zero) rfl
          have hu' := hide (hF.out.uq.out m)
          replace hR1 := hide hR1
          replace hR2 := hide hR2
          generalize l.getD m Sf.zero = x at *
          generalize hl3 : l.take m ++ l.drop (m + 1) = l3 at *
          have hx0 := hide (show ∀ (W : World) (p : Nat), W.heap[p]? = some (.cells (fSf x).toArray 71 (0, 0)) → W.cell? ⟨p, 0, none⟩ = some (.int .i64 x.kind) ∧ W.cell? ⟨p, 7, none⟩ = some (.int .i64 x.vid) ∧ W.rangeAt p 1 x.m.row.toList from fun W p h => ⟨(cell_of_row _ _ _ _ _ _ h).trans rfl, (cell_of_row _ _ _ _ _ _ h).trans rfl, sf_mac x h⟩)
          have hf1x := sfSize x
          have hf2x := sf_all x
          have hxl := sfLen x
          generalize hxr : fSf x = xr at *
          go_wp2_with (first | ((with_reducible change wpList _ _ _ _ _ _); refine wpList_load_mid rfl 71 (.tmp 108) rfl bl (m * 9) rfl xr _ hx.out Try.underlying71 rfl hxl ?_) | ((with_reducible change wpList _ _ _ _ _ _); refine stop_storeB 71 (.tmp 17) (.tmp 109) rfl ?_))
          refine hide (fresh_atC rfl 71 (.tmp 17) (.tmp 109) rfl wr.heap.size rfl xr.toArray (fSf Sf.zero).toArray rfl rfl 71 hf1x (by rw [← hxr]; rfl) hf2x ?_)
          intro w5 h5 hb5
          have hF6 : Hid (Fis w w5 t HC (fun k => k = wr.heap.size) l l (.slice (some ⟨bl, 0, none⟩) l.length vc)) := hF.out.more hb5 fun k e => .inr (by subst e; exact ⟨Nat.le_refl _, (Array.getElem?_eq_some_iff.1 h5).1⟩)
          obtain ⟨hx0k, hx0v, hgx⟩ := hx0.out _ _ h5
          replace hgx := hide hgx
          replace h5 := hide h5
          clear hF hx hb5 hFl hci
          generalize wr.heap.size = q at *
          clear wr
          have hL1 := hide (SoRem hF6.out.tab hF6.out.uq.sfs x.kind x.m x.vid hxw.out.m)
          rw [hR1.out] at hL1
          go_wp2_with ((with_reducible change wpList _ _ _ _ _ _); refine wpList_load_mid rfl 28 (.tmp 112) rfl q 1 rfl x.m.row.toList _ hgx.out Try.underlying28 rfl (m6Len _) ?_)
          refine hL1.out.mono ?_
          rintro _ w7 ⟨rfl, hFn, hBn, hKn⟩
          have hF7 : Hid (Fis w w7 t HC (fun k => k = q) l3 l (.slice (some ⟨bl, 0, none⟩) l.length vc)) := hF6.out.call hFn hBn hKn hu'.out
          have h7 := hide ((hKn q (.inr (.inr rfl))).trans h5.out)
          obtain ⟨hx7k, hx7v, hgx7⟩ := hx0.out _ _ h7.out
          replace hgx7 := hide hgx7
          have hL2 := hide (SoRem hF7.out.tab hF7.out.uq.sfs x.kind x.m x.vid hxw.out.m)
          rw [hR2.out] at hL2
          clear hL1 hFn hBn hKn hF6 h5 hx0k hx0v hgx
          go_wp2_with ((with_reducible change wpList _ _ _ _ _ _); refine wpList_load_mid_on rfl 28 (.tmp 121) rfl q 1 rfl x.m.row.toList _ hgx7.out Try.underlying28 rfl (m6Len _) ?_)
          refine hL2.out.mono ?_
          rintro _ w8 ⟨rfl, hFn, hBn, hKn⟩
          have hF8 : Hid (Fis w w8 t HC (fun k => k = q) l3 l (.slice (some ⟨bl, 0, none⟩) l.length vc)) := hF7.out.call hFn hBn hKn hu'.out
          clear hL2 hFn hBn hKn hF7 h7 hx7k hx7v hgx7 hx0
          have hml1 : m + 1 ≤ l.length := by omega
          have hlc : l.length ≤ vc := hcl1
          have hmc : m ≤ vc := by omega
          have hmc1 : m + 1 ≤ vc := by omega
          have hm64 : m ≤ 64 := by omega
          have hq1 : (0 : Int) ≤ (m : Int) := by omega
          have hq2 : (0 : Int) ≤ (m : Int) + 1 := by omega
          go_wp2_with fail
          refine wp_region_noPanic ?_
          refine wp_region_held_drew (S := fun W => True) (by kernel_rfl) trivial (fun hHeld => ?_)
          refine wpAnyH_take (i := 1) (oi := { dst := some 129, op := Op.move (Operand.tmp 8), type := 67, pos := "law.go:67", after := #[], guard := none }) (v := ?v1) rfl (by kernel_rfl) (by kernel_rfl) (by kernel_rfl) (fun _ _ _ h => h) (Or.inl ⟨by rfl, ?y1⟩) trivial ?r1
          case y1 => (intro w hSw; (try dsimp only at hSw); (try (go_split_ands)); go_simp; try with_reducible rfl)
          try simp only [Act.put, List.setIfInBounds_toArray, List.set_cons_zero, List.set_cons_succ]
          refine wpAnyH_take (i := 2) (oi := { dst := some 130, op := Op.move (Operand.tmp 16), type := 3, pos := "law.go:67", after := #[], guard := none }) (v := ?v2) rfl (by kernel_rfl) (by kernel_rfl) (by kernel_rfl) (fun _ _ _ h => h) (Or.inl ⟨by rfl, ?y2⟩) trivial ?r2
          case y2 => (intro w hSw; (try dsimp only at hSw); (try (go_split_ands)); go_simp; try with_reducible rfl)
          try simp only [Act.put, List.setIfInBounds_toArray, List.set_cons_zero, List.set_cons_succ]
          refine wpAnyH_take (i := 3) (oi := { dst := some 131, op := Op.slice 67 (Operand.tmp 129) none (some (Operand.tmp 130)) none, type := 67, pos := "law.go:67", after := #[{ on := 1, ground := Ground.data }, { on := 2, ground := Ground.data }], guard := none }) (v := (.slice (some ⟨bl, 0, none⟩) m vc)) rfl (by kernel_rfl) (by kernel_rfl) (by kernel_rfl) (fun _ _ _ h => h) (yieldsIf_slice rfl 67 (.tmp 129) none (some (.tmp 130)) rfl _ _ _ _ rfl rfl rfl (fun W _ => run_upto bl m l.length vc (by omega) hlc W)) (by assumption) ?_
          try simp only [Act.put, List.setIfInBounds_toArray, List.set_cons_zero, List.set_cons_succ]
          refine wpAnyH_take (i := 5) (oi := { dst := some 133, op := Op.move (Operand.tmp 8), type := 67, pos := "law.go:67", after := #[], guard := none }) (v := ?v3) rfl (by kernel_rfl) (by kernel_rfl) (by kernel_rfl) (fun _ _ _ h => h) (Or.inl ⟨by rfl, ?y3⟩) trivial ?r3
          case y3 => (intro w hSw; (try dsimp only at hSw); (try (go_split_ands)); go_simp; try with_reducible rfl)
          try simp only [Act.put, List.setIfInBounds_toArray, List.set_cons_zero, List.set_cons_succ]
          refine wpAnyH_take (i := 6) (oi := { dst := some 134, op := Op.move (Operand.tmp 16), type := 3, pos := "law.go:67", after := #[], guard := none }) (v := ?v4) rfl (by kernel_rfl) (by kernel_rfl) (by kernel_rfl) (fun _ _ _ h => h) (Or.inl ⟨by rfl, ?y4⟩) trivial ?r4
          case y4 => (intro w hSw; (try dsimp only at hSw); (try (go_split_ands)); go_simp; try with_reducible rfl)
          try simp only [Act.put, List.setIfInBounds_toArray, List.set_cons_zero, List.set_cons_succ]
          refine wpAnyH_take (i := 7) (oi := { dst := some 135, op := Op.binOp BinOp.add 3 (Operand.tmp 134) (Operand.const (Value.int IntKind.i64 1)) 3, type := 3, pos := "law.go:67", after := #[{ on := 6, ground := Ground.data }], guard := none }) (v := ?v5) rfl (by kernel_rfl) (by kernel_rfl) (by kernel_rfl) (fun _ _ _ h => h) (Or.inl ⟨by rfl, ?y5⟩) trivial ?r5
          case y5 => (intro w hSw; (try dsimp only at hSw); (try (go_split_ands)); go_simp; try with_reducible rfl)
          try simp only [Act.put, List.setIfInBounds_toArray, List.set_cons_zero, List.set_cons_succ]
          refine wpAnyH_take (i := 8) (oi := { dst := some 136, op := Op.slice 67 (Operand.tmp 133) (some (Operand.tmp 135)) none none, type := 67, pos := "law.go:67", after := #[{ on := 5, ground := Ground.data }, { on := 7, ground := Ground.data }], guard := none }) (v := (.slice (some (fromAt bl m vc)) (l.length - (m + 1)) (vc - (m + 1)))) rfl (by kernel_rfl) (by kernel_rfl) (by kernel_rfl) (fun _ _ _ h => h) (yieldsIf_slice rfl 67 (.tmp 133) (some (.tmp 135)) none rfl _ _ _ _ rfl rfl rfl (fun W _ => run_from bl m l.length vc hml1 hlc W _ (wrapS _ (by omega) (by omega)))) (by assumption) ?_
          try simp only [Act.put, List.setIfInBounds_toArray, List.set_cons_zero, List.set_cons_succ]
          have h9 : Below w8.heap.size w8 (w8.alloc (.cells #[] 71)).drew := by
            have h := below1 w8 (.cells #[] 71)
            exact ⟨h.os, h.tape, h.output, h.size, h.block⟩
          have hS9 : Sl (w8.alloc (.cells #[] 71)).drew (.slice (some ⟨w8.heap.size, 0, none⟩) 0 0) 71 9 fSf ([] : List Sf) := .inr ⟨w8.heap.size, 0, [], rfl, heap_alloc_new w8 _, Nat.le_refl _, by simp [maxLen], by simp⟩
          refine wpAnyH_ready (rs := [0]) (by kernel_rfl) (by simp) ?_
          refine AllReadyH.cons (o := { dst := some 128, op := Op.buildSlice 67 0 #[], type := 67, pos := "law.go:67", after := #[], guard := none }) rfl (fun K hK => ?_) AllReadyH.nil
          go_simp
          refine hK.out _ _ trivial (fun hHeld0 => ?_)
          clear hK K
          try simp only [Act.put, List.setIfInBounds_toArray, List.set_cons_zero, List.set_cons_succ]
          generalize (w8.alloc (.cells #[] 71)).drew = w9 at *
          obtain ⟨bl', cl', sp8, hv8, hFl8, _, _⟩ := hF8.out.sl.at_i (Nat.lt_of_le_of_lt (Nat.zero_le m) hml1)
          simp only [Value.slice.injEq, Option.some.injEq, Addr.mk.injEq, true_and, and_true] at hv8
          obtain ⟨rfl, rfl⟩ := hv8
          have hFl9 := hFl8.below h9
          refine wpAnyH_ready (rs := [4]) (by kernel_rfl) (by simp) ?_
          refine AllReadyH.cons (o := { dst := some 132, op := Op.call { callee := Callee.builtin Builtin.append, args := #[Operand.tmp 128, Operand.tmp 131], argTypes := #[67, 67] }, type := 67, pos := "law.go:67", after := #[{ on := 0, ground := Ground.data }, { on := 3, ground := Ground.data }], guard := none }) rfl (fun K hK => ?_) AllReadyH.nil
          refine step_append_sl rfl (.tmp 128) (.tmp 131) rfl wide_Sf sty_Sf (.slice (some ⟨w8.heap.size, 0, none⟩) 0 0) [] rfl hS9 ⟨bl, 0, none⟩ m vc (l.take m) rfl (by rw [List.length_take]; omega) (cells_upto hFl9 m) (by simp; omega) (by omega) ?_
          intro v1 w10 hS10 hg10 ho10
          rw [List.nil_append] at hS10
          have h10 : Below w8.heap.size w8 w10 := grown_below hg10 h9 h9.size (fun x e => by simp only [Value.ownBlock, Option.some.injEq] at e; omega)
          have hown1 : ∀ x, v1.ownBlock = some x → w8.heap.size ≤ x := fun x e => by
            rcases ho10 with e' | e'
            · rw [e'] at e; simp only [Value.ownBlock, Option.some.injEq] at e; omega
            · rw [e'] at e; simp only [Option.some.injEq] at e; have := h9.size; omega
          obtain ⟨a1, c1, rfl⟩ := hS10.shape
          have hFl10 := hFl8.below h10
          refine hK.out _ _ trivial (fun hHeld4 => ?_)
          clear hK K
          try simp only [Act.put, List.setIfInBounds_toArray, List.set_cons_zero, List.set_cons_succ]
          clear hS9 hg10 ho10 hFl9 h9 hHeld hHeld0
          refine wpAnyH_ready (rs := [9]) (by kernel_rfl) (by simp) ?_
          refine AllReadyH.cons (o := { dst := some 137, op := Op.call { callee := Callee.builtin Builtin.append, args := #[Operand.tmp 132, Operand.tmp 136], argTypes := #[67, 67] }, type := 67, pos := "law.go:67", after := #[{ on := 4, ground := Ground.data }, { on := 8, ground := Ground.data }, { on := 4, ground := Ground.chain }], guard := none }) rfl (fun K hK => ?_) AllReadyH.nil
          refine step_append_sl rfl (.tmp 132) (.tmp 136) rfl wide_Sf sty_Sf (.slice a1 (l.take m).length c1) (l.take m) rfl hS10 (fromAt bl m vc) (l.length - (m + 1)) (vc - (m + 1)) (l.drop (m + 1)) rfl (by rw [List.length_drop]) (cells_from hFl10 m hml1 hlc) (by simp; omega) (by omega) ?_
          intro v2 w11 hS11 hg11 ho11
          have h11 : Below w8.heap.size w8 w11 := grown_below hg11 h10 h10.size (fun x e => hown1 x e)
          have hown2 : ∀ x, v2.ownBlock = some x → w8.heap.size ≤ x := fun x e => by
            rcases ho11 with e' | e'
            · exact hown1 x (e' ▸ e)
            · rw [e'] at e; simp only [Option.some.injEq] at e; have := h10.size; omega
          rw [hl3] at hS11
          have hFz : Hid (Fis w w11 t HC (fun _ => False) l3 l3 v2) := hF8.out.newl h11 hS11 hown2
          obtain ⟨a2', c2', rfl⟩ := hS11.shape
          refine hK.out _ _ trivial (fun hHeld9 => ?_)
          clear hK K
          try simp only [Act.put, List.setIfInBounds_toArray, List.set_cons_zero, List.set_cons_succ]
          refine wpAnyH_take (i := 10) (oi := { dst := some 8, op := Op.assign (Operand.tmp 137), type := 67, pos := "law.go:67", after := #[{ on := 9, ground := Ground.data }, { on := 9, ground := Ground.chain }, { on := 0, ground := Ground.phase }, { on := 1, ground := Ground.phase }, { on := 2, ground := Ground.phase }, { on := 3, ground := Ground.phase }, { on := 4, ground := Ground.phase }, { on := 5, ground := Ground.phase }, { on := 6, ground := Ground.phase }, { on := 7, ground := Ground.phase }, { on := 8, ground := Ground.phase }, { on := 9, ground := Ground.phase }], guard := none }) (v := ?v6) rfl (by kernel_rfl) (by kernel_rfl) (by kernel_rfl) (fun _ _ _ h => h) (Or.inl ⟨by rfl, ?y6⟩) trivial ?r6
          case y6 => (intro w hSw; (try dsimp only at hSw); (try (go_split_ands)); go_simp; try with_reducible rfl)
          try simp only [Act.put, List.setIfInBounds_toArray, List.set_cons_zero, List.set_cons_succ]
          refine wpAnyH_done (by kernel_rfl) ?_ _
          refine NoPanic.normal ?_
          clear hS10 hg11 ho11 hFl10 hFl8 h10 h11 hown1 hown2 hHeld4 hHeld9 hS11 hF8
          go_wp2
          go_roundw
          case rel => exact ⟨k + 1, l3, by omega, by go_num, hFz⟩
          case measure => simp [intOf]; omega
        · have hnl2 : decide ((k : Int) < (n2 : Int)) = false := decide_eq_false (by omega)
          have hL := hide (SoAll hF.out.tab hF.out.uq.sfs)
          go_wp2_with fail
          refine hL.out.mono ?_
          rintro _ w5 ⟨vA, rfl, hSA, hFn, hBn, hfr⟩
          have hF5 := hide (hF.out.later hBn)
          obtain ⟨aA, cA, rfl⟩ := hSA.shape
          replace hSA := hide hSA
          have hlen := hF5.out.uq.len
          clear hL hFn hBn hfr hF
          go_wp2_with fail
          go_loopw [19, 20] (fun wv i wr => ∃ (p : Nat) (z : Int), p ≤ l.length ∧ i = .int .i64 z ∧ z + 1 = (p : Int) ∧ wv = .int .i64 (findS hdd hss hv (l.drop p)) ∧ Hid (Fis w wr t HC (fun _ => False) l l (.slice va l.length vc)) ∧ Hid (Sl wr (.slice aA l.length cA) 71 9 fSf l)) (fun _ i _ => (intOf i + 1).toNat)
          case atStart => exact ⟨l.length, (l.length : Int) - 1, Nat.le_refl _, by go_num, by omega, by simp [findS], hF5, hSA⟩
          case round =>
            obtain ⟨p, z, hp, rfl, hz, rfl, hF, hA⟩ := hrel
            clear hF5 hSA
            by_cases hz0 : z < 0
            · have hp0 : p = 0 := by omega
              rw [hp0, List.drop_zero]
              have hdz : decide ((0 : Int) ≤ z) = false := decide_eq_false (by omega)
              clear hp0 hp hz
              have hL := hide (SoFind hF.out.tab hF.out.uq.sfs HC hdd hss hM.out hv hd.out hs.out)
              have hrh := hide hF.out.hd
              have hc15 : wr.cell? ⟨w.heap.size, 15, none⟩ = some (.int .i64 hv) := (cell_of_row _ _ _ _ _ _ hrh.out).trans hHv.out
              generalize findS hdd hss hv l = R at *
              have hB := hide hF.out.below
              clear hF hA
              go_wp2_with ((with_reducible change wpList _ _ _ _ _ _); refine wpList_load_row rfl 65 (.tmp 5) rfl w.heap.size rfl 65 _ _ _ hrh.out Try.underlying65 rfl hHs.out ?_)
              refine hL.out.mono ?_
              rintro _ w6 ⟨rfl, hFn, hBn⟩
              have hB6 := hide (hB.out.later hBn)
              clear hL hFn hBn hc15 hrh hB
              go_wp2
              go_ret
              exact ⟨rfl, hB6.out⟩
            · obtain ⟨k3, rfl⟩ := Int.eq_ofNat_of_zero_le (show 0 ≤ z by omega)
              obtain rfl : p = k3 + 1 := by omega
              clear hz0 hz
              have hkl : k3 < l.length := by omega
              have hdk : decide ((0 : Int) ≤ (k3 : Int)) = true := decide_eq_true (by omega)
              have hWa := hide (findS_step hdd hss hv l k3 hkl)
              generalize findS hdd hss hv (l.drop (k3 + 1)) = R at *
              have hxm := hF.out.uq.may _ (getD_memS l k3 hkl)
              have hxw := hide (hF.out.uq.wf _ (getD_memS l k3 hkl))
              obtain ⟨bl, cl, spl, hv1, hFl, _, _⟩ := hF.out.sl.at_i (by omega)
              obtain ⟨ba, ca, spa, hv2, hFa, _, _⟩ := hA.out.at_i (by omega)
              simp only [Value.slice.injEq, true_and] at hv1 hv2
              obtain ⟨rfl, rfl⟩ := hv1
              obtain ⟨rfl, rfl⟩ := hv2
              have hx := hide (hFl.range wide_Sf Sf.zero k3 hkl)
              have hxa := hide (fun (W : World) (hW : Below wr.heap.size wr W) => (hFa.below hW).range wide_Sf Sf.zero k3 hkl)
              generalize l.getD k3 Sf.zero = x at *
              have hx0 := hide (show ∀ (W : World) (p : Nat), W.heap[p]? = some (.cells (fSf x).toArray 71 (0, 0)) → W.cell? ⟨p, 0, none⟩ = some (.int .i64 x.kind) ∧ W.cell? ⟨p, 7, none⟩ = some (.int .i64 x.vid) ∧ W.cell? ⟨p, 8, none⟩ = some (.int .i64 x.num) ∧ W.rangeAt p 1 x.m.row.toList from fun W p h => ⟨(cell_of_row _ _ _ _ _ _ h).trans rfl, (cell_of_row _ _ _ _ _ _ h).trans rfl, (cell_of_row _ _ _ _ _ _ h).trans rfl, sf_mac x h⟩)
              have hf1x := sfSize x
              have hf2x := sf_all x
              have hxl := sfLen x
              have hne := fun W => sf_neql x x hxw.out hxw.out W
              rw [show (!decide (x = x)) = false by simp] at hne
              generalize hxr : fSf x = xr at *
              go_wp2_with (first | ((with_reducible change wpList _ _ _ _ _ _); refine wpList_load_mid rfl 71 (.tmp 154) rfl bl (k3 * 9) rfl xr _ hx.out Try.underlying71 rfl hxl ?_) | ((with_reducible change wpList _ _ _ _ _ _); refine stop_storeB 71 (.tmp 21) (.tmp 155) rfl ?_))
              refine hide (fresh_atC rfl 71 (.tmp 21) (.tmp 155) rfl wr.heap.size rfl xr.toArray (fSf Sf.zero).toArray rfl rfl 71 hf1x (by rw [← hxr]; rfl) hf2x ?_)
              intro w5 h5 hb5
              have hxa5 := hide (fun (W : World) (hW : Below w5.heap.size w5 W) => hxa.out W (hb5.later hW))
              have hF5 := hide (hF.out.later hb5)
              have hA5 := hide (hA.out.below hb5)
              replace h5 := hide h5
              clear hF hA hx hb5 hFl hFa hxa
              generalize wr.heap.size = p at *
              clear wr
              go_wp2_with fail
              refine wp_region_noPanic ?_
              refine wp_region_held_drew (S := fun W => Below w5.heap.size w5 W) (by kernel_rfl) (below_drewS (Below.refl _ _)) (fun hHeld => ?_)
              refine wpAnyH_take (i := 0) (oi := { dst := some 156, op := Op.move (Operand.tmp 18), type := 67, pos := "law.go:76", after := #[], guard := none }) (v := ?v7) rfl (by kernel_rfl) (by kernel_rfl) (by kernel_rfl) (fun _ _ _ h => h) (Or.inl ⟨by rfl, ?y7⟩) (by assumption) ?r7
              case y7 => (intro w hSw; (try dsimp only at hSw); (try (go_split_ands)); go_simp; try with_reducible rfl)
              try simp only [Act.put, List.setIfInBounds_toArray, List.set_cons_zero, List.set_cons_succ]
              refine wpAnyH_take (i := 1) (oi := { dst := some 157, op := Op.move (Operand.tmp 20), type := 3, pos := "law.go:76", after := #[], guard := none }) (v := ?v8) rfl (by kernel_rfl) (by kernel_rfl) (by kernel_rfl) (fun _ _ _ h => h) (Or.inl ⟨by rfl, ?y8⟩) (by assumption) ?r8
              case y8 => (intro w hSw; (try dsimp only at hSw); (try (go_split_ands)); go_simp; try with_reducible rfl)
              try simp only [Act.put, List.setIfInBounds_toArray, List.set_cons_zero, List.set_cons_succ]
              refine wpAnyH_take (i := 2) (oi := { dst := some 158, op := Op.indexAddr 67 (Operand.tmp 156) (Operand.tmp 157), type := 0, pos := "law.go:76", after := #[{ on := 0, ground := Ground.data }, { on := 1, ground := Ground.data }], guard := none }) (v := ?v9) rfl (by kernel_rfl) (by kernel_rfl) (by kernel_rfl) (fun _ _ _ h => h) (Or.inl ⟨by rfl, ?y9⟩) (by assumption) ?r9
              case y9 => (intro w hSw; (try dsimp only at hSw); (try (go_split_ands)); go_simp; try with_reducible rfl)
              try simp only [Act.put, List.setIfInBounds_toArray, List.set_cons_zero, List.set_cons_succ]
              refine wpAnyH_take (i := 3) (oi := { dst := some 159, op := Op.load 71 (Operand.tmp 158), type := 71, pos := "law.go:76", after := #[{ on := 2, ground := Ground.data }], guard := none }) (v := _) rfl (by kernel_rfl) (by kernel_rfl) (by kernel_rfl) (fun _ _ _ h => h) (yieldsIf_load_mid (by rfl) 71 (.tmp 158) rfl ba (k3 * 9) rfl xr _ (fun W hW => hxa5.out W hW) Try.underlying71 rfl hxl) (by assumption) ?_
              try simp only [Act.put, List.setIfInBounds_toArray, List.set_cons_zero, List.set_cons_succ]
              refine wpAnyH_take (i := 4) (oi := { dst := some 160, op := Op.load 71 (Operand.tmp 21), type := 71, pos := "law.go:76", after := #[], guard := none }) (v := _) rfl (by kernel_rfl) (by kernel_rfl) (by kernel_rfl) (fun _ _ _ h => h) (yieldsIf_load_row (by rfl) 71 (.tmp 21) rfl p rfl 71 _ (0, 0) _ (fun W hW => heap_kept hW h5.out) Try.underlying71 rfl hf1x) (by assumption) ?_
              try simp only [Act.put, List.setIfInBounds_toArray, List.set_cons_zero, List.set_cons_succ]
              clear hHeld
              refine wpAnyH_take (i := 5) (oi := { dst := some 161, op := Op.binOp BinOp.neq 71 (Operand.tmp 159) (Operand.tmp 160) 71, type := 4, pos := "law.go:76", after := #[{ on := 3, ground := Ground.data }, { on := 4, ground := Ground.data }], guard := none }) (v := ?v10) rfl (by kernel_rfl) (by kernel_rfl) (by kernel_rfl) (fun _ _ _ h => h) (Or.inl ⟨by rfl, ?y10⟩) (below_drewS (Below.refl _ _)) ?r10
              case y10 => (intro w hSw; (try dsimp only at hSw); (try (go_split_ands)); go_simp; try with_reducible rfl)
              try simp only [Act.put, List.setIfInBounds_toArray, List.set_cons_zero, List.set_cons_succ]
              refine wpAnyH_done (by kernel_rfl) ?_ _
              refine NoPanic.normal ?_
              have hd5 : Below w5.heap.size w5 w5.drew := below_drewS (Below.refl _ _)
              have hFw := hide (hF5.out.later hd5)
              have hAw := hide (hA5.out.below hd5)
              have hrow := hide (heap_kept hd5 h5.out)
              clear hF5 hA5 h5 hxa5 hne hd5
              generalize w5.drew = w6 at *
              clear w5
              have hkk : x.kind = 0 ∨ x.kind = 1 := by
                simp only [mayF, Bool.and_eq_true, decide_eq_true_eq] at hxm
                omega
              obtain ⟨hx0k, hx0v, hx0n, hgx⟩ := hx0.out _ _ hrow.out
              replace hgx := hide hgx
              have hgd := hide (hd_range (o := 0) hFw.out.hd (fun i u h => by rw [Nat.zero_add]; exact hM.out.dst i u h))
              have hgs := hide (hd_range (o := 6) hFw.out.hd (fun i u h => hM.out.src i u h))
              have hc15 : w6.cell? ⟨w.heap.size, 15, none⟩ = some (.int .i64 hv) := (cell_of_row _ _ _ _ _ _ hFw.out.hd).trans hHv.out
              obtain ⟨Tl, hT⟩ : ∃ Tl, Tl = tellB hdd hss hv x := ⟨_, rfl⟩
              replace hWa := hWa.out
              rw [← hT] at hWa
              replace hWa := hide hWa
              replace hT := hide hT
              clear hxm
              rcases hkk with hkk | hkk
              · as_aux_lemma =>
                have hTl : Tl = (decide (x.m = hdd) && (x.vid == 0 || x.vid == hv)) := by rw [hT.out]; unfold tellB; rw [if_neg (by omega)]
                have hk0 : (x.kind == 0) = true := by rw [hkk]; rfl
                have hk1 : (x.kind == 1) = false := by rw [hkk]; rfl
                have hE := m6_eql x.m hdd hxw.out.m hd.out
                generalize decide (x.m = hdd) = d at *
                generalize x.m = xm at *
                generalize x.vid = xv at *
                generalize x.num = xn at *
                generalize x.kind = xk at *
                clear hT hx0 hxr hkk
                cases d
                · rw [Bool.false_and] at hTl
                  subst hTl
                  go_wp2_with (first | ((with_reducible change wpList _ _ _ _ _ _); refine wpList_load_mid_on rfl 28 (.tmp 166) rfl p 1 rfl xm.row.toList _ hgx.out Try.underlying28 rfl (m6Len _) ?_) | ((with_reducible change wpList _ _ _ _ _ _); refine stop_load 28 (.tmp 168) rfl ?_))
                  refine hide (wpList_load_mid_on rfl 28 (.tmp 168) rfl w.heap.size 0 rfl hdd.row.toList _ hgd.out Try.underlying28 rfl (m6Len _) ?_)
                  go_wp2
                  go_roundw
                  case rel => exact ⟨k3, (k3 : Int) - 1, by omega, by go_num, by omega, by rw [hWa.out] <;> rfl, hFw, hAw⟩
                  case measure => simp [intOf] <;> omega
                · rw [Bool.true_and] at hTl
                  by_cases hv0 : xv = 0
                  · have hv0' : (xv == 0) = true := by rw [hv0]; rfl
                    rw [hv0', Bool.true_or] at hTl
                    subst hTl
                    go_wp2_with (first | ((with_reducible change wpList _ _ _ _ _ _); refine wpList_load_mid_on rfl 28 (.tmp 166) rfl p 1 rfl xm.row.toList _ hgx.out Try.underlying28 rfl (m6Len _) ?_) | ((with_reducible change wpList _ _ _ _ _ _); refine stop_load 28 (.tmp 168) rfl ?_))
                    refine hide (wpList_load_mid_on rfl 28 (.tmp 168) rfl w.heap.size 0 rfl hdd.row.toList _ hgd.out Try.underlying28 rfl (m6Len _) ?_)
                    go_wp2
                    go_roundw
                    case rel => exact ⟨k3, (k3 : Int) - 1, by omega, by go_num, by omega, by rw [hWa.out] <;> rfl, hFw, hAw⟩
                    case measure => simp [intOf] <;> omega
                  · have hv0' : (xv == 0) = false := beq_eq_false_iff_ne.2 hv0
                    rw [hv0', Bool.false_or] at hTl
                    generalize hvv : (xv == hv) = dv at *
                    subst hTl
                    cases Tl
                    · go_wp2_with (first | ((with_reducible change wpList _ _ _ _ _ _); refine wpList_load_mid_on rfl 28 (.tmp 166) rfl p 1 rfl xm.row.toList _ hgx.out Try.underlying28 rfl (m6Len _) ?_) | ((with_reducible change wpList _ _ _ _ _ _); refine stop_load 28 (.tmp 168) rfl ?_))
                      refine hide (wpList_load_mid_on rfl 28 (.tmp 168) rfl w.heap.size 0 rfl hdd.row.toList _ hgd.out Try.underlying28 rfl (m6Len _) ?_)
                      go_wp2
                      go_roundw
                      case rel => exact ⟨k3, (k3 : Int) - 1, by omega, by go_num, by omega, by rw [hWa.out] <;> rfl, hFw, hAw⟩
                      case measure => simp [intOf] <;> omega
                    · go_wp2_with (first | ((with_reducible change wpList _ _ _ _ _ _); refine wpList_load_mid_on rfl 28 (.tmp 166) rfl p 1 rfl xm.row.toList _ hgx.out Try.underlying28 rfl (m6Len _) ?_) | ((with_reducible change wpList _ _ _ _ _ _); refine stop_load 28 (.tmp 168) rfl ?_))
                      refine hide (wpList_load_mid_on rfl 28 (.tmp 168) rfl w.heap.size 0 rfl hdd.row.toList _ hgd.out Try.underlying28 rfl (m6Len _) ?_)
                      go_wp2
                      go_roundw
                      case rel => exact ⟨k3, (k3 : Int) - 1, by omega, by go_num, by omega, by rw [hWa.out] <;> rfl, hFw, hAw⟩
                      case measure => simp [intOf] <;> omega
              · as_aux_lemma =>
                have hTl : Tl = (decide (x.m = hss) && (x.vid == 0 || x.vid == hv)) := by rw [hT.out]; unfold tellB; rw [if_pos hkk]
                have hk0 : (x.kind == 0) = false := by rw [hkk]; rfl
                have hk1 : (x.kind == 1) = true := by rw [hkk]; rfl
                have hE := m6_eql x.m hss hxw.out.m hs.out
                generalize decide (x.m = hss) = d at *
                generalize x.m = xm at *
                generalize x.vid = xv at *
                generalize x.num = xn at *
                generalize x.kind = xk at *
                clear hT hx0 hxr hkk
                cases d
                · rw [Bool.false_and] at hTl
                  subst hTl
                  go_wp2_with (first | ((with_reducible change wpList _ _ _ _ _ _); refine wpList_load_mid_on rfl 28 (.tmp 177) rfl p 1 rfl xm.row.toList _ hgx.out Try.underlying28 rfl (m6Len _) ?_) | ((with_reducible change wpList _ _ _ _ _ _); refine stop_load 28 (.tmp 179) rfl ?_))
                  refine hide (wpList_load_mid_on rfl 28 (.tmp 179) rfl w.heap.size 6 rfl hss.row.toList _ hgs.out Try.underlying28 rfl (m6Len _) ?_)
                  go_wp2
                  go_roundw
                  case rel => exact ⟨k3, (k3 : Int) - 1, by omega, by go_num, by omega, by rw [hWa.out] <;> rfl, hFw, hAw⟩
                  case measure => simp [intOf] <;> omega
                · rw [Bool.true_and] at hTl
                  by_cases hv0 : xv = 0
                  · have hv0' : (xv == 0) = true := by rw [hv0]; rfl
                    rw [hv0', Bool.true_or] at hTl
                    subst hTl
                    go_wp2_with (first | ((with_reducible change wpList _ _ _ _ _ _); refine wpList_load_mid_on rfl 28 (.tmp 177) rfl p 1 rfl xm.row.toList _ hgx.out Try.underlying28 rfl (m6Len _) ?_) | ((with_reducible change wpList _ _ _ _ _ _); refine stop_load 28 (.tmp 179) rfl ?_))
                    refine hide (wpList_load_mid_on rfl 28 (.tmp 179) rfl w.heap.size 6 rfl hss.row.toList _ hgs.out Try.underlying28 rfl (m6Len _) ?_)
                    go_wp2
                    go_roundw
                    case rel => exact ⟨k3, (k3 : Int) - 1, by omega, by go_num, by omega, by rw [hWa.out] <;> rfl, hFw, hAw⟩
                    case measure => simp [intOf] <;> omega
                  · have hv0' : (xv == 0) = false := beq_eq_false_iff_ne.2 hv0
                    rw [hv0', Bool.false_or] at hTl
                    generalize hvv : (xv == hv) = dv at *
                    subst hTl
                    cases Tl
                    · go_wp2_with (first | ((with_reducible change wpList _ _ _ _ _ _); refine wpList_load_mid_on rfl 28 (.tmp 177) rfl p 1 rfl xm.row.toList _ hgx.out Try.underlying28 rfl (m6Len _) ?_) | ((with_reducible change wpList _ _ _ _ _ _); refine stop_load 28 (.tmp 179) rfl ?_))
                      refine hide (wpList_load_mid_on rfl 28 (.tmp 179) rfl w.heap.size 6 rfl hss.row.toList _ hgs.out Try.underlying28 rfl (m6Len _) ?_)
                      go_wp2
                      go_roundw
                      case rel => exact ⟨k3, (k3 : Int) - 1, by omega, by go_num, by omega, by rw [hWa.out] <;> rfl, hFw, hAw⟩
                      case measure => simp [intOf] <;> omega
                    · go_wp2_with (first | ((with_reducible change wpList _ _ _ _ _ _); refine wpList_load_mid_on rfl 28 (.tmp 177) rfl p 1 rfl xm.row.toList _ hgx.out Try.underlying28 rfl (m6Len _) ?_) | ((with_reducible change wpList _ _ _ _ _ _); refine stop_load 28 (.tmp 179) rfl ?_))
                      refine hide (wpList_load_mid_on rfl 28 (.tmp 179) rfl w.heap.size 6 rfl hss.row.toList _ hgs.out Try.underlying28 rfl (m6Len _) ?_)
                      go_wp2
                      go_roundw
                      case rel => exact ⟨k3, (k3 : Int) - 1, by omega, by go_num, by omega, by rw [hWa.out] <;> rfl, hFw, hAw⟩
                      case measure => simp [intOf] <;> omega
end Go.Proofs.Ytiahiakllpjliaa
