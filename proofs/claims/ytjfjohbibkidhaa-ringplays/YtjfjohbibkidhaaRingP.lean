/-
  RingPlays, walked. Conditions: those that each theorem names.
-/
import Derived.Test.YtjfjohbibkidhaaRingT
namespace Go.Proofs.Ytjfjohbibkidhaa
open Go.RowKit
set_option linter.unusedVariables false

theorem Sy.init {W w1 w2 : World} (b0 b1 b2 b3 b4 b5 b6 b7 : Int) (gb : Nat) (hgb : w1.heap[gb]? = some (.cells (row8 b0 b1 b2 b3 b4 b5 b6 b7) 22 (0, 0))) (hW : Below W.heap.size W w1) (hg : W.heap.size ≤ gb) (hP : Pt w2 w1.heap.size (w1.heap.size + 1) (newR [b0, b1, b2, b3, b4, b5, b6, b7] 8)) (hb : Below w1.heap.size w1 w2) :
    Sy W ((w2.alloc (.cells #[.slice none 0 0, .slice none 0 0, .slice none 0 0, .slice none 0 0, .slice none 0 0, .slice none 0 0, .slice none 0 0, .slice none 0 0] 28)).alloc (.cells #[.int .i64 0, .int .i64 0, .int .i64 0, .int .i64 0, .int .i64 0, .int .i64 0, .int .i64 0, .int .i64 0] 22)) (w1.heap.size + 1) gb w2.heap.size (w2.heap.size + 1) (row8 b0 b1 b2 b3 b4 b5 b6 b7).toList (newR [b0, b1, b2, b3, b4, b5, b6, b7] 8) (List.replicate 8 Mw.none) (fun _ => []) (fun _ => []) (fun k => bndN ([b0, b1, b2, b3, b4, b5, b6, b7].getD k 0)) (fun _ => 0) (fun _ => 0) := by
  have hl1 : gb < w1.heap.size := (Array.getElem?_eq_some_iff.1 hgb).1
  have hl2 := hP.ltg
  have hs := hW.size
  have hb4 : Below w2.heap.size w2 ((w2.alloc (.cells #[.slice none 0 0, .slice none 0 0, .slice none 0 0, .slice none 0 0, .slice none 0 0, .slice none 0 0, .slice none 0 0, .slice none 0 0] 28)).alloc (.cells #[.int .i64 0, .int .i64 0, .int .i64 0, .int .i64 0, .int .i64 0, .int .i64 0, .int .i64 0, .int .i64 0] 22)) := (below1 _ _).later (below1 _ _)
  have hrep : ∀ k, (List.replicate 8 Mw.none).getD k Mw.none = Mw.none := fun k => by
    rw [List.getD_eq_getElem?_getD, List.getElem?_replicate]; split <;> rfl
  have hR : ((w2.alloc (.cells #[.slice none 0 0, .slice none 0 0, .slice none 0 0, .slice none 0 0, .slice none 0 0, .slice none 0 0, .slice none 0 0, .slice none 0 0] 28)).alloc (.cells #[.int .i64 0, .int .i64 0, .int .i64 0, .int .i64 0, .int .i64 0, .int .i64 0, .int .i64 0, .int .i64 0] 22)).heap[w2.heap.size]? = some (.cells #[.slice none 0 0, .slice none 0 0, .slice none 0 0, .slice none 0 0, .slice none 0 0, .slice none 0 0, .slice none 0 0, .slice none 0 0] 28 (0, 0)) := (heap_alloc_old _ _ (show w2.heap.size < (w2.alloc _).heap.size by rw [World.size_alloc]; omega)).trans (heap_alloc_new w2 _)
  have hL : ((w2.alloc (.cells #[.slice none 0 0, .slice none 0 0, .slice none 0 0, .slice none 0 0, .slice none 0 0, .slice none 0 0, .slice none 0 0, .slice none 0 0] 28)).alloc (.cells #[.int .i64 0, .int .i64 0, .int .i64 0, .int .i64 0, .int .i64 0, .int .i64 0, .int .i64 0, .int .i64 0] 22)).heap[w2.heap.size + 1]? = some (.cells #[.int .i64 0, .int .i64 0, .int .i64 0, .int .i64 0, .int .i64 0, .int .i64 0, .int .i64 0, .int .i64 0] 22 (0, 0)) := by
    have h := heap_alloc_new (w2.alloc (.cells #[.slice none 0 0, .slice none 0 0, .slice none 0 0, .slice none 0 0, .slice none 0 0, .slice none 0 0, .slice none 0 0, .slice none 0 0] 28)) (.cells #[.int .i64 0, .int .i64 0, .int .i64 0, .int .i64 0, .int .i64 0, .int .i64 0, .int .i64 0, .int .i64 0] 22)
    rw [World.size_alloc] at h
    exact h
  refine ⟨(hP.below hb4).mono hs, fun k hk => ?_, ⟨by simp, by omega, hR, fun k hk => ?_, fun k hk b e => ?_, fun i j hi hj hij b e => ?_⟩, fun k hk => by rw [hrep], hL, (hb4.block gb (by omega)).trans ((hb.block gb hl1).trans hgb), by omega, hg, ⟨by omega, by omega, by omega, by omega, by omega, by omega⟩, fun i hi b e => ?_, fun j hj b e => ?_, (hW.later hb).later hb4⟩
  · rw [newR_at _ _ _ hk, if_pos hk]; exact ⟨rfl, rfl, rfl⟩
  · rw [hrep]; exact Qe.nil _
  · rw [hrep] at e; simp [Value.ownBlock] at e
  · rw [hrep] at e; simp [Value.ownBlock] at e
  · rw [newR_at _ _ _ hi] at e; simp [Value.ownBlock] at e
  · rw [hrep] at e; simp [Value.ownBlock] at e
theorem Qe.tail1 {w : World} {b off n : Nat} {l : List Int} (h : Qe w (.slice (some ⟨b, off, none⟩) n 1) l) (h0 : 0 < n) : n = 1 ∧ Qe w (.slice (some ⟨b, off, none⟩) 0 0) l.tail := by
  rcases h with ⟨h1, rfl⟩ | ⟨b', off', cap', cur, h0', h1, h2, h3, h4, h5⟩
  · simp at h1
  · simp only [Value.slice.injEq, Option.some.injEq, Addr.mk.injEq, and_true] at h0'
    obtain ⟨⟨rfl, rfl⟩, rfl, rfl⟩ := h0'
    have hl1 : l.length = 1 := by omega
    refine ⟨hl1, ?_⟩
    have ht : l.tail = [] := List.eq_nil_of_length_eq_zero (by rw [List.length_tail]; omega)
    rw [ht]
    exact .inr ⟨b, off, 0, cur, rfl, h1, by simp, by simp [maxLen], by omega, by simp [iv]⟩
theorem step_append_q {w : World} {ops : Array Oper} {o : Oper} {a : Act} {K : Act → World → Prop} {Q : Exit → Act → World → Prop} {E : Prop} (hw : Region.wanted o (yielded ops a.tmps) = true) (s x : Operand)
    (ho : o.op = .call { callee := .builtin .append, args := #[s, x], argTypes := #[27, 27] })
    (v : Value) (l : List Int) (hs : a.eval s = v) (hq : Qe w v l) (ad : Addr) (m c : Nat) (ms : List Int) (hx : a.eval x = .slice (some ad) m c) (hm : m = ms.length) (hms : ∀ j, j < ms.length → w.cell? (ad.add j) = some (.int .i64 (ms.getD j 0)))
    (hsz : l.length + ms.length ≤ 1000000)
    (h : ∀ v' w', Qe w' v' (l ++ ms) → w.grownBy w' v.ownBlock → (v'.ownBlock = v.ownBlock ∨ v'.ownBlock = some w.heap.size) → K (a.put o.dst v') w') :
    if Region.wanted o (yielded ops a.tmps) = true then Oper.wp Try.prog o a w K Q else E := by
  subst hm
  rw [if_pos hw]
  obtain ⟨v', w', hr, h2, h3, h4⟩ := hq.append ad c ms o.type hms hsz
  unfold Oper.wp execOp
  simp only [ho, resolve, invoke, builtin, Sem.run_bind, Sem.run_pure, Result.andThen_ok, List.map_toArray, List.map_cons, List.map_nil, hs, hx, hr]
  exact h v' w' h2 h3 h4
theorem rowMSize (ms : List Mw) (h : ms.length = 8) : (Try.prog.info? 28).map (·.size) = some (rowM ms).toArray.size := by rw [List.size_toArray, rowM_length, h]; kernel_rfl
theorem lostSize (lm : Nat → Nat) : (Try.prog.info? 22).map (·.size) = some (lostRow lm).toArray.size := by simp only [lostRow, List.size_toArray, List.length_map, List.length_range]; kernel_rfl
theorem stop_store {P : Program} {ops : Array Oper} {rest : List Oper} {o : Oper} {a : Act} {w : World} {Q : Exit → Act → World → Prop} (ty : TypeId) (x y : Operand) (_ho : o.op = .store ty x y) (h : Hid (wpList P ops Q (o :: rest) a w)) : wpList P ops Q (o :: rest) a w := h.out
theorem nil8_one : (rowM (List.replicate 8 Mw.none)).toArray.all (·.oneCell') = true := by simp [rowM, Value.oneCell']
theorem catF_len (f : Nat → List Int) : ∀ j, (catF f j).length = allF f j
  | 0 => rfl
  | j + 1 => by rw [catF, List.length_append, catF_len f j, allF]
/-- What is gathered: a row of the call's own, in a new block. -/
def Wn (w4 wi : World) (u : Value) (l : List Int) : Prop := Qe wi u l ∧ (∀ c, u.ownBlock = some c → w4.heap.size ≤ c) ∧ Below w4.heap.size w4 wi
theorem Wn.step {w4 wi w1 : World} {u v' : Value} {l l' : List Int} (h : Wn w4 wi u l) (hq1 : Qe w1 v' l') (hgr : wi.grownBy w1 u.ownBlock) (hl : v'.ownBlock = u.ownBlock ∨ v'.ownBlock = some wi.heap.size) : Wn w4 w1 v' l' := by
  obtain ⟨h1, h2, h3⟩ := h
  refine ⟨hq1, fun c e => ?_, h3.trans ⟨hgr.os, hgr.tape, hgr.output, hgr.size, fun k hk => hgr.block k (Nat.lt_of_lt_of_le hk h3.size) (fun e => by have := h2 k e.symm; omega)⟩⟩
  rcases hl with e' | e'
  · rw [e'] at e; exact h2 c e
  · rw [e'] at e
    simp only [Option.some.injEq] at e
    have := h3.size
    omega
/-- All that the walk keeps, behind j acts. -/
def Keep (W wr : World) (g gb R L : Nat) (bs : List Value) (b : Nat → Nat) (j : Nat) : Prop := ∃ rs ms f ls, Sy W wr g gb R L bs rs ms f f b ls ls ∧ (∀ k, k < 8 → (f k).length ≤ j) ∧ ∀ k, k < 8 → ls k ≤ j
theorem updN_le {f : Nat → List Int} {j k : Nat} {l : List Int} (h : ∀ i, i < 8 → (f i).length ≤ j) (hl : l.length ≤ j + 1) : ∀ i, i < 8 → (updN f k l i).length ≤ j + 1 := fun i hi => by
  by_cases e : i = k
  · rw [e, updN_same]; exact hl
  · rw [updN_other _ _ _ _ e]; have := h i hi; omega
theorem updN_le' {f : Nat → Nat} {j k n : Nat} (h : ∀ i, i < 8 → f i ≤ j) (hl : n ≤ j + 1) : ∀ i, i < 8 → updN f k n i ≤ j + 1 := fun i hi => by
  by_cases e : i = k
  · rw [e, updN_same]; exact hl
  · rw [updN_other _ _ _ _ e]; have := h i hi; omega
set_option maxRecDepth 20000 in
set_option maxHeartbeats 8000000 in
theorem Plays_walk (b0 b1 b2 b3 b4 b5 b6 b7 : Int) (a : Option Addr) (n cap : Nat) (xs : List Ac) (w : World) (hm : n ≤ maxLen) (hI : Acs w a n xs) :
    Calls Try.prog 3 #[.agg (row8 b0 b1 b2 b3 b4 b5 b6 b7), .slice a n cap] w fun r w' => r = .returned (.bool true) ∧ Below w.heap.size w w' := by
  have hO := hide (fun w => waits_any w)
  replace hI := hide hI
  have hn63 : n ≤ 9223372036854775807 := by simp only [maxLen] at hm; omega
  clear hm
  go_enter Try.func3, Try.ntmps3
  go_wp2_with fail
  refine (hO.out _).mono ?_
  rintro e w1 ⟨rfl, hb1⟩
  have hgb := heap_kept hb1 (heap_alloc_new w (.cells (row8 b0 b1 b2 b3 b4 b5 b6 b7) 22))
  have hW1 := hide ((below1 w _).later hb1)
  clear hb1 hO
  by_cases hbig : 150 < n
  · go_wp2
    go_ret
    exact ⟨rfl, hW1.out⟩
  · have q9 : decide (150 < (n : Int)) = false := decide_eq_false (by omega)
    have hgb' := hide hgb
    have r8sz : (Try.prog.info? 22).map (·.size) = some (row8 b0 b1 b2 b3 b4 b5 b6 b7).size := by kernel_rfl
    go_wp2_with ((with_reducible change wpList _ _ _ _ _ _); refine wpList_load_row rfl 22 (.tmp 2) rfl w.heap.size rfl 22 _ _ _ hgb'.out Try.underlying22 rfl r8sz ?_)
    refine (New_any b0 b1 b2 b3 b4 b5 b6 b7 _).mono ?_
    rintro e w2 ⟨rfl, hp2, hb2⟩
    have hS0 := hide (Sy.init b0 b1 b2 b3 b4 b5 b6 b7 w.heap.size hgb'.out hW1.out (Nat.le_refl _) hp2 hb2)
    clear hp2 hb2 hgb hgb' hW1
    go_wp2
    generalize ((w2.alloc (.cells #[.slice none 0 0, .slice none 0 0, .slice none 0 0, .slice none 0 0, .slice none 0 0, .slice none 0 0, .slice none 0 0, .slice none 0 0] 28)).alloc (.cells #[.int .i64 0, .int .i64 0, .int .i64 0, .int .i64 0, .int .i64 0, .int .i64 0, .int .i64 0, .int .i64 0] 22)) = w4 at *
    generalize w1.heap.size + 1 = g at *
    generalize hLR : w2.heap.size + 1 = L at *
    generalize w2.heap.size = R at *
    clear hLR
    have hbs : Hid (∀ k, k < 8 → (row8 b0 b1 b2 b3 b4 b5 b6 b7).toList.toArray[k]? = some (.int .i64 ([b0, b1, b2, b3, b4, b5, b6, b7].getD k 0))) := fun k hk => by
      rcases (show k = 0 ∨ k = 1 ∨ k = 2 ∨ k = 3 ∨ k = 4 ∨ k = 5 ∨ k = 6 ∨ k = 7 by omega) with rfl | rfl | rfl | rfl | rfl | rfl | rfl | rfl <;> rfl
    have hbn : Hid (∀ k, ((bndN ([b0, b1, b2, b3, b4, b5, b6, b7].getD k 0) : Nat) : Int) = min (max ([b0, b1, b2, b3, b4, b5, b6, b7].getD k 0) 0) 1024) := fun k => bndN_is _
    have hK0 : Hid (Keep w w4 g w.heap.size R L (row8 b0 b1 b2 b3 b4 b5 b6 b7).toList (fun k => bndN ([b0, b1, b2, b3, b4, b5, b6, b7].getD k 0)) 0) := ⟨_, _, _, _, hS0.out, fun k hk => Nat.le_refl _, fun k hk => Nat.le_refl _⟩
    clear hS0
    generalize (row8 b0 b1 b2 b3 b4 b5 b6 b7).toList = BS at *
    generalize hBL : [b0, b1, b2, b3, b4, b5, b6, b7] = bl at *
    clear hBL
    generalize hbb : (fun k => bndN (bl.getD k 0)) = bb at *
    have hbv : Hid (∀ k, ((bb k : Nat) : Int) = min (max (bl.getD k 0) 0) 1024) := fun k => by rw [← hbb]; exact hbn.out k
    clear hbb hbn
    generalize row8 b0 b1 b2 b3 b4 b5 b6 b7 = R8 at *
    go_loopw [29] (fun i wr => ∃ j : Nat, j ≤ n ∧ i = .int .i64 j ∧ Hid (Keep w wr g w.heap.size R L BS bb j)) (fun i _ => n - (intOf i).toNat)
    case atStart => exact ⟨0, Nat.zero_le _, rfl, hK0⟩
    case round =>
      obtain ⟨j, hj, rfl, hK⟩ := hrel
      clear hK0
      obtain ⟨rs, ms, f, ls, hS', hF', hL'⟩ := hK.out
      have hS := hide hS'
      have hF := hide hF'
      have hL := hide hL'
      clear hK hS' hF' hL'
      by_cases hlt : j < n
      · obtain ⟨ab, ao, rfl, c0, c1, c2⟩ := (hI.out.below hS.out.bel) j hlt
        generalize (xs.getD j Ac.none).kind = kd at *
        generalize (xs.getD j Ac.none).cls = cl at *
        generalize (xs.getD j Ac.none).id = id at *
        have hS4 := hide (hS.out.below (below1 wr (.cells #[.int .i64 kd, .int .i64 cl, .int .i64 id] 30)))
        have hga : Hid ((wr.alloc (.cells #[.int .i64 kd, .int .i64 cl, .int .i64 id] 30)).heap[wr.heap.size]? = some (.cells #[.int .i64 kd, .int .i64 cl, .int .i64 id] 30 (0, 0))) := heap_alloc_new wr _
        have hgl : Hid (g < wr.heap.size ∧ R < wr.heap.size ∧ L < wr.heap.size ∧ w.heap.size < wr.heap.size) := ⟨hS.out.pt.ltg, hS.out.mt.ltr, hS.out.ltL.1, hS.out.ltL.2⟩
        have hro : Hid (∀ i, i < 8 → ∀ c, (rs.getD i Rw.none).v.ownBlock = some c → c < wr.heap.size) := fun i hi c e => (hS.out.pt.row i hi).lt e
        have hmo : Hid (∀ i, i < 8 → ∀ c, (ms.getD i Mw.none).v.ownBlock = some c → c < wr.heap.size) := fun i hi c e => (hS.out.mt.row i hi).lt e
        clear hS
        by_cases h0 : kd = 0
        · subst h0
          as_aux_lemma =>
            by_cases hneg : cl < 0
            · have z1 : decide (0 ≤ cl) = false := decide_eq_false (by omega)
              have hout : cl < 0 ∨ 8 ≤ cl := .inl hneg
              replace hout := hide hout
              clear hneg
              go_wp2_with fail
              refine (Push_range (some ⟨g, 0, none⟩) cl id _ hout.out).mono ?_
              rintro e w5 ⟨rfl, rfl⟩
              have hSF : Hid _ := hS4
              have hmsz := rowMSize _ hSF.out.mt.len
              have hFE := hide (fun k hk => Nat.le_trans (hF.out k hk) (Nat.le_succ _))
              have hLE := hide (fun k hk => Nat.le_trans (hL.out k hk) (Nat.le_succ _))
              go_wp2_with ((with_reducible change wpList _ _ _ _ _ _); refine stop_load 28 (.tmp 6) rfl ?_)
              refine hide ?_
              refine wpList_load_row_on rfl 28 (.tmp 6) rfl R rfl 28 _ _ _ hSF.out.mt.at_r Try.underlying28 rfl hmsz ?_
              refine wpList_load_row_on rfl 22 (.tmp 7) rfl L rfl 22 _ _ _ hSF.out.at_l Try.underlying22 rfl (lostSize _) ?_
              simp only [Act.put, List.setIfInBounds_toArray, List.set_cons_zero, List.set_cons_succ]
              go_wp2_with fail
              refine (Ssame hSF.out (fun k hk => by have := hFE.out k hk; omega) (fun k hk => by have := hLE.out k hk; omega)).mono ?_
              rintro e wF ⟨rfl, hbF⟩
              have hSG : Hid (Keep w wF g w.heap.size R L BS bb (j + 1)) := ⟨_, _, _, _, hSF.out.below hbF, hFE.out, hLE.out⟩
              clear hSF hbF hFE hLE
              go_wp2
              go_round
              case rel => exact ⟨j + 1, by omega, by go_num, hSG⟩
              case measure => simp [intOf]; omega
            by_cases hbg : 8 ≤ cl
            · have z1 : decide (0 ≤ cl) = true := decide_eq_true (by omega)
              have z2 : decide (cl < 8) = false := decide_eq_false (by omega)
              have hout : cl < 0 ∨ 8 ≤ cl := .inr hbg
              replace hout := hide hout
              clear hneg hbg
              go_wp2_with fail
              refine (Push_range (some ⟨g, 0, none⟩) cl id _ hout.out).mono ?_
              rintro e w5 ⟨rfl, rfl⟩
              have hSF : Hid _ := hS4
              have hmsz := rowMSize _ hSF.out.mt.len
              have hFE := hide (fun k hk => Nat.le_trans (hF.out k hk) (Nat.le_succ _))
              have hLE := hide (fun k hk => Nat.le_trans (hL.out k hk) (Nat.le_succ _))
              go_wp2_with ((with_reducible change wpList _ _ _ _ _ _); refine stop_load 28 (.tmp 6) rfl ?_)
              refine hide ?_
              refine wpList_load_row_on rfl 28 (.tmp 6) rfl R rfl 28 _ _ _ hSF.out.mt.at_r Try.underlying28 rfl hmsz ?_
              refine wpList_load_row_on rfl 22 (.tmp 7) rfl L rfl 22 _ _ _ hSF.out.at_l Try.underlying22 rfl (lostSize _) ?_
              simp only [Act.put, List.setIfInBounds_toArray, List.set_cons_zero, List.set_cons_succ]
              go_wp2_with fail
              refine (Ssame hSF.out (fun k hk => by have := hFE.out k hk; omega) (fun k hk => by have := hLE.out k hk; omega)).mono ?_
              rintro e wF ⟨rfl, hbF⟩
              have hSG : Hid (Keep w wF g w.heap.size R L BS bb (j + 1)) := ⟨_, _, _, _, hSF.out.below hbF, hFE.out, hLE.out⟩
              clear hSF hbF hFE hLE
              go_wp2
              go_round
              case rel => exact ⟨j + 1, by omega, by go_num, hSG⟩
              case measure => simp [intOf]; omega
            obtain ⟨k, rfl⟩ := Int.eq_ofNat_of_zero_le (show 0 ≤ cl by omega)
            have hk : k < 8 := by omega
            have z2 : decide ((k : Int) < 8) = true := decide_eq_true (by omega)
            have z3 : (k : Int) < 8 := by omega
            clear hneg hbg
            have hbk := hbv.out k
            have hbL : Hid (bb k ≤ 1024) := by have := hbv.out k; show _ ≤ _; omega
            have hFk := hF.out k hk
            have hLk := hL.out k hk
            by_cases hfull : bb k ≤ (f k).length
            · have hP := hide (SPush_full hS4.out k hk id hfull (by omega) (by omega))
              go_wp2_with fail
              refine hP.out.mono ?_
              rintro e w5 ⟨rfl, rs', h5⟩
              replace h5 := hide h5
              clear hP
              obtain ⟨ra, rc, hsh⟩ := (h5.out.mt.row k hk).shape
              have hlm : (ms.getD k Mw.none).l.length = (f k).length := by rw [h5.out.mv k hk]
              rw [hlm] at hsh
              have cr := h5.out.mt.cell k hk
              rw [hsh] at cr
              replace hsh := hide hsh
              clear hlm
              generalize hbnE : bb k = bn at *
              replace hbnE := hide hbnE
              generalize hrn : (f k).length = rn at *
              replace hrn := hide hrn
              have cb : w5.cell? ⟨w.heap.size, k, none⟩ = some (.int .i64 (bl.getD k 0)) := by rw [cell_of_row _ _ _ _ _ _ h5.out.at_b]; exact hbs.out k hk
              generalize bl.getD k 0 = bz at *
              obtain ⟨M, hM⟩ : ∃ M, M = max bz 0 := ⟨_, rfl⟩
              have hmx : ∀ (ts : Array TypeId) (t : TypeId) (w : World), (Builtin.max_ ts t #[.int .i64 bz, .int .i64 0]).run Try.prog w = .ok (.int .i64 M) w := fun ts t w => by
                rw [hM, run_max_int2]
                congr 2
                split <;> omega
              have hmn : ∀ (ts : Array TypeId) (t : TypeId) (w : World), (Builtin.min_ ts t #[.int .i64 M, .int .i64 1024]).run Try.prog w = .ok (.int .i64 (bn : Int)) w := fun ts t w => by
                rw [hbk, ← hM, run_min_int2]
                congr 2
                split <;> omega
              clear hM hbk
              go_wp2_with fail
              refine wp_region_noPanic ?_
              refine wp_region_held_drew (S := fun W => W.cell? ⟨R, k, none⟩ = some (.slice ra rn rc) ∧ W.cell? ⟨w.heap.size, k, none⟩ = some (.int .i64 bz)) (by kernel_rfl) ⟨cr, cb⟩ (fun hHeld => ?_)
              refine wpAnyH_take (i := 0) (oi := { dst := some 67, op := Op.move (Operand.tmp 10), type := 3, pos := "law.go:46", after := #[], guard := none }) (v := ?v1) rfl (by kernel_rfl) (by kernel_rfl) (by kernel_rfl) (fun _ _ _ h => h) (Or.inl ⟨by rfl, ?y1⟩) (by assumption) ?r1
              case y1 => (intro w hSw; (try dsimp only at hSw); (try (go_split_ands)); go_simp; try with_reducible rfl)
              try simp only [Act.put, List.setIfInBounds_toArray, List.set_cons_zero, List.set_cons_succ]
              refine wpAnyH_take (i := 1) (oi := { dst := some 68, op := Op.indexAddr 28 (Operand.tmp 6) (Operand.tmp 67), type := 0, pos := "law.go:46", after := #[{ on := 0, ground := Ground.data }], guard := none }) (v := ?v2) rfl (by kernel_rfl) (by kernel_rfl) (by kernel_rfl) (fun _ _ _ h => h) (Or.inl ⟨by rfl, ?y2⟩) (by assumption) ?r2
              case y2 => (intro w hSw; (try dsimp only at hSw); (try (go_split_ands)); go_simp; try with_reducible rfl)
              try simp only [Act.put, List.setIfInBounds_toArray, List.set_cons_zero, List.set_cons_succ]
              refine wpAnyH_take (i := 2) (oi := { dst := some 69, op := Op.load 27 (Operand.tmp 68), type := 27, pos := "law.go:46", after := #[{ on := 1, ground := Ground.data }], guard := none }) (v := ?v3) rfl (by kernel_rfl) (by kernel_rfl) (by kernel_rfl) (fun _ _ _ h => h) (Or.inl ⟨by rfl, ?y3⟩) (by assumption) ?r3
              case y3 => (intro w hSw; (try dsimp only at hSw); (try (go_split_ands)); go_simp; try with_reducible rfl)
              try simp only [Act.put, List.setIfInBounds_toArray, List.set_cons_zero, List.set_cons_succ]
              refine wpAnyH_take (i := 3) (oi := { dst := some 70, op := Op.call { callee := Callee.builtin Builtin.len, args := #[Operand.tmp 69], argTypes := #[27] }, type := 3, pos := "law.go:46", after := #[{ on := 2, ground := Ground.data }], guard := none }) (v := ?v4) rfl (by kernel_rfl) (by kernel_rfl) (by kernel_rfl) (fun _ _ _ h => h) (Or.inl ⟨by rfl, ?y4⟩) (by assumption) ?r4
              case y4 => (intro w hSw; (try dsimp only at hSw); (try (go_split_ands)); go_simp; try with_reducible rfl)
              try simp only [Act.put, List.setIfInBounds_toArray, List.set_cons_zero, List.set_cons_succ]
              refine wpAnyH_take (i := 4) (oi := { dst := some 71, op := Op.move (Operand.tmp 10), type := 3, pos := "law.go:46", after := #[], guard := none }) (v := ?v5) rfl (by kernel_rfl) (by kernel_rfl) (by kernel_rfl) (fun _ _ _ h => h) (Or.inl ⟨by rfl, ?y5⟩) (by assumption) ?r5
              case y5 => (intro w hSw; (try dsimp only at hSw); (try (go_split_ands)); go_simp; try with_reducible rfl)
              try simp only [Act.put, List.setIfInBounds_toArray, List.set_cons_zero, List.set_cons_succ]
              refine wpAnyH_take (i := 5) (oi := { dst := some 72, op := Op.indexAddr 22 (Operand.tmp 2) (Operand.tmp 71), type := 0, pos := "law.go:46", after := #[{ on := 4, ground := Ground.data }], guard := none }) (v := ?v6) rfl (by kernel_rfl) (by kernel_rfl) (by kernel_rfl) (fun _ _ _ h => h) (Or.inl ⟨by rfl, ?y6⟩) (by assumption) ?r6
              case y6 => (intro w hSw; (try dsimp only at hSw); (try (go_split_ands)); go_simp; try with_reducible rfl)
              try simp only [Act.put, List.setIfInBounds_toArray, List.set_cons_zero, List.set_cons_succ]
              refine wpAnyH_take (i := 6) (oi := { dst := some 73, op := Op.load 3 (Operand.tmp 72), type := 3, pos := "law.go:46", after := #[{ on := 5, ground := Ground.data }], guard := none }) (v := ?v7) rfl (by kernel_rfl) (by kernel_rfl) (by kernel_rfl) (fun _ _ _ h => h) (Or.inl ⟨by rfl, ?y7⟩) (by assumption) ?r7
              case y7 => (intro w hSw; (try dsimp only at hSw); (try (go_split_ands)); go_simp; try with_reducible rfl)
              try simp only [Act.put, List.setIfInBounds_toArray, List.set_cons_zero, List.set_cons_succ]
              refine wpAnyH_take (i := 7) (oi := { dst := some 74, op := Op.call { callee := Callee.builtin Builtin.max, args := #[Operand.tmp 73, Operand.const (Value.int IntKind.i64 0)], argTypes := #[3, 3] }, type := 3, pos := "law.go:46", after := #[{ on := 6, ground := Ground.data }], guard := none }) (v := ?v8) rfl (by kernel_rfl) (by kernel_rfl) (by kernel_rfl) (fun _ _ _ h => h) (Or.inl ⟨by rfl, ?y8⟩) (by assumption) ?r8
              case y8 => (intro w hSw; (try dsimp only at hSw); (try (go_split_ands)); go_simp; try with_reducible rfl)
              try simp only [Act.put, List.setIfInBounds_toArray, List.set_cons_zero, List.set_cons_succ]
              refine wpAnyH_take (i := 8) (oi := { dst := some 75, op := Op.call { callee := Callee.builtin Builtin.min, args := #[Operand.tmp 74, Operand.const (Value.int IntKind.i64 1024)], argTypes := #[3, 3] }, type := 3, pos := "law.go:46", after := #[{ on := 7, ground := Ground.data }], guard := none }) (v := ?v9) rfl (by kernel_rfl) (by kernel_rfl) (by kernel_rfl) (fun _ _ _ h => h) (Or.inl ⟨by rfl, ?y9⟩) (by assumption) ?r9
              case y9 => (intro w hSw; (try dsimp only at hSw); (try (go_split_ands)); go_simp; try with_reducible rfl)
              try simp only [Act.put, List.setIfInBounds_toArray, List.set_cons_zero, List.set_cons_succ]
              refine wpAnyH_take (i := 9) (oi := { dst := some 76, op := Op.binOp BinOp.geq 3 (Operand.tmp 70) (Operand.tmp 75) 3, type := 4, pos := "law.go:46", after := #[{ on := 3, ground := Ground.data }, { on := 8, ground := Ground.data }], guard := none }) (v := ?v10) rfl (by kernel_rfl) (by kernel_rfl) (by kernel_rfl) (fun _ _ _ h => h) (Or.inl ⟨by rfl, ?y10⟩) (by assumption) ?r10
              case y10 => (intro w hSw; (try dsimp only at hSw); (try (go_split_ands)); go_simp; try with_reducible rfl)
              try simp only [Act.put, List.setIfInBounds_toArray, List.set_cons_zero, List.set_cons_succ]
              refine wpAnyH_take (i := 10) (oi := { dst := some 66, op := Op.assign (Operand.tmp 76), type := 4, pos := "law.go:46", after := #[{ on := 9, ground := Ground.data }], guard := none }) (v := ?v11) rfl (by kernel_rfl) (by kernel_rfl) (by kernel_rfl) (fun _ _ _ h => h) (Or.inl ⟨by rfl, ?y11⟩) (by assumption) ?r11
              case y11 => (intro w hSw; (try dsimp only at hSw); (try (go_split_ands)); go_simp; try with_reducible rfl)
              try simp only [Act.put, List.setIfInBounds_toArray, List.set_cons_zero, List.set_cons_succ]
              refine wpAnyH_done (by kernel_rfl) ?_ _
              refine NoPanic.normal ?_
              clear hHeld
              have h6 := hide (show Sy w w5.drew g w.heap.size R L BS rs' ms f f bb (updN ls k (ls k + 1)) ls from h5.out.below (below_drewN (Below.refl w5.heap.size w5) 1))
              have h7 := hide (h6.out.putL k (ls k + 1) hk)
              rw [show ((ls k + 1 : Nat) : Int) = (ls k : Int) + 1 by omega] at h7
              have cl1 : w5.drew.cell? ⟨L, k, none⟩ = some (.int .i64 (ls k)) := by rw [cell_of_row _ _ _ _ _ _ h6.out.at_l, List.getElem?_toArray]; exact lostRow_at ls k hk
              have fz : w5.drew.frozen? ⟨L, k, none⟩ = false := frozen_of_row _ L k _ _ h6.out.at_l
              clear h5 h6 cr cb hmx hmn
              generalize hlk : ls k = lk at *
              clear hlk
              have hSF : Hid _ := h7
              have hmsz := rowMSize _ hSF.out.mt.len
              have hFE := hide (fun k hk => Nat.le_trans (hF.out k hk) (Nat.le_succ _))
              have hLE := hide (updN_le' (k := k) (n := lk + 1) hL.out (by omega))
              go_wp2_with ((with_reducible change wpList _ _ _ _ _ _); refine stop_load 28 (.tmp 6) rfl ?_)
              refine hide ?_
              refine wpList_load_row_on rfl 28 (.tmp 6) rfl R rfl 28 _ _ _ hSF.out.mt.at_r Try.underlying28 rfl hmsz ?_
              refine wpList_load_row_on rfl 22 (.tmp 7) rfl L rfl 22 _ _ _ hSF.out.at_l Try.underlying22 rfl (lostSize _) ?_
              simp only [Act.put, List.setIfInBounds_toArray, List.set_cons_zero, List.set_cons_succ]
              go_wp2_with fail
              refine (Ssame hSF.out (fun k hk => by have := hFE.out k hk; omega) (fun k hk => by have := hLE.out k hk; omega)).mono ?_
              rintro e wF ⟨rfl, hbF⟩
              have hSG : Hid (Keep w wF g w.heap.size R L BS bb (j + 1)) := ⟨_, _, _, _, hSF.out.below hbF, hFE.out, hLE.out⟩
              clear hSF hbF hFE hLE
              go_wp2
              go_round
              case rel => exact ⟨j + 1, by omega, by go_num, hSG⟩
              case measure => simp [intOf]; omega
            have hP := hide (SPush_ok hS4.out k hk id (by omega) (by have := hbL.out; omega))
            go_wp2_with fail
            refine hP.out.mono ?_
            rintro e w5 ⟨rfl, ⟨rs', h5⟩, ht5⟩
            replace h5 := hide h5
            have hA5 := hide (ht5.act hga.out hgl.out.1 hro.out)
            clear hP ht5
            obtain ⟨ra, rc, hsh⟩ := (h5.out.mt.row k hk).shape
            have hlm : (ms.getD k Mw.none).l.length = (f k).length := by rw [h5.out.mv k hk]
            rw [hlm] at hsh
            have cr := h5.out.mt.cell k hk
            rw [hsh] at cr
            replace hsh := hide hsh
            clear hlm
            generalize hbnE : bb k = bn at *
            replace hbnE := hide hbnE
            have hmk := hide (h5.out.mt.row k hk)
            rw [h5.out.mv k hk] at hmk
            generalize hrn : (f k).length = rn at *
            replace hrn := hide hrn
            have cb : w5.cell? ⟨w.heap.size, k, none⟩ = some (.int .i64 (bl.getD k 0)) := by rw [cell_of_row _ _ _ _ _ _ h5.out.at_b]; exact hbs.out k hk
            generalize bl.getD k 0 = bz at *
            obtain ⟨M, hM⟩ : ∃ M, M = max bz 0 := ⟨_, rfl⟩
            have hmx : ∀ (ts : Array TypeId) (t : TypeId) (w : World), (Builtin.max_ ts t #[.int .i64 bz, .int .i64 0]).run Try.prog w = .ok (.int .i64 M) w := fun ts t w => by
              rw [hM, run_max_int2]
              congr 2
              split <;> omega
            have hmn : ∀ (ts : Array TypeId) (t : TypeId) (w : World), (Builtin.min_ ts t #[.int .i64 M, .int .i64 1024]).run Try.prog w = .ok (.int .i64 (bn : Int)) w := fun ts t w => by
              rw [hbk, ← hM, run_min_int2]
              congr 2
              split <;> omega
            clear hM hbk
            go_wp2_with fail
            refine wp_region_noPanic ?_
            refine wp_region_held_drew (S := fun W => W.cell? ⟨R, k, none⟩ = some (.slice ra rn rc) ∧ W.cell? ⟨w.heap.size, k, none⟩ = some (.int .i64 bz)) (by kernel_rfl) ⟨cr, cb⟩ (fun hHeld => ?_)
            refine wpAnyH_take (i := 0) (oi := { dst := some 67, op := Op.move (Operand.tmp 10), type := 3, pos := "law.go:46", after := #[], guard := none }) (v := ?v12) rfl (by kernel_rfl) (by kernel_rfl) (by kernel_rfl) (fun _ _ _ h => h) (Or.inl ⟨by rfl, ?y12⟩) (by assumption) ?r12
            case y12 => (intro w hSw; (try dsimp only at hSw); (try (go_split_ands)); go_simp; try with_reducible rfl)
            try simp only [Act.put, List.setIfInBounds_toArray, List.set_cons_zero, List.set_cons_succ]
            refine wpAnyH_take (i := 1) (oi := { dst := some 68, op := Op.indexAddr 28 (Operand.tmp 6) (Operand.tmp 67), type := 0, pos := "law.go:46", after := #[{ on := 0, ground := Ground.data }], guard := none }) (v := ?v13) rfl (by kernel_rfl) (by kernel_rfl) (by kernel_rfl) (fun _ _ _ h => h) (Or.inl ⟨by rfl, ?y13⟩) (by assumption) ?r13
            case y13 => (intro w hSw; (try dsimp only at hSw); (try (go_split_ands)); go_simp; try with_reducible rfl)
            try simp only [Act.put, List.setIfInBounds_toArray, List.set_cons_zero, List.set_cons_succ]
            refine wpAnyH_take (i := 2) (oi := { dst := some 69, op := Op.load 27 (Operand.tmp 68), type := 27, pos := "law.go:46", after := #[{ on := 1, ground := Ground.data }], guard := none }) (v := ?v14) rfl (by kernel_rfl) (by kernel_rfl) (by kernel_rfl) (fun _ _ _ h => h) (Or.inl ⟨by rfl, ?y14⟩) (by assumption) ?r14
            case y14 => (intro w hSw; (try dsimp only at hSw); (try (go_split_ands)); go_simp; try with_reducible rfl)
            try simp only [Act.put, List.setIfInBounds_toArray, List.set_cons_zero, List.set_cons_succ]
            refine wpAnyH_take (i := 3) (oi := { dst := some 70, op := Op.call { callee := Callee.builtin Builtin.len, args := #[Operand.tmp 69], argTypes := #[27] }, type := 3, pos := "law.go:46", after := #[{ on := 2, ground := Ground.data }], guard := none }) (v := ?v15) rfl (by kernel_rfl) (by kernel_rfl) (by kernel_rfl) (fun _ _ _ h => h) (Or.inl ⟨by rfl, ?y15⟩) (by assumption) ?r15
            case y15 => (intro w hSw; (try dsimp only at hSw); (try (go_split_ands)); go_simp; try with_reducible rfl)
            try simp only [Act.put, List.setIfInBounds_toArray, List.set_cons_zero, List.set_cons_succ]
            refine wpAnyH_take (i := 4) (oi := { dst := some 71, op := Op.move (Operand.tmp 10), type := 3, pos := "law.go:46", after := #[], guard := none }) (v := ?v16) rfl (by kernel_rfl) (by kernel_rfl) (by kernel_rfl) (fun _ _ _ h => h) (Or.inl ⟨by rfl, ?y16⟩) (by assumption) ?r16
            case y16 => (intro w hSw; (try dsimp only at hSw); (try (go_split_ands)); go_simp; try with_reducible rfl)
            try simp only [Act.put, List.setIfInBounds_toArray, List.set_cons_zero, List.set_cons_succ]
            refine wpAnyH_take (i := 5) (oi := { dst := some 72, op := Op.indexAddr 22 (Operand.tmp 2) (Operand.tmp 71), type := 0, pos := "law.go:46", after := #[{ on := 4, ground := Ground.data }], guard := none }) (v := ?v17) rfl (by kernel_rfl) (by kernel_rfl) (by kernel_rfl) (fun _ _ _ h => h) (Or.inl ⟨by rfl, ?y17⟩) (by assumption) ?r17
            case y17 => (intro w hSw; (try dsimp only at hSw); (try (go_split_ands)); go_simp; try with_reducible rfl)
            try simp only [Act.put, List.setIfInBounds_toArray, List.set_cons_zero, List.set_cons_succ]
            refine wpAnyH_take (i := 6) (oi := { dst := some 73, op := Op.load 3 (Operand.tmp 72), type := 3, pos := "law.go:46", after := #[{ on := 5, ground := Ground.data }], guard := none }) (v := ?v18) rfl (by kernel_rfl) (by kernel_rfl) (by kernel_rfl) (fun _ _ _ h => h) (Or.inl ⟨by rfl, ?y18⟩) (by assumption) ?r18
            case y18 => (intro w hSw; (try dsimp only at hSw); (try (go_split_ands)); go_simp; try with_reducible rfl)
            try simp only [Act.put, List.setIfInBounds_toArray, List.set_cons_zero, List.set_cons_succ]
            refine wpAnyH_take (i := 7) (oi := { dst := some 74, op := Op.call { callee := Callee.builtin Builtin.max, args := #[Operand.tmp 73, Operand.const (Value.int IntKind.i64 0)], argTypes := #[3, 3] }, type := 3, pos := "law.go:46", after := #[{ on := 6, ground := Ground.data }], guard := none }) (v := ?v19) rfl (by kernel_rfl) (by kernel_rfl) (by kernel_rfl) (fun _ _ _ h => h) (Or.inl ⟨by rfl, ?y19⟩) (by assumption) ?r19
            case y19 => (intro w hSw; (try dsimp only at hSw); (try (go_split_ands)); go_simp; try with_reducible rfl)
            try simp only [Act.put, List.setIfInBounds_toArray, List.set_cons_zero, List.set_cons_succ]
            refine wpAnyH_take (i := 8) (oi := { dst := some 75, op := Op.call { callee := Callee.builtin Builtin.min, args := #[Operand.tmp 74, Operand.const (Value.int IntKind.i64 1024)], argTypes := #[3, 3] }, type := 3, pos := "law.go:46", after := #[{ on := 7, ground := Ground.data }], guard := none }) (v := ?v20) rfl (by kernel_rfl) (by kernel_rfl) (by kernel_rfl) (fun _ _ _ h => h) (Or.inl ⟨by rfl, ?y20⟩) (by assumption) ?r20
            case y20 => (intro w hSw; (try dsimp only at hSw); (try (go_split_ands)); go_simp; try with_reducible rfl)
            try simp only [Act.put, List.setIfInBounds_toArray, List.set_cons_zero, List.set_cons_succ]
            refine wpAnyH_take (i := 9) (oi := { dst := some 76, op := Op.binOp BinOp.geq 3 (Operand.tmp 70) (Operand.tmp 75) 3, type := 4, pos := "law.go:46", after := #[{ on := 3, ground := Ground.data }, { on := 8, ground := Ground.data }], guard := none }) (v := ?v21) rfl (by kernel_rfl) (by kernel_rfl) (by kernel_rfl) (fun _ _ _ h => h) (Or.inl ⟨by rfl, ?y21⟩) (by assumption) ?r21
            case y21 => (intro w hSw; (try dsimp only at hSw); (try (go_split_ands)); go_simp; try with_reducible rfl)
            try simp only [Act.put, List.setIfInBounds_toArray, List.set_cons_zero, List.set_cons_succ]
            refine wpAnyH_take (i := 10) (oi := { dst := some 66, op := Op.assign (Operand.tmp 76), type := 4, pos := "law.go:46", after := #[{ on := 9, ground := Ground.data }], guard := none }) (v := ?v22) rfl (by kernel_rfl) (by kernel_rfl) (by kernel_rfl) (fun _ _ _ h => h) (Or.inl ⟨by rfl, ?y22⟩) (by assumption) ?r22
            case y22 => (intro w hSw; (try dsimp only at hSw); (try (go_split_ands)); go_simp; try with_reducible rfl)
            try simp only [Act.put, List.setIfInBounds_toArray, List.set_cons_zero, List.set_cons_succ]
            refine wpAnyH_done (by kernel_rfl) ?_ _
            refine NoPanic.normal ?_
            clear hHeld
            go_wp2_with fail
            replace h5 := hide (show Sy w w5.drew g w.heap.size R L BS rs' ms (updN f k (f k ++ [id])) f bb ls ls from h5.out.below (below_drewN (Below.refl w5.heap.size w5) 1))
            replace hA5 := hide (show w5.drew.heap[wr.heap.size]? = some (.cells #[.int .i64 0, .int .i64 k, .int .i64 id] 30 (0, 0)) from hA5.out)
            replace hmk := hide (show Qe w5.drew (ms.getD k Mw.none).v (f k) from hmk.out.below (below_drewN (Below.refl _ _) 1))
            replace cr : w5.drew.cell? ⟨R, k, none⟩ = some (.slice ra rn rc) := cr
            clear cb hmx hmn
            generalize w5.drew = w6 at *
            have hgal : wr.heap.size < w6.heap.size := (Array.getElem?_eq_some_iff.1 hA5.out).1
            have hlRb : R < wr.heap.size := hgl.out.2.1
            have ca : w6.cell? ⟨wr.heap.size, 2, none⟩ = some (.int .i64 id) := (cell_of_row _ _ _ _ _ _ hA5.out).trans rfl
            have hfzR := h5.out.mt.frozen k
            refine wp_region_noPanic ?_
            refine wp_region_held_drew (S := fun W => W.cell? ⟨wr.heap.size, 2, none⟩ = some (.int .i64 id)) (by kernel_rfl) ca (fun hHeld => ?_)
            refine wpAnyH_take (i := 0) (oi := { dst := some 50, op := Op.move (Operand.tmp 10), type := 3, pos := "law.go:52", after := #[], guard := none }) (v := ?v23) rfl (by kernel_rfl) (by kernel_rfl) (by kernel_rfl) (fun _ _ _ h => h) (Or.inl ⟨by rfl, ?y23⟩) (by assumption) ?r23
            case y23 => (intro w hSw; (try dsimp only at hSw); (try (go_split_ands)); go_simp; try with_reducible rfl)
            try simp only [Act.put, List.setIfInBounds_toArray, List.set_cons_zero, List.set_cons_succ]
            refine wpAnyH_take (i := 1) (oi := { dst := some 51, op := Op.move (Operand.tmp 10), type := 3, pos := "law.go:52", after := #[], guard := none }) (v := ?v24) rfl (by kernel_rfl) (by kernel_rfl) (by kernel_rfl) (fun _ _ _ h => h) (Or.inl ⟨by rfl, ?y24⟩) (by assumption) ?r24
            case y24 => (intro w hSw; (try dsimp only at hSw); (try (go_split_ands)); go_simp; try with_reducible rfl)
            try simp only [Act.put, List.setIfInBounds_toArray, List.set_cons_zero, List.set_cons_succ]
            refine wpAnyH_take (i := 2) (oi := { dst := some 52, op := Op.indexAddr 28 (Operand.tmp 6) (Operand.tmp 51), type := 0, pos := "law.go:52", after := #[{ on := 1, ground := Ground.data }], guard := none }) (v := ?v25) rfl (by kernel_rfl) (by kernel_rfl) (by kernel_rfl) (fun _ _ _ h => h) (Or.inl ⟨by rfl, ?y25⟩) (by assumption) ?r25
            case y25 => (intro w hSw; (try dsimp only at hSw); (try (go_split_ands)); go_simp; try with_reducible rfl)
            try simp only [Act.put, List.setIfInBounds_toArray, List.set_cons_zero, List.set_cons_succ]
            refine wpAnyH_take (i := 4) (oi := { dst := some 54, op := Op.fieldAddr 30 (Operand.tmp 9) 2, type := 0, pos := "law.go:52", after := #[], guard := none }) (v := ?v26) rfl (by kernel_rfl) (by kernel_rfl) (by kernel_rfl) (fun _ _ _ h => h) (Or.inl ⟨by rfl, ?y26⟩) (by assumption) ?r26
            case y26 => (intro w hSw; (try dsimp only at hSw); (try (go_split_ands)); go_simp; try with_reducible rfl)
            try simp only [Act.put, List.setIfInBounds_toArray, List.set_cons_zero, List.set_cons_succ]
            refine wpAnyH_take (i := 5) (oi := { dst := some 55, op := Op.load 3 (Operand.tmp 54), type := 3, pos := "law.go:52", after := #[{ on := 4, ground := Ground.data }], guard := none }) (v := ?v27) rfl (by kernel_rfl) (by kernel_rfl) (by kernel_rfl) (fun _ _ _ h => h) (Or.inl ⟨by rfl, ?y27⟩) (by assumption) ?r27
            case y27 => (intro w hSw; (try dsimp only at hSw); (try (go_split_ands)); go_simp; try with_reducible rfl)
            try simp only [Act.put, List.setIfInBounds_toArray, List.set_cons_zero, List.set_cons_succ]
            refine wpAnyH_ready (rs := [3, 6]) (by kernel_rfl) (by simp) ?_
            refine AllReadyH.cons (o := { dst := some 53, op := Op.load 27 (Operand.tmp 52), type := 27, pos := "law.go:52", after := #[{ on := 2, ground := Ground.data }], guard := none }) rfl (fun K hK => ?_) (AllReadyH.cons (o := { dst := some 56, op := Op.buildSlice 27 1 #[(0, Operand.tmp 55)], type := 27, pos := "law.go:52", after := #[{ on := 5, ground := Ground.data }], guard := none }) rfl (fun K hK => ?_) AllReadyH.nil)
            · go_simp
              refine hK.out _ _ ca (fun hHeld3 => ?_)
              clear hK K
              try simp only [Act.put, List.setIfInBounds_toArray, List.set_cons_zero, List.set_cons_succ]
              refine wpAnyH_ready (rs := [6]) (by kernel_rfl) (by simp) ?_
              refine AllReadyH.cons (o := { dst := some 56, op := Op.buildSlice 27 1 #[(0, Operand.tmp 55)], type := 27, pos := "law.go:52", after := #[{ on := 5, ground := Ground.data }], guard := none }) rfl (fun K hK => ?_) AllReadyH.nil
              go_simp
              have hcaA : (w6.alloc (.cells #[.int .i64 id] 3)).drew.cell? ⟨wr.heap.size, 2, none⟩ = some (.int .i64 id) := ((below1 w6 _).cell (p := ⟨wr.heap.size, 2, none⟩) hgal).trans ca
              refine hK.out _ _ hcaA (fun hHeld6 => ?_)
              clear hK K
              try simp only [Act.put, List.setIfInBounds_toArray, List.set_cons_zero, List.set_cons_succ]
              refine wpAnyH_ready (rs := [7]) (by kernel_rfl) (by simp) ?_
              refine AllReadyH.cons (o := { dst := some 57, op := Op.call { callee := Callee.builtin Builtin.append, args := #[Operand.tmp 53, Operand.tmp 56], argTypes := #[27, 27] }, type := 27, pos := "law.go:52", after := #[{ on := 3, ground := Ground.data }, { on := 6, ground := Ground.data }], guard := none }) rfl (fun K hK => ?_) AllReadyH.nil
              refine step_append_q rfl (.tmp 53) (.tmp 56) rfl (ms.getD k Mw.none).v (f k) hsh.out.symm (show Qe (w6.alloc (.cells #[.int .i64 id] 3)).drew _ _ from (hmk.out.below (below1 w6 (.cells #[.int .i64 id] 3))).below (below_drewN (Below.refl _ _) 1)) ⟨w6.heap.size, 0, none⟩ 1 1 [id] rfl rfl (fun t ht => ?_) (by rw [hrn.out]; simp; omega) ?_
              · obtain rfl : t = 0 := by simpa using ht
                exact cell_one_new w6 (.int .i64 id) 3 0 _ rfl
              intro v' w7 hq7 hgr7 hl7
              have h8 := Sy.app h5.out k hk id v' hq7 ⟨hgr7.os, hgr7.tape, hgr7.output, hgr7.size, hgr7.block⟩ (hl7.imp (fun e => e) (fun e => e.trans (by show some (w6.alloc _).heap.size = _; rw [World.size_alloc])))
              have hc7 := (World.cell?_of_block (a := ⟨R, k, none⟩) h8.2).trans cr
              have hf7 := (World.frozen?_of_block (a := ⟨R, k, none⟩) h8.2).trans hfzR
              have hga7 : w7.heap[wr.heap.size]? = w6.heap[wr.heap.size]? := (hgr7.block _ (show wr.heap.size < (w6.alloc _).heap.size by rw [World.size_alloc]; omega) (fun e => by have := hmo.out k hk _ e.symm; omega)).trans ((below1 w6 _).block _ hgal)
              have hca7 := (World.cell?_of_block (a := ⟨wr.heap.size, 2, none⟩) hga7).trans ca
              obtain ⟨va, vc, rfl⟩ := hq7.shape
              replace h8 := hide h8.1
              clear hq7 hgr7 hl7
              generalize (f k ++ [id]).length = vn at *
              refine hK.out _ _ hca7 (fun hHeld7 => ?_)
              clear hK K
              try simp only [Act.put, List.setIfInBounds_toArray, List.set_cons_zero, List.set_cons_succ]
              refine wpAnyH_take (i := 8) (oi := { dst := some 58, op := Op.indexAddr 28 (Operand.tmp 6) (Operand.tmp 50), type := 0, pos := "law.go:52", after := #[{ on := 0, ground := Ground.data }, { on := 0, ground := Ground.phase }, { on := 1, ground := Ground.phase }, { on := 2, ground := Ground.phase }, { on := 3, ground := Ground.phase }, { on := 4, ground := Ground.phase }, { on := 5, ground := Ground.phase }, { on := 6, ground := Ground.phase }, { on := 7, ground := Ground.phase }], guard := none }) (v := ?v28) rfl (by kernel_rfl) (by kernel_rfl) (by kernel_rfl) (fun _ _ _ h => h) (Or.inl ⟨by rfl, ?y28⟩) (by assumption) ?r28
              case y28 => (intro w hSw; (try dsimp only at hSw); (try (go_split_ands)); go_simp; try with_reducible rfl)
              try simp only [Act.put, List.setIfInBounds_toArray, List.set_cons_zero, List.set_cons_succ]
              refine wpAnyH_ready (rs := [9]) (by kernel_rfl) (by simp) ?_
              refine AllReadyH.cons (o := { dst := none, op := Op.store 27 (Operand.tmp 58) (Operand.tmp 57), type := 0, pos := "law.go:52", after := #[{ on := 8, ground := Ground.data }, { on := 7, ground := Ground.data }, { on := 7, ground := Ground.chain }, { on := 0, ground := Ground.phase }, { on := 1, ground := Ground.phase }, { on := 2, ground := Ground.phase }, { on := 3, ground := Ground.phase }, { on := 4, ground := Ground.phase }, { on := 5, ground := Ground.phase }, { on := 6, ground := Ground.phase }, { on := 7, ground := Ground.phase }], guard := none }) rfl (fun K hK => ?_) AllReadyH.nil
              go_simp
              have hca8 : (w7.setCell ⟨R, k, none⟩ (.slice va vn vc)).cell? ⟨wr.heap.size, 2, none⟩ = some (.int .i64 id) := (World.cell?_of_block (a := ⟨wr.heap.size, 2, none⟩) (heap_setCell_other w7 ⟨R, k, none⟩ wr.heap.size _ (show wr.heap.size ≠ R by omega))).trans hca7
              refine hK.out _ _ hca8 (fun hHeld9 => ?_)
              clear hK K
              try simp only [Act.put]
              refine wpAnyH_done (by kernel_rfl) ?_ _
              refine NoPanic.normal ?_
              clear hca8 hca7 hc7 hf7 hga7 hcaA hHeld9 hHeld7 hHeld6 hHeld3 hHeld ca cr hA5 hmk h5 hfzR
              generalize w7.setCell ⟨R, k, none⟩ (.slice va vn vc) = w8 at *
              have hSF : Hid _ := h8
              have hmsz := rowMSize _ hSF.out.mt.len
              have hFE := hide (updN_le (k := k) (l := f k ++ [id]) hF.out (by rw [List.length_append, hrn.out]; simp; omega))
              have hLE := hide (fun k hk => Nat.le_trans (hL.out k hk) (Nat.le_succ _))
              go_wp2_with ((with_reducible change wpList _ _ _ _ _ _); refine stop_load 28 (.tmp 6) rfl ?_)
              refine hide ?_
              refine wpList_load_row_on rfl 28 (.tmp 6) rfl R rfl 28 _ _ _ hSF.out.mt.at_r Try.underlying28 rfl hmsz ?_
              refine wpList_load_row_on rfl 22 (.tmp 7) rfl L rfl 22 _ _ _ hSF.out.at_l Try.underlying22 rfl (lostSize _) ?_
              simp only [Act.put, List.setIfInBounds_toArray, List.set_cons_zero, List.set_cons_succ]
              go_wp2_with fail
              refine (Ssame hSF.out (fun k hk => by have := hFE.out k hk; omega) (fun k hk => by have := hLE.out k hk; omega)).mono ?_
              rintro e wF ⟨rfl, hbF⟩
              have hSG : Hid (Keep w wF g w.heap.size R L BS bb (j + 1)) := ⟨_, _, _, _, hSF.out.below hbF, hFE.out, hLE.out⟩
              clear hSF hbF hFE hLE
              go_wp2
              go_round
              case rel => exact ⟨j + 1, by omega, by go_num, hSG⟩
              case measure => simp [intOf]; omega
            · go_simp
              have hcaA : (w6.alloc (.cells #[.int .i64 id] 3)).drew.cell? ⟨wr.heap.size, 2, none⟩ = some (.int .i64 id) := ((below1 w6 _).cell (p := ⟨wr.heap.size, 2, none⟩) hgal).trans ca
              refine hK.out _ _ hcaA (fun hHeld6 => ?_)
              clear hK K
              try simp only [Act.put, List.setIfInBounds_toArray, List.set_cons_zero, List.set_cons_succ]
              have crA : (w6.alloc (.cells #[.int .i64 id] 3)).drew.cell? ⟨R, k, none⟩ = some (.slice ra rn rc) := ((below1 w6 _).cell (p := ⟨R, k, none⟩) (show R < w6.heap.size by omega)).trans cr
              refine wpAnyH_ready (rs := [3]) (by kernel_rfl) (by simp) ?_
              refine AllReadyH.cons (o := { dst := some 53, op := Op.load 27 (Operand.tmp 52), type := 27, pos := "law.go:52", after := #[{ on := 2, ground := Ground.data }], guard := none }) rfl (fun K hK => ?_) AllReadyH.nil
              go_simp
              refine hK.out _ _ hcaA (fun hHeld3 => ?_)
              clear hK K
              try simp only [Act.put, List.setIfInBounds_toArray, List.set_cons_zero, List.set_cons_succ]
              refine wpAnyH_ready (rs := [7]) (by kernel_rfl) (by simp) ?_
              refine AllReadyH.cons (o := { dst := some 57, op := Op.call { callee := Callee.builtin Builtin.append, args := #[Operand.tmp 53, Operand.tmp 56], argTypes := #[27, 27] }, type := 27, pos := "law.go:52", after := #[{ on := 3, ground := Ground.data }, { on := 6, ground := Ground.data }], guard := none }) rfl (fun K hK => ?_) AllReadyH.nil
              refine step_append_q rfl (.tmp 53) (.tmp 56) rfl (ms.getD k Mw.none).v (f k) hsh.out.symm (show Qe (w6.alloc (.cells #[.int .i64 id] 3)).drew _ _ from (hmk.out.below (below1 w6 (.cells #[.int .i64 id] 3))).below (below_drewN (Below.refl _ _) 1)) ⟨w6.heap.size, 0, none⟩ 1 1 [id] rfl rfl (fun t ht => ?_) (by rw [hrn.out]; simp; omega) ?_
              · obtain rfl : t = 0 := by simpa using ht
                exact cell_one_new w6 (.int .i64 id) 3 0 _ rfl
              intro v' w7 hq7 hgr7 hl7
              have h8 := Sy.app h5.out k hk id v' hq7 ⟨hgr7.os, hgr7.tape, hgr7.output, hgr7.size, hgr7.block⟩ (hl7.imp (fun e => e) (fun e => e.trans (by show some (w6.alloc _).heap.size = _; rw [World.size_alloc])))
              have hc7 := (World.cell?_of_block (a := ⟨R, k, none⟩) h8.2).trans cr
              have hf7 := (World.frozen?_of_block (a := ⟨R, k, none⟩) h8.2).trans hfzR
              have hga7 : w7.heap[wr.heap.size]? = w6.heap[wr.heap.size]? := (hgr7.block _ (show wr.heap.size < (w6.alloc _).heap.size by rw [World.size_alloc]; omega) (fun e => by have := hmo.out k hk _ e.symm; omega)).trans ((below1 w6 _).block _ hgal)
              have hca7 := (World.cell?_of_block (a := ⟨wr.heap.size, 2, none⟩) hga7).trans ca
              obtain ⟨va, vc, rfl⟩ := hq7.shape
              replace h8 := hide h8.1
              clear hq7 hgr7 hl7
              generalize (f k ++ [id]).length = vn at *
              refine hK.out _ _ hca7 (fun hHeld7 => ?_)
              clear hK K
              try simp only [Act.put, List.setIfInBounds_toArray, List.set_cons_zero, List.set_cons_succ]
              refine wpAnyH_take (i := 8) (oi := { dst := some 58, op := Op.indexAddr 28 (Operand.tmp 6) (Operand.tmp 50), type := 0, pos := "law.go:52", after := #[{ on := 0, ground := Ground.data }, { on := 0, ground := Ground.phase }, { on := 1, ground := Ground.phase }, { on := 2, ground := Ground.phase }, { on := 3, ground := Ground.phase }, { on := 4, ground := Ground.phase }, { on := 5, ground := Ground.phase }, { on := 6, ground := Ground.phase }, { on := 7, ground := Ground.phase }], guard := none }) (v := ?v29) rfl (by kernel_rfl) (by kernel_rfl) (by kernel_rfl) (fun _ _ _ h => h) (Or.inl ⟨by rfl, ?y29⟩) (by assumption) ?r29
              case y29 => (intro w hSw; (try dsimp only at hSw); (try (go_split_ands)); go_simp; try with_reducible rfl)
              try simp only [Act.put, List.setIfInBounds_toArray, List.set_cons_zero, List.set_cons_succ]
              refine wpAnyH_ready (rs := [9]) (by kernel_rfl) (by simp) ?_
              refine AllReadyH.cons (o := { dst := none, op := Op.store 27 (Operand.tmp 58) (Operand.tmp 57), type := 0, pos := "law.go:52", after := #[{ on := 8, ground := Ground.data }, { on := 7, ground := Ground.data }, { on := 7, ground := Ground.chain }, { on := 0, ground := Ground.phase }, { on := 1, ground := Ground.phase }, { on := 2, ground := Ground.phase }, { on := 3, ground := Ground.phase }, { on := 4, ground := Ground.phase }, { on := 5, ground := Ground.phase }, { on := 6, ground := Ground.phase }, { on := 7, ground := Ground.phase }], guard := none }) rfl (fun K hK => ?_) AllReadyH.nil
              go_simp
              have hca8 : (w7.setCell ⟨R, k, none⟩ (.slice va vn vc)).cell? ⟨wr.heap.size, 2, none⟩ = some (.int .i64 id) := (World.cell?_of_block (a := ⟨wr.heap.size, 2, none⟩) (heap_setCell_other w7 ⟨R, k, none⟩ wr.heap.size _ (show wr.heap.size ≠ R by omega))).trans hca7
              refine hK.out _ _ hca8 (fun hHeld9 => ?_)
              clear hK K
              try simp only [Act.put]
              refine wpAnyH_done (by kernel_rfl) ?_ _
              refine NoPanic.normal ?_
              clear hca8 hca7 hc7 hf7 hga7 hcaA hHeld9 hHeld7 hHeld6 hHeld3 hHeld ca cr hA5 hmk h5 hfzR
              generalize w7.setCell ⟨R, k, none⟩ (.slice va vn vc) = w8 at *
              have hSF : Hid _ := h8
              have hmsz := rowMSize _ hSF.out.mt.len
              have hFE := hide (updN_le (k := k) (l := f k ++ [id]) hF.out (by rw [List.length_append, hrn.out]; simp; omega))
              have hLE := hide (fun k hk => Nat.le_trans (hL.out k hk) (Nat.le_succ _))
              go_wp2_with ((with_reducible change wpList _ _ _ _ _ _); refine stop_load 28 (.tmp 6) rfl ?_)
              refine hide ?_
              refine wpList_load_row_on rfl 28 (.tmp 6) rfl R rfl 28 _ _ _ hSF.out.mt.at_r Try.underlying28 rfl hmsz ?_
              refine wpList_load_row_on rfl 22 (.tmp 7) rfl L rfl 22 _ _ _ hSF.out.at_l Try.underlying22 rfl (lostSize _) ?_
              simp only [Act.put, List.setIfInBounds_toArray, List.set_cons_zero, List.set_cons_succ]
              go_wp2_with fail
              refine (Ssame hSF.out (fun k hk => by have := hFE.out k hk; omega) (fun k hk => by have := hLE.out k hk; omega)).mono ?_
              rintro e wF ⟨rfl, hbF⟩
              have hSG : Hid (Keep w wF g w.heap.size R L BS bb (j + 1)) := ⟨_, _, _, _, hSF.out.below hbF, hFE.out, hLE.out⟩
              clear hSF hbF hFE hLE
              go_wp2
              go_round
              case rel => exact ⟨j + 1, by omega, by go_num, hSG⟩
              case measure => simp [intOf]; omega
        by_cases h1 : kd = 1
        · subst h1
          as_aux_lemma =>
            by_cases hneg : cl < 0
            · have z1 : decide (0 ≤ cl) = false := decide_eq_false (by omega)
              have hout : cl < 0 ∨ 8 ≤ cl := .inl hneg
              replace hout := hide hout
              clear hneg
              go_wp2_with fail
              refine (Head_range (some ⟨g, 0, none⟩) cl _ hout.out).mono ?_
              rintro e w5 ⟨rfl, rfl⟩
              go_wp2_with fail
              refine (Pop_range (some ⟨g, 0, none⟩) cl _ hout.out).mono ?_
              rintro e w5 ⟨rfl, rfl⟩
              have hSF : Hid _ := hS4
              have hmsz := rowMSize _ hSF.out.mt.len
              have hFE := hide (fun k hk => Nat.le_trans (hF.out k hk) (Nat.le_succ _))
              have hLE := hide (fun k hk => Nat.le_trans (hL.out k hk) (Nat.le_succ _))
              go_wp2_with ((with_reducible change wpList _ _ _ _ _ _); refine stop_load 28 (.tmp 6) rfl ?_)
              refine hide ?_
              refine wpList_load_row_on rfl 28 (.tmp 6) rfl R rfl 28 _ _ _ hSF.out.mt.at_r Try.underlying28 rfl hmsz ?_
              refine wpList_load_row_on rfl 22 (.tmp 7) rfl L rfl 22 _ _ _ hSF.out.at_l Try.underlying22 rfl (lostSize _) ?_
              simp only [Act.put, List.setIfInBounds_toArray, List.set_cons_zero, List.set_cons_succ]
              go_wp2_with fail
              refine (Ssame hSF.out (fun k hk => by have := hFE.out k hk; omega) (fun k hk => by have := hLE.out k hk; omega)).mono ?_
              rintro e wF ⟨rfl, hbF⟩
              have hSG : Hid (Keep w wF g w.heap.size R L BS bb (j + 1)) := ⟨_, _, _, _, hSF.out.below hbF, hFE.out, hLE.out⟩
              clear hSF hbF hFE hLE
              go_wp2
              go_round
              case rel => exact ⟨j + 1, by omega, by go_num, hSG⟩
              case measure => simp [intOf]; omega
            by_cases hbg : 8 ≤ cl
            · have z1 : decide (0 ≤ cl) = true := decide_eq_true (by omega)
              have z2 : decide (cl < 8) = false := decide_eq_false (by omega)
              have hout : cl < 0 ∨ 8 ≤ cl := .inr hbg
              replace hout := hide hout
              clear hneg hbg
              go_wp2_with fail
              refine (Head_range (some ⟨g, 0, none⟩) cl _ hout.out).mono ?_
              rintro e w5 ⟨rfl, rfl⟩
              go_wp2_with fail
              refine (Pop_range (some ⟨g, 0, none⟩) cl _ hout.out).mono ?_
              rintro e w5 ⟨rfl, rfl⟩
              have hSF : Hid _ := hS4
              have hmsz := rowMSize _ hSF.out.mt.len
              have hFE := hide (fun k hk => Nat.le_trans (hF.out k hk) (Nat.le_succ _))
              have hLE := hide (fun k hk => Nat.le_trans (hL.out k hk) (Nat.le_succ _))
              go_wp2_with ((with_reducible change wpList _ _ _ _ _ _); refine stop_load 28 (.tmp 6) rfl ?_)
              refine hide ?_
              refine wpList_load_row_on rfl 28 (.tmp 6) rfl R rfl 28 _ _ _ hSF.out.mt.at_r Try.underlying28 rfl hmsz ?_
              refine wpList_load_row_on rfl 22 (.tmp 7) rfl L rfl 22 _ _ _ hSF.out.at_l Try.underlying22 rfl (lostSize _) ?_
              simp only [Act.put, List.setIfInBounds_toArray, List.set_cons_zero, List.set_cons_succ]
              go_wp2_with fail
              refine (Ssame hSF.out (fun k hk => by have := hFE.out k hk; omega) (fun k hk => by have := hLE.out k hk; omega)).mono ?_
              rintro e wF ⟨rfl, hbF⟩
              have hSG : Hid (Keep w wF g w.heap.size R L BS bb (j + 1)) := ⟨_, _, _, _, hSF.out.below hbF, hFE.out, hLE.out⟩
              clear hSF hbF hFE hLE
              go_wp2
              go_round
              case rel => exact ⟨j + 1, by omega, by go_num, hSG⟩
              case measure => simp [intOf]; omega
            obtain ⟨k, rfl⟩ := Int.eq_ofNat_of_zero_le (show 0 ≤ cl by omega)
            have hk : k < 8 := by omega
            have z2 : decide ((k : Int) < 8) = true := decide_eq_true (by omega)
            have z3 : (k : Int) < 8 := by omega
            clear hneg hbg
            rcases hfk : f k with _ | ⟨x, r⟩
            · have hH := hide (SHead_no hS4.out k hk hfk)
              have hP := hide (SPop_no hS4.out k hk hfk)
              obtain ⟨ra, rc, hsh⟩ := (hS4.out.mt.row k hk).shape
              have hlm : (ms.getD k Mw.none).l.length = (f k).length := by rw [hS4.out.mv k hk]
              rw [hlm] at hsh
              have cr := hS4.out.mt.cell k hk
              rw [hsh] at cr
              replace hsh := hide hsh
              clear hlm
              rw [hfk, List.length_nil] at cr
              clear hsh
              replace hfk := hide hfk
              go_wp2_with fail
              refine hH.out.mono ?_
              rintro e w5 ⟨rfl, rfl⟩
              go_wp2_with fail
              refine hP.out.mono ?_
              rintro e w5 ⟨rfl, rfl⟩
              clear hH hP
              have hSF : Hid _ := hS4
              have hmsz := rowMSize _ hSF.out.mt.len
              have hFE := hide (fun k hk => Nat.le_trans (hF.out k hk) (Nat.le_succ _))
              have hLE := hide (fun k hk => Nat.le_trans (hL.out k hk) (Nat.le_succ _))
              go_wp2_with ((with_reducible change wpList _ _ _ _ _ _); refine stop_load 28 (.tmp 6) rfl ?_)
              refine hide ?_
              refine wpList_load_row_on rfl 28 (.tmp 6) rfl R rfl 28 _ _ _ hSF.out.mt.at_r Try.underlying28 rfl hmsz ?_
              refine wpList_load_row_on rfl 22 (.tmp 7) rfl L rfl 22 _ _ _ hSF.out.at_l Try.underlying22 rfl (lostSize _) ?_
              simp only [Act.put, List.setIfInBounds_toArray, List.set_cons_zero, List.set_cons_succ]
              go_wp2_with fail
              refine (Ssame hSF.out (fun k hk => by have := hFE.out k hk; omega) (fun k hk => by have := hLE.out k hk; omega)).mono ?_
              rintro e wF ⟨rfl, hbF⟩
              have hSG : Hid (Keep w wF g w.heap.size R L BS bb (j + 1)) := ⟨_, _, _, _, hSF.out.below hbF, hFE.out, hLE.out⟩
              clear hSF hbF hFE hLE
              go_wp2
              go_round
              case rel => exact ⟨j + 1, by omega, by go_num, hSG⟩
              case measure => simp [intOf]; omega
            · have hFk := hF.out k hk
              rw [hfk, List.length_cons] at hFk
              have hH := hide (SHead_yes hS4.out k hk x r hfk)
              have hP := hide (SPop_yes hS4.out k hk x r hfk)
              go_wp2_with fail
              refine hH.out.mono ?_
              rintro e w4 ⟨rfl, hw4⟩
              subst hw4
              clear hH
              go_wp2_with fail
              refine hP.out.mono ?_
              rintro e w5 ⟨rfl, ⟨rs', h5⟩, ht5⟩
              replace h5 := hide h5
              have hA5 := ht5.act hga.out hgl.out.1 hro.out
              clear hP ht5
              have ca : w5.cell? ⟨wr.heap.size, 0, none⟩ = some (.int .i64 1) := (cell_of_row _ _ _ _ _ _ hA5).trans rfl
              clear hA5
              obtain ⟨ra, rc, hsh⟩ := (h5.out.mt.row k hk).shape
              have hlm : (ms.getD k Mw.none).l.length = (f k).length := by rw [h5.out.mv k hk]
              rw [hlm] at hsh
              have cr := h5.out.mt.cell k hk
              rw [hsh] at cr
              replace hsh := hide hsh
              clear hlm
              have hq := h5.out.mt.row k hk
              rw [h5.out.mv k hk, hsh.out] at hq
              obtain ⟨-, rb, ro, rfl, cx⟩ := hq.cellsAt 0 (by rw [hfk]; simp)
              rw [hfk, List.getD_cons_zero, Nat.add_zero] at cx
              have hrp : 0 < (f k).length := by rw [hfk]; simp
              have hpos : (((f k).length : Int) == 0) = false := by rw [beq_eq_false_iff_ne]; omega
              replace hq := hide hq
              have hfz := h5.out.mt.frozen k
              have hcap : (f k).length ≤ rc := by
                rcases hq.out with ⟨h0, _⟩ | ⟨b', off', cap', cur, h0, h1, h2, h3⟩
                · simp at h0
                · simp only [Value.slice.injEq] at h0; omega
              have hcmp : (ms.getD k Mw.none).v.ownBlock = some rb := by rw [hsh.out]; rfl
              have hput := hide (fun (v' : Value) (hq' : Qe w5 v' r) (ho : v'.ownBlock = some rb) => h5.out.put k hk v' r hq' rfl rfl rfl (Nat.le_refl _) (fun _ _ _ => rfl) (fun c e => .inl (by rw [hcmp, ← ho]; exact e)))
              have htl : (f k).tail = r := by rw [hfk]; rfl
              have htail : Hid (0 < (f k).length → ¬ rc = 1 → Qe w5 (.slice (some ⟨rb, ro + 1, none⟩) ((f k).length - 1) (rc - 1)) r) := fun h0 hc => by
                have := hq.out.tail h0
                rwa [htl] at this
              have htail1 : Hid (0 < (f k).length → rc = 1 → (f k).length = 1 ∧ Qe w5 (.slice (some ⟨rb, ro, none⟩) 0 0) r) := fun h0 hc => by
                have h1 := hq.out
                rw [hc] at h1
                have := h1.tail1 h0
                rwa [htl] at this
              clear htl
              replace hfk := hide hfk
              clear hq hcmp hsh
              by_cases hc1 : rc = 1
              · obtain ⟨hn1, hq1⟩ := htail1.out hrp hc1
                have h8 := hide (hput.out (.slice (some ⟨rb, ro, none⟩) 0 0) hq1 rfl)
                subst hc1
                rw [hn1] at cr hrp hpos
                clear hq1 hput htail htail1 hn1 hcap h5
                have hSF : Hid _ := h8
                have hmsz := rowMSize _ hSF.out.mt.len
                have hFE := hide (updN_le (k := k) (l := r) hF.out (by omega))
                have hLE := hide (fun k hk => Nat.le_trans (hL.out k hk) (Nat.le_succ _))
                go_wp2_with ((with_reducible change wpList _ _ _ _ _ _); refine stop_load 28 (.tmp 6) rfl ?_)
                refine hide ?_
                refine wpList_load_row_on rfl 28 (.tmp 6) rfl R rfl 28 _ _ _ hSF.out.mt.at_r Try.underlying28 rfl hmsz ?_
                refine wpList_load_row_on rfl 22 (.tmp 7) rfl L rfl 22 _ _ _ hSF.out.at_l Try.underlying22 rfl (lostSize _) ?_
                simp only [Act.put, List.setIfInBounds_toArray, List.set_cons_zero, List.set_cons_succ]
                go_wp2_with fail
                refine (Ssame hSF.out (fun k hk => by have := hFE.out k hk; omega) (fun k hk => by have := hLE.out k hk; omega)).mono ?_
                rintro e wF ⟨rfl, hbF⟩
                have hSG : Hid (Keep w wF g w.heap.size R L BS bb (j + 1)) := ⟨_, _, _, _, hSF.out.below hbF, hFE.out, hLE.out⟩
                clear hSF hbF hFE hLE
                go_wp2
                go_round
                case rel => exact ⟨j + 1, by omega, by go_num, hSG⟩
                case measure => simp [intOf]; omega
              · have h8 := hide (hput.out (.slice (some ⟨rb, ro + 1, none⟩) ((f k).length - 1) (rc - 1)) (htail.out hrp hc1) rfl)
                generalize (f k).length = rn at *
                clear hput htail htail1 h5
                have hSF : Hid _ := h8
                have hmsz := rowMSize _ hSF.out.mt.len
                have hFE := hide (updN_le (k := k) (l := r) hF.out (by omega))
                have hLE := hide (fun k hk => Nat.le_trans (hL.out k hk) (Nat.le_succ _))
                go_wp2_with ((with_reducible change wpList _ _ _ _ _ _); refine stop_load 28 (.tmp 6) rfl ?_)
                refine hide ?_
                refine wpList_load_row_on rfl 28 (.tmp 6) rfl R rfl 28 _ _ _ hSF.out.mt.at_r Try.underlying28 rfl hmsz ?_
                refine wpList_load_row_on rfl 22 (.tmp 7) rfl L rfl 22 _ _ _ hSF.out.at_l Try.underlying22 rfl (lostSize _) ?_
                simp only [Act.put, List.setIfInBounds_toArray, List.set_cons_zero, List.set_cons_succ]
                go_wp2_with fail
                refine (Ssame hSF.out (fun k hk => by have := hFE.out k hk; omega) (fun k hk => by have := hLE.out k hk; omega)).mono ?_
                rintro e wF ⟨rfl, hbF⟩
                have hSG : Hid (Keep w wF g w.heap.size R L BS bb (j + 1)) := ⟨_, _, _, _, hSF.out.below hbF, hFE.out, hLE.out⟩
                clear hSF hbF hFE hLE
                go_wp2
                go_round
                case rel => exact ⟨j + 1, by omega, by go_num, hSG⟩
                case measure => simp [intOf]; omega
        by_cases h2 : kd = 2
        · subst h2
          as_aux_lemma =>
            by_cases hneg : cl < 0
            · have z1 : decide (0 ≤ cl) = false := decide_eq_false (by omega)
              have hout : cl < 0 ∨ 8 ≤ cl := .inl hneg
              replace hout := hide hout
              clear hneg
              go_wp2_with fail
              refine (Head_range (some ⟨g, 0, none⟩) cl _ hout.out).mono ?_
              rintro e w5 ⟨rfl, rfl⟩
              have hSF : Hid _ := hS4
              have hmsz := rowMSize _ hSF.out.mt.len
              have hFE := hide (fun k hk => Nat.le_trans (hF.out k hk) (Nat.le_succ _))
              have hLE := hide (fun k hk => Nat.le_trans (hL.out k hk) (Nat.le_succ _))
              go_wp2_with ((with_reducible change wpList _ _ _ _ _ _); refine stop_load 28 (.tmp 6) rfl ?_)
              refine hide ?_
              refine wpList_load_row_on rfl 28 (.tmp 6) rfl R rfl 28 _ _ _ hSF.out.mt.at_r Try.underlying28 rfl hmsz ?_
              refine wpList_load_row_on rfl 22 (.tmp 7) rfl L rfl 22 _ _ _ hSF.out.at_l Try.underlying22 rfl (lostSize _) ?_
              simp only [Act.put, List.setIfInBounds_toArray, List.set_cons_zero, List.set_cons_succ]
              go_wp2_with fail
              refine (Ssame hSF.out (fun k hk => by have := hFE.out k hk; omega) (fun k hk => by have := hLE.out k hk; omega)).mono ?_
              rintro e wF ⟨rfl, hbF⟩
              have hSG : Hid (Keep w wF g w.heap.size R L BS bb (j + 1)) := ⟨_, _, _, _, hSF.out.below hbF, hFE.out, hLE.out⟩
              clear hSF hbF hFE hLE
              go_wp2
              go_round
              case rel => exact ⟨j + 1, by omega, by go_num, hSG⟩
              case measure => simp [intOf]; omega
            by_cases hbg : 8 ≤ cl
            · have z1 : decide (0 ≤ cl) = true := decide_eq_true (by omega)
              have z2 : decide (cl < 8) = false := decide_eq_false (by omega)
              have hout : cl < 0 ∨ 8 ≤ cl := .inr hbg
              replace hout := hide hout
              clear hneg hbg
              go_wp2_with fail
              refine (Head_range (some ⟨g, 0, none⟩) cl _ hout.out).mono ?_
              rintro e w5 ⟨rfl, rfl⟩
              have hSF : Hid _ := hS4
              have hmsz := rowMSize _ hSF.out.mt.len
              have hFE := hide (fun k hk => Nat.le_trans (hF.out k hk) (Nat.le_succ _))
              have hLE := hide (fun k hk => Nat.le_trans (hL.out k hk) (Nat.le_succ _))
              go_wp2_with ((with_reducible change wpList _ _ _ _ _ _); refine stop_load 28 (.tmp 6) rfl ?_)
              refine hide ?_
              refine wpList_load_row_on rfl 28 (.tmp 6) rfl R rfl 28 _ _ _ hSF.out.mt.at_r Try.underlying28 rfl hmsz ?_
              refine wpList_load_row_on rfl 22 (.tmp 7) rfl L rfl 22 _ _ _ hSF.out.at_l Try.underlying22 rfl (lostSize _) ?_
              simp only [Act.put, List.setIfInBounds_toArray, List.set_cons_zero, List.set_cons_succ]
              go_wp2_with fail
              refine (Ssame hSF.out (fun k hk => by have := hFE.out k hk; omega) (fun k hk => by have := hLE.out k hk; omega)).mono ?_
              rintro e wF ⟨rfl, hbF⟩
              have hSG : Hid (Keep w wF g w.heap.size R L BS bb (j + 1)) := ⟨_, _, _, _, hSF.out.below hbF, hFE.out, hLE.out⟩
              clear hSF hbF hFE hLE
              go_wp2
              go_round
              case rel => exact ⟨j + 1, by omega, by go_num, hSG⟩
              case measure => simp [intOf]; omega
            obtain ⟨k, rfl⟩ := Int.eq_ofNat_of_zero_le (show 0 ≤ cl by omega)
            have hk : k < 8 := by omega
            have z2 : decide ((k : Int) < 8) = true := decide_eq_true (by omega)
            have z3 : (k : Int) < 8 := by omega
            clear hneg hbg
            rcases hfk : f k with _ | ⟨x, r⟩
            · have hH := hide (SHead_no hS4.out k hk hfk)
              have hP := hide (SPop_no hS4.out k hk hfk)
              obtain ⟨ra, rc, hsh⟩ := (hS4.out.mt.row k hk).shape
              have hlm : (ms.getD k Mw.none).l.length = (f k).length := by rw [hS4.out.mv k hk]
              rw [hlm] at hsh
              have cr := hS4.out.mt.cell k hk
              rw [hsh] at cr
              replace hsh := hide hsh
              clear hlm
              rw [hfk, List.length_nil] at cr
              clear hsh
              replace hfk := hide hfk
              go_wp2_with fail
              refine hH.out.mono ?_
              rintro e w5 ⟨rfl, rfl⟩
              clear hH hP
              have hSF : Hid _ := hS4
              have hmsz := rowMSize _ hSF.out.mt.len
              have hFE := hide (fun k hk => Nat.le_trans (hF.out k hk) (Nat.le_succ _))
              have hLE := hide (fun k hk => Nat.le_trans (hL.out k hk) (Nat.le_succ _))
              go_wp2_with ((with_reducible change wpList _ _ _ _ _ _); refine stop_load 28 (.tmp 6) rfl ?_)
              refine hide ?_
              refine wpList_load_row_on rfl 28 (.tmp 6) rfl R rfl 28 _ _ _ hSF.out.mt.at_r Try.underlying28 rfl hmsz ?_
              refine wpList_load_row_on rfl 22 (.tmp 7) rfl L rfl 22 _ _ _ hSF.out.at_l Try.underlying22 rfl (lostSize _) ?_
              simp only [Act.put, List.setIfInBounds_toArray, List.set_cons_zero, List.set_cons_succ]
              go_wp2_with fail
              refine (Ssame hSF.out (fun k hk => by have := hFE.out k hk; omega) (fun k hk => by have := hLE.out k hk; omega)).mono ?_
              rintro e wF ⟨rfl, hbF⟩
              have hSG : Hid (Keep w wF g w.heap.size R L BS bb (j + 1)) := ⟨_, _, _, _, hSF.out.below hbF, hFE.out, hLE.out⟩
              clear hSF hbF hFE hLE
              go_wp2
              go_round
              case rel => exact ⟨j + 1, by omega, by go_num, hSG⟩
              case measure => simp [intOf]; omega
            · have hFk := hF.out k hk
              rw [hfk, List.length_cons] at hFk
              have hH := hide (SHead_yes hS4.out k hk x r hfk)
              go_wp2_with fail
              refine hH.out.mono ?_
              rintro e w4 ⟨rfl, hw4⟩
              subst hw4
              clear hH
              obtain ⟨ra, rc, hsh⟩ := (hS4.out.mt.row k hk).shape
              have hlm : (ms.getD k Mw.none).l.length = (f k).length := by rw [hS4.out.mv k hk]
              rw [hlm] at hsh
              have cr := hS4.out.mt.cell k hk
              rw [hsh] at cr
              replace hsh := hide hsh
              clear hlm
              have hq := hS4.out.mt.row k hk
              rw [hS4.out.mv k hk, hsh.out] at hq
              obtain ⟨-, rb, ro, rfl, cx⟩ := hq.cellsAt 0 (by rw [hfk]; simp)
              rw [hfk, List.getD_cons_zero, Nat.add_zero] at cx
              have hrp : 0 < (f k).length := by rw [hfk]; simp
              have hpos : (((f k).length : Int) == 0) = false := by rw [beq_eq_false_iff_ne]; omega
              replace hq := hide hq
              replace hfk := hide hfk
              clear hq hsh
              generalize (f k).length = rn at *
              have hSF : Hid _ := hS4
              have hmsz := rowMSize _ hSF.out.mt.len
              have hFE := hide (fun k hk => Nat.le_trans (hF.out k hk) (Nat.le_succ _))
              have hLE := hide (fun k hk => Nat.le_trans (hL.out k hk) (Nat.le_succ _))
              go_wp2_with ((with_reducible change wpList _ _ _ _ _ _); refine stop_load 28 (.tmp 6) rfl ?_)
              refine hide ?_
              refine wpList_load_row_on rfl 28 (.tmp 6) rfl R rfl 28 _ _ _ hSF.out.mt.at_r Try.underlying28 rfl hmsz ?_
              refine wpList_load_row_on rfl 22 (.tmp 7) rfl L rfl 22 _ _ _ hSF.out.at_l Try.underlying22 rfl (lostSize _) ?_
              simp only [Act.put, List.setIfInBounds_toArray, List.set_cons_zero, List.set_cons_succ]
              go_wp2_with fail
              refine (Ssame hSF.out (fun k hk => by have := hFE.out k hk; omega) (fun k hk => by have := hLE.out k hk; omega)).mono ?_
              rintro e wF ⟨rfl, hbF⟩
              have hSG : Hid (Keep w wF g w.heap.size R L BS bb (j + 1)) := ⟨_, _, _, _, hSF.out.below hbF, hFE.out, hLE.out⟩
              clear hSF hbF hFE hLE
              go_wp2
              go_round
              case rel => exact ⟨j + 1, by omega, by go_num, hSG⟩
              case measure => simp [intOf]; omega
        by_cases h3 : kd = 3
        · subst h3
          as_aux_lemma =>
            by_cases hneg : cl < 0
            · have z1 : decide (0 ≤ cl) = false := decide_eq_false (by omega)
              clear hneg
              have hmsz := rowMSize _ hS4.out.mt.len
              have hF4 : Hid (∀ k, k < 8 → (f k).length ≤ 10000) := fun k hk => by have := hF.out k hk; omega
              go_wp2_with ((with_reducible change wpList _ _ _ _ _ _); refine wpList_load_row rfl 28 (.tmp 6) rfl R rfl 28 _ _ _ hS4.out.mt.at_r Try.underlying28 rfl hmsz ?_)
              generalize wr.alloc (.cells #[.int .i64 3, .int .i64 cl, .int .i64 id] 30) = w4 at *
              have hix := hide (fun t ht => mrow_at ms hS4.out.mt.len t ht)
              generalize (rowM ms).toArray = RM at *
              go_loopw [15, 146] (fun x i wi => ∃ t : Nat, t ≤ 8 ∧ i = .int .i64 t ∧ (∃ a n c, x = .slice a n c ∧ Hid (Wn w4 wi (.slice a n c) (catF f t)))) (fun _ i _ => 8 - (intOf i).toNat)
              case atStart => exact ⟨0, Nat.zero_le _, rfl, _, _, _, rfl, hide ⟨Qe.nil _, fun c e => by simp [Value.ownBlock] at e, Below.refl _ _⟩⟩
              case round =>
                obtain ⟨t, ht, rfl, ua, un, uc, rfl, hWn⟩ := hrel
                by_cases htl : t < 8
                · have hx := hix.out t htl
                  have hrow := hS4.out.mt.row t htl
                  rw [hS4.out.mv t htl] at hrow
                  obtain ⟨ra, rc, hsh⟩ := hrow.shape
                  rw [hsh] at hx hrow
                  replace hrow := hide (hrow.below hWn.out.2.2)
                  have hsz : Hid ((catF f t).length + (f t).length ≤ 1000000) := by
                    have h1 := allF_le f hF4.out t (by omega)
                    have h2 := hF4.out t htl
                    show _ ≤ _
                    rw [catF_len]
                    omega
                  clear hsh
                  generalize hft : f t = ft at *
                  replace hft := hide hft
                  generalize hrl : ft.length = rl at *
                  replace hrl := hide hrl
                  go_wp2_with (at_builtin; refine wpList_append_qq rfl (.tmp 149) (.tmp 150) rfl (.slice ua un uc) (.slice ra rl rc) (catF f t) ft rfl hWn.out.1 rfl hrow.out (by rw [hrl.out]; exact hsz.out) ?_)
                  intro v' w1 hq1 hgr hl
                  obtain ⟨va, vc, rfl⟩ := hq1.shape
                  have hst := hide (hWn.out.step (show Qe w1 _ (catF f (t + 1)) by rw [catF, hft.out]; exact hq1) hgr hl)
                  clear hq1 hgr hl hrow hx hWn
                  generalize (catF f t ++ ft).length = m at *
                  go_wp2
                  go_round
                  case rel => exact ⟨t + 1, by omega, by go_num, _, _, _, rfl, hst⟩
                  case measure => simp [intOf]; omega
                · obtain rfl : t = 8 := by omega
                  obtain ⟨hq8, hn8, hb8⟩ := hWn.out
                  have hunE : un = (catF f 8).length := by
                    obtain ⟨a', c', e⟩ := hq8.shape
                    simp only [Value.slice.injEq] at e
                    exact e.2.1
                  have hP := hide (SFlush (hS4.out.below hb8) hF4.out hS4.out (.slice ua un uc) (catF f 8) hq8 hn8)
                  have hcl : Hid ((catF f 8).length ≤ 1000000) := by
                    have h1 := allF_le f hF4.out 8 (Nat.le_refl _)
                    show _ ≤ _
                    rw [catF_len]
                    omega
                  generalize hcf : catF f 8 = cf at *
                  clear hcf hq8 hn8 hWn hb8 hix
                  replace hunE := hide hunE
                  go_wp2_with fail
                  refine hP.out.mono ?_
                  rintro e w5 ⟨ga2, gc2, rfl, hqg, hqu, rs', h5⟩
                  replace h5 := hide h5
                  rw [← hunE.out] at hqg
                  rw [← hunE.out]
                  replace hqg := hide hqg
                  replace hqu := hide hqu
                  have hu63 : Hid (un ≤ 1000000) := by
                    show _ ≤ _
                    rw [hunE.out]
                    exact hcl.out
                  have hu63' := hu63.out
                  clear hP
                  go_wp2
                  go_loopw [162] (fun i wi => ∃ t : Nat, t ≤ un ∧ i = .int .i64 t ∧ Hid (Below w5.heap.size w5 wi)) (fun i _ => un - (intOf i).toNat)
                  case atStart => exact ⟨0, Nat.zero_le _, rfl, hide (Below.refl _ _)⟩
                  case round =>
                    obtain ⟨t, ht, rfl, hBi⟩ := hrel
                    by_cases htl : t < un
                    · obtain ⟨-, lb, lo, rfl, c1⟩ := hqg.out.cellsAt t htl
                      obtain ⟨-, rb, ro, rfl, c2⟩ := hqu.out.cellsAt t htl
                      have l1 := block_lt_of_cell c1
                      have l2 := block_lt_of_cell c2
                      have c1' : Hid (∀ W : World, Below w5.heap.size w5 W → W.cell? ⟨lb, lo + t, none⟩ = some (.int .i64 (cf.getD t 0)) ∧ W.cell? ⟨rb, ro + t, none⟩ = some (.int .i64 (cf.getD t 0))) := fun W hW =>
                        ⟨(hW.cell (p := ⟨lb, lo + t, none⟩) l1).trans c1, (hW.cell (p := ⟨rb, ro + t, none⟩) l2).trans c2⟩
                      clear c1 c2
                      generalize cf.getD t 0 = z at *
                      go_wp2_with fail
                      refine wp_region_noPanic ?_
                      refine wp_region_held_drew (S := fun W => W.cell? ⟨lb, lo + t, none⟩ = some (.int .i64 z) ∧ W.cell? ⟨rb, ro + t, none⟩ = some (.int .i64 z)) (by kernel_rfl) (c1'.out _ (hBi.out.later (below_drewN (Below.refl _ _) 1))) (fun hHeld => ?_)
                      refine wpAnyH_take (i := 0) (oi := { dst := some 165, op := Op.move (Operand.tmp 18), type := 27, pos := "law.go:89", after := #[], guard := none }) (v := ?v30) rfl (by kernel_rfl) (by kernel_rfl) (by kernel_rfl) (fun _ _ _ h => h) (Or.inl ⟨by rfl, ?y30⟩) (by assumption) ?r30
                      case y30 => (intro w hSw; (try dsimp only at hSw); (try (go_split_ands)); go_simp; try with_reducible rfl)
                      try simp only [Act.put, List.setIfInBounds_toArray, List.set_cons_zero, List.set_cons_succ]
                      refine wpAnyH_take (i := 1) (oi := { dst := some 166, op := Op.move (Operand.tmp 19), type := 3, pos := "law.go:89", after := #[], guard := none }) (v := ?v31) rfl (by kernel_rfl) (by kernel_rfl) (by kernel_rfl) (fun _ _ _ h => h) (Or.inl ⟨by rfl, ?y31⟩) (by assumption) ?r31
                      case y31 => (intro w hSw; (try dsimp only at hSw); (try (go_split_ands)); go_simp; try with_reducible rfl)
                      try simp only [Act.put, List.setIfInBounds_toArray, List.set_cons_zero, List.set_cons_succ]
                      refine wpAnyH_take (i := 2) (oi := { dst := some 167, op := Op.indexAddr 27 (Operand.tmp 165) (Operand.tmp 166), type := 0, pos := "law.go:89", after := #[{ on := 0, ground := Ground.data }, { on := 1, ground := Ground.data }], guard := none }) (v := ?v32) rfl (by kernel_rfl) (by kernel_rfl) (by kernel_rfl) (fun _ _ _ h => h) (Or.inl ⟨by rfl, ?y32⟩) (by assumption) ?r32
                      case y32 => (intro w hSw; (try dsimp only at hSw); (try (go_split_ands)); go_simp; try with_reducible rfl)
                      try simp only [Act.put, List.setIfInBounds_toArray, List.set_cons_zero, List.set_cons_succ]
                      refine wpAnyH_take (i := 3) (oi := { dst := some 168, op := Op.load 3 (Operand.tmp 167), type := 3, pos := "law.go:89", after := #[{ on := 2, ground := Ground.data }], guard := none }) (v := ?v33) rfl (by kernel_rfl) (by kernel_rfl) (by kernel_rfl) (fun _ _ _ h => h) (Or.inl ⟨by rfl, ?y33⟩) (by assumption) ?r33
                      case y33 => (intro w hSw; (try dsimp only at hSw); (try (go_split_ands)); go_simp; try with_reducible rfl)
                      try simp only [Act.put, List.setIfInBounds_toArray, List.set_cons_zero, List.set_cons_succ]
                      refine wpAnyH_take (i := 4) (oi := { dst := some 169, op := Op.move (Operand.tmp 15), type := 27, pos := "law.go:89", after := #[], guard := none }) (v := ?v34) rfl (by kernel_rfl) (by kernel_rfl) (by kernel_rfl) (fun _ _ _ h => h) (Or.inl ⟨by rfl, ?y34⟩) (by assumption) ?r34
                      case y34 => (intro w hSw; (try dsimp only at hSw); (try (go_split_ands)); go_simp; try with_reducible rfl)
                      try simp only [Act.put, List.setIfInBounds_toArray, List.set_cons_zero, List.set_cons_succ]
                      refine wpAnyH_take (i := 5) (oi := { dst := some 170, op := Op.move (Operand.tmp 19), type := 3, pos := "law.go:89", after := #[], guard := none }) (v := ?v35) rfl (by kernel_rfl) (by kernel_rfl) (by kernel_rfl) (fun _ _ _ h => h) (Or.inl ⟨by rfl, ?y35⟩) (by assumption) ?r35
                      case y35 => (intro w hSw; (try dsimp only at hSw); (try (go_split_ands)); go_simp; try with_reducible rfl)
                      try simp only [Act.put, List.setIfInBounds_toArray, List.set_cons_zero, List.set_cons_succ]
                      refine wpAnyH_take (i := 6) (oi := { dst := some 171, op := Op.indexAddr 27 (Operand.tmp 169) (Operand.tmp 170), type := 0, pos := "law.go:89", after := #[{ on := 4, ground := Ground.data }, { on := 5, ground := Ground.data }], guard := none }) (v := ?v36) rfl (by kernel_rfl) (by kernel_rfl) (by kernel_rfl) (fun _ _ _ h => h) (Or.inl ⟨by rfl, ?y36⟩) (by assumption) ?r36
                      case y36 => (intro w hSw; (try dsimp only at hSw); (try (go_split_ands)); go_simp; try with_reducible rfl)
                      try simp only [Act.put, List.setIfInBounds_toArray, List.set_cons_zero, List.set_cons_succ]
                      refine wpAnyH_take (i := 7) (oi := { dst := some 172, op := Op.load 3 (Operand.tmp 171), type := 3, pos := "law.go:89", after := #[{ on := 6, ground := Ground.data }], guard := none }) (v := ?v37) rfl (by kernel_rfl) (by kernel_rfl) (by kernel_rfl) (fun _ _ _ h => h) (Or.inl ⟨by rfl, ?y37⟩) (by assumption) ?r37
                      case y37 => (intro w hSw; (try dsimp only at hSw); (try (go_split_ands)); go_simp; try with_reducible rfl)
                      try simp only [Act.put, List.setIfInBounds_toArray, List.set_cons_zero, List.set_cons_succ]
                      refine wpAnyH_take (i := 8) (oi := { dst := some 173, op := Op.binOp BinOp.neq 3 (Operand.tmp 168) (Operand.tmp 172) 3, type := 4, pos := "law.go:89", after := #[{ on := 3, ground := Ground.data }, { on := 7, ground := Ground.data }], guard := none }) (v := ?v38) rfl (by kernel_rfl) (by kernel_rfl) (by kernel_rfl) (fun _ _ _ h => h) (Or.inl ⟨by rfl, ?y38⟩) (by assumption) ?r38
                      case y38 => (intro w hSw; (try dsimp only at hSw); (try (go_split_ands)); go_simp; try with_reducible rfl)
                      try simp only [Act.put, List.setIfInBounds_toArray, List.set_cons_zero, List.set_cons_succ]
                      refine wpAnyH_done (by kernel_rfl) ?_ _
                      refine NoPanic.normal ?_
                      have hBi2 := hide (hBi.out.later (below_drewN (Below.refl _ _) 1))
                      go_wp2
                      go_round
                      case rel => exact ⟨t + 1, by omega, by go_num, hBi2⟩
                      case measure => simp [intOf]; omega
                    · obtain rfl : t = un := by omega
                      have h6 := hide (h5.out.below hBi.out)
                      have h7 := hide h6.out.gone
                      clear hqg hqu h5 hBi
                      go_wp2_with ((with_reducible change wpList _ _ _ _ _ _); refine stop_store 28 (.tmp 6) (.tmp 175) rfl ?_)
                      refine hide ?_
                      refine wpList_store_row rfl 28 (.tmp 6) (.tmp 175) rfl R (rowM (List.replicate 8 Mw.none)).toArray rfl rfl 28 _ h6.out.mt.at_r (rowMSize _ rfl) ?_ nil8_one ?_
                      · rw [List.size_toArray, List.size_toArray, rowM_length, rowM_length, h6.out.mt.len]
                        rfl
                      clear h6
                      simp only [Act.put]
                      generalize World.setRow _ R (rowM (List.replicate 8 Mw.none)).toArray = w7 at *
                      have hSF : Hid _ := h7
                      have hmsz := rowMSize _ hSF.out.mt.len
                      have hFE := hide (show ∀ k, k < 8 → ((fun _ => ([] : List Int)) k : List Int).length ≤ j + 1 from fun k hk => Nat.zero_le _)
                      have hLE := hide (fun k hk => Nat.le_trans (hL.out k hk) (Nat.le_succ _))
                      go_wp2_with ((with_reducible change wpList _ _ _ _ _ _); refine stop_load 28 (.tmp 6) rfl ?_)
                      refine hide ?_
                      refine wpList_load_row_on rfl 28 (.tmp 6) rfl R rfl 28 _ _ _ hSF.out.mt.at_r Try.underlying28 rfl hmsz ?_
                      refine wpList_load_row_on rfl 22 (.tmp 7) rfl L rfl 22 _ _ _ hSF.out.at_l Try.underlying22 rfl (lostSize _) ?_
                      simp only [Act.put, List.setIfInBounds_toArray, List.set_cons_zero, List.set_cons_succ]
                      go_wp2_with fail
                      refine (Ssame hSF.out (fun k hk => by have := hFE.out k hk; omega) (fun k hk => by have := hLE.out k hk; omega)).mono ?_
                      rintro e wF ⟨rfl, hbF⟩
                      have hSG : Hid (Keep w wF g w.heap.size R L BS bb (j + 1)) := ⟨_, _, _, _, hSF.out.below hbF, hFE.out, hLE.out⟩
                      clear hSF hbF hFE hLE
                      go_wp2
                      go_round
                      case rel => exact ⟨j + 1, by omega, by go_num, hSG⟩
                      case measure => simp [intOf]; omega
            · have z1 : decide (0 ≤ cl) = true := decide_eq_true (by omega)
              clear hneg
              have hmsz := rowMSize _ hS4.out.mt.len
              have hF4 : Hid (∀ k, k < 8 → (f k).length ≤ 10000) := fun k hk => by have := hF.out k hk; omega
              go_wp2_with ((with_reducible change wpList _ _ _ _ _ _); refine wpList_load_row rfl 28 (.tmp 6) rfl R rfl 28 _ _ _ hS4.out.mt.at_r Try.underlying28 rfl hmsz ?_)
              generalize wr.alloc (.cells #[.int .i64 3, .int .i64 cl, .int .i64 id] 30) = w4 at *
              have hix := hide (fun t ht => mrow_at ms hS4.out.mt.len t ht)
              generalize (rowM ms).toArray = RM at *
              go_loopw [15, 146] (fun x i wi => ∃ t : Nat, t ≤ 8 ∧ i = .int .i64 t ∧ (∃ a n c, x = .slice a n c ∧ Hid (Wn w4 wi (.slice a n c) (catF f t)))) (fun _ i _ => 8 - (intOf i).toNat)
              case atStart => exact ⟨0, Nat.zero_le _, rfl, _, _, _, rfl, hide ⟨Qe.nil _, fun c e => by simp [Value.ownBlock] at e, Below.refl _ _⟩⟩
              case round =>
                obtain ⟨t, ht, rfl, ua, un, uc, rfl, hWn⟩ := hrel
                by_cases htl : t < 8
                · have hx := hix.out t htl
                  have hrow := hS4.out.mt.row t htl
                  rw [hS4.out.mv t htl] at hrow
                  obtain ⟨ra, rc, hsh⟩ := hrow.shape
                  rw [hsh] at hx hrow
                  replace hrow := hide (hrow.below hWn.out.2.2)
                  have hsz : Hid ((catF f t).length + (f t).length ≤ 1000000) := by
                    have h1 := allF_le f hF4.out t (by omega)
                    have h2 := hF4.out t htl
                    show _ ≤ _
                    rw [catF_len]
                    omega
                  clear hsh
                  generalize hft : f t = ft at *
                  replace hft := hide hft
                  generalize hrl : ft.length = rl at *
                  replace hrl := hide hrl
                  go_wp2_with (at_builtin; refine wpList_append_qq rfl (.tmp 149) (.tmp 150) rfl (.slice ua un uc) (.slice ra rl rc) (catF f t) ft rfl hWn.out.1 rfl hrow.out (by rw [hrl.out]; exact hsz.out) ?_)
                  intro v' w1 hq1 hgr hl
                  obtain ⟨va, vc, rfl⟩ := hq1.shape
                  have hst := hide (hWn.out.step (show Qe w1 _ (catF f (t + 1)) by rw [catF, hft.out]; exact hq1) hgr hl)
                  clear hq1 hgr hl hrow hx hWn
                  generalize (catF f t ++ ft).length = m at *
                  go_wp2
                  go_round
                  case rel => exact ⟨t + 1, by omega, by go_num, _, _, _, rfl, hst⟩
                  case measure => simp [intOf]; omega
                · obtain rfl : t = 8 := by omega
                  obtain ⟨hq8, hn8, hb8⟩ := hWn.out
                  have hunE : un = (catF f 8).length := by
                    obtain ⟨a', c', e⟩ := hq8.shape
                    simp only [Value.slice.injEq] at e
                    exact e.2.1
                  have hP := hide (SFlush (hS4.out.below hb8) hF4.out hS4.out (.slice ua un uc) (catF f 8) hq8 hn8)
                  have hcl : Hid ((catF f 8).length ≤ 1000000) := by
                    have h1 := allF_le f hF4.out 8 (Nat.le_refl _)
                    show _ ≤ _
                    rw [catF_len]
                    omega
                  generalize hcf : catF f 8 = cf at *
                  clear hcf hq8 hn8 hWn hb8 hix
                  replace hunE := hide hunE
                  go_wp2_with fail
                  refine hP.out.mono ?_
                  rintro e w5 ⟨ga2, gc2, rfl, hqg, hqu, rs', h5⟩
                  replace h5 := hide h5
                  rw [← hunE.out] at hqg
                  rw [← hunE.out]
                  replace hqg := hide hqg
                  replace hqu := hide hqu
                  have hu63 : Hid (un ≤ 1000000) := by
                    show _ ≤ _
                    rw [hunE.out]
                    exact hcl.out
                  have hu63' := hu63.out
                  clear hP
                  go_wp2
                  go_loopw [162] (fun i wi => ∃ t : Nat, t ≤ un ∧ i = .int .i64 t ∧ Hid (Below w5.heap.size w5 wi)) (fun i _ => un - (intOf i).toNat)
                  case atStart => exact ⟨0, Nat.zero_le _, rfl, hide (Below.refl _ _)⟩
                  case round =>
                    obtain ⟨t, ht, rfl, hBi⟩ := hrel
                    by_cases htl : t < un
                    · obtain ⟨-, lb, lo, rfl, c1⟩ := hqg.out.cellsAt t htl
                      obtain ⟨-, rb, ro, rfl, c2⟩ := hqu.out.cellsAt t htl
                      have l1 := block_lt_of_cell c1
                      have l2 := block_lt_of_cell c2
                      have c1' : Hid (∀ W : World, Below w5.heap.size w5 W → W.cell? ⟨lb, lo + t, none⟩ = some (.int .i64 (cf.getD t 0)) ∧ W.cell? ⟨rb, ro + t, none⟩ = some (.int .i64 (cf.getD t 0))) := fun W hW =>
                        ⟨(hW.cell (p := ⟨lb, lo + t, none⟩) l1).trans c1, (hW.cell (p := ⟨rb, ro + t, none⟩) l2).trans c2⟩
                      clear c1 c2
                      generalize cf.getD t 0 = z at *
                      go_wp2_with fail
                      refine wp_region_noPanic ?_
                      refine wp_region_held_drew (S := fun W => W.cell? ⟨lb, lo + t, none⟩ = some (.int .i64 z) ∧ W.cell? ⟨rb, ro + t, none⟩ = some (.int .i64 z)) (by kernel_rfl) (c1'.out _ (hBi.out.later (below_drewN (Below.refl _ _) 1))) (fun hHeld => ?_)
                      refine wpAnyH_take (i := 0) (oi := { dst := some 165, op := Op.move (Operand.tmp 18), type := 27, pos := "law.go:89", after := #[], guard := none }) (v := ?v39) rfl (by kernel_rfl) (by kernel_rfl) (by kernel_rfl) (fun _ _ _ h => h) (Or.inl ⟨by rfl, ?y39⟩) (by assumption) ?r39
                      case y39 => (intro w hSw; (try dsimp only at hSw); (try (go_split_ands)); go_simp; try with_reducible rfl)
                      try simp only [Act.put, List.setIfInBounds_toArray, List.set_cons_zero, List.set_cons_succ]
                      refine wpAnyH_take (i := 1) (oi := { dst := some 166, op := Op.move (Operand.tmp 19), type := 3, pos := "law.go:89", after := #[], guard := none }) (v := ?v40) rfl (by kernel_rfl) (by kernel_rfl) (by kernel_rfl) (fun _ _ _ h => h) (Or.inl ⟨by rfl, ?y40⟩) (by assumption) ?r40
                      case y40 => (intro w hSw; (try dsimp only at hSw); (try (go_split_ands)); go_simp; try with_reducible rfl)
                      try simp only [Act.put, List.setIfInBounds_toArray, List.set_cons_zero, List.set_cons_succ]
                      refine wpAnyH_take (i := 2) (oi := { dst := some 167, op := Op.indexAddr 27 (Operand.tmp 165) (Operand.tmp 166), type := 0, pos := "law.go:89", after := #[{ on := 0, ground := Ground.data }, { on := 1, ground := Ground.data }], guard := none }) (v := ?v41) rfl (by kernel_rfl) (by kernel_rfl) (by kernel_rfl) (fun _ _ _ h => h) (Or.inl ⟨by rfl, ?y41⟩) (by assumption) ?r41
                      case y41 => (intro w hSw; (try dsimp only at hSw); (try (go_split_ands)); go_simp; try with_reducible rfl)
                      try simp only [Act.put, List.setIfInBounds_toArray, List.set_cons_zero, List.set_cons_succ]
                      refine wpAnyH_take (i := 3) (oi := { dst := some 168, op := Op.load 3 (Operand.tmp 167), type := 3, pos := "law.go:89", after := #[{ on := 2, ground := Ground.data }], guard := none }) (v := ?v42) rfl (by kernel_rfl) (by kernel_rfl) (by kernel_rfl) (fun _ _ _ h => h) (Or.inl ⟨by rfl, ?y42⟩) (by assumption) ?r42
                      case y42 => (intro w hSw; (try dsimp only at hSw); (try (go_split_ands)); go_simp; try with_reducible rfl)
                      try simp only [Act.put, List.setIfInBounds_toArray, List.set_cons_zero, List.set_cons_succ]
                      refine wpAnyH_take (i := 4) (oi := { dst := some 169, op := Op.move (Operand.tmp 15), type := 27, pos := "law.go:89", after := #[], guard := none }) (v := ?v43) rfl (by kernel_rfl) (by kernel_rfl) (by kernel_rfl) (fun _ _ _ h => h) (Or.inl ⟨by rfl, ?y43⟩) (by assumption) ?r43
                      case y43 => (intro w hSw; (try dsimp only at hSw); (try (go_split_ands)); go_simp; try with_reducible rfl)
                      try simp only [Act.put, List.setIfInBounds_toArray, List.set_cons_zero, List.set_cons_succ]
                      refine wpAnyH_take (i := 5) (oi := { dst := some 170, op := Op.move (Operand.tmp 19), type := 3, pos := "law.go:89", after := #[], guard := none }) (v := ?v44) rfl (by kernel_rfl) (by kernel_rfl) (by kernel_rfl) (fun _ _ _ h => h) (Or.inl ⟨by rfl, ?y44⟩) (by assumption) ?r44
                      case y44 => (intro w hSw; (try dsimp only at hSw); (try (go_split_ands)); go_simp; try with_reducible rfl)
                      try simp only [Act.put, List.setIfInBounds_toArray, List.set_cons_zero, List.set_cons_succ]
                      refine wpAnyH_take (i := 6) (oi := { dst := some 171, op := Op.indexAddr 27 (Operand.tmp 169) (Operand.tmp 170), type := 0, pos := "law.go:89", after := #[{ on := 4, ground := Ground.data }, { on := 5, ground := Ground.data }], guard := none }) (v := ?v45) rfl (by kernel_rfl) (by kernel_rfl) (by kernel_rfl) (fun _ _ _ h => h) (Or.inl ⟨by rfl, ?y45⟩) (by assumption) ?r45
                      case y45 => (intro w hSw; (try dsimp only at hSw); (try (go_split_ands)); go_simp; try with_reducible rfl)
                      try simp only [Act.put, List.setIfInBounds_toArray, List.set_cons_zero, List.set_cons_succ]
                      refine wpAnyH_take (i := 7) (oi := { dst := some 172, op := Op.load 3 (Operand.tmp 171), type := 3, pos := "law.go:89", after := #[{ on := 6, ground := Ground.data }], guard := none }) (v := ?v46) rfl (by kernel_rfl) (by kernel_rfl) (by kernel_rfl) (fun _ _ _ h => h) (Or.inl ⟨by rfl, ?y46⟩) (by assumption) ?r46
                      case y46 => (intro w hSw; (try dsimp only at hSw); (try (go_split_ands)); go_simp; try with_reducible rfl)
                      try simp only [Act.put, List.setIfInBounds_toArray, List.set_cons_zero, List.set_cons_succ]
                      refine wpAnyH_take (i := 8) (oi := { dst := some 173, op := Op.binOp BinOp.neq 3 (Operand.tmp 168) (Operand.tmp 172) 3, type := 4, pos := "law.go:89", after := #[{ on := 3, ground := Ground.data }, { on := 7, ground := Ground.data }], guard := none }) (v := ?v47) rfl (by kernel_rfl) (by kernel_rfl) (by kernel_rfl) (fun _ _ _ h => h) (Or.inl ⟨by rfl, ?y47⟩) (by assumption) ?r47
                      case y47 => (intro w hSw; (try dsimp only at hSw); (try (go_split_ands)); go_simp; try with_reducible rfl)
                      try simp only [Act.put, List.setIfInBounds_toArray, List.set_cons_zero, List.set_cons_succ]
                      refine wpAnyH_done (by kernel_rfl) ?_ _
                      refine NoPanic.normal ?_
                      have hBi2 := hide (hBi.out.later (below_drewN (Below.refl _ _) 1))
                      go_wp2
                      go_round
                      case rel => exact ⟨t + 1, by omega, by go_num, hBi2⟩
                      case measure => simp [intOf]; omega
                    · obtain rfl : t = un := by omega
                      have h6 := hide (h5.out.below hBi.out)
                      have h7 := hide h6.out.gone
                      clear hqg hqu h5 hBi
                      go_wp2_with ((with_reducible change wpList _ _ _ _ _ _); refine stop_store 28 (.tmp 6) (.tmp 175) rfl ?_)
                      refine hide ?_
                      refine wpList_store_row rfl 28 (.tmp 6) (.tmp 175) rfl R (rowM (List.replicate 8 Mw.none)).toArray rfl rfl 28 _ h6.out.mt.at_r (rowMSize _ rfl) ?_ nil8_one ?_
                      · rw [List.size_toArray, List.size_toArray, rowM_length, rowM_length, h6.out.mt.len]
                        rfl
                      clear h6
                      simp only [Act.put]
                      generalize World.setRow _ R (rowM (List.replicate 8 Mw.none)).toArray = w7 at *
                      have hSF : Hid _ := h7
                      have hmsz := rowMSize _ hSF.out.mt.len
                      have hFE := hide (show ∀ k, k < 8 → ((fun _ => ([] : List Int)) k : List Int).length ≤ j + 1 from fun k hk => Nat.zero_le _)
                      have hLE := hide (fun k hk => Nat.le_trans (hL.out k hk) (Nat.le_succ _))
                      go_wp2_with ((with_reducible change wpList _ _ _ _ _ _); refine stop_load 28 (.tmp 6) rfl ?_)
                      refine hide ?_
                      refine wpList_load_row_on rfl 28 (.tmp 6) rfl R rfl 28 _ _ _ hSF.out.mt.at_r Try.underlying28 rfl hmsz ?_
                      refine wpList_load_row_on rfl 22 (.tmp 7) rfl L rfl 22 _ _ _ hSF.out.at_l Try.underlying22 rfl (lostSize _) ?_
                      simp only [Act.put, List.setIfInBounds_toArray, List.set_cons_zero, List.set_cons_succ]
                      go_wp2_with fail
                      refine (Ssame hSF.out (fun k hk => by have := hFE.out k hk; omega) (fun k hk => by have := hLE.out k hk; omega)).mono ?_
                      rintro e wF ⟨rfl, hbF⟩
                      have hSG : Hid (Keep w wF g w.heap.size R L BS bb (j + 1)) := ⟨_, _, _, _, hSF.out.below hbF, hFE.out, hLE.out⟩
                      clear hSF hbF hFE hLE
                      go_wp2
                      go_round
                      case rel => exact ⟨j + 1, by omega, by go_num, hSG⟩
                      case measure => simp [intOf]; omega
        as_aux_lemma =>
          have q0 : (kd == 0) = false := by rw [beq_eq_false_iff_ne]; exact h0
          have q1 : (kd == 1) = false := by rw [beq_eq_false_iff_ne]; exact h1
          have q2 : (kd == 2) = false := by rw [beq_eq_false_iff_ne]; exact h2
          have q3 : (kd == 3) = false := by rw [beq_eq_false_iff_ne]; exact h3
          clear h0 h1 h2 h3
          by_cases hneg : cl < 0
          · have z1 : decide (0 ≤ cl) = false := decide_eq_false (by omega)
            clear hneg
            have hSF : Hid _ := hS4
            have hmsz := rowMSize _ hSF.out.mt.len
            have hFE := hide (fun k hk => Nat.le_trans (hF.out k hk) (Nat.le_succ _))
            have hLE := hide (fun k hk => Nat.le_trans (hL.out k hk) (Nat.le_succ _))
            go_wp2_with ((with_reducible change wpList _ _ _ _ _ _); refine stop_load 28 (.tmp 6) rfl ?_)
            refine hide ?_
            refine wpList_load_row_on rfl 28 (.tmp 6) rfl R rfl 28 _ _ _ hSF.out.mt.at_r Try.underlying28 rfl hmsz ?_
            refine wpList_load_row_on rfl 22 (.tmp 7) rfl L rfl 22 _ _ _ hSF.out.at_l Try.underlying22 rfl (lostSize _) ?_
            simp only [Act.put, List.setIfInBounds_toArray, List.set_cons_zero, List.set_cons_succ]
            go_wp2_with fail
            refine (Ssame hSF.out (fun k hk => by have := hFE.out k hk; omega) (fun k hk => by have := hLE.out k hk; omega)).mono ?_
            rintro e wF ⟨rfl, hbF⟩
            have hSG : Hid (Keep w wF g w.heap.size R L BS bb (j + 1)) := ⟨_, _, _, _, hSF.out.below hbF, hFE.out, hLE.out⟩
            clear hSF hbF hFE hLE
            go_wp2
            go_round
            case rel => exact ⟨j + 1, by omega, by go_num, hSG⟩
            case measure => simp [intOf]; omega
          · have z1 : decide (0 ≤ cl) = true := decide_eq_true (by omega)
            clear hneg
            have hSF : Hid _ := hS4
            have hmsz := rowMSize _ hSF.out.mt.len
            have hFE := hide (fun k hk => Nat.le_trans (hF.out k hk) (Nat.le_succ _))
            have hLE := hide (fun k hk => Nat.le_trans (hL.out k hk) (Nat.le_succ _))
            go_wp2_with ((with_reducible change wpList _ _ _ _ _ _); refine stop_load 28 (.tmp 6) rfl ?_)
            refine hide ?_
            refine wpList_load_row_on rfl 28 (.tmp 6) rfl R rfl 28 _ _ _ hSF.out.mt.at_r Try.underlying28 rfl hmsz ?_
            refine wpList_load_row_on rfl 22 (.tmp 7) rfl L rfl 22 _ _ _ hSF.out.at_l Try.underlying22 rfl (lostSize _) ?_
            simp only [Act.put, List.setIfInBounds_toArray, List.set_cons_zero, List.set_cons_succ]
            go_wp2_with fail
            refine (Ssame hSF.out (fun k hk => by have := hFE.out k hk; omega) (fun k hk => by have := hLE.out k hk; omega)).mono ?_
            rintro e wF ⟨rfl, hbF⟩
            have hSG : Hid (Keep w wF g w.heap.size R L BS bb (j + 1)) := ⟨_, _, _, _, hSF.out.below hbF, hFE.out, hLE.out⟩
            clear hSF hbF hFE hLE
            go_wp2
            go_round
            case rel => exact ⟨j + 1, by omega, by go_num, hSG⟩
            case measure => simp [intOf]; omega
      · obtain rfl : j = n := by omega
        as_aux_lemma =>
          have hmsz := rowMSize _ hS.out.mt.len
          go_wp2_with ((with_reducible change wpList _ _ _ _ _ _); refine stop_load 28 (.tmp 6) rfl ?_)
          refine hide ?_
          refine wpList_load_row_on rfl 28 (.tmp 6) rfl R rfl 28 _ _ _ hS.out.mt.at_r Try.underlying28 rfl hmsz ?_
          refine wpList_load_row_on rfl 22 (.tmp 7) rfl L rfl 22 _ _ _ hS.out.at_l Try.underlying22 rfl (lostSize _) ?_
          simp only [Act.put, List.setIfInBounds_toArray, List.set_cons_zero, List.set_cons_succ]
          go_wp2_with fail
          refine (Ssame hS.out (fun k hk => by have := hF.out k hk; omega) (fun k hk => by have := hL.out k hk; omega)).mono ?_
          rintro e wF ⟨rfl, hbF⟩
          have hend := hide (hS.out.bel.later hbF)
          clear hbF
          go_wp2_with fail
          refine (Len_range (some ⟨g, 0, none⟩) (-1) _ (by omega)).mono ?_
          rintro e w5 ⟨rfl, rfl⟩
          go_wp2_with fail
          refine (Len_range (some ⟨g, 0, none⟩) 8 _ (by omega)).mono ?_
          rintro e w5 ⟨rfl, rfl⟩
          go_wp2_with fail
          refine (Lost_range (some ⟨g, 0, none⟩) 9 _ (by omega)).mono ?_
          rintro e w5 ⟨rfl, rfl⟩
          go_wp2_with fail
          refine (List_range (some ⟨g, 0, none⟩) 8 _ (by omega)).mono ?_
          rintro e w5 ⟨rfl, rfl⟩
          go_wp2
          go_ret
          exact ⟨rfl, hend.out⟩
end Go.Proofs.Ytjfjohbibkidhaa
