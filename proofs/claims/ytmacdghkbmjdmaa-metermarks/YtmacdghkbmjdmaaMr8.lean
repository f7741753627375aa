/-
  The walk of MeterMarks. Conditions: those that each theorem names.
-/
import Derived.Test.YtmacdghkbmjdmaaMr7
namespace Go.Proofs.Ytmacdghkbmjdmaa
open Go.RowKit
set_option linter.unusedVariables false
set_option linter.unusedSimpArgs false
set_option maxRecDepth 20000

theorem Take_no {w : World} {b : Nat} {X Y r m x : Int} (h : BR w b X Y r m) (hx : X < x) :
    Calls Try.prog 17 #[.pointer (some ⟨b, 0, none⟩), .int .i64 x] w fun e w' => e = .returned (.bool false) ∧ w' = w := by
  have k0 := h.c0
  clear h
  go_enter Try.func17, Try.ntmps17
  go_wp2
  go_ret
  exact ⟨rfl, rfl⟩
theorem Take_yes {w : World} {b : Nat} {X Y r m x : Int} (h : BR w b X Y r m) (hx : x ≤ X) (h0 : 0 ≤ x) (hX : X ≤ 100000000000) :
    Calls Try.prog 17 #[.pointer (some ⟨b, 0, none⟩), .int .i64 x] w fun e w' => e = .returned (.bool true) ∧ BR w' b (X - x) Y r m ∧ Ch (· = b) w w' := by
  have k0 := h.c0
  have z0 := h.fz 0
  have hR := hide (h.set0 (X - x))
  have hC : Hid (Ch (· = b) w (w.setCell ⟨b, 0, none⟩ (.int .i64 (X - x)))) := (Ch.refl _ _).set _
  clear h
  go_enter Try.func17, Try.ntmps17
  go_wp2
  go_ret
  exact ⟨rfl, hR.out, hC.out⟩
/-- What is not the meter's may be written. -/
theorem Om.wrote {W w w' : World} {t : Nat} {M : Mm} {K : Int} {S : Nat → Prop} (h : Om W w t M K) (hc : Ch S w w') (hS : ∀ k, S k → W.heap.size ≤ k ∧ k ≠ t) : Om W w' t M K :=
  ⟨h.at_.blk (hc.block t h.at_.lt (fun e => (hS t e).2 rfl)), h.ok, h.new, hc.below h.bel h.bel.size (fun k e => (hS k e).1)⟩
theorem BR.wrote {w w' : World} {b : Nat} {x y r m : Int} {S : Nat → Prop} (h : BR w b x y r m) (hc : Ch S w w') (hS : ¬ S b) : BR w' b x y r m := h.blk (hc.block b h.lt hS)
theorem fillN_zero (r f l : Int) (hlf : l ≤ f) (hr : 0 ≤ r) : fillN r f l 0 = l := by
  unfold fillN
  rw [if_neg (fun h => by have := Int.ediv_nonneg (show 0 ≤ f - l by omega) hr; omega), Int.mul_zero, Int.add_zero]
theorem passM_l {M : Mm} {K d : Int} (h : M.ok K) (hd : 0 ≤ d) : passM M (M.now + d) = { M with l0 := fillN M.r0 M.f0 M.l0 d, l1 := fillN M.r1 M.f1 M.l1 d, now := M.now + d } := by
  unfold passM
  by_cases h0 : d = 0
  · subst h0
    rw [if_pos (by omega), fillN_zero _ _ _ h.l0.2 h.r0.1, fillN_zero _ _ _ h.l1.2 h.r1.1, Int.add_zero]
  · rw [if_neg (by omega), show M.now + d - M.now = d by omega]
/-- More than any bucket holds is as good as one byte too many. -/
theorem need_same {M : Mm} {K n : Int} (h : M.ok K) : takeC M (needN n) = takeC M (8 * max n 0 * 1000000000) ∧ takeM M (needN n) = takeM M (8 * max n 0 * 1000000000) := by
  have h1 := h.l0
  have h2 := h.l1
  have h3 := h.f0
  have h4 := h.f1
  by_cases hb : 1048577 < n
  · have e : needN n = 1048577 * 8000000000 := by unfold needN; rw [if_neg (by omega), if_pos hb]
    rw [e]
    unfold takeC takeM
    rw [if_neg (by omega), if_neg (by omega), if_neg (by omega), if_neg (by omega), if_neg (by omega), if_neg (by omega), if_neg (by omega), if_neg (by omega)]
    exact ⟨rfl, rfl⟩
  · have e : needN n = 8 * max n 0 * 1000000000 := by
      unfold needN
      split
      · rw [show max n 0 = 0 by omega]; rfl
      · rw [show max n 0 = n by omega]; omega
    rw [e]
    exact ⟨rfl, rfl⟩
theorem ediv8 (l : Int) : l / 1000000000 / 8 = l / 8000000000 := by omega
set_option maxHeartbeats 2000000 in
theorem Marks_walk (c : Mc) (b : Option Addr) (n cap : Nat) (V : List Pq) (w : World) (hV : Hid (Prs w b n V)) (hn : n ≤ maxLen) :
    Calls Try.prog 3 #[.agg (fC c).toArray, .slice b n cap] w fun e w' => e = .returned (.bool true) ∧ Below w.heap.size w w' := by
  unfold maxLen at hn
  have hr := hide (heap_alloc_new w (.cells (fC c).toArray 23))
  have hb := hide (below1 w (.cells (fC c).toArray 23))
  have hc := hide (fun w => Check_any c w)
  have hz := cfgSize c
  have hN := hide (fun (h : c.may = true) w' => ONew c h w' w' (Below.refl _ _))
  have hNb := hide (fun (h : c.may = false) w' => New_bad c h w')
  generalize hx : c.may = x at *
  replace hx := hide hx
  go_enter Try.func3, Try.ntmps3
  generalize hE : (fC c).toArray = E at *
  replace hE := hide hE
  go_wp2_with fail
  refine (marks_any _).mono ?_
  rintro e1 w2 ⟨rfl, hb2⟩
  have hr2 := hide (heap_kept hb2 hr.out)
  have hB2 := hide (hb.out.later hb2)
  clear hr hb hb2
  by_cases h100 : (100 : Int) < (n : Int)
  · go_wp2
    go_ret
    exact ⟨rfl, hB2.out⟩
  have hd100 : decide ((100 : Int) < (n : Int)) = false := decide_eq_false h100
  go_wp2_with ((with_reducible change wpList _ _ _ _ _ _); refine wpList_load_row rfl 23 (.tmp 2) rfl w.heap.size rfl 23 _ _ _ hr2.out Try.underlying23 rfl hz ?_)
  cases x
  · refine (hNb.out rfl _).mono ?_
    rintro e1 w3 ⟨rfl, hb3⟩
    have hr3 := hide (heap_kept hb3 hr2.out)
    have hB3 := hide (hB2.out.later hb3)
    clear hr2 hB2 hb3 hNb
    go_wp2_with ((with_reducible change wpList _ _ _ _ _ _); refine wpList_load_row rfl 23 (.tmp 2) rfl w.heap.size rfl 23 _ _ _ hr3.out Try.underlying23 rfl hz ?_)
    refine (hc.out _).mono ?_
    rintro e1 w4 ⟨rfl, hb4⟩
    have hB4 := hide (hB3.out.later hb4)
    clear hr3 hB3 hb4 hc
    simp only [Bool.false_eq_true, if_false]
    go_wp2
    go_ret
    exact ⟨rfl, hB4.out⟩
  refine (hN.out rfl w2).mono ?_
  rintro e1 w3 ⟨t, rfl, H3⟩
  have hr3 := hide (heap_kept H3.bel hr2.out)
  replace H3 := hide H3
  clear hN hNb
  go_wp2_with ((with_reducible change wpList _ _ _ _ _ _); refine wpList_load_row rfl 23 (.tmp 2) rfl w.heap.size rfl 23 _ _ _ hr3.out Try.underlying23 rfl hz ?_)
  refine (hc.out _).mono ?_
  rintro e1 w4 ⟨rfl, hb4⟩
  have H4 := hide (H3.out.later hb4)
  have hr4 := hide (heap_kept hb4 hr3.out)
  clear hr3 hb4 hc H3
  simp only [if_true]
  have hcr : Hid ((0 ≤ c.r ∧ c.r ≤ 10000000000) ∧ (0 ≤ c.e ∧ c.e ≤ 10000000000) ∧ (0 ≤ c.b ∧ c.b ≤ 1048576) ∧ (0 ≤ c.s ∧ c.s ≤ 1048576)) := (may_iff c).1 hx.out
  have hrw := hr4.out
  rw [← hE.out] at hrw
  have k0 : w4.cell? ⟨w.heap.size, 0, none⟩ = some (.int .i64 c.r) := (cell_of_row _ _ _ _ _ _ hrw).trans rfl
  have k1 : w4.cell? ⟨w.heap.size, 1, none⟩ = some (.int .i64 c.b) := (cell_of_row _ _ _ _ _ _ hrw).trans rfl
  have k2 : w4.cell? ⟨w.heap.size, 2, none⟩ = some (.int .i64 c.e) := (cell_of_row _ _ _ _ _ _ hrw).trans rfl
  have k3 : w4.cell? ⟨w.heap.size, 3, none⟩ = some (.int .i64 c.s) := (cell_of_row _ _ _ _ _ _ hrw).trans rfl
  obtain ⟨⟨ub1, ub2⟩, ⟨ub3, ub4⟩, ⟨ub5, ub6⟩, ⟨ub7, ub8⟩⟩ := hcr.out
  have hlc : Hid (w.heap.size < w4.heap.size) := (Array.getElem?_eq_some_iff.1 hrw).1
  clear hrw hr4 hx hr2
  have k2' : (w4.alloc (.cells #[.int .i64 (c.b * 8), .int .i64 0, .int .i64 c.r, .int .i64 (c.b * 8)] 32)).cell? ⟨w.heap.size, 2, none⟩ = some (.int .i64 c.e) := ((below1 w4 _).cell (p := ⟨w.heap.size, 2, none⟩) (block_lt_of_cell k2)).trans k2
  have k3' : (w4.alloc (.cells #[.int .i64 (c.b * 8), .int .i64 0, .int .i64 c.r, .int .i64 (c.b * 8)] 32)).cell? ⟨w.heap.size, 3, none⟩ = some (.int .i64 c.s) := ((below1 w4 _).cell (p := ⟨w.heap.size, 3, none⟩) (block_lt_of_cell k3)).trans k3
  clear k2 k3
  have hb5 : Hid (Below w4.heap.size w4 (((w4.alloc (.cells #[.int .i64 (c.b * 8), .int .i64 0, .int .i64 c.r, .int .i64 (c.b * 8)] 32)).alloc (.cells #[.int .i64 (c.s * 8), .int .i64 0, .int .i64 c.e, .int .i64 (c.s * 8)] 32)).alloc (.cells #[.int .i64 0, .int .i64 0, .int .i64 0] 33))) := ((below1 _ _).later (below1 _ _)).later (below1 _ _)
  have hG5 : Hid (BR (((w4.alloc (.cells #[.int .i64 (c.b * 8), .int .i64 0, .int .i64 c.r, .int .i64 (c.b * 8)] 32)).alloc (.cells #[.int .i64 (c.s * 8), .int .i64 0, .int .i64 c.e, .int .i64 (c.s * 8)] 32)).alloc (.cells #[.int .i64 0, .int .i64 0, .int .i64 0] 33)) w4.heap.size ((newM c).l0 / 1000000000) ((newM c).l0 % 1000000000) c.r (c.b * 8)) := by
    have : BR (((w4.alloc (.cells #[.int .i64 (c.b * 8), .int .i64 0, .int .i64 c.r, .int .i64 (c.b * 8)] 32)).alloc (.cells #[.int .i64 (c.s * 8), .int .i64 0, .int .i64 c.e, .int .i64 (c.s * 8)] 32)).alloc (.cells #[.int .i64 0, .int .i64 0, .int .i64 0] 33)) w4.heap.size (c.b * 8) 0 c.r (c.b * 8) := heap_kept ((below1 _ _).later (below1 _ _)) (heap_alloc_new w4 _)
    rw [(newM_r0 c).2.1, show c.b * 8000000000 / 1000000000 = c.b * 8 by omega, show c.b * 8000000000 % 1000000000 = 0 by omega]
    exact this
  have hY5 : Hid (BR (((w4.alloc (.cells #[.int .i64 (c.b * 8), .int .i64 0, .int .i64 c.r, .int .i64 (c.b * 8)] 32)).alloc (.cells #[.int .i64 (c.s * 8), .int .i64 0, .int .i64 c.e, .int .i64 (c.s * 8)] 32)).alloc (.cells #[.int .i64 0, .int .i64 0, .int .i64 0] 33)) (w4.heap.size + 1) ((newM c).l1 / 1000000000) ((newM c).l1 % 1000000000) c.e (c.s * 8)) := by
    have : BR (((w4.alloc (.cells #[.int .i64 (c.b * 8), .int .i64 0, .int .i64 c.r, .int .i64 (c.b * 8)] 32)).alloc (.cells #[.int .i64 (c.s * 8), .int .i64 0, .int .i64 c.e, .int .i64 (c.s * 8)] 32)).alloc (.cells #[.int .i64 0, .int .i64 0, .int .i64 0] 33)) (w4.heap.size + 1) (c.s * 8) 0 c.e (c.s * 8) := by
      rw [← World.size_alloc w4 (.cells #[.int .i64 (c.b * 8), .int .i64 0, .int .i64 c.r, .int .i64 (c.b * 8)] 32)]
      exact heap_kept (below1 _ _) (heap_alloc_new (w4.alloc (.cells #[.int .i64 (c.b * 8), .int .i64 0, .int .i64 c.r, .int .i64 (c.b * 8)] 32)) (.cells #[.int .i64 (c.s * 8), .int .i64 0, .int .i64 c.e, .int .i64 (c.s * 8)] 32))
    rw [show (newM c).l1 = c.s * 8000000000 from rfl, show c.s * 8000000000 / 1000000000 = c.s * 8 by omega, show c.s * 8000000000 % 1000000000 = 0 by omega]
    exact this
  have hC5 : Hid ((((w4.alloc (.cells #[.int .i64 (c.b * 8), .int .i64 0, .int .i64 c.r, .int .i64 (c.b * 8)] 32)).alloc (.cells #[.int .i64 (c.s * 8), .int .i64 0, .int .i64 c.e, .int .i64 (c.s * 8)] 32)).alloc (.cells #[.int .i64 0, .int .i64 0, .int .i64 0] 33)).heap[w4.heap.size + 2]? = some (.cells #[.int .i64 0, .int .i64 0, .int .i64 0] 33 (0, 0))) := by
    have := heap_alloc_new ((w4.alloc (.cells #[.int .i64 (c.b * 8), .int .i64 0, .int .i64 c.r, .int .i64 (c.b * 8)] 32)).alloc (.cells #[.int .i64 (c.s * 8), .int .i64 0, .int .i64 c.e, .int .i64 (c.s * 8)] 32)) (.cells #[.int .i64 0, .int .i64 0, .int .i64 0] 33)
    rw [World.size_alloc, World.size_alloc] at this
    exact this
  have hnew : Hid ((newM c).now = 0 ∧ (newM c).r0 = c.r ∧ (newM c).r1 = c.e ∧ (newM c).f0 = c.b * 8 * 1000000000 ∧ (newM c).f1 = c.s * 8 * 1000000000 ∧ (newM c).c0 = 0 ∧ (newM c).c1 = 0 ∧ (newM c).c2 = 0) := by
    refine ⟨rfl, rfl, rfl, ?_, ?_, rfl, rfl, rfl⟩
    · show c.b * 8000000000 = _; omega
    · show c.s * 8000000000 = _; omega
  have htl : Hid (t < w4.heap.size ∧ w2.heap.size ≤ w4.heap.size) := ⟨H4.out.at_.lt, H4.out.bel.size⟩
  generalize newM c = M0 at *
  have H5 := hide (H4.out.later hb5.out)
  have hB5 := hide (hB2.out.later H5.out.bel)
  go_wp2_with fail
  generalize ((w4.alloc (.cells #[.int .i64 (c.b * 8), .int .i64 0, .int .i64 c.r, .int .i64 (c.b * 8)] 32)).alloc (.cells #[.int .i64 (c.s * 8), .int .i64 0, .int .i64 c.e, .int .i64 (c.s * 8)] 32)).alloc (.cells #[.int .i64 0, .int .i64 0, .int .i64 0] 33) = w5 at *
  generalize w4.heap.size = G at *
  clear k0 k1 k2' k3' hb5 H4 hlc w4 hB5
  have hn100 : n ≤ 100 := by omega
  generalize hbe : c.b * 8 = mb at *
  generalize hse : c.s * 8 = ms at *
  generalize c.r = cr at *
  generalize c.e = ce at *
  have hms : 0 ≤ mb ∧ mb ≤ 8388608 ∧ 0 ≤ ms ∧ ms ≤ 8388608 := by omega
  clear hbe hse ub5 ub6 ub7 ub8 hE hz hcr
  go_loopw [9, 60] (fun x i wr => ∃ (j : Nat) (l0 l1 now c0 c1 c2 : Int), j ≤ n ∧ i = .int .i64 j ∧ x = .int .i64 now ∧ Hid (Om w2 wr t ⟨cr, mb * 1000000000, l0, ce, ms * 1000000000, l1, now, c0, c1, c2⟩ (j : Int)) ∧ (0 ≤ now ∧ now ≤ 1125899906842624 * (j : Int)) ∧ Hid (BR wr G (l0 / 1000000000) (l0 % 1000000000) cr mb) ∧ Hid (BR wr (G + 1) (l1 / 1000000000) (l1 % 1000000000) ce ms) ∧ Hid (wr.heap[G + 1 + 1]? = some (.cells #[.int .i64 c0, .int .i64 c1, .int .i64 c2] 33 (0, 0)))) (fun _ i _ => n - (intOf i).toNat)
  case atStart =>
    obtain ⟨q1, q2, q3, q4, q5, q6, q7, q8⟩ := hnew.out
    have hM0 : M0 = ⟨cr, mb * 1000000000, M0.l0, ce, ms * 1000000000, M0.l1, 0, 0, 0, 0⟩ := by
      clear hG5 hY5 hC5 H5
      cases M0
      simp_all
    exact ⟨0, M0.l0, M0.l1, 0, 0, 0, 0, Nat.zero_le _, rfl, rfl, by rw [← hM0]; exact H5, by omega, hG5, hY5, hC5⟩
  case round =>
    obtain ⟨j, l0, l1, now, c0, c1, c2, hj, rfl, rfl, hO, ⟨t1, t2⟩, hG, hY, hCt⟩ := hrel
    clear H5 hG5 hY5 hC5 hnew
    by_cases hlt : j < n
    · obtain ⟨hIn, hwf⟩ := hV.out.below (hB2.out.later hO.out.bel)
      obtain ⟨ba, off, rfl, hrg⟩ := hIn.at_i j hlt
      have hw := hwf j hlt
      replace hrg := hide hrg
      clear hIn hwf
      generalize V.getD j Pq.zero = el at *
      obtain ⟨x, y⟩ := el
      obtain ⟨⟨x1, x2⟩, ⟨y1, y2⟩⟩ := hw
      dsimp only at x1 x2 y1 y2
      go_wp2_with (first | ((with_reducible change wpList _ _ _ _ _ _); refine wpList_load_mid rfl 34 (.tmp 62) rfl ba (off + j * 2) rfl (fPq ⟨x, y⟩) _ hrg.out Try.underlying34 rfl (pqLen _) ?_) | ((with_reducible change wpList _ _ _ _ _ _); refine stop_storeB 34 (.tmp 12) (.tmp 63) rfl ?_))
      refine hide (wpList_store_fresh rfl 34 (.tmp 12) (.tmp 63) rfl (fPq ⟨x, y⟩).toArray (fPq Pq.zero).toArray rfl rfl 34 (pqSize _) rfl (pq_all _) ?_)
      intro w6 h6 hb6
      have k0 : w6.cell? ⟨wr.heap.size, 0, none⟩ = some (.int .i64 x) := (cell_of_row _ _ _ _ _ _ h6).trans rfl
      have k1 : w6.cell? ⟨wr.heap.size, 1, none⟩ = some (.int .i64 y) := (cell_of_row _ _ _ _ _ _ h6).trans rfl
      have hO6 := hide (hO.out.later hb6)
      have hG6 : Hid (BR w6 G (l0 / 1000000000) (l0 % 1000000000) cr mb) := heap_kept hb6 hG.out
      have hY6 : Hid (BR w6 (G + 1) (l1 / 1000000000) (l1 % 1000000000) ce ms) := heap_kept hb6 hY.out
      have hC6 := hide (heap_kept hb6 hCt.out)
      clear hO hrg h6 hb6 hG hY hCt
      generalize hX : min (max x 0) 1125899906842624 = d at *
      generalize hYy : min (max y (-1)) 2097152 = bb at *
      have hX2 : 0 ≤ d ∧ d ≤ 1125899906842624 := by omega
      have hY2 : -1 ≤ bb ∧ bb ≤ 2097152 := by omega
      have hmx : ∀ (ts : Array TypeId) (t : TypeId) (w : World), (Builtin.max_ ts t #[.int .i64 x, .int .i64 0]).run Try.prog w = .ok (.int .i64 (max x 0)) w := fun ts t w => by rw [Go.Lib.run_max_ints]
      have hmy : ∀ (ts : Array TypeId) (t : TypeId) (w : World), (Builtin.max_ ts t #[.int .i64 y, .int .i64 (-1)]).run Try.prog w = .ok (.int .i64 (max y (-1))) w := fun ts t w => by rw [Go.Lib.run_max_ints]
      have hnx : ∀ (ts : Array TypeId) (t : TypeId) (w : World), (Builtin.min_ ts t #[.int .i64 (max x 0), .int .i64 1125899906842624]).run Try.prog w = .ok (.int .i64 d) w := fun ts t w => by rw [Go.Lib.run_min_ints, hX]
      have hny : ∀ (ts : Array TypeId) (t : TypeId) (w : World), (Builtin.min_ ts t #[.int .i64 (max y (-1)), .int .i64 2097152]).run Try.prog w = .ok (.int .i64 bb) w := fun ts t w => by rw [Go.Lib.run_min_ints, hYy]
      have hmb : ∀ (ts : Array TypeId) (t : TypeId) (w : World), (Builtin.max_ ts t #[.int .i64 bb, .int .i64 0]).run Try.prog w = .ok (.int .i64 (max bb 0)) w := fun ts t w => by rw [Go.Lib.run_max_ints]
      have hbz : 0 ≤ max bb 0 ∧ max bb 0 ≤ 2097152 := by omega
      replace hX := hide hX
      replace hYy := hide hYy
      generalize max x 0 = mx at *
      generalize max y (-1) = my at *
      have hlv : Hid ((0 ≤ l0 ∧ l0 ≤ mb * 1000000000) ∧ (0 ≤ l1 ∧ l1 ≤ ms * 1000000000)) := ⟨hO6.out.ok.l0, hO6.out.ok.l1⟩
      have hP := hide (passM_l hO6.out.ok hX2.1)
      have hns := hide (need_same (n := bb) (passM_ok hO6.out.ok (now + d)))
      dsimp only at hP hns
      rw [hP.out] at hns
      have hMC : Hid (markC ⟨cr, mb * 1000000000, l0, ce, ms * 1000000000, l1, now, c0, c1, c2⟩ bb (now + d) = takeC (passM ⟨cr, mb * 1000000000, l0, ce, ms * 1000000000, l1, now, c0, c1, c2⟩ (now + d)) (needN bb)) := rfl
      have hMM : Hid (markM ⟨cr, mb * 1000000000, l0, ce, ms * 1000000000, l1, now, c0, c1, c2⟩ bb (now + d) = countM (takeM (passM ⟨cr, mb * 1000000000, l0, ce, ms * 1000000000, l1, now, c0, c1, c2⟩ (now + d)) (needN bb)) (takeC (passM ⟨cr, mb * 1000000000, l0, ce, ms * 1000000000, l1, now, c0, c1, c2⟩ (now + d)) (needN bb))) := rfl
      rw [hP.out, hns.out.1] at hMC
      rw [hP.out, hns.out.1, hns.out.2] at hMM
      have hf0 := hide (fillN_le (n := d) ub1 hlv.out.1.2 hX2.1)
      have hf1 := hide (fillN_le (n := d) ub3 hlv.out.2.2 hX2.1)
      have hPG := hide (fun w (h : BR w G (l0 / 1000000000) (l0 % 1000000000) cr mb) => Pass_any h hlv.out.1.1 hlv.out.1.2 ub1 ub2 hms.2.1 hX2.1 hX2.2)
      have hPY := hide (fun w (h : BR w (G + 1) (l1 / 1000000000) (l1 % 1000000000) ce ms) => Pass_any h hlv.out.2.1 hlv.out.2.2 ub3 ub4 hms.2.2.2 hX2.1 hX2.2)
      clear hP hns
      have hz0 := hide (show 0 ≤ fillN cr (mb * 1000000000) l0 d ∧ fillN cr (mb * 1000000000) l0 d ≤ mb * 1000000000 from ⟨Int.le_trans hlv.out.1.1 hf0.out.1, hf0.out.2⟩)
      have hz1 := hide (show 0 ≤ fillN ce (ms * 1000000000) l1 d ∧ fillN ce (ms * 1000000000) l1 d ≤ ms * 1000000000 from ⟨Int.le_trans hlv.out.2.1 hf1.out.1, hf1.out.2⟩)
      clear hf0 hf1 hlv
      generalize fillN cr (mb * 1000000000) l0 d = v0 at *
      generalize fillN ce (ms * 1000000000) l1 d = v1 at *
      go_wp2_with fail
      go_quiet (fail)
      have hO7 := hide (hO6.out.later (below_drewN (Below.refl _ _) nq))
      have hG7 : Hid (BR (w6.drewN nq) G (l0 / 1000000000) (l0 % 1000000000) cr mb) := hG6.out
      have hY7 : Hid (BR (w6.drewN nq) (G + 1) (l1 / 1000000000) (l1 % 1000000000) ce ms) := hY6.out
      have hC7 : Hid ((w6.drewN nq).heap[G + 1 + 1]? = some (.cells #[.int .i64 c0, .int .i64 c1, .int .i64 c2] 33 (0, 0))) := hC6.out
      clear hO6 hG6 hY6 hC6 k0 k1 hmx hmy hnx hny
      generalize w6.drewN nq = w7 at *
      generalize wr.heap.size = bf at *
      clear w6 wr
      go_wp2_with fail
      refine (hPG.out w7 hG7.out).mono ?_
      rintro e1 w8 ⟨rfl, hG8, hCh⟩
      have hO8 := hide (hO7.out.wrote hCh (fun k e => by rw [e]; exact ⟨htl.out.2, by have := htl.out.1; omega⟩))
      have hY8 := hide (hY7.out.wrote hCh (by omega))
      have hC8 : Hid (w8.heap[G + 1 + 1]? = _) := (hCh.block (G + 1 + 1) (Array.getElem?_eq_some_iff.1 hC7.out).1 (by omega)).trans hC7.out
      replace hG8 := hide hG8
      clear hCh hO7 hG7 hY7 hC7 hPG
      go_wp2_with fail
      refine (hPY.out w8 hY8.out).mono ?_
      rintro e1 w9 ⟨rfl, hY9, hCh⟩
      have hO9 := hide (hO8.out.wrote hCh (fun k e => by rw [e]; exact ⟨by have := htl.out.2; omega, by have := htl.out.1; omega⟩))
      have hG9 := hide (hG8.out.wrote hCh (by omega))
      have hC9 : Hid (w9.heap[G + 1 + 1]? = _) := (hCh.block (G + 1 + 1) (Array.getElem?_eq_some_iff.1 hC8.out).1 (by omega)).trans hC8.out
      replace hY9 := hide hY9
      clear hCh hO8 hG8 hY8 hC8 hPY
      have hjj : Hid (((j + 1 : Nat) : Int) = (j : Int) + 1) := by simp; exact trivial
      generalize hmz : max bb 0 = mz at *
      replace hmz := hide hmz
      obtain ⟨z1, z2⟩ := hz0.out
      obtain ⟨z3, z4⟩ := hz1.out
      have hE0 : 0 ≤ v0 / 1000000000 ∧ v0 / 1000000000 ≤ 8388608 := by omega
      have hE1 : 0 ≤ v1 / 1000000000 ∧ v1 / 1000000000 ≤ 8388608 := by omega

      by_cases hq : 8 * mz ≤ v0 / 1000000000
      · have hle : 8 * mz * 1000000000 ≤ v0 := by omega
        have hcol : Hid (markC ⟨cr, mb * 1000000000, l0, ce, ms * 1000000000, l1, now, c0, c1, c2⟩ bb (now + d) = 0) := by rw [hMC.out]; exact if_pos hle
        have hmet : Hid (markM ⟨cr, mb * 1000000000, l0, ce, ms * 1000000000, l1, now, c0, c1, c2⟩ bb (now + d) = ⟨cr, mb * 1000000000, v0 - 8 * mz * 1000000000, ce, ms * 1000000000, v1, now + d, c0 + 1, c1, c2⟩) := by rw [hMM.out]; simp only [takeC, takeM, if_pos hle]; exact rfl
        have hT := hide (Take_yes hG9.out hq (by omega) (by omega))
        clear hMC hMM
        go_wp2_with fail
        refine hT.out.mono ?_
        rintro e1 wa ⟨rfl, hGa, hCh⟩
        have hO := hide (hO9.out.wrote hCh (fun k e => by rw [e]; exact ⟨htl.out.2, by have := htl.out.1; omega⟩))
        have hG : Hid (BR wa G ((v0 - 8 * mz * 1000000000) / 1000000000) ((v0 - 8 * mz * 1000000000) % 1000000000) cr mb) := by
          rw [show (v0 - 8 * mz * 1000000000) / 1000000000 = v0 / 1000000000 - 8 * mz by omega, show (v0 - 8 * mz * 1000000000) % 1000000000 = v0 % 1000000000 by omega]; exact hGa
        have hY := hide (hY9.out.wrote hCh (by omega))
        have hC : Hid (wa.heap[G + 1 + 1]? = _) := (hCh.block (G + 1 + 1) (Array.getElem?_eq_some_iff.1 hC9.out).1 (by omega)).trans hC9.out
        clear hT hGa hCh hO9 hG9 hY9 hC9 hz0 hz1
        have kc : wa.cell? ⟨G + 1 + 1, 0, none⟩ = some (.int .i64 c0) := (cell_of_row _ _ _ _ _ _ hC.out).trans rfl
        have zc : wa.frozen? ⟨G + 1 + 1, 0, none⟩ = false := by simp [World.frozen?, hC.out]
        have hcb := hO.out.ok.c0
        dsimp only at hcb
        have hCn : Hid ((wa.setCell ⟨G + 1 + 1, 0, none⟩ (.int .i64 (c0 + 1))).heap[G + 1 + 1]? = some (.cells #[.int .i64 (c0 + 1), .int .i64 (c1), .int .i64 (c2)] 33 (0, 0))) := by
          rw [heap_setCell_same _ _ _ _ _ _ hC.out]; exact rfl
        have hCh : Ch (· = G + 1 + 1) wa (wa.setCell ⟨G + 1 + 1, 0, none⟩ (.int .i64 (c0 + 1))) := (Ch.refl _ _).set _
        have hOn := hide (hO.out.wrote hCh (fun k e => by rw [e]; exact ⟨by have := htl.out.2; omega, by have := htl.out.1; omega⟩))
        have hGn := hide (hG.out.wrote hCh (by omega))
        have hYn := hide (hY.out.wrote hCh (by omega))
        clear hCh hO hG hY hC
        go_wp2_with fail
        generalize wa.setCell ⟨G + 1 + 1, 0, none⟩ (.int .i64 (c0 + 1)) = wx at *
        have hM := hide (Mark_any hOn.out.at_ hOn.out.ok (by omega) bb (now + d) (by omega))
        have hMo := hide (markM_ok hOn.out.ok bb (now + d))
        rw [hcol.out, hmet.out] at hM
        rw [hmet.out] at hMo
        clear hcol hmet
        refine hM.out.mono ?_
        rintro e1 wy ⟨rfl, hAy, hCh⟩
        have hOy := hide (hOn.out.ch hAy hMo.out hCh)
        have hGy := hide (hGn.out.wrote hCh (by have := htl.out.1; omega))
        have hYy2 := hide (hYn.out.wrote hCh (by have := htl.out.1; omega))
        have hCy : Hid (wy.heap[G + 1 + 1]? = _) := (hCh.block (G + 1 + 1) (Array.getElem?_eq_some_iff.1 hCn.out).1 (by have := htl.out.1; omega)).trans hCn.out
        clear hM hMo hAy hCh hOn hGn hYn hCn kc zc
        have hL := hide (Level_any hOy.out.at_ hOy.out.ok (now + d) (by omega))
        rw [passM_still ⟨cr, mb * 1000000000, v0 - 8 * mz * 1000000000, ce, ms * 1000000000, v1, now + d, c0 + 1, c1, c2⟩ (now + d) (Int.le_refl _)] at hL
        dsimp only at hL
        rw [← ediv8 (v0 - 8 * mz * 1000000000), ← ediv8 (v1)] at hL
        go_wp2_with fail
        refine hL.out.mono ?_
        rintro e1 wz ⟨rfl, hAz, hCh⟩
        have hOz := hide (hOy.out.ch hAz hOy.out.ok hCh)
        have hGz := hide (hGy.out.wrote hCh (by have := htl.out.1; omega))
        have hYz := hide (hYy2.out.wrote hCh (by have := htl.out.1; omega))
        have hCz : Hid (wz.heap[G + 1 + 1]? = _) := (hCh.block (G + 1 + 1) (Array.getElem?_eq_some_iff.1 hCy.out).1 (by have := htl.out.1; omega)).trans hCy.out
        have kg := hGz.out.c0
        have ky := hYz.out.c0
        clear hL hAz hCh hOy hGy hYy2 hCy
        have hO9 := hOz
        have hG9 := hGz
        have hY9 := hYz
        have hC9 := hCz
        clear hOz hGz hYz hCz
        have hg0 : 0 ≤ (v0 - 8 * mz * 1000000000) / 1000000000 ∧ (v0 - 8 * mz * 1000000000) / 1000000000 ≤ 8388608 := by omega
        have hy0 : 0 ≤ (v1) / 1000000000 ∧ (v1) / 1000000000 ≤ 8388608 := by omega
        generalize hva : (v0 - 8 * mz * 1000000000) = va at *
        generalize hvb : (v1) = vb at *
        generalize hg1 : va / 1000000000 = ga at *
        generalize hy1 : vb / 1000000000 = ya at *
        have hq1 : (ga / 8 != ga / 8) = false := by simp
        have hq2 : (ya / 8 != ya / 8) = false := by simp
        clear hcb
        replace hg1 := hide hg1
        replace hy1 := hide hy1
        replace hva := hide hva
        replace hvb := hide hvb
        go_wp2
        go_roundw
        case rel => exact ⟨j + 1, va, vb, now + d, c0 + 1, c1, c2, by omega, by go_num, rfl, by rw [hjj.out]; exact hO9, by omega, by rw [hg1.out]; exact hG9, by rw [hy1.out]; exact hY9, hC9⟩
        case measure => simp [intOf]; omega
      · have hT := hide (Take_no (x := 8 * mz) hG9.out (by omega))
        have hle : Hid (v0 < 8 * mz * 1000000000) := by show _ < _; omega
        go_wp2_with fail
        refine hT.out.mono ?_
        rintro e1 wa ⟨rfl, rfl⟩
        clear hT
        by_cases hq2 : 8 * mz ≤ v1 / 1000000000
        · have hle2 : 8 * mz * 1000000000 ≤ v1 := by omega
          have hcol : Hid (markC ⟨cr, mb * 1000000000, l0, ce, ms * 1000000000, l1, now, c0, c1, c2⟩ bb (now + d) = 1) := by rw [hMC.out]; simp only [takeC, if_neg (Int.not_le.2 hle.out), if_pos hle2]; first | exact rfl | exact trivial
          have hmet : Hid (markM ⟨cr, mb * 1000000000, l0, ce, ms * 1000000000, l1, now, c0, c1, c2⟩ bb (now + d) = ⟨cr, mb * 1000000000, v0, ce, ms * 1000000000, v1 - 8 * mz * 1000000000, now + d, c0, c1 + 1, c2⟩) := by rw [hMM.out]; simp only [takeC, takeM, if_neg (Int.not_le.2 hle.out), if_pos hle2]; exact rfl
          have hT := hide (Take_yes hY9.out hq2 (by omega) (by omega))
          clear hMC hMM
          go_wp2_with fail
          refine hT.out.mono ?_
          rintro e1 wb ⟨rfl, hYa, hCh⟩
          have hO := hide (hO9.out.wrote hCh (fun k e => by rw [e]; exact ⟨by have := htl.out.2; omega, by have := htl.out.1; omega⟩))
          have hY : Hid (BR wb (G + 1) ((v1 - 8 * mz * 1000000000) / 1000000000) ((v1 - 8 * mz * 1000000000) % 1000000000) ce ms) := by
            rw [show (v1 - 8 * mz * 1000000000) / 1000000000 = v1 / 1000000000 - 8 * mz by omega, show (v1 - 8 * mz * 1000000000) % 1000000000 = v1 % 1000000000 by omega]; exact hYa
          have hG := hide (hG9.out.wrote hCh (by omega))
          have hC : Hid (wb.heap[G + 1 + 1]? = _) := (hCh.block (G + 1 + 1) (Array.getElem?_eq_some_iff.1 hC9.out).1 (by omega)).trans hC9.out
          clear hT hYa hCh hO9 hG9 hY9 hC9 hz0 hz1
          have kc : wb.cell? ⟨G + 1 + 1, 1, none⟩ = some (.int .i64 c1) := (cell_of_row _ _ _ _ _ _ hC.out).trans rfl
          have zc : wb.frozen? ⟨G + 1 + 1, 1, none⟩ = false := by simp [World.frozen?, hC.out]
          have hcb := hO.out.ok.c1
          dsimp only at hcb
          have hCn : Hid ((wb.setCell ⟨G + 1 + 1, 1, none⟩ (.int .i64 (c1 + 1))).heap[G + 1 + 1]? = some (.cells #[.int .i64 (c0), .int .i64 (c1 + 1), .int .i64 (c2)] 33 (0, 0))) := by
            rw [heap_setCell_same _ _ _ _ _ _ hC.out]; exact rfl
          have hCh : Ch (· = G + 1 + 1) wb (wb.setCell ⟨G + 1 + 1, 1, none⟩ (.int .i64 (c1 + 1))) := (Ch.refl _ _).set _
          have hOn := hide (hO.out.wrote hCh (fun k e => by rw [e]; exact ⟨by have := htl.out.2; omega, by have := htl.out.1; omega⟩))
          have hGn := hide (hG.out.wrote hCh (by omega))
          have hYn := hide (hY.out.wrote hCh (by omega))
          clear hCh hO hG hY hC
          go_wp2_with fail
          generalize wb.setCell ⟨G + 1 + 1, 1, none⟩ (.int .i64 (c1 + 1)) = wx at *
          have hM := hide (Mark_any hOn.out.at_ hOn.out.ok (by omega) bb (now + d) (by omega))
          have hMo := hide (markM_ok hOn.out.ok bb (now + d))
          rw [hcol.out, hmet.out] at hM
          rw [hmet.out] at hMo
          clear hcol hmet
          refine hM.out.mono ?_
          rintro e1 wy ⟨rfl, hAy, hCh⟩
          have hOy := hide (hOn.out.ch hAy hMo.out hCh)
          have hGy := hide (hGn.out.wrote hCh (by have := htl.out.1; omega))
          have hYy2 := hide (hYn.out.wrote hCh (by have := htl.out.1; omega))
          have hCy : Hid (wy.heap[G + 1 + 1]? = _) := (hCh.block (G + 1 + 1) (Array.getElem?_eq_some_iff.1 hCn.out).1 (by have := htl.out.1; omega)).trans hCn.out
          clear hM hMo hAy hCh hOn hGn hYn hCn kc zc
          have hL := hide (Level_any hOy.out.at_ hOy.out.ok (now + d) (by omega))
          rw [passM_still ⟨cr, mb * 1000000000, v0, ce, ms * 1000000000, v1 - 8 * mz * 1000000000, now + d, c0, c1 + 1, c2⟩ (now + d) (Int.le_refl _)] at hL
          dsimp only at hL
          rw [← ediv8 (v0), ← ediv8 (v1 - 8 * mz * 1000000000)] at hL
          go_wp2_with fail
          refine hL.out.mono ?_
          rintro e1 wz ⟨rfl, hAz, hCh⟩
          have hOz := hide (hOy.out.ch hAz hOy.out.ok hCh)
          have hGz := hide (hGy.out.wrote hCh (by have := htl.out.1; omega))
          have hYz := hide (hYy2.out.wrote hCh (by have := htl.out.1; omega))
          have hCz : Hid (wz.heap[G + 1 + 1]? = _) := (hCh.block (G + 1 + 1) (Array.getElem?_eq_some_iff.1 hCy.out).1 (by have := htl.out.1; omega)).trans hCy.out
          have kg := hGz.out.c0
          have ky := hYz.out.c0
          clear hL hAz hCh hOy hGy hYy2 hCy
          have hO9 := hOz
          have hG9 := hGz
          have hY9 := hYz
          have hC9 := hCz
          clear hOz hGz hYz hCz
          have hg0 : 0 ≤ (v0) / 1000000000 ∧ (v0) / 1000000000 ≤ 8388608 := by omega
          have hy0 : 0 ≤ (v1 - 8 * mz * 1000000000) / 1000000000 ∧ (v1 - 8 * mz * 1000000000) / 1000000000 ≤ 8388608 := by omega
          generalize hva : (v0) = va at *
          generalize hvb : (v1 - 8 * mz * 1000000000) = vb at *
          generalize hg1 : va / 1000000000 = ga at *
          generalize hy1 : vb / 1000000000 = ya at *
          have hq1 : (ga / 8 != ga / 8) = false := by simp
          have hq2 : (ya / 8 != ya / 8) = false := by simp
          clear hcb
          replace hg1 := hide hg1
          replace hy1 := hide hy1
          replace hva := hide hva
          replace hvb := hide hvb
          go_wp2
          go_roundw
          case rel => exact ⟨j + 1, va, vb, now + d, c0, c1 + 1, c2, by omega, by go_num, rfl, by rw [hjj.out]; exact hO9, by omega, by rw [hg1.out]; exact hG9, by rw [hy1.out]; exact hY9, hC9⟩
          case measure => simp [intOf]; omega
        · have hT := hide (Take_no (x := 8 * mz) hY9.out (by omega))
          have hle2 : Hid (v1 < 8 * mz * 1000000000) := by show _ < _; omega
          have hcol : Hid (markC ⟨cr, mb * 1000000000, l0, ce, ms * 1000000000, l1, now, c0, c1, c2⟩ bb (now + d) = 2) := by rw [hMC.out]; simp only [takeC, if_neg (Int.not_le.2 hle.out), if_neg (Int.not_le.2 hle2.out)]; first | exact rfl | exact trivial
          have hmet : Hid (markM ⟨cr, mb * 1000000000, l0, ce, ms * 1000000000, l1, now, c0, c1, c2⟩ bb (now + d) = ⟨cr, mb * 1000000000, v0, ce, ms * 1000000000, v1, now + d, c0, c1, c2 + 1⟩) := by rw [hMM.out]; simp only [takeC, takeM, if_neg (Int.not_le.2 hle.out), if_neg (Int.not_le.2 hle2.out)]; exact rfl
          clear hMC hMM
          go_wp2_with fail
          refine hT.out.mono ?_
          rintro e1 wa ⟨rfl, rfl⟩
          have hO := hO9
          have hG := hG9
          have hY := hY9
          have hC := hC9
          clear hT hO9 hG9 hY9 hC9 hz0 hz1
          have kc : wa.cell? ⟨G + 1 + 1, 2, none⟩ = some (.int .i64 c2) := (cell_of_row _ _ _ _ _ _ hC.out).trans rfl
          have zc : wa.frozen? ⟨G + 1 + 1, 2, none⟩ = false := by simp [World.frozen?, hC.out]
          have hcb := hO.out.ok.c2
          dsimp only at hcb
          have hCn : Hid ((wa.setCell ⟨G + 1 + 1, 2, none⟩ (.int .i64 (c2 + 1))).heap[G + 1 + 1]? = some (.cells #[.int .i64 (c0), .int .i64 (c1), .int .i64 (c2 + 1)] 33 (0, 0))) := by
            rw [heap_setCell_same _ _ _ _ _ _ hC.out]; exact rfl
          have hCh : Ch (· = G + 1 + 1) wa (wa.setCell ⟨G + 1 + 1, 2, none⟩ (.int .i64 (c2 + 1))) := (Ch.refl _ _).set _
          have hOn := hide (hO.out.wrote hCh (fun k e => by rw [e]; exact ⟨by have := htl.out.2; omega, by have := htl.out.1; omega⟩))
          have hGn := hide (hG.out.wrote hCh (by omega))
          have hYn := hide (hY.out.wrote hCh (by omega))
          clear hCh hO hG hY hC
          go_wp2_with fail
          generalize wa.setCell ⟨G + 1 + 1, 2, none⟩ (.int .i64 (c2 + 1)) = wx at *
          have hM := hide (Mark_any hOn.out.at_ hOn.out.ok (by omega) bb (now + d) (by omega))
          have hMo := hide (markM_ok hOn.out.ok bb (now + d))
          rw [hcol.out, hmet.out] at hM
          rw [hmet.out] at hMo
          clear hcol hmet
          refine hM.out.mono ?_
          rintro e1 wy ⟨rfl, hAy, hCh⟩
          have hOy := hide (hOn.out.ch hAy hMo.out hCh)
          have hGy := hide (hGn.out.wrote hCh (by have := htl.out.1; omega))
          have hYy2 := hide (hYn.out.wrote hCh (by have := htl.out.1; omega))
          have hCy : Hid (wy.heap[G + 1 + 1]? = _) := (hCh.block (G + 1 + 1) (Array.getElem?_eq_some_iff.1 hCn.out).1 (by have := htl.out.1; omega)).trans hCn.out
          clear hM hMo hAy hCh hOn hGn hYn hCn kc zc
          have hL := hide (Level_any hOy.out.at_ hOy.out.ok (now + d) (by omega))
          rw [passM_still ⟨cr, mb * 1000000000, v0, ce, ms * 1000000000, v1, now + d, c0, c1, c2 + 1⟩ (now + d) (Int.le_refl _)] at hL
          dsimp only at hL
          rw [← ediv8 (v0), ← ediv8 (v1)] at hL
          go_wp2_with fail
          refine hL.out.mono ?_
          rintro e1 wz ⟨rfl, hAz, hCh⟩
          have hOz := hide (hOy.out.ch hAz hOy.out.ok hCh)
          have hGz := hide (hGy.out.wrote hCh (by have := htl.out.1; omega))
          have hYz := hide (hYy2.out.wrote hCh (by have := htl.out.1; omega))
          have hCz : Hid (wz.heap[G + 1 + 1]? = _) := (hCh.block (G + 1 + 1) (Array.getElem?_eq_some_iff.1 hCy.out).1 (by have := htl.out.1; omega)).trans hCy.out
          have kg := hGz.out.c0
          have ky := hYz.out.c0
          clear hL hAz hCh hOy hGy hYy2 hCy
          have hO9 := hOz
          have hG9 := hGz
          have hY9 := hYz
          have hC9 := hCz
          clear hOz hGz hYz hCz
          have hg0 : 0 ≤ (v0) / 1000000000 ∧ (v0) / 1000000000 ≤ 8388608 := by omega
          have hy0 : 0 ≤ (v1) / 1000000000 ∧ (v1) / 1000000000 ≤ 8388608 := by omega
          generalize hva : (v0) = va at *
          generalize hvb : (v1) = vb at *
          generalize hg1 : va / 1000000000 = ga at *
          generalize hy1 : vb / 1000000000 = ya at *
          have hq1 : (ga / 8 != ga / 8) = false := by simp
          have hq2 : (ya / 8 != ya / 8) = false := by simp
          clear hcb
          replace hg1 := hide hg1
          replace hy1 := hide hy1
          replace hva := hide hva
          replace hvb := hide hvb
          go_wp2
          go_roundw
          case rel => exact ⟨j + 1, va, vb, now + d, c0, c1, c2 + 1, by omega, by go_num, rfl, by rw [hjj.out]; exact hO9, by omega, by rw [hg1.out]; exact hG9, by rw [hy1.out]; exact hY9, hC9⟩
          case measure => simp [intOf]; omega
    · obtain rfl : j = n := by omega
      have hb0 := hO.out.ok.c0
      have hb1 := hO.out.ok.c1
      have hb2 := hO.out.ok.c2
      dsimp only at hb0 hb1 hb2
      have hq := three_eql c0 c1 c2 (by omega) (by omega) (by omega)
      clear hb0 hb1 hb2 hG hY
      have htt : Hid (t < G ∧ w2.heap.size ≤ G) := htl.out
      go_wp2_with fail
      have hSS : Hid (wr.drew.heap[G + 1 + 1]? = some (.cells #[.int .i64 c0, .int .i64 c1, .int .i64 c2] 33 (0, 0))) := hCt.out
      have hO2 := hide hO.out.drew
      have hCo := hide (Counts_any hO2.out.at_)
      dsimp only at hCo
      have hBd := hide (hB2.out.later hO2.out.bel)
      clear hO hCt hO2
      refine wp_region_noPanic ?_
      refine wp_region_held_drew (S := fun W => W.heap[G + 1 + 1]? = some (.cells #[.int .i64 c0, .int .i64 c1, .int .i64 c2] 33 (0, 0))) (by kernel_rfl) hSS.out (fun hHeld => ?_)
      generalize wr.drew = wd at *
      refine wpAnyH_take (i := 0) (oi := { dst := some 116, op := Op.move (Operand.tmp 5), type := 26, pos := "law.go:60", after := #[], guard := none }) (v := ?v1) rfl (by kernel_rfl) (by kernel_rfl) (by kernel_rfl) (fun _ _ _ h => h) (Or.inl ⟨by rfl, ?y1⟩) (by assumption) ?r1
      case y1 => (intro w hSw; (try dsimp only at hSw); (try (go_split_ands)); go_simp; try with_reducible rfl)
      try simp only [Act.put, List.setIfInBounds_toArray, List.set_cons_zero, List.set_cons_succ]
      refine wpAnyH_take (i := 2) (oi := { dst := some 118, op := Op.load 33 (Operand.tmp 10), type := 33, pos := "law.go:60", after := #[], guard := none }) (v := _) rfl (by kernel_rfl) (by kernel_rfl) (by kernel_rfl) (fun _ _ _ h => h) (yieldsIf_load_row rfl 33 (.tmp 10) rfl (G + 1 + 1) rfl 33 _ _ _ (fun _ h => h) Try.underlying33 rfl (countsSize _ _ _)) (by assumption) ?_
      try simp only [Act.put, List.setIfInBounds_toArray, List.set_cons_zero, List.set_cons_succ]
      clear hHeld
      refine wpAnyH_ready (rs := [1]) (by kernel_rfl) (by simp) ?_
      refine AllReadyH.cons (o := { dst := some 117, op := Op.call { callee := Callee.value (Operand.func 20), args := #[Operand.tmp 116], argTypes := #[26] }, type := 33, pos := "law.go:60", after := #[{ on := 0, ground := Ground.data }], guard := none }) rfl (fun K hK => ?_) AllReadyH.nil
      go_simp
      refine hCo.out.mono ?_
      rintro e1 we ⟨rfl, hbe⟩
      have hSe := hide (heap_kept hbe hSS.out)
      have hBe := hide (hBd.out.later hbe)
      clear hCo hBd hSS hbe
      go_wp2_with fail
      refine hK.out _ _ ?_ (fun hHeld1 => ?_)
      · exact hSe.out
      clear hK K
      try simp only [Act.put, List.setIfInBounds_toArray, List.set_cons_zero, List.set_cons_succ]
      refine wpAnyH_take (i := 3) (oi := { dst := some 119, op := Op.binOp BinOp.eql 33 (Operand.tmp 117) (Operand.tmp 118) 33, type := 4, pos := "law.go:60", after := #[{ on := 1, ground := Ground.data }, { on := 2, ground := Ground.data }], guard := none }) (v := ?v2) rfl (by kernel_rfl) (by kernel_rfl) (by kernel_rfl) (fun _ _ _ h => h) (Or.inl ⟨by rfl, ?y2⟩) (by assumption) ?r2
      case y2 => (intro w hSw; (try dsimp only at hSw); (try (go_split_ands)); go_simp; try with_reducible rfl)
      try simp only [Act.put, List.setIfInBounds_toArray, List.set_cons_zero, List.set_cons_succ]
      refine wpAnyH_take (i := 4) (oi := { dst := some 4, op := Op.assign (Operand.tmp 119), type := 4, pos := "law.go:60", after := #[{ on := 3, ground := Ground.data }, { on := 1, ground := Ground.chain }, { on := 0, ground := Ground.phase }, { on := 1, ground := Ground.phase }, { on := 2, ground := Ground.phase }, { on := 3, ground := Ground.phase }], guard := none }) (v := ?v3) rfl (by kernel_rfl) (by kernel_rfl) (by kernel_rfl) (fun _ _ _ h => h) (Or.inl ⟨by rfl, ?y3⟩) (by assumption) ?r3
      case y3 => (intro w hSw; (try dsimp only at hSw); (try (go_split_ands)); go_simp; try with_reducible rfl)
      try simp only [Act.put, List.setIfInBounds_toArray, List.set_cons_zero, List.set_cons_succ]
      refine wpAnyH_done (by kernel_rfl) ?_ _
      refine NoPanic.normal ?_
      clear hHeld1 hSe
      go_wp2
      go_ret
      exact ⟨rfl, hBe.out⟩
end Go.Proofs.Ytmacdghkbmjdmaa
