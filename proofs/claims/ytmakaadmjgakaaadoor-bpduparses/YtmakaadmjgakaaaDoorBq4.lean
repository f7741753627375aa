/-
  A contract of bpdu.Parse: messages that tell of the root. Conditions: those that each theorem names.
-/
import Derived.Test.YtmakaadmjgakaaaDoorBq3
namespace Go.Proofs.YtmakaadmjgakaaaDoor
open Go.RowKit
set_option linter.unusedVariables false

theorem slice_from (b off n cap k : Nat) (hk : k ≤ n) (hn : n ≤ cap) (hc : k < cap) (w : World) :
    (Instr.slice 26 (.slice (some ⟨b, off, none⟩) n cap) (some (.int .i64 k)) none none).run Tryd.prog w = .ok (.slice (some ⟨b, off + k, none⟩) (n - k) (cap - k)) w := by
  have hk' : (k : Int) ≤ n := by omega
  have hc' : ¬ cap = k := by omega
  simp [go_sem, Instr.slice, hk', hc', Addr.add]
theorem ret2i {a b : Array Value} {c d : Int} (h : a = b) (k : c = d) : Ending.returned (.tuple #[.agg a, .int .i64 c]) = .returned (.tuple #[.agg b, .int .i64 d]) := by rw [h, k]
set_option maxRecDepth 20000 in
set_option maxHeartbeats 1000000 in
theorem BParse_kind0 {v : Value} {w : World} {l : List Int} (hv : Bs w v l) (hm : l.length ≤ 1000000) (hE : kindE l = (0, 0)) (hs : ¬ (l.length : Int) < 38) (RB OB : Bp) (OE : Int) (hRB : RB = (Bp.ofKind 0).rooted (l.drop 7)) (hOB : OB = if RB.maxAge ≤ RB.age then Bp.zero else RB) (hOE : OE = if RB.maxAge ≤ RB.age then 4 else 0) :
    Calls Tryd.prog 13 #[v] w fun e w' => e = .returned (.tuple #[.agg OB.row, .int .i64 OE]) ∧ Below w.heap.size w w' := by
  have hK := hide (readKind_any (hv.below (below1 w (.cells Bp.zero.row 41))) hm)
  rw [hE] at hK
  have hS := hide (fun w => sizeOf_any 0 w)
  have hd : decide ((l.length : Int) < 38) = false := by simpa using hs
  have hby := hv.byte
  have HV := hide hv
  have hl38 : 38 ≤ l.length := by omega
  rcases hv.cases with ⟨rfl, _⟩ | ⟨b, off, cap, rfl, _, h3, h4, hc⟩
  · simp at hl38
  have hbl : b < w.heap.size := block_lt_of_cell (hc 0 (by omega))
  have hP := hide (fun w (h : Bs w (.slice (some ⟨b, off, none⟩) l.length cap) l) => show Bs w (.slice (some ⟨b, off + 7, none⟩) (l.length - 7) (cap - 7)) (l.drop 7) from by
    rcases h.cases with ⟨h, _⟩ | ⟨b', off', cap', e, _, _, _, hc'⟩
    · rw [h] at hl38; simp at hl38
    · simp only [Value.slice.injEq, Option.some.injEq, Addr.mk.injEq, and_true, true_and] at e
      obtain ⟨⟨rfl, rfl⟩, rfl⟩ := e
      have := Bs.piece h.byte h3 h4 hc' 7 l.length (by omega) (Nat.le_refl _)
      rwa [List.take_of_length_le (by simp)] at this)
  have hck : ¬ cap = 7 := by omega
  have hl31 := hide (show 31 ≤ (l.drop 7).length by simp; omega)
  have hlm := hide (show (l.drop 7).length ≤ 1000000 by simp; omega)
  have hi7 : (7 : Int) < (l.length : Int) := by omega
  have HC := hide hc
  clear hs hE h3 h4 hc hm
  clear hby
  have HRB := hide hRB
  have HOB := hide hOB
  have HOE := hide hOE
  have hA := heap_alloc_new w (.cells Bp.zero.row 41)
  clear hRB hOB hOE
  go_enter Tryd.func13, Tryd.ntmps13
  go_wp2_with fail
  refine hK.out.mono ?_
  rintro e w1 ⟨rfl, hb1⟩
  have hA1 := heap_kept hb1 hA
  have hW1 := hide ((below1 w _).later hb1)
  have hz1 : w.heap.size < w1.heap.size := (Array.getElem?_eq_some_iff.1 hA1).1
  have hb1l : b < w1.heap.size := Nat.lt_trans hbl hz1
  clear hb1 hA hK
  go_wp2_with fail
  refine (hS.out _).mono ?_
  rintro e w2 ⟨rfl, h⟩
  obtain rfl := h.symm
  go_wp2_with (((with_reducible change wpList _ _ _ _ _ _); refine wpList_store_fresh rfl 41 (.tmp 6) (.tmp 23) rfl (Bp.ofKind 0).row Bp.zero.row rfl rfl 41 (bpSize _) rfl (Bp.row_all _) ?_; intro w3 hH3 hb3; have hA3 := heap_kept hb3 hA1; have hW3 := hide (hW1.out.later hb3); have HH3 := hide hH3; have HA3 := hide hA3; have hg3 := hide hb3; clear hH3 hA3 hb3 hA1 hW1))
  have HH4 := hide HH3.out
  have hW4 := hide hW3.out
  have HA4 := hide HA3.out
  have hz4 : w1.heap.size < w3.heap.size := (Array.getElem?_eq_some_iff.1 HH3.out).1
  clear HH3 hW3 HA3
  refine (Read_B (B := w1.heap.size) (hP.out _ (HV.out.below hW4.out)) (fun a n c e hn => by cases e; show b < _; omega)).mono ?_
  rintro e w5 ⟨rfl, hR5, hb5⟩
  have HH5 := hide (heap_kept hb5 HH4.out)
  have HA5 := hide (heap_kept hb5 HA4.out)
  have hW5 := hide (hW4.out.later hb5)
  have HR5 := hide hR5
  clear hR5 hb5 HH4 HA4 hW4
  go_wp2_with fail
  refine (readRoot_any HH5.out HR5.out hz4 hl31.out hlm.out).mono ?_
  rw [← HRB.out]
  rintro e w6 ⟨rfl, hH6, hb6⟩
  have hA6 := (hb6.block w.heap.size hz1).trans HA5.out
  have hW6 := hide (hW5.out.trans (hb6.mono (by omega)))
  have c12 : w6.cell? ⟨w1.heap.size, 12, none⟩ = some (.int .i64 RB.age) := (cell_of_row _ _ _ _ _ _ hH6).trans rfl
  have c13 : w6.cell? ⟨w1.heap.size, 13, none⟩ = some (.int .i64 RB.maxAge) := (cell_of_row _ _ _ _ _ _ hH6).trans rfl
  clear hb6 HH5 HA5 hW5 HR5
  by_cases hag : RB.maxAge ≤ RB.age
  · have hOB := hide (HOB.out.trans (if_pos hag))
    have hOE := hide (HOE.out.trans (if_pos hag))
    have hdg : decide (RB.maxAge ≤ RB.age) = true := by simpa using hag
    clear hag
    go_wp2_with ((with_reducible change wpList _ _ _ _ _ _); refine wpList_store_row rfl 41 (.tmp 2) (.tmp 43) rfl w.heap.size Bp.zero.row rfl rfl 41 _ hA6 (bpSize _) rfl (Bp.row_all _) ?_)
    exact bodyPost_ret (results_cell_row2 rfl _ _ w.heap.size 41 _ _ _ rfl (setRow_heap _ _ _ _ _ _ hA6) Tryd.underlying41 rfl (bpSize Bp.zero)) rfl ⟨ret2i (by rw [hOB.out]) hOE.out.symm, below_setRow hW6.out (Nat.le_refl _) _⟩
  · have hOB := hide (HOB.out.trans (if_neg hag))
    have hOE := hide (HOE.out.trans (if_neg hag))
    have hdg : decide (RB.maxAge ≤ RB.age) = false := by simpa using hag
    clear hag
    go_wp2_with (first | ((with_reducible change wpList _ _ _ _ _ _); refine wpList_load_row rfl 41 (.tmp 6) rfl w1.heap.size rfl 41 _ _ _ hH6 Tryd.underlying41 rfl (bpSize _) ?_) | ((with_reducible change wpList _ _ _ _ _ _); refine wpList_store_row rfl 41 (.tmp 2) (.tmp 44) rfl w.heap.size RB.row rfl rfl 41 _ hA6 (bpSize _) rfl (Bp.row_all _) ?_))
    exact bodyPost_ret (results_cell_row2 rfl _ _ w.heap.size 41 _ _ _ rfl (setRow_heap _ _ _ _ _ _ hA6) Tryd.underlying41 rfl (bpSize RB)) rfl ⟨ret2i (by rw [hOB.out]) hOE.out.symm, below_setRow hW6.out (Nat.le_refl _) _⟩
set_option maxRecDepth 20000 in
set_option maxHeartbeats 1000000 in
theorem BParse_kind1 {v : Value} {w : World} {l : List Int} (hv : Bs w v l) (hm : l.length ≤ 1000000) (hE : kindE l = (1, 0)) (hs : ¬ (l.length : Int) < 39) (RB OB : Bp) (OE : Int) (hRB : RB = ((Bp.ofKind 1).ported (l.getD 7 0)).rooted (l.drop 7)) (hOB : OB = if RB.maxAge ≤ RB.age then Bp.zero else RB) (hOE : OE = if RB.maxAge ≤ RB.age then 4 else 0) :
    Calls Tryd.prog 13 #[v] w fun e w' => e = .returned (.tuple #[.agg OB.row, .int .i64 OE]) ∧ Below w.heap.size w w' := by
  have hK := hide (readKind_any (hv.below (below1 w (.cells Bp.zero.row 41))) hm)
  rw [hE] at hK
  have hS := hide (fun w => sizeOf_any 1 w)
  have hd : decide ((l.length : Int) < 39) = false := by simpa using hs
  have hby := hv.byte
  have HV := hide hv
  have hl38 : 38 ≤ l.length := by omega
  rcases hv.cases with ⟨rfl, _⟩ | ⟨b, off, cap, rfl, _, h3, h4, hc⟩
  · simp at hl38
  have hbl : b < w.heap.size := block_lt_of_cell (hc 0 (by omega))
  have hP := hide (fun w (h : Bs w (.slice (some ⟨b, off, none⟩) l.length cap) l) => show Bs w (.slice (some ⟨b, off + 7, none⟩) (l.length - 7) (cap - 7)) (l.drop 7) from by
    rcases h.cases with ⟨h, _⟩ | ⟨b', off', cap', e, _, _, _, hc'⟩
    · rw [h] at hl38; simp at hl38
    · simp only [Value.slice.injEq, Option.some.injEq, Addr.mk.injEq, and_true, true_and] at e
      obtain ⟨⟨rfl, rfl⟩, rfl⟩ := e
      have := Bs.piece h.byte h3 h4 hc' 7 l.length (by omega) (Nat.le_refl _)
      rwa [List.take_of_length_le (by simp)] at this)
  have hck : ¬ cap = 7 := by omega
  have hl31 := hide (show 31 ≤ (l.drop 7).length by simp; omega)
  have hlm := hide (show (l.drop 7).length ≤ 1000000 by simp; omega)
  have hi7 : (7 : Int) < (l.length : Int) := by omega
  have HC := hide hc
  clear hs hE h3 h4 hc hm
  obtain ⟨F, hF⟩ : ∃ F, F = l.getD 7 0 := ⟨_, rfl⟩
  have f01 := hby.getD 7
  rw [← hF] at f01 hRB
  obtain ⟨f0, f1⟩ := f01
  have HF := hide hF
  clear hF
  clear hby
  have HRB := hide hRB
  have HOB := hide hOB
  have HOE := hide hOE
  have hA := heap_alloc_new w (.cells Bp.zero.row 41)
  clear hRB hOB hOE
  go_enter Tryd.func13, Tryd.ntmps13
  go_wp2_with fail
  refine hK.out.mono ?_
  rintro e w1 ⟨rfl, hb1⟩
  have hA1 := heap_kept hb1 hA
  have hW1 := hide ((below1 w _).later hb1)
  have hz1 : w.heap.size < w1.heap.size := (Array.getElem?_eq_some_iff.1 hA1).1
  have hb1l : b < w1.heap.size := Nat.lt_trans hbl hz1
  clear hb1 hA hK
  go_wp2_with fail
  refine (hS.out _).mono ?_
  rintro e w2 ⟨rfl, h⟩
  obtain rfl := h.symm
  have C7 : Hid (w1.cell? ⟨b, off + 7, none⟩ = some (.int .u8 F)) := (hW1.out.cell (p := ⟨b, off + 7, none⟩) hbl).trans ((HC.out 7 (by omega)).trans (by rw [HF.out]))
  go_wp2_with (((with_reducible change wpList _ _ _ _ _ _); refine wpList_store_fresh rfl 41 (.tmp 6) (.tmp 23) rfl (Bp.ofKind 1).row Bp.zero.row rfl rfl 41 (bpSize _) rfl (Bp.row_all _) ?_; intro w3 hH3 hb3; have hA3 := heap_kept hb3 hA1; have hW3 := hide (hW1.out.later hb3); have c7 : w3.cell? ⟨b, off + 7, none⟩ = some (.int .u8 F) := (hb3.cell (p := ⟨b, off + 7, none⟩) hb1l).trans C7.out; have HH3 := hide hH3; have HA3 := hide hA3; have hg3 := hide hb3; clear hH3 hA3 hb3 hA1 hW1))
  refine (readPort_any HH3.out F f0 f1).mono ?_
  rintro e w4 ⟨rfl, hH4, hb4⟩
  have HH4 := hide hH4
  have hW4 := hide (hW3.out.trans (hb4.mono (by omega)))
  have HA4 := hide ((hb4.block w.heap.size hz1).trans HA3.out)
  have hz4 : w1.heap.size < w4.heap.size := (Array.getElem?_eq_some_iff.1 hH4).1
  clear hH4 hb4 HH3 hW3 HA3 c7
  go_wp2_with fail
  refine (Read_B (B := w1.heap.size) (hP.out _ (HV.out.below hW4.out)) (fun a n c e hn => by cases e; show b < _; omega)).mono ?_
  rintro e w5 ⟨rfl, hR5, hb5⟩
  have HH5 := hide (heap_kept hb5 HH4.out)
  have HA5 := hide (heap_kept hb5 HA4.out)
  have hW5 := hide (hW4.out.later hb5)
  have HR5 := hide hR5
  clear hR5 hb5 HH4 HA4 hW4
  go_wp2_with fail
  refine (readRoot_any HH5.out HR5.out hz4 hl31.out hlm.out).mono ?_
  rw [← HRB.out]
  rintro e w6 ⟨rfl, hH6, hb6⟩
  have hA6 := (hb6.block w.heap.size hz1).trans HA5.out
  have hW6 := hide (hW5.out.trans (hb6.mono (by omega)))
  have c12 : w6.cell? ⟨w1.heap.size, 12, none⟩ = some (.int .i64 RB.age) := (cell_of_row _ _ _ _ _ _ hH6).trans rfl
  have c13 : w6.cell? ⟨w1.heap.size, 13, none⟩ = some (.int .i64 RB.maxAge) := (cell_of_row _ _ _ _ _ _ hH6).trans rfl
  clear hb6 HH5 HA5 hW5 HR5
  by_cases hag : RB.maxAge ≤ RB.age
  · have hOB := hide (HOB.out.trans (if_pos hag))
    have hOE := hide (HOE.out.trans (if_pos hag))
    have hdg : decide (RB.maxAge ≤ RB.age) = true := by simpa using hag
    clear hag
    go_wp2_with ((with_reducible change wpList _ _ _ _ _ _); refine wpList_store_row rfl 41 (.tmp 2) (.tmp 43) rfl w.heap.size Bp.zero.row rfl rfl 41 _ hA6 (bpSize _) rfl (Bp.row_all _) ?_)
    exact bodyPost_ret (results_cell_row2 rfl _ _ w.heap.size 41 _ _ _ rfl (setRow_heap _ _ _ _ _ _ hA6) Tryd.underlying41 rfl (bpSize Bp.zero)) rfl ⟨ret2i (by rw [hOB.out]) hOE.out.symm, below_setRow hW6.out (Nat.le_refl _) _⟩
  · have hOB := hide (HOB.out.trans (if_neg hag))
    have hOE := hide (HOE.out.trans (if_neg hag))
    have hdg : decide (RB.maxAge ≤ RB.age) = false := by simpa using hag
    clear hag
    go_wp2_with (first | ((with_reducible change wpList _ _ _ _ _ _); refine wpList_load_row rfl 41 (.tmp 6) rfl w1.heap.size rfl 41 _ _ _ hH6 Tryd.underlying41 rfl (bpSize _) ?_) | ((with_reducible change wpList _ _ _ _ _ _); refine wpList_store_row rfl 41 (.tmp 2) (.tmp 44) rfl w.heap.size RB.row rfl rfl 41 _ hA6 (bpSize _) rfl (Bp.row_all _) ?_))
    exact bodyPost_ret (results_cell_row2 rfl _ _ w.heap.size 41 _ _ _ rfl (setRow_heap _ _ _ _ _ _ hA6) Tryd.underlying41 rfl (bpSize RB)) rfl ⟨ret2i (by rw [hOB.out]) hOE.out.symm, below_setRow hW6.out (Nat.le_refl _) _⟩
theorem kindE_cases (l : List Int) (h : (kindE l).2 = 0) : kindE l = (0, 0) ∨ kindE l = (1, 0) ∨ kindE l = (2, 0) := by
  revert h
  unfold kindE
  repeat' split
  all_goals simp
theorem BParse_any {v : Value} {w : World} {l : List Int} (hv : Bs w v l) (hm : l.length ≤ 1000000) :
    Calls Tryd.prog 13 #[v] w fun e w' => e = .returned (.tuple #[.agg (bparsed l).1.row, .int .i64 (bparsed l).2]) ∧ Below w.heap.size w w' := by
  unfold bparsed
  by_cases hE : (kindE l).2 = 0
  · rw [if_neg (by simpa using hE)]
    by_cases hs : (l.length : Int) < sizeN (kindE l).1
    · rw [if_pos hs]; exact BParse_short hv hm hE hs
    · rw [if_neg hs]
      rcases kindE_cases l hE with h | h | h
      · rw [h] at hs ⊢
        refine (BParse_kind0 hv hm h hs _ _ _ rfl rfl rfl).mono ?_
        rintro e w' ⟨rfl, hb⟩
        refine ⟨?_, hb⟩
        simp only [if_neg (show ¬ (0 : Int) = 2 by decide), if_neg (show ¬ (0 : Int) = 1 by decide)]
        by_cases hag : ((Bp.ofKind 0).rooted (l.drop 7)).maxAge ≤ ((Bp.ofKind 0).rooted (l.drop 7)).age
        · rw [if_pos hag, if_pos hag, if_pos hag]
        · rw [if_neg hag, if_neg hag, if_neg hag]
      · rw [h] at hs ⊢
        refine (BParse_kind1 hv hm h hs _ _ _ rfl rfl rfl).mono ?_
        rintro e w' ⟨rfl, hb⟩
        refine ⟨?_, hb⟩
        simp only [if_neg (show ¬ (1 : Int) = 2 by decide), if_true]
        by_cases hag : (((Bp.ofKind 1).ported (l.getD 7 0)).rooted (l.drop 7)).maxAge ≤ (((Bp.ofKind 1).ported (l.getD 7 0)).rooted (l.drop 7)).age
        · simp only [if_pos hag]
        · simp only [if_neg hag]
      · rw [h] at hs ⊢
        exact BParse_notice hv hm h hs
  · rw [if_pos hE]; exact BParse_err hv hm hE
end Go.Proofs.YtmakaadmjgakaaaDoor
