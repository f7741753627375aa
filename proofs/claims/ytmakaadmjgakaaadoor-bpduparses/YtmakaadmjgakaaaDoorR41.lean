/-
  The document's own Parse of messages (bargateref04), its errors first. Conditions: those that each theorem names.
-/
import Derived.Test.YtmakaadmjgakaaaDoorBq4
import Derived.Test.YtmakaadmjgakaaaDoorBit
namespace Go.Proofs.YtmakaadmjgakaaaDoor
open Go.RowKit
set_option linter.unusedVariables false

theorem Bs.pieceB {w : World} {b off n cap : Nat} {l : List Int} (h : Bs w (.slice (some ⟨b, off, none⟩) n cap) l) (lo hi : Nat) (h1 : lo ≤ hi) (h2 : hi ≤ l.length) : Bs w (.slice (some ⟨b, off + lo, none⟩) (hi - lo) (cap - lo)) ((l.drop lo).take (hi - lo)) := by
  obtain ⟨hb, a', c', e, k1, k2, _, k4⟩ := h
  simp only [Value.slice.injEq] at e
  obtain ⟨rfl, rfl, rfl⟩ := e
  refine Bs.piece hb k1 k2 (fun i hi => ?_) lo hi h1 h2
  obtain ⟨b', o', e, hc⟩ := k4 i hi
  simp only [Option.some.injEq, Addr.mk.injEq, and_true] at e
  obtain ⟨rfl, rfl⟩ := e
  exact hc
theorem RNum_at {w : World} {b off n cap : Nat} {l : List Int} (h : Bs w (.slice (some ⟨b, off, none⟩) n cap) l) (lo k : Nat) (hk : 0 < k) (hk8 : k ≤ 8) (h2 : lo + k ≤ l.length) (hm : l.length ≤ 1000) :
    Calls Tryd.prog 47 #[.slice (some ⟨b, off, none⟩) n cap, .int .i64 lo, .int .i64 k] w fun e w' => e = .returned (.int .u64 (num ((l.drop lo).take k))) ∧ w' = w := by
  have hp := h.pieceB lo (lo + k) (by omega) h2
  rw [show lo + k - lo = k by omega] at hp
  have hN := hide (Number_any hp (by simp; omega) (by simp; omega))
  have hn : n = l.length := by
    obtain ⟨_, a', c', e, _⟩ := h
    simp only [Value.slice.injEq] at e
    exact e.2.1
  have hc : n ≤ cap := by
    obtain ⟨_, a', c', e, k1, _⟩ := h
    simp only [Value.slice.injEq] at e
    omega
  have h3 : (lo : Int) + (k : Int) ≤ (n : Int) := by omega
  have h4 : ¬ cap = lo := by omega
  have h5 : ((lo : Int) + (k : Int)).toNat = lo + k := by omega
  have h6 : lo + k - lo = k := by omega
  have h7 : (lo : Int) + (k : Int) ≤ (cap : Int) := by omega
  generalize num ((l.drop lo).take k) = NN at *
  clear hp h hn
  go_enter Tryd.func47, Tryd.ntmps47
  go_wp2_with fail
  refine hN.out.mono ?_
  rintro e w' ⟨rfl, rfl⟩
  go_wp2
  go_ret
  exact ⟨rfl, rfl⟩
theorem RNum_lit {w : World} {b off n cap : Nat} {l : List Int} (h : Bs w (.slice (some ⟨b, off, none⟩) n cap) l) (lo k : Nat) (LO K : Int) (hLO : LO = lo) (hKK : K = k) (hk : 0 < k) (hk8 : k ≤ 8) (h2 : lo + k ≤ l.length) (hm : l.length ≤ 1000) :
    Calls Tryd.prog 47 #[.slice (some ⟨b, off, none⟩) n cap, .int .i64 LO, .int .i64 K] w fun e w' => e = .returned (.int .u64 (num ((l.drop lo).take k))) ∧ w' = w := by
  subst hLO hKK
  exact RNum_at h lo k hk hk8 h2 hm
theorem bs_len {w : World} {a : Option Addr} {n c : Nat} {l : List Int} (h : Bs w (.slice a n c) l) : n = l.length := by
  obtain ⟨_, a', c', e, _⟩ := h
  simp only [Value.slice.injEq] at e
  exact e.2.1
set_option maxRecDepth 20000 in
theorem R4_short {w : World} {a : Option Addr} {n c : Nat} {l : List Int} (hv : Bs w (.slice a n c) l) (h : l.length < 7) :
    Calls Tryd.prog 14 #[.slice a n c] w fun e w' => e = .returned (.tuple #[.agg Bp.zero.row, .int .i64 2]) ∧ Below w.heap.size w w' := by
  have hn := bs_len hv
  have hd : (n : Int) < 7 := by omega
  have hA := heap_alloc_new w (.cells Bp.zero.row 41)
  have hW := hide (below1 w (.cells Bp.zero.row 41))
  clear hn
  go_enter Tryd.func14, Tryd.ntmps14
  go_wp2_with ((with_reducible change wpList _ _ _ _ _ _); refine wpList_store_row rfl 41 _ _ rfl w.heap.size Bp.zero.row rfl rfl 41 _ hA (bpSize _) rfl (Bp.row_all _) ?_)
  exact bodyPost_ret (results_cell_row2 rfl _ _ w.heap.size 41 _ _ _ rfl (setRow_heap _ _ _ _ _ _ hA) Tryd.underlying41 rfl (bpSize Bp.zero)) rfl ⟨rfl, below_setRow hW.out (Nat.le_refl _) _⟩
/-- Bytes at a place, of which there are some. -/
theorem bs_at {w : World} {a : Option Addr} {n c : Nat} {l : List Int} (h : Bs w (.slice a n c) l) (hl : 0 < l.length) : ∃ b off, a = some ⟨b, off, none⟩ ∧ ∀ i, i < l.length → w.cell? ⟨b, off + i, none⟩ = some (.int .u8 (l.getD i 0)) := by
  rcases h.cases with ⟨rfl, _⟩ | ⟨b, off, cap, e, _, _, _, hc⟩
  · simp at hl
  · simp only [Value.slice.injEq] at e
    exact ⟨b, off, e.1, hc⟩
set_option maxRecDepth 20000 in
theorem R4_form {w : World} {a : Option Addr} {n c : Nat} {l : List Int} (hv : Bs w (.slice a n c) l) (h : 7 ≤ l.length) (hm : l.length ≤ 200) (h5 : num (l.take 5) ≠ 284575334400) :
    Calls Tryd.prog 14 #[.slice a n c] w fun e w' => e = .returned (.tuple #[.agg Bp.zero.row, .int .i64 11]) ∧ Below w.heap.size w w' := by
  have hn := bs_len hv
  have hd : (7 : Int) ≤ (n : Int) := by omega
  have hA := heap_alloc_new w (.cells Bp.zero.row 41)
  have hW := hide (below1 w (.cells Bp.zero.row 41))
  have hv0 := hv.below hW.out
  obtain ⟨b, off, rfl, hc⟩ := bs_at hv0 (by omega)
  have hN := hide (RNum_lit hv0 0 5 0 5 rfl rfl (by omega) (by omega) (by omega) (by omega))
  have h5' : (num (l.take 5) != 284575334400) = true := by simpa using h5
  rw [List.drop_zero] at hN
  generalize num (l.take 5) = NN at *
  clear hn hv hv0 hc h5
  go_enter Tryd.func14, Tryd.ntmps14
  go_wp2_with fail
  refine hN.out.mono ?_
  rintro e w1 ⟨rfl, he⟩
  obtain rfl := he.symm
  clear he
  go_wp2_with ((with_reducible change wpList _ _ _ _ _ _); refine wpList_store_row rfl 41 _ _ rfl w.heap.size Bp.zero.row rfl rfl 41 _ hA (bpSize _) rfl (Bp.row_all _) ?_)
  exact bodyPost_ret (results_cell_row2 rfl _ _ w.heap.size 41 _ _ _ rfl (setRow_heap _ _ _ _ _ _ hA) Tryd.underlying41 rfl (bpSize Bp.zero)) rfl ⟨rfl, below_setRow hW.out (Nat.le_refl _) _⟩
set_option maxRecDepth 20000 in
theorem R4_notice {w : World} {a : Option Addr} {n c : Nat} {l : List Int} (hv : Bs w (.slice a n c) l) (h : 7 ≤ l.length) (hm : l.length ≤ 200) (h5 : num (l.take 5) = 284575334400) (h6 : l.getD 6 0 = 128) :
    Calls Tryd.prog 14 #[.slice a n c] w fun e w' => e = .returned (.tuple #[.agg (Bp.ofKind 2).row, .int .i64 0]) ∧ Below w.heap.size w w' := by
  have hn := bs_len hv
  have hd : (7 : Int) ≤ (n : Int) := by omega
  have hA := heap_alloc_new w (.cells Bp.zero.row 41)
  have hW := hide (below1 w (.cells Bp.zero.row 41))
  have hv0 := hv.below hW.out
  obtain ⟨b, off, rfl, hc⟩ := bs_at hv0 (by omega)
  have hN := hide (RNum_lit hv0 0 5 0 5 rfl rfl (by omega) (by omega) (by omega) (by omega))
  rw [List.drop_zero, h5] at hN
  have c5 := hc 5 (by omega)
  have c6 := hc 6 (by omega)
  have b5 := hv.byte.getD 5
  have b6 := hv.byte.getD 6

  generalize l.getD 5 0 = d5 at *
  generalize l.getD 6 0 = d6 at *
  clear hv hv0 hc h5
  subst h6
  clear hn
  go_enter Tryd.func14, Tryd.ntmps14
  go_wp2_with fail
  refine hN.out.mono ?_
  rintro e w1 ⟨rfl, he⟩
  obtain rfl := he.symm
  clear he
  go_wp2_with ((with_reducible change wpList _ _ _ _ _ _); refine wpList_store_row rfl 41 _ _ rfl w.heap.size (Bp.ofKind 2).row rfl rfl 41 _ hA (bpSize _) rfl (Bp.row_all _) ?_)
  exact bodyPost_ret (results_cell_row2 rfl _ _ w.heap.size 41 _ _ _ rfl (setRow_heap _ _ _ _ _ _ hA) Tryd.underlying41 rfl (bpSize (Bp.ofKind 2))) rfl ⟨rfl, below_setRow hW.out (Nat.le_refl _) _⟩
set_option maxRecDepth 20000 in
theorem R4_kind {w : World} {a : Option Addr} {n c : Nat} {l : List Int} (hv : Bs w (.slice a n c) l) (h : 7 ≤ l.length) (hm : l.length ≤ 200) (h5 : num (l.take 5) = 284575334400) (h6 : ¬ l.getD 6 0 = 128) (h7 : (l.getD 6 0 = 2 ∧ l.getD 5 0 < 2) ∨ (l.getD 6 0 ≠ 2 ∧ l.getD 6 0 ≠ 0)) :
    Calls Tryd.prog 14 #[.slice a n c] w fun e w' => e = .returned (.tuple #[.agg (Bp.zero).row, .int .i64 11]) ∧ Below w.heap.size w w' := by
  have hn := bs_len hv
  have hd : (7 : Int) ≤ (n : Int) := by omega
  have hA := heap_alloc_new w (.cells Bp.zero.row 41)
  have hW := hide (below1 w (.cells Bp.zero.row 41))
  have hv0 := hv.below hW.out
  obtain ⟨b, off, rfl, hc⟩ := bs_at hv0 (by omega)
  have hN := hide (RNum_lit hv0 0 5 0 5 rfl rfl (by omega) (by omega) (by omega) (by omega))
  rw [List.drop_zero, h5] at hN
  have c5 := hc 5 (by omega)
  have c6 := hc 6 (by omega)
  have b5 := hv.byte.getD 5
  have b6 := hv.byte.getD 6

  generalize l.getD 5 0 = d5 at *
  generalize l.getD 6 0 = d6 at *
  clear hv hv0 hc h5
  clear hn
  rcases h7 with ⟨rfl, h7⟩ | ⟨h7, h8⟩
  · go_enter Tryd.func14, Tryd.ntmps14
    go_wp2_with fail
    refine hN.out.mono ?_
    rintro e w1 ⟨rfl, he⟩
    obtain rfl := he.symm
    clear he
    go_wp2_with ((with_reducible change wpList _ _ _ _ _ _); refine wpList_store_row rfl 41 _ _ rfl w.heap.size (Bp.zero).row rfl rfl 41 _ hA (bpSize _) rfl (Bp.row_all _) ?_)
    exact bodyPost_ret (results_cell_row2 rfl _ _ w.heap.size 41 _ _ _ rfl (setRow_heap _ _ _ _ _ _ hA) Tryd.underlying41 rfl (bpSize (Bp.zero))) rfl ⟨rfl, below_setRow hW.out (Nat.le_refl _) _⟩
  · have e6 : (d6 == 128) = false := by simpa using h6
    have e7 : (d6 == 2) = false := by simpa using h7
    have e8 : (d6 != 0) = true := by simpa using h8
    clear h6 h7 h8
    go_enter Tryd.func14, Tryd.ntmps14
    go_wp2_with fail
    refine hN.out.mono ?_
    rintro e w1 ⟨rfl, he⟩
    obtain rfl := he.symm
    clear he
    go_wp2_with ((with_reducible change wpList _ _ _ _ _ _); refine wpList_store_row rfl 41 _ _ rfl w.heap.size (Bp.zero).row rfl rfl 41 _ hA (bpSize _) rfl (Bp.row_all _) ?_)
    exact bodyPost_ret (results_cell_row2 rfl _ _ w.heap.size 41 _ _ _ rfl (setRow_heap _ _ _ _ _ _ hA) Tryd.underlying41 rfl (bpSize (Bp.zero))) rfl ⟨rfl, below_setRow hW.out (Nat.le_refl _) _⟩
set_option maxRecDepth 20000 in
theorem R4_cut {w : World} {a : Option Addr} {n c : Nat} {l : List Int} (hv : Bs w (.slice a n c) l) (h : 7 ≤ l.length) (hm : l.length ≤ 200) (h5 : num (l.take 5) = 284575334400) (h7 : (l.getD 6 0 = 0 ∧ l.length < 38) ∨ (l.getD 6 0 = 2 ∧ 2 ≤ l.getD 5 0 ∧ l.length < 39)) :
    Calls Tryd.prog 14 #[.slice a n c] w fun e w' => e = .returned (.tuple #[.agg (Bp.zero).row, .int .i64 2]) ∧ Below w.heap.size w w' := by
  have hn := bs_len hv
  have hd : (7 : Int) ≤ (n : Int) := by omega
  have hA := heap_alloc_new w (.cells Bp.zero.row 41)
  have hW := hide (below1 w (.cells Bp.zero.row 41))
  have hv0 := hv.below hW.out
  obtain ⟨b, off, rfl, hc⟩ := bs_at hv0 (by omega)
  have hN := hide (RNum_lit hv0 0 5 0 5 rfl rfl (by omega) (by omega) (by omega) (by omega))
  rw [List.drop_zero, h5] at hN
  have c5 := hc 5 (by omega)
  have c6 := hc 6 (by omega)
  have b5 := hv.byte.getD 5
  have b6 := hv.byte.getD 6

  generalize l.getD 5 0 = d5 at *
  generalize l.getD 6 0 = d6 at *
  clear hv hv0 hc h5
  rcases (show (d6 = 0 ∧ (n : Int) < 38) ∨ (d6 = 2 ∧ 2 ≤ d5 ∧ (n : Int) < 38) ∨ (d6 = 2 ∧ 2 ≤ d5 ∧ (n : Int) = 38) by omega) with ⟨rfl, h8⟩ | ⟨rfl, h8, h9⟩ | ⟨rfl, h8, h9⟩
  · clear hn h7
    go_enter Tryd.func14, Tryd.ntmps14
    go_wp2_with fail
    refine hN.out.mono ?_
    rintro e w1 ⟨rfl, he⟩
    obtain rfl := he.symm
    clear he
    go_wp2_with ((with_reducible change wpList _ _ _ _ _ _); refine wpList_store_row rfl 41 _ _ rfl w.heap.size (Bp.zero).row rfl rfl 41 _ hA (bpSize _) rfl (Bp.row_all _) ?_)
    exact bodyPost_ret (results_cell_row2 rfl _ _ w.heap.size 41 _ _ _ rfl (setRow_heap _ _ _ _ _ _ hA) Tryd.underlying41 rfl (bpSize (Bp.zero))) rfl ⟨rfl, below_setRow hW.out (Nat.le_refl _) _⟩
  · clear hn h7
    go_enter Tryd.func14, Tryd.ntmps14
    go_wp2_with fail
    refine hN.out.mono ?_
    rintro e w1 ⟨rfl, he⟩
    obtain rfl := he.symm
    clear he
    go_wp2_with ((with_reducible change wpList _ _ _ _ _ _); refine wpList_store_row rfl 41 _ _ rfl w.heap.size (Bp.zero).row rfl rfl 41 _ hA (bpSize _) rfl (Bp.row_all _) ?_)
    exact bodyPost_ret (results_cell_row2 rfl _ _ w.heap.size 41 _ _ _ rfl (setRow_heap _ _ _ _ _ _ hA) Tryd.underlying41 rfl (bpSize (Bp.zero))) rfl ⟨rfl, below_setRow hW.out (Nat.le_refl _) _⟩
  · have h10 : n = 38 := by omega
    clear hn h7 h9 hd
    subst h10
    go_enter Tryd.func14, Tryd.ntmps14
    go_wp2_with fail
    refine hN.out.mono ?_
    rintro e w1 ⟨rfl, he⟩
    obtain rfl := he.symm
    clear he
    go_wp2_with ((with_reducible change wpList _ _ _ _ _ _); refine wpList_store_row rfl 41 _ _ rfl w.heap.size (Bp.zero).row rfl rfl 41 _ hA (bpSize _) rfl (Bp.row_all _) ?_)
    exact bodyPost_ret (results_cell_row2 rfl _ _ w.heap.size 41 _ _ _ rfl (setRow_heap _ _ _ _ _ _ hA) Tryd.underlying41 rfl (bpSize (Bp.zero))) rfl ⟨rfl, below_setRow hW.out (Nat.le_refl _) _⟩
end Go.Proofs.YtmakaadmjgakaaaDoor
