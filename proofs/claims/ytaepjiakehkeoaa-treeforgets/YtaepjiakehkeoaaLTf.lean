/-
  The walk of TreeForgets. Conditions: none.
-/
import Derived.Test.YtaepjiakehkeoaaTree25
namespace Go.Proofs.Ytaepjiakehkeoaa
open Go.RowKit
set_option linter.unusedVariables false
set_option maxRecDepth 100000

def msgF (r : Int) : Bp := ⟨1, r, 0, r, 9, false, false, false, false, false, false, 3, 0, 5120, 0, 0⟩
def F0 (r : Int) : Tt := recvT (linkT (newT 100 [portP 1]) 0 true) 0 (msgF r)
def okF (r : Int) (s : Nat) : Bool := if s < 6 then decide ((tickN (F0 r) s).y.root = r ∧ (tickN (F0 r) s).rp = 0) else decide ((tickN (F0 r) s).y.root = 100 ∧ (tickN (F0 r) s).rp = -1)
set_option maxHeartbeats 8000000 in
theorem F_ok : ∀ r, r < 100 → ∀ s, s < 21 → okF (r : Nat) s = true := by decide
set_option maxHeartbeats 4000000 in
theorem Tf_walk (r s : Int) (w : World) (hr : U64 r) : Calls Try.prog 12 #[.int .u64 r, .int .i64 s] w fun e w' => e = .returned (.bool true) ∧ Below w.heap.size w w' := by
  obtain ⟨hr0, hr1⟩ := hr
  go_enter Try.func12, Try.ntmps12
  go_wp2_with fail
  refine (grows_any _).mono ?_
  rintro e w0 ⟨rfl, hb0⟩
  replace hb0 := hide hb0
  by_cases hr2 : r ≥ 100
  · go_wp2
    go_ret
    exact ⟨rfl, hb0.out⟩
  by_cases h0 : s < 0
  · go_wp2
    go_ret
    exact ⟨rfl, hb0.out⟩
  by_cases h1 : s > 20
  · go_wp2
    go_ret
    exact ⟨rfl, hb0.out⟩
  obtain ⟨n, rfl⟩ := Int.eq_ofNat_of_zero_le (show 0 ≤ s by omega)
  obtain ⟨q, rfl⟩ := Int.eq_ofNat_of_zero_le hr0
  have hq : q < 100 := by omega
  have hb1 := hide (below1 w0 (.cells #[.int .i64 1] 3))
  have hF0 : Fl (w0.alloc (.cells #[.int .i64 1] 3)) w0.heap.size 3 fI [1] [] := heap_alloc_new _ _
  have hp := hide (ports_any (some ⟨w0.heap.size, 0, none⟩) 1 1 [1] (w0.alloc (.cells #[.int .i64 1] 3)) (by omega) hF0.ins)
  clear hF0
  go_wp2_with fail
  refine hp.out.mono ?_
  rintro e w1 ⟨v1, rfl, hS1, hB1, hF1⟩
  have hB2 := hide (hb0.out.later (hb1.out.later hB1))
  obtain ⟨a1, c1, rfl, hc1, hcn1, hT1⟩ := hS1.tps (ports_wf (l := [1]) (fun i hi => by
    have hi' : i < 1 := hi
    obtain rfl : i = 0 := by omega
    simp [I64]))
  have hl1 : ([1].map portP).length = 1 := rfl
  rw [hl1] at hc1 hT1 ⊢
  have hn := hide (ONew 100 a1 1 c1 [portP 1] w1 (fun k => k < w.heap.size) (fun k hk => Nat.lt_of_lt_of_le hk hB2.out.size) (by simp [U64]) (by omega) hc1 hcn1 hT1)
  clear hp hb1 hB1 hF1 hS1 hc1 hcn1 hT1 hl1 hb0
  go_wp2_with fail
  refine hn.out.mono ?_
  rintro e w3 ⟨tb, rfl, hO3, hb3⟩
  have hB3 := hide (hB2.out.later hb3)
  replace hO3 := hide hO3
  clear hn hB2 hb3
  go_wp2_with fail
  refine (OLink hO3.out (by omega) 0 true).mono ?_
  rintro e w4 ⟨rfl, hO4, hK4⟩
  have hB4 := hide (hK4.below hB3.out (fun k hk => hk))
  have hwf : (msgF q).wf := ⟨by simp [I64, msgF], by simp [U64, msgF]; omega, by simp [U64, msgF], by simp [U64, msgF]; omega, by simp [I64, msgF], by simp [I64, msgF], by simp [I64, msgF], by simp [I64, msgF], by simp [I64, msgF], by simp [I64, msgF]⟩
  have hr4 := hide (OReceive hO4 (by omega) 0 (msgF q) hwf)
  clear hK4 hB3 hO3 hO4 hwf
  go_wp2_with fail
  refine hr4.out.mono ?_
  rintro e w5 ⟨rfl, hO5, hK5⟩
  have hB5 := hide (hK5.below hB4.out (fun k hk => hk))
  replace hO5 := hide hO5
  have hG : Hid (recvT (linkT (newT 100 [portP 1]) 0 true) 0 (msgF q) = tickN (F0 q) 0) := rfl
  rw [hG.out] at hO5
  clear hr4 hK5 hB4 hG
  have h5 := hide (ORoot hO5.out)
  have g0 : (tickN (F0 q) 0).y.root = q ∧ (tickN (F0 q) 0).rp = 0 := of_decide_eq_true (F_ok q hq 0 (by omega))
  have hfin : Hid (okF q n = true) := F_ok q hq n (by omega)
  rw [g0.2] at h5
  generalize hy : (tickN (F0 q) 0).y = y at *
  obtain ⟨y0, y1, y2, y3⟩ := y
  have f5 : y0 = q := g0.1
  subst f5
  clear g0 hy
  go_wp2_with fail
  refine h5.out.mono ?_
  rintro e w7 ⟨rfl, hb7⟩
  have hO7 := hO5.out.below hb7
  have hB7 := hB5.out.later hb7
  clear h5 hO5 hB5 hb7
  have hbA := below1 w7 (.cells (Vc.row ⟨q, y1, y2, y3⟩) 26)
  have hk8' := heap_alloc_new w7 (.cells (Vc.row ⟨q, y1, y2, y3⟩) 26)
  have hO8 := hide (hO7.fresh hbA (fun k => k < w.heap.size ∨ k = w7.heap.size) (fun k hk => by
    rcases hk with h | h
    · exact .inl h
    · exact .inr ⟨by omega, by rw [World.size_alloc]; omega⟩))
  have hB8 := hide (hB7.later hbA)
  have hg7 : Hid (w.heap.size ≤ w7.heap.size) := hB7.size
  have hk8 : (w7.alloc (.cells (Vc.row ⟨q, y1, y2, y3⟩) 26)).cell? ⟨w7.heap.size, 0, none⟩ = some (.int .u64 q) := (cell_of_row _ _ _ _ _ _ hk8').trans rfl
  replace hk8' := hide hk8'
  clear hbA hO7 hB7
  go_wp2_with fail
  clear hk8
  generalize w7.alloc (.cells (Vc.row ⟨q, y1, y2, y3⟩) 26) = w8 at *
  generalize w7.heap.size = g at *
  go_loopw [45] (fun i wr => ∃ j : Nat, j ≤ n ∧ i = .int .i64 j ∧ Hid (Ow wr tb (fun k => k < w.heap.size ∨ k = g) (0 + 40 + 40 + 40 * j) (tickN (F0 q) j)) ∧ Hid (Below w.heap.size w wr) ∧ Hid (wr.heap[g]? = some (.cells (Vc.row ⟨q, y1, y2, y3⟩) 26))) (fun i _ => n - (intOf i).toNat)
  case atStart => exact ⟨0, Nat.zero_le _, rfl, hO8, hB8, hk8'⟩
  case round =>
    obtain ⟨j, hj, rfl, hO, hB, hZ⟩ := hrel
    clear hO8 hB8 hk8'
    by_cases hlt : j < n
    · go_wp2_with fail
      refine (OTick hO.out (by omega)).mono ?_
      rintro e w5 ⟨rfl, hO5, hK5⟩
      have hB5 := hide (hK5.below hB.out (fun k hk => .inl hk))
      have hZ5 := hide ((hK5.block g (.inr rfl)).trans hZ.out)
      replace hO5 := hide hO5
      clear hK5 hO hB hZ
      go_wp2
      go_round
      case rel => exact ⟨j + 1, by omega, by go_num, hO5, hB5, hZ5⟩
      case measure => simp [intOf]; omega
    · obtain rfl : n = j := by omega
      have hro := hide (ORoot hO.out)
      have hE : Hid (okF q n = if n < 6 then decide ((tickN (F0 q) n).y.root = q ∧ (tickN (F0 q) n).rp = 0) else decide ((tickN (F0 q) n).y.root = 100 ∧ (tickN (F0 q) n).rp = -1)) := rfl
      rw [hfin.out] at hE
      generalize tickN (F0 q) n = T at *
      generalize hy : T.y = y at *
      obtain ⟨x0, x1, x2, x3⟩ := y
      generalize T.rp = rp at *
      have hzs : (⟨q, y1, y2, y3⟩ : Vc).row.size = (⟨x0, x1, x2, x3⟩ : Vc).row.size := rfl
      clear hO hy hlt hj
      by_cases h6 : n < 6
      · have g1 := hE.out
        rw [if_pos h6] at g1
        have g2 : x0 = q ∧ rp = 0 := of_decide_eq_true g1.symm
        obtain ⟨rfl, rfl⟩ := g2
        clear hE g1
        go_wp2_with fail
        refine hro.out.mono ?_
        rintro e w6 ⟨rfl, hb6⟩
        have hZ6 := heap_kept hb6 hZ.out
        have hB6 := hB.out.later hb6
        have hR6 := hide (setRow_heap w6 g _ (Vc.row ⟨q, x1, x2, x3⟩) 26 _ hZ6)
        have hB7 := hide (below_setRow hB6 hg7.out (Vc.row ⟨q, x1, x2, x3⟩))
        have hk : (w6.setRow g (Vc.row ⟨q, x1, x2, x3⟩)).cell? ⟨g, 0, none⟩ = some (.int .u64 q) := (cell_of_row _ _ _ _ _ _ hR6.out).trans rfl
        clear hro hb6 hB6 hZ hB
        go_wp2_with ((with_reducible change wpList _ _ _ _ _ _); refine wpList_store_row rfl 26 (.tmp 6) (.tmp 53) rfl g (Vc.row ⟨q, x1, x2, x3⟩) rfl rfl 26 _ hZ6 (vecSize Vc.zero) rfl (Vc.row_all _) ?_)
        go_ret
        exact ⟨rfl, hB7.out⟩
      · have g1 := hE.out
        rw [if_neg h6] at g1
        have g2 : x0 = 100 ∧ rp = -1 := of_decide_eq_true g1.symm
        obtain ⟨rfl, rfl⟩ := g2
        clear hE g1
        go_wp2_with fail
        refine hro.out.mono ?_
        rintro e w6 ⟨rfl, hb6⟩
        have hZ6 := heap_kept hb6 hZ.out
        have hB6 := hB.out.later hb6
        have hR6 := hide (setRow_heap w6 g _ (Vc.row ⟨100, x1, x2, x3⟩) 26 _ hZ6)
        have hB7 := hide (below_setRow hB6 hg7.out (Vc.row ⟨100, x1, x2, x3⟩))
        have hk : (w6.setRow g (Vc.row ⟨100, x1, x2, x3⟩)).cell? ⟨g, 0, none⟩ = some (.int .u64 100) := (cell_of_row _ _ _ _ _ _ hR6.out).trans rfl
        clear hro hb6 hB6 hZ hB
        go_wp2_with ((with_reducible change wpList _ _ _ _ _ _); refine wpList_store_row rfl 26 (.tmp 6) (.tmp 53) rfl g (Vc.row ⟨100, x1, x2, x3⟩) rfl rfl 26 _ hZ6 (vecSize Vc.zero) rfl (Vc.row_all _) ?_)
        go_ret
        exact ⟨rfl, hB7.out⟩
end Go.Proofs.Ytaepjiakehkeoaa
