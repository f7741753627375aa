/-
  A contract of the document's own Parse of frames. Conditions: none beyond what each theorem names.
-/
import Derived.Test.YtiimppbfigikfaaDoorRf2
namespace Go.Proofs.YtiimppbfigikfaaDoor
open Go.RowKit
set_option linter.unusedVariables false

theorem Bs.len0 {w : World} {a : Option Addr} {n c : Nat} {l : List Int} (h : Bs w (.slice a n c) l) : n = l.length := by
  obtain ⟨_, _, _, e, _⟩ := h
  simp only [Value.slice.injEq] at e
  exact e.2.1
set_option maxRecDepth 20000 in
theorem RP_short {w : World} {v : Value} {l : List Int} (hv : Bs w v l) (h : l.length < 64) :
    Calls Tryd.prog 20 #[v] w fun e w' => e = .returned (.tuple #[.agg Hd.zero.row, .slice none 0 0, .int .i64 2]) ∧ Below w.heap.size w w' := by
  obtain ⟨_, a, cap, rfl, _⟩ := hv
  have hd : decide ((l.length : Int) < 64) = true := by simp; omega
  have hA := heap_alloc_new w (.cells Hd.zero.row 27)
  clear h
  go_enter Tryd.func20, Tryd.ntmps20
  go_wp2_with ((with_reducible change wpList _ _ _ _ _ _); refine wpList_store_row rfl 27 (.tmp 2) (.tmp 13) rfl w.heap.size Hd.zero.row rfl rfl 27 _ hA (hdSize _) rfl (Hd.row_all _) ?_)
  exact bodyPost_ret (results_cell_row3 rfl _ _ w.heap.size 27 _ _ _ rfl (setRow_heap _ _ _ _ _ _ hA) Tryd.underlying27 rfl (hdSize _)) rfl ⟨rfl, below_setRow (below1 _ _) (Nat.le_refl _) _⟩
set_option maxRecDepth 20000 in
theorem RP_long {w : World} {v : Value} {l : List Int} (hv : Bs w v l) (h : 1522 < l.length) :
    Calls Tryd.prog 20 #[v] w fun e w' => e = .returned (.tuple #[.agg Hd.zero.row, .slice none 0 0, .int .i64 3]) ∧ Below w.heap.size w w' := by
  obtain ⟨_, a, cap, rfl, _⟩ := hv
  have hd : decide ((l.length : Int) < 64) = false := by simp; omega
  have hd2 : decide ((1522 : Int) < (l.length : Int)) = true := by simp; omega
  have hA := heap_alloc_new w (.cells Hd.zero.row 27)
  clear h
  go_enter Tryd.func20, Tryd.ntmps20
  go_wp2_with ((with_reducible change wpList _ _ _ _ _ _); refine wpList_store_row rfl 27 (.tmp 2) (.tmp 17) rfl w.heap.size Hd.zero.row rfl rfl 27 _ hA (hdSize _) rfl (Hd.row_all _) ?_)
  exact bodyPost_ret (results_cell_row3 rfl _ _ w.heap.size 27 _ _ _ rfl (setRow_heap _ _ _ _ _ _ hA) Tryd.underlying27 rfl (hdSize _)) rfl ⟨rfl, below_setRow (below1 _ _) (Nat.le_refl _) _⟩
set_option maxRecDepth 20000 in
theorem RP_sum {w : World} {v : Value} {l : List Int} (hv : Bs w v l) (h : 64 ≤ l.length) (h2 : l.length ≤ 1522) (hs : ¬ sealL (l.take (l.length - 4)) = l) :
    Calls Tryd.prog 20 #[v] w fun e w' => e = .returned (.tuple #[.agg Hd.zero.row, .slice none 0 0, .int .i64 10]) ∧ Below w.heap.size w w' := by
  have hR := hide (Right_any (hv.below (below1 w (.cells Hd.zero.row 27))) (by omega) (by omega))
  rw [decide_eq_false hs] at hR
  obtain ⟨_, a, cap, rfl, _⟩ := hv
  have hd : decide ((l.length : Int) < 64) = false := by simp; omega
  have hd2 : decide ((1522 : Int) < (l.length : Int)) = false := by simp; omega
  have hA := heap_alloc_new w (.cells Hd.zero.row 27)
  clear h h2 hs
  go_enter Tryd.func20, Tryd.ntmps20
  go_wp2_with fail
  refine hR.out.mono ?_
  rintro e w1 ⟨rfl, hb1⟩
  have hA1 := heap_kept hb1 hA
  have hW1 := hide ((below1 w _).later hb1)
  clear hb1 hA hR
  go_wp2_with ((with_reducible change wpList _ _ _ _ _ _); refine wpList_store_row rfl 27 (.tmp 2) (.tmp 21) rfl w.heap.size Hd.zero.row rfl rfl 27 _ hA1 (hdSize _) rfl (Hd.row_all _) ?_)
  exact bodyPost_ret (results_cell_row3 rfl _ _ w.heap.size 27 _ _ _ rfl (setRow_heap _ _ _ _ _ _ hA1) Tryd.underlying27 rfl (hdSize _)) rfl ⟨rfl, below_setRow hW1.out (Nat.le_refl _) _⟩
/-- The document's own Parse answers the same. -/
theorem RParse_any {w : World} {v : Value} {l : List Int} (hv : Bs w v l) :
    Calls Tryd.prog 20 #[v] w fun e w' => ∃ a n c, e = .returned (.tuple #[.agg (parsed l).1.row, .slice a n c, .int .i64 (parsed l).2.2]) ∧ Bs w' (.slice a n c) (parsed l).2.1 ∧ Below w.heap.size w w' := by
  have bad : ∀ k : Int, parsed l = (Hd.zero, [], k) → (Calls Tryd.prog 20 #[v] w fun e w' => e = .returned (.tuple #[.agg Hd.zero.row, .slice none 0 0, .int .i64 k]) ∧ Below w.heap.size w w') → Calls Tryd.prog 20 #[v] w fun e w' => ∃ a n c, e = .returned (.tuple #[.agg (parsed l).1.row, .slice a n c, .int .i64 (parsed l).2.2]) ∧ Bs w' (.slice a n c) (parsed l).2.1 ∧ Below w.heap.size w w' := by
    intro k hk hc
    refine hc.mono ?_
    rintro e w' ⟨rfl, hb⟩
    rw [hk]
    exact ⟨none, 0, 0, rfl, Bs.nil _, hb⟩
  by_cases h1 : l.length < 64
  · exact bad 2 (by unfold parsed; rw [if_pos h1]) (RP_short hv h1)
  by_cases h2 : 1522 < l.length
  · exact bad 3 (by unfold parsed; rw [if_neg h1, if_pos h2]) (RP_long hv h2)
  by_cases hs : sealL (l.take (l.length - 4)) = l
  · rcases hv.cases with ⟨rfl, _⟩ | ⟨b, off, cap, rfl, _⟩
    · simp at h1
    · exact RP_loop hv (by omega) (by omega) hs _ rfl
  · exact bad 10 (by unfold parsed; rw [if_neg h1, if_neg h2, if_pos hs]) (RP_sum hv (by omega) (by omega) hs)
theorem parsed_wf {l : List Int} (hb : Byte l) : (parsed l).1.wf := by
  have hz : Hd.zero.wf := ⟨⟨by intro z hz; simp [Hd.dst, Hd.zero] at hz; omega, by intro z hz; simp [Hd.src, Hd.zero] at hz; omega⟩, ⟨by decide, by decide⟩, ⟨by decide, by decide⟩, ⟨by decide, by decide⟩⟩
  by_cases h : (parsed l).2.2 = 0
  · have hG := good_of h
    have hl := hG.least
    have hF := fits_of_body (hb.take (l.length - 4)) (by simp; omega) hG.may
    have ht := hF.tag
    rw [hG.is]
    show (hdOf (l.take (l.length - 4))).wf
    generalize hdOf (l.take (l.length - 4)) = H at *
    have h0 := hF.t0
    have h1 := hF.t1
    have hp : I64 H.pcp ∧ I64 H.vid := by
      unfold tagFitsB at ht
      unfold I64
      cases hq : H.tg <;> rw [hq] at ht <;> simp at ht <;> omega
    exact ⟨hF.bytes, hp.1, hp.2, ⟨by omega, by omega⟩⟩
  · have e : (parsed l).1 = Hd.zero := by
      revert h
      unfold parsed
      repeat' split
      all_goals simp
    rw [e]
    exact hz
end Go.Proofs.YtiimppbfigikfaaDoor
