/-
  The statement MacParses, walked. Condition: the table lies as the program's text lays it ('Tab').
-/
import Derived.Test.YtiimppbfigikfaaDoorRf3
import Derived.Test.YtiimppbfigikfaaDoorCame
namespace Go.Proofs.YtiimppbfigikfaaDoor
open Go.RowKit
set_option linter.unusedVariables false

set_option maxRecDepth 20000 in
set_option maxHeartbeats 1000000 in
theorem Par_walk {v : Value} {l : List Int} {w : World} (hT : Tab w) (hv : Bs w v l) :
    Calls Tryd.prog 3 #[v] w fun e w' => e = .returned (.bool true) ∧ Below w.heap.size w w' := by
  have hF := hide (fun w hT => frames_any w hT)
  have HT := hide hT
  have HV := hide hv
  have hwf := hide (parsed_wf hv.byte)
  have hPa := hide (fun W (h : Bs W v l) hT => Parse_any h hT)
  have hPb := hide (fun W (h : Bs W v l) => RParse_any h)
  obtain ⟨_, va, vc, rfl, _⟩ := hv
  clear hT
  by_cases hl : 1600 < l.length
  · have hd : decide ((1600 : Int) < (l.length : Int)) = true := by simp; omega
    clear hl
    go_enter Tryd.func3, Tryd.ntmps3
    go_wp2_with fail
    refine (hF.out _ HT.out).mono ?_
    rintro e w1 ⟨rfl, hb1⟩
    go_wp2
    go_ret
    exact ⟨rfl, hb1⟩
  · have hd : decide ((1600 : Int) < (l.length : Int)) = false := by simp; omega
    clear hl
    generalize parsed l = PL at *
    obtain ⟨H, D, E⟩ := PL
    have heq : ∀ w, (binOp .eql 27 (.agg H.row) (.agg H.row)).run Tryd.prog w = .ok (.bool true) w := fun w => by rw [hd_eql H H hwf.out hwf.out]; simp
    have hgd := eqGuard_hd
    go_enter Tryd.func3, Tryd.ntmps3
    go_wp2_with fail
    refine (hF.out _ HT.out).mono ?_
    rintro e w1 ⟨rfl, hb1⟩
    have hW1 := hide hb1
    clear hb1 hF
    go_wp2_with fail
    refine (hPa.out _ (HV.out.below hW1.out) (HT.out.later hW1.out)).mono ?_
    rintro e w2 ⟨a2, n2', c2, rfl, hB2, hb2⟩
    have hW2 := hide (hW1.out.later hb2)
    have HB2 := hide hB2
    clear hb2 hB2 hW1 hPa
    go_wp2_with ((with_reducible change wpList _ _ _ _ _ _); refine wpList_store_fresh rfl 27 (.tmp 3) (.tmp 17) rfl H.row Hd.zero.row rfl rfl 27 (hdSize _) rfl (Hd.row_all _) ?_; intro w3 hG3 hb3; have hW3 := hide (hW2.out.later hb3); have HB3 := hide (HB2.out.below hb3); clear hb3 hW2 HB2)
    refine (hPb.out _ (HV.out.below hW3.out)).mono ?_
    rintro e w4 ⟨a4, n4, c4, rfl, hB4, hb4⟩
    have hG4 := heap_kept hb4 hG3
    have hW4 := hide (hW3.out.later hb4)
    have HB4 := hide hB4
    have HBa4 := hide (HB3.out.below hb4)
    clear hb4 hB4 hW3 hG3 HB3 hPb
    go_wp2_with ((with_reducible change wpList _ _ _ _ _ _); refine wpList_store_fresh rfl 27 (.tmp 6) (.tmp 23) rfl H.row Hd.zero.row rfl rfl 27 (hdSize _) rfl (Hd.row_all _) ?_; intro w5 hK5 hb5; have hG5 := heap_kept hb5 hG4; have hW5 := hide (hW4.out.later hb5); have HB5 := hide (HB4.out.below hb5); have HBa5 := hide (HBa4.out.below hb5); clear hb5 hW4 HB4 HBa4 hG4; refine unh ?_)
    refine hide ?_
    have ee : (E == E) = true := by simp
    obtain ⟨S1, hS1⟩ : ∃ S, S = bstr D := ⟨_, rfl⟩
    have z1 : (convert 22 9 (.slice a2 n2' c2)).run Tryd.prog w5 = .ok (.string S1) w5 := by rw [hS1]; exact conv_str 22 9 5 Tryd.underlying22 Tryd.underlying5 Tryd.underlying9 HBa5.out
    have z2 : (convert 22 9 (.slice a4 n4 c4)).run Tryd.prog w5 = .ok (.string S1) w5 := by rw [hS1]; exact conv_str 22 9 5 Tryd.underlying22 Tryd.underlying5 Tryd.underlying9 HB5.out
    clear hS1
    go_wp2_with ((with_reducible change wpList _ _ _ _ _ _); refine stop_load 27 (.tmp 3) rfl ?_)
    refine hide ?_
    refine wpList_load_row_on rfl 27 (.tmp 3) rfl w2.heap.size rfl 27 _ _ _ hG5 Tryd.underlying27 rfl (hdSize _) ?_
    refine wpList_load_row_on rfl 27 (.tmp 6) rfl w4.heap.size rfl 27 _ _ _ hK5 Tryd.underlying27 rfl (hdSize _) ?_
    simp only [Act.put, List.setIfInBounds_toArray, List.set_cons_zero, List.set_cons_succ]
    go_wp2_with fail
    go_ret
    refine ⟨ret_bool ?_, hW5.out⟩
    simp
end Go.Proofs.YtiimppbfigikfaaDoor
