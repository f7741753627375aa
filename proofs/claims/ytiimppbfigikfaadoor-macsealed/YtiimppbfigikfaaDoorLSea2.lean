/-
  The statement MacSealed, walked. Condition: the table lies as the program's text lays it ('Tab').
-/
import Derived.Test.YtiimppbfigikfaaDoorLSea
import Derived.Test.YtiimppbfigikfaaDoorCame
namespace Go.Proofs.YtiimppbfigikfaaDoor
open Go.RowKit
set_option linter.unusedVariables false

set_option maxRecDepth 20000 in
set_option maxHeartbeats 4000000 in
theorem Sea_A1 {w : World} {l : List Int} (hT : Tab w) (hv : Bs w (.slice none 0 0) l) (s : Nat) (h0 : 60 ≤ s) (h1 : s ≤ 1518) (hm : 0 = min 0 s) :
    Calls Tryd.prog 4 #[.slice none 0 0, .int .i64 s] w fun e w' => e = .returned (.bool true) ∧ Below w.heap.size w w' := by
  have hF := hide (fun w hT => frames_any w hT)
  have HT := hide hT
  have hnl := hv.len0
  have hvc : 0 ≤ 0 := by
    obtain ⟨_, a, c, e, h3, _⟩ := hv
    simp only [Value.slice.injEq] at e
    obtain ⟨_, e1, e2⟩ := e
    omega
  have HM := hide (hv.headAny0 0 (by omega))
  obtain ⟨L, hL⟩ : ∃ L, L = l.take 0 := ⟨_, rfl⟩
  rw [← hL] at HM
  have hLl : Hid (L.length = 0) := HM.out.len0.symm
  have hLb : Hid (Byte L) := HM.out.byte
  have hd0 : decide ((s : Int) < 60) = false := by simp; omega
  have hd1 : decide ((1518 : Int) < (s : Int)) = false := by simp; omega
  have hmin : min (0 : Int) (s : Int) = ((0 : Nat) : Int) := by omega
  have hmv : ((0 : Nat) : Int) ≤ ((0 : Nat) : Int) := by omega
  have hms : 0 ≤ s := by omega
  obtain ⟨i0, hi, hz0, hz1, hz2⟩ := info_parts Tryd.infoU8
  clear hT hL hnl hm
  go_enter Tryd.func4, Tryd.ntmps4
  go_wp2_with fail
  refine (hF.out _ HT.out).mono ?_
  rintro e w1 ⟨rfl, hb1⟩
  have hW1 := hide hb1
  have hba : Below w1.heap.size w1 (w1.alloc (.cells #[] 5)) := below1 _ _
  have hown0 : (w1.alloc (.cells #[] 5)).ownsRow w1.heap.size 5 1 (.slice (some ⟨w1.heap.size, 0, none⟩) 0 0) 0 [] := World.ownsRow_made w1 #[] 0 (Nat.le_refl _) (by simp [maxLen]) rfl
  have HO0 := hide hown0
  have HBA := hide hba
  clear hb1 hF hba hown0 HM
  go_wp2_with (at_builtin; refine wpList_append_fits_any _ rfl (.tmp 21) (.tmp 27) 22 rfl w1.heap.size 5 i0 1 Tryd.underlying22 hi hz1 w1.heap.size 0 0 [] rfl HO0.out _ 0 _ [] rfl rfl (by intro h; first | exact ⟨rfl, rfl⟩ | cases h) (by intro _ _ j u h; simp at h) (by simp) (by simp) ?_; intro w2 hown2 hgrow2; refine unh ?_)
  have hb2 : Below w1.heap.size w1 w2 := HBA.out.grown hgrow2 HBA.out.size (fun k e => by cases e; exact Nat.le_refl _)
  obtain ⟨v2, hv2⟩ : ∃ v, v = Value.slice (some ⟨w1.heap.size, 0, none⟩) 0 0 := ⟨_, rfl⟩
  have HO2 : Hid (w2.ownsRow w1.heap.size 5 1 v2 (0 + 0) ((L ++ List.replicate 0 0).map (Value.int .u8))) := by
    show World.ownsRow _ _ _ _ _ _ _
    rw [hv2, List.length_eq_zero_iff.1 hLl.out]
    exact hown2
  have hvs : ∃ g c, v2 = .slice (some ⟨g, 0, none⟩) (0 + 0) c ∧ w1.heap.size ≤ g := ⟨_, _, hv2, Nat.le_refl _⟩
  rw [← hv2]
  have HW2 := hide hb2
  have Hvs := hide hvs
  have hws : w.heap.size ≤ w1.heap.size := hW1.out.size
  clear hown2 hgrow2 hb2 hvs HO0 HBA hv2
  refine hide ?_
  go_wp2_with fail
  go_loopw [5] (fun v wr => ∃ j : Nat, 0 + j ≤ s ∧ (∃ g c, v = .slice (some ⟨g, 0, none⟩) (0 + j) c ∧ w1.heap.size ≤ g) ∧ Hid (wr.ownsRow w1.heap.size 5 1 v (0 + j) ((L ++ List.replicate j 0).map (Value.int .u8))) ∧ Hid (Below w1.heap.size w1 wr)) (fun v _ => s - lenV v)
  case atStart => exact ⟨0, by omega, Hvs.out, HO2, HW2⟩
  case round =>
    clear HO2 HW2 Hvs
    obtain ⟨j, hj, ⟨g, c, rfl, hg⟩, HO, HWr⟩ := hrel
    have hzr := HWr.out.size
    by_cases hlt : 0 + j < s
    · have hap := hide (app_zero L j)
      generalize hq : 0 + j = q at *
      have Hq := hide hq
      have hqs : (q : Int) < (s : Int) := by omega
      clear hq
      go_wp2_with (at_builtin; refine wpList_append_own _ rfl (.tmp 33) (.tmp 34) 22 rfl w1.heap.size 5 i0 (.int .u8 0) 1 1 Tryd.underlying22 hi hz0 hz1 hz2 rfl (by decide) (.slice (some ⟨g, 0, none⟩) q c) q ((L ++ List.replicate j 0).map (Value.int .u8)) rfl (HO.out.alloc _) ⟨wr.heap.size, 0, none⟩ 1 1 [.int .u8 0] rfl rfl (cell_one_new _ _ _) (by intro u hu; simp at hu; subst hu; rfl) (by unfold maxLen; omega) (by omega) (by simp; omega) ?_; intro v4 w4 hown4 hgrow4 _)
      have hb4 : Below w1.heap.size w1 w4 := (HWr.out.alloc hzr _).grown hgrow4 (by simp; omega) (fun k e => by cases e; exact hg)
      have hv4 : ∃ g c, v4 = .slice (some ⟨g, 0, none⟩) (q + 1) c ∧ w1.heap.size ≤ g := by
        rcases hown4.2 with ⟨_, h00⟩ | ⟨g, cap', cur, hv, hg, _⟩
        · omega
        · exact ⟨g, cap', hv, hg⟩
      have HO4 : Hid (w4.ownsRow w1.heap.size 5 1 v4 (q + 1) ((L ++ List.replicate (j + 1) 0).map (Value.int .u8))) := by
        show World.ownsRow _ _ _ _ _ _ _
        rw [← hap.out, List.map_append]
        exact hown4
      have HW4 := hide hb4
      have Hv4 := hide hv4
      clear hown4 hgrow4 hb4 hv4 HO HWr
      go_wp2
      go_roundw
      case rel => exact ⟨j + 1, by have := Hq.out; omega, by have := Hv4.out; rwa [← Hq.out] at this, by rw [show 0 + (j + 1) = q + 1 by have := Hq.out; omega]; exact HO4, HW4⟩
      case measure =>
        obtain ⟨g', c', rfl, _⟩ := Hv4.out
        simp only [lenV]
        omega
    · have hjs : 0 + j = s := by omega
      obtain ⟨C, hC⟩ : ∃ C, C = L ++ List.replicate j 0 := ⟨_, rfl⟩
      have hCl : Hid (C.length = s) := by show _ = _; rw [hC, List.length_append, List.length_replicate, hLl.out]; exact hjs
      have hBC : Bs wr (.slice (some ⟨g, 0, none⟩) s c) C := by
        have h := HO.out
        rw [← hC, hjs] at h
        have := Bs.own (l := C) (by rw [hCl.out]; exact h) (by rw [hC]; exact hLb.out.append (zero_byte _))
        rwa [hCl.out] at this
      rw [hjs]
      have HBC := hide hBC
      have HWw := hide (hW1.out.trans (HWr.out.mono hws))
      have herr := sealed_err hCl.out h0 h1
      have hwf := hide (parsed_wf (sealL_byte hBC.byte))
      clear hBC hC HO HWr hlt hjs hj
      have hss : ¬ ((s : Int) < (s : Int)) := by omega
      go_wp2_with fail
      have hPa := hide (fun W (h : Bs W (.slice (some ⟨wr.heap.size, 0, none⟩) (s + 4) (s + 4)) (sealL C)) hT => Parse_any h hT)
      have hPb := hide (fun W (h : Bs W (.slice (some ⟨wr.heap.size, 0, none⟩) (s + 4) (s + 4)) (sealL C)) => RParse_any h)
      have hSe := hide (Seal_any HBC.out (HT.out.later HWw.out) (by rw [hCl.out]; omega))
      rw [hCl.out] at hSe
      generalize parsed (sealL C) = PL at *
      obtain ⟨HX, D, E⟩ := PL
      have heq : ∀ w, (binOp .eql 27 (.agg HX.row) (.agg HX.row)).run Tryd.prog w = .ok (.bool true) w := fun w => by rw [hd_eql HX HX hwf.out hwf.out]; simp
      have hgd := eqGuard_hd
      simp only at herr
      have Herr := hide herr
      clear herr
      generalize sealL C = SC at *
      refine hSe.out.mono ?_
      rintro e w5 ⟨rfl, hB5, hb5⟩
      have hW5 := hide (HWw.out.later hb5)
      have HB5 := hide hB5
      clear hb5 hB5 hSe HBC HWw
      generalize hgs : wr.heap.size = gs at *
      clear hgs
      go_wp2_with fail
      refine (hPa.out _ HB5.out (HT.out.later hW5.out)).mono ?_
      rintro e w6 ⟨a6, n6, c6, rfl, hD6, hb6⟩
      have hW6 := hide (hW5.out.later hb6)
      have HB6 := hide (HB5.out.below hb6)
      have HD6 := hide hD6
      clear hb6 hD6 hW5 HB5 hPa
      go_wp2_with ((with_reducible change wpList _ _ _ _ _ _); refine wpList_store_fresh rfl 27 (.tmp 7) (.tmp 41) rfl HX.row Hd.zero.row rfl rfl 27 (hdSize _) rfl (Hd.row_all _) ?_; intro w7 hG7 hb7; have hW7 := hide (hW6.out.later hb7); have HB7 := hide (HB6.out.below hb7); have HD7 := hide (HD6.out.below hb7); clear hb7 hW6 HB6 HD6)
      refine (hPb.out _ HB7.out).mono ?_
      rintro e w8 ⟨a8, n8, c8, rfl, hF8, hb8⟩
      have hG8 := heap_kept hb8 hG7
      have hW8 := hide (hW7.out.later hb8)
      have HD8 := hide (HD7.out.below hb8)
      have HF8 := hide hF8
      clear hb8 hF8 hW7 HB7 HD7 hG7 hPb
      go_wp2_with ((with_reducible change wpList _ _ _ _ _ _); refine wpList_store_fresh rfl 27 (.tmp 10) (.tmp 47) rfl HX.row Hd.zero.row rfl rfl 27 (hdSize _) rfl (Hd.row_all _) ?_; intro w9 hK9 hb9; have hG9 := heap_kept hb9 hG8; have hW9 := hide (hW8.out.later hb9); have HD9 := hide (HD8.out.below hb9); have HF9 := hide (HF8.out.below hb9); clear hb9 hW8 hG8 HD8 HF8; refine unh ?_)
      obtain ⟨S1, hS1⟩ : ∃ S, S = bstr D := ⟨_, rfl⟩
      obtain ⟨S2, hS2⟩ : ∃ S, S = bstr D := ⟨_, rfl⟩
      have hst : (S1.toList == S2.toList) = true := by rw [hS1, hS2]; simp
      have z1 : (convert 22 9 (.slice a6 n6 c6)).run Tryd.prog w9 = .ok (.string S1) w9 := by rw [hS1]; exact conv_str 22 9 5 Tryd.underlying22 Tryd.underlying5 Tryd.underlying9 HD9.out
      have z2 : (convert 22 9 (.slice a8 n8 c8)).run Tryd.prog w9 = .ok (.string S2) w9 := by rw [hS2]; exact conv_str 22 9 5 Tryd.underlying22 Tryd.underlying5 Tryd.underlying9 HF9.out
      clear hS1 hS2
      rcases Herr.out with rfl | rfl | ⟨rfl, hbig⟩
      · clear Herr
        refine hide ?_
        go_wp2_with ((with_reducible change wpList _ _ _ _ _ _); refine stop_load 27 (.tmp 7) rfl ?_)
        refine hide ?_
        refine wpList_load_row_on rfl 27 (.tmp 7) rfl w6.heap.size rfl 27 _ _ _ hG9 Tryd.underlying27 rfl (hdSize _) ?_
        refine wpList_load_row_on rfl 27 (.tmp 10) rfl w8.heap.size rfl 27 _ _ _ hK9 Tryd.underlying27 rfl (hdSize _) ?_
        simp only [Act.put, List.setIfInBounds_toArray, List.set_cons_zero, List.set_cons_succ]
        go_wp2_with fail
        go_ret
        exact ⟨rfl, hW9.out⟩
      · clear Herr
        refine hide ?_
        go_wp2_with ((with_reducible change wpList _ _ _ _ _ _); refine stop_load 27 (.tmp 7) rfl ?_)
        refine hide ?_
        refine wpList_load_row_on rfl 27 (.tmp 7) rfl w6.heap.size rfl 27 _ _ _ hG9 Tryd.underlying27 rfl (hdSize _) ?_
        refine wpList_load_row_on rfl 27 (.tmp 10) rfl w8.heap.size rfl 27 _ _ _ hK9 Tryd.underlying27 rfl (hdSize _) ?_
        simp only [Act.put, List.setIfInBounds_toArray, List.set_cons_zero, List.set_cons_succ]
        go_wp2_with fail
        go_ret
        exact ⟨rfl, hW9.out⟩
      · have hbd : decide ((1514 : Int) < (s : Int)) = true := by simp; omega
        clear Herr hbig
        refine hide ?_
        go_wp2_with ((with_reducible change wpList _ _ _ _ _ _); refine stop_load 27 (.tmp 7) rfl ?_)
        refine hide ?_
        refine wpList_load_row_on rfl 27 (.tmp 7) rfl w6.heap.size rfl 27 _ _ _ hG9 Tryd.underlying27 rfl (hdSize _) ?_
        refine wpList_load_row_on rfl 27 (.tmp 10) rfl w8.heap.size rfl 27 _ _ _ hK9 Tryd.underlying27 rfl (hdSize _) ?_
        simp only [Act.put, List.setIfInBounds_toArray, List.set_cons_zero, List.set_cons_succ]
        go_wp2_with fail
        go_ret
        exact ⟨rfl, hW9.out⟩
set_option maxRecDepth 20000 in
set_option maxHeartbeats 4000000 in
theorem Sea_A2 {w : World} {ad : Addr} {l : List Int} (hT : Tab w) (hv : Bs w (.slice (some ad) 0 0) l) (s : Nat) (h0 : 60 ≤ s) (h1 : s ≤ 1518) (hm : 0 = min 0 s) :
    Calls Tryd.prog 4 #[.slice (some ad) 0 0, .int .i64 s] w fun e w' => e = .returned (.bool true) ∧ Below w.heap.size w w' := by
  have hF := hide (fun w hT => frames_any w hT)
  have HT := hide hT
  have hnl := hv.len0
  have hvc : 0 ≤ 0 := by
    obtain ⟨_, a, c, e, h3, _⟩ := hv
    simp only [Value.slice.injEq] at e
    obtain ⟨_, e1, e2⟩ := e
    omega
  have HM := hide (hv.headAny0 0 (by omega))
  obtain ⟨L, hL⟩ : ∃ L, L = l.take 0 := ⟨_, rfl⟩
  rw [← hL] at HM
  have hLl : Hid (L.length = 0) := HM.out.len0.symm
  have hLb : Hid (Byte L) := HM.out.byte
  have hd0 : decide ((s : Int) < 60) = false := by simp; omega
  have hd1 : decide ((1518 : Int) < (s : Int)) = false := by simp; omega
  have hmin : min (0 : Int) (s : Int) = ((0 : Nat) : Int) := by omega
  have hmv : ((0 : Nat) : Int) ≤ ((0 : Nat) : Int) := by omega
  have hms : 0 ≤ s := by omega
  obtain ⟨i0, hi, hz0, hz1, hz2⟩ := info_parts Tryd.infoU8
  clear hT hL hnl hm
  go_enter Tryd.func4, Tryd.ntmps4
  go_wp2_with fail
  refine (hF.out _ HT.out).mono ?_
  rintro e w1 ⟨rfl, hb1⟩
  have hW1 := hide hb1
  have hba : Below w1.heap.size w1 (w1.alloc (.cells #[] 5)) := below1 _ _
  have hown0 : (w1.alloc (.cells #[] 5)).ownsRow w1.heap.size 5 1 (.slice (some ⟨w1.heap.size, 0, none⟩) 0 0) 0 [] := World.ownsRow_made w1 #[] 0 (Nat.le_refl _) (by simp [maxLen]) rfl
  have HO0 := hide hown0
  have HBA := hide hba
  clear hb1 hF hba hown0 HM
  go_wp2_with (at_builtin; refine wpList_append_fits_any _ rfl (.tmp 21) (.tmp 27) 22 rfl w1.heap.size 5 i0 1 Tryd.underlying22 hi hz1 w1.heap.size 0 0 [] rfl HO0.out _ 0 _ [] rfl rfl (by intro h; first | exact ⟨rfl, rfl⟩ | cases h) (by intro _ _ j u h; simp at h) (by simp) (by simp) ?_; intro w2 hown2 hgrow2; refine unh ?_)
  have hb2 : Below w1.heap.size w1 w2 := HBA.out.grown hgrow2 HBA.out.size (fun k e => by cases e; exact Nat.le_refl _)
  obtain ⟨v2, hv2⟩ : ∃ v, v = Value.slice (some ⟨w1.heap.size, 0, none⟩) 0 0 := ⟨_, rfl⟩
  have HO2 : Hid (w2.ownsRow w1.heap.size 5 1 v2 (0 + 0) ((L ++ List.replicate 0 0).map (Value.int .u8))) := by
    show World.ownsRow _ _ _ _ _ _ _
    rw [hv2, List.length_eq_zero_iff.1 hLl.out]
    exact hown2
  have hvs : ∃ g c, v2 = .slice (some ⟨g, 0, none⟩) (0 + 0) c ∧ w1.heap.size ≤ g := ⟨_, _, hv2, Nat.le_refl _⟩
  rw [← hv2]
  have HW2 := hide hb2
  have Hvs := hide hvs
  have hws : w.heap.size ≤ w1.heap.size := hW1.out.size
  clear hown2 hgrow2 hb2 hvs HO0 HBA hv2
  refine hide ?_
  go_wp2_with fail
  go_loopw [5] (fun v wr => ∃ j : Nat, 0 + j ≤ s ∧ (∃ g c, v = .slice (some ⟨g, 0, none⟩) (0 + j) c ∧ w1.heap.size ≤ g) ∧ Hid (wr.ownsRow w1.heap.size 5 1 v (0 + j) ((L ++ List.replicate j 0).map (Value.int .u8))) ∧ Hid (Below w1.heap.size w1 wr)) (fun v _ => s - lenV v)
  case atStart => exact ⟨0, by omega, Hvs.out, HO2, HW2⟩
  case round =>
    clear HO2 HW2 Hvs
    obtain ⟨j, hj, ⟨g, c, rfl, hg⟩, HO, HWr⟩ := hrel
    have hzr := HWr.out.size
    by_cases hlt : 0 + j < s
    · have hap := hide (app_zero L j)
      generalize hq : 0 + j = q at *
      have Hq := hide hq
      have hqs : (q : Int) < (s : Int) := by omega
      clear hq
      go_wp2_with (at_builtin; refine wpList_append_own _ rfl (.tmp 33) (.tmp 34) 22 rfl w1.heap.size 5 i0 (.int .u8 0) 1 1 Tryd.underlying22 hi hz0 hz1 hz2 rfl (by decide) (.slice (some ⟨g, 0, none⟩) q c) q ((L ++ List.replicate j 0).map (Value.int .u8)) rfl (HO.out.alloc _) ⟨wr.heap.size, 0, none⟩ 1 1 [.int .u8 0] rfl rfl (cell_one_new _ _ _) (by intro u hu; simp at hu; subst hu; rfl) (by unfold maxLen; omega) (by omega) (by simp; omega) ?_; intro v4 w4 hown4 hgrow4 _)
      have hb4 : Below w1.heap.size w1 w4 := (HWr.out.alloc hzr _).grown hgrow4 (by simp; omega) (fun k e => by cases e; exact hg)
      have hv4 : ∃ g c, v4 = .slice (some ⟨g, 0, none⟩) (q + 1) c ∧ w1.heap.size ≤ g := by
        rcases hown4.2 with ⟨_, h00⟩ | ⟨g, cap', cur, hv, hg, _⟩
        · omega
        · exact ⟨g, cap', hv, hg⟩
      have HO4 : Hid (w4.ownsRow w1.heap.size 5 1 v4 (q + 1) ((L ++ List.replicate (j + 1) 0).map (Value.int .u8))) := by
        show World.ownsRow _ _ _ _ _ _ _
        rw [← hap.out, List.map_append]
        exact hown4
      have HW4 := hide hb4
      have Hv4 := hide hv4
      clear hown4 hgrow4 hb4 hv4 HO HWr
      go_wp2
      go_roundw
      case rel => exact ⟨j + 1, by have := Hq.out; omega, by have := Hv4.out; rwa [← Hq.out] at this, by rw [show 0 + (j + 1) = q + 1 by have := Hq.out; omega]; exact HO4, HW4⟩
      case measure =>
        obtain ⟨g', c', rfl, _⟩ := Hv4.out
        simp only [lenV]
        omega
    · have hjs : 0 + j = s := by omega
      obtain ⟨C, hC⟩ : ∃ C, C = L ++ List.replicate j 0 := ⟨_, rfl⟩
      have hCl : Hid (C.length = s) := by show _ = _; rw [hC, List.length_append, List.length_replicate, hLl.out]; exact hjs
      have hBC : Bs wr (.slice (some ⟨g, 0, none⟩) s c) C := by
        have h := HO.out
        rw [← hC, hjs] at h
        have := Bs.own (l := C) (by rw [hCl.out]; exact h) (by rw [hC]; exact hLb.out.append (zero_byte _))
        rwa [hCl.out] at this
      rw [hjs]
      have HBC := hide hBC
      have HWw := hide (hW1.out.trans (HWr.out.mono hws))
      have herr := sealed_err hCl.out h0 h1
      have hwf := hide (parsed_wf (sealL_byte hBC.byte))
      clear hBC hC HO HWr hlt hjs hj
      have hss : ¬ ((s : Int) < (s : Int)) := by omega
      go_wp2_with fail
      have hPa := hide (fun W (h : Bs W (.slice (some ⟨wr.heap.size, 0, none⟩) (s + 4) (s + 4)) (sealL C)) hT => Parse_any h hT)
      have hPb := hide (fun W (h : Bs W (.slice (some ⟨wr.heap.size, 0, none⟩) (s + 4) (s + 4)) (sealL C)) => RParse_any h)
      have hSe := hide (Seal_any HBC.out (HT.out.later HWw.out) (by rw [hCl.out]; omega))
      rw [hCl.out] at hSe
      generalize parsed (sealL C) = PL at *
      obtain ⟨HX, D, E⟩ := PL
      have heq : ∀ w, (binOp .eql 27 (.agg HX.row) (.agg HX.row)).run Tryd.prog w = .ok (.bool true) w := fun w => by rw [hd_eql HX HX hwf.out hwf.out]; simp
      have hgd := eqGuard_hd
      simp only at herr
      have Herr := hide herr
      clear herr
      generalize sealL C = SC at *
      refine hSe.out.mono ?_
      rintro e w5 ⟨rfl, hB5, hb5⟩
      have hW5 := hide (HWw.out.later hb5)
      have HB5 := hide hB5
      clear hb5 hB5 hSe HBC HWw
      generalize hgs : wr.heap.size = gs at *
      clear hgs
      go_wp2_with fail
      refine (hPa.out _ HB5.out (HT.out.later hW5.out)).mono ?_
      rintro e w6 ⟨a6, n6, c6, rfl, hD6, hb6⟩
      have hW6 := hide (hW5.out.later hb6)
      have HB6 := hide (HB5.out.below hb6)
      have HD6 := hide hD6
      clear hb6 hD6 hW5 HB5 hPa
      go_wp2_with ((with_reducible change wpList _ _ _ _ _ _); refine wpList_store_fresh rfl 27 (.tmp 7) (.tmp 41) rfl HX.row Hd.zero.row rfl rfl 27 (hdSize _) rfl (Hd.row_all _) ?_; intro w7 hG7 hb7; have hW7 := hide (hW6.out.later hb7); have HB7 := hide (HB6.out.below hb7); have HD7 := hide (HD6.out.below hb7); clear hb7 hW6 HB6 HD6)
      refine (hPb.out _ HB7.out).mono ?_
      rintro e w8 ⟨a8, n8, c8, rfl, hF8, hb8⟩
      have hG8 := heap_kept hb8 hG7
      have hW8 := hide (hW7.out.later hb8)
      have HD8 := hide (HD7.out.below hb8)
      have HF8 := hide hF8
      clear hb8 hF8 hW7 HB7 HD7 hG7 hPb
      go_wp2_with ((with_reducible change wpList _ _ _ _ _ _); refine wpList_store_fresh rfl 27 (.tmp 10) (.tmp 47) rfl HX.row Hd.zero.row rfl rfl 27 (hdSize _) rfl (Hd.row_all _) ?_; intro w9 hK9 hb9; have hG9 := heap_kept hb9 hG8; have hW9 := hide (hW8.out.later hb9); have HD9 := hide (HD8.out.below hb9); have HF9 := hide (HF8.out.below hb9); clear hb9 hW8 hG8 HD8 HF8; refine unh ?_)
      obtain ⟨S1, hS1⟩ : ∃ S, S = bstr D := ⟨_, rfl⟩
      obtain ⟨S2, hS2⟩ : ∃ S, S = bstr D := ⟨_, rfl⟩
      have hst : (S1.toList == S2.toList) = true := by rw [hS1, hS2]; simp
      have z1 : (convert 22 9 (.slice a6 n6 c6)).run Tryd.prog w9 = .ok (.string S1) w9 := by rw [hS1]; exact conv_str 22 9 5 Tryd.underlying22 Tryd.underlying5 Tryd.underlying9 HD9.out
      have z2 : (convert 22 9 (.slice a8 n8 c8)).run Tryd.prog w9 = .ok (.string S2) w9 := by rw [hS2]; exact conv_str 22 9 5 Tryd.underlying22 Tryd.underlying5 Tryd.underlying9 HF9.out
      clear hS1 hS2
      rcases Herr.out with rfl | rfl | ⟨rfl, hbig⟩
      · clear Herr
        refine hide ?_
        go_wp2_with ((with_reducible change wpList _ _ _ _ _ _); refine stop_load 27 (.tmp 7) rfl ?_)
        refine hide ?_
        refine wpList_load_row_on rfl 27 (.tmp 7) rfl w6.heap.size rfl 27 _ _ _ hG9 Tryd.underlying27 rfl (hdSize _) ?_
        refine wpList_load_row_on rfl 27 (.tmp 10) rfl w8.heap.size rfl 27 _ _ _ hK9 Tryd.underlying27 rfl (hdSize _) ?_
        simp only [Act.put, List.setIfInBounds_toArray, List.set_cons_zero, List.set_cons_succ]
        go_wp2_with fail
        go_ret
        exact ⟨rfl, hW9.out⟩
      · clear Herr
        refine hide ?_
        go_wp2_with ((with_reducible change wpList _ _ _ _ _ _); refine stop_load 27 (.tmp 7) rfl ?_)
        refine hide ?_
        refine wpList_load_row_on rfl 27 (.tmp 7) rfl w6.heap.size rfl 27 _ _ _ hG9 Tryd.underlying27 rfl (hdSize _) ?_
        refine wpList_load_row_on rfl 27 (.tmp 10) rfl w8.heap.size rfl 27 _ _ _ hK9 Tryd.underlying27 rfl (hdSize _) ?_
        simp only [Act.put, List.setIfInBounds_toArray, List.set_cons_zero, List.set_cons_succ]
        go_wp2_with fail
        go_ret
        exact ⟨rfl, hW9.out⟩
      · have hbd : decide ((1514 : Int) < (s : Int)) = true := by simp; omega
        clear Herr hbig
        refine hide ?_
        go_wp2_with ((with_reducible change wpList _ _ _ _ _ _); refine stop_load 27 (.tmp 7) rfl ?_)
        refine hide ?_
        refine wpList_load_row_on rfl 27 (.tmp 7) rfl w6.heap.size rfl 27 _ _ _ hG9 Tryd.underlying27 rfl (hdSize _) ?_
        refine wpList_load_row_on rfl 27 (.tmp 10) rfl w8.heap.size rfl 27 _ _ _ hK9 Tryd.underlying27 rfl (hdSize _) ?_
        simp only [Act.put, List.setIfInBounds_toArray, List.set_cons_zero, List.set_cons_succ]
        go_wp2_with fail
        go_ret
        exact ⟨rfl, hW9.out⟩
set_option maxRecDepth 20000 in
set_option maxHeartbeats 4000000 in
theorem Sea_A3 {w : World} {vc : Nat} {bb oo : Nat} {l : List Int} (hT : Tab w) (hv : Bs w (.slice (some ⟨bb, oo, none⟩) 0 vc) l) (s : Nat) (h0 : 60 ≤ s) (h1 : s ≤ 1518) (hm : 0 = min 0 s) (hvc0 : ¬ vc = 0) :
    Calls Tryd.prog 4 #[.slice (some ⟨bb, oo, none⟩) 0 vc, .int .i64 s] w fun e w' => e = .returned (.bool true) ∧ Below w.heap.size w w' := by
  have hF := hide (fun w hT => frames_any w hT)
  have HT := hide hT
  have hnl := hv.len0
  have hvc : 0 ≤ vc := by
    obtain ⟨_, a, c, e, h3, _⟩ := hv
    simp only [Value.slice.injEq] at e
    obtain ⟨_, e1, e2⟩ := e
    omega
  have HM := hide (hv.headAny0 0 (by omega))
  obtain ⟨L, hL⟩ : ∃ L, L = l.take 0 := ⟨_, rfl⟩
  rw [← hL] at HM
  have hLl : Hid (L.length = 0) := HM.out.len0.symm
  have hLb : Hid (Byte L) := HM.out.byte
  have hd0 : decide ((s : Int) < 60) = false := by simp; omega
  have hd1 : decide ((1518 : Int) < (s : Int)) = false := by simp; omega
  have hmin : min (0 : Int) (s : Int) = ((0 : Nat) : Int) := by omega
  have hmv : ((0 : Nat) : Int) ≤ ((vc : Nat) : Int) := by omega
  have hms : 0 ≤ s := by omega
  obtain ⟨i0, hi, hz0, hz1, hz2⟩ := info_parts Tryd.infoU8
  clear hT hL hnl hm
  go_enter Tryd.func4, Tryd.ntmps4
  go_wp2_with fail
  refine (hF.out _ HT.out).mono ?_
  rintro e w1 ⟨rfl, hb1⟩
  have hW1 := hide hb1
  have hba : Below w1.heap.size w1 (w1.alloc (.cells #[] 5)) := below1 _ _
  have hown0 : (w1.alloc (.cells #[] 5)).ownsRow w1.heap.size 5 1 (.slice (some ⟨w1.heap.size, 0, none⟩) 0 0) 0 [] := World.ownsRow_made w1 #[] 0 (Nat.le_refl _) (by simp [maxLen]) rfl
  have HO0 := hide hown0
  have HBA := hide hba
  clear hb1 hF hba hown0 HM
  go_wp2_with (at_builtin; refine wpList_append_fits_any _ rfl (.tmp 21) (.tmp 27) 22 rfl w1.heap.size 5 i0 1 Tryd.underlying22 hi hz1 w1.heap.size 0 0 [] rfl HO0.out _ 0 _ [] rfl rfl (by intro h; first | exact ⟨rfl, rfl⟩ | cases h) (by intro _ _ j u h; simp at h) (by simp) (by simp) ?_; intro w2 hown2 hgrow2; refine unh ?_)
  have hb2 : Below w1.heap.size w1 w2 := HBA.out.grown hgrow2 HBA.out.size (fun k e => by cases e; exact Nat.le_refl _)
  obtain ⟨v2, hv2⟩ : ∃ v, v = Value.slice (some ⟨w1.heap.size, 0, none⟩) 0 0 := ⟨_, rfl⟩
  have HO2 : Hid (w2.ownsRow w1.heap.size 5 1 v2 (0 + 0) ((L ++ List.replicate 0 0).map (Value.int .u8))) := by
    show World.ownsRow _ _ _ _ _ _ _
    rw [hv2, List.length_eq_zero_iff.1 hLl.out]
    exact hown2
  have hvs : ∃ g c, v2 = .slice (some ⟨g, 0, none⟩) (0 + 0) c ∧ w1.heap.size ≤ g := ⟨_, _, hv2, Nat.le_refl _⟩
  rw [← hv2]
  have HW2 := hide hb2
  have Hvs := hide hvs
  have hws : w.heap.size ≤ w1.heap.size := hW1.out.size
  clear hown2 hgrow2 hb2 hvs HO0 HBA hv2
  refine hide ?_
  go_wp2_with fail
  go_loopw [5] (fun v wr => ∃ j : Nat, 0 + j ≤ s ∧ (∃ g c, v = .slice (some ⟨g, 0, none⟩) (0 + j) c ∧ w1.heap.size ≤ g) ∧ Hid (wr.ownsRow w1.heap.size 5 1 v (0 + j) ((L ++ List.replicate j 0).map (Value.int .u8))) ∧ Hid (Below w1.heap.size w1 wr)) (fun v _ => s - lenV v)
  case atStart => exact ⟨0, by omega, Hvs.out, HO2, HW2⟩
  case round =>
    clear HO2 HW2 Hvs
    obtain ⟨j, hj, ⟨g, c, rfl, hg⟩, HO, HWr⟩ := hrel
    have hzr := HWr.out.size
    by_cases hlt : 0 + j < s
    · have hap := hide (app_zero L j)
      generalize hq : 0 + j = q at *
      have Hq := hide hq
      have hqs : (q : Int) < (s : Int) := by omega
      clear hq
      go_wp2_with (at_builtin; refine wpList_append_own _ rfl (.tmp 33) (.tmp 34) 22 rfl w1.heap.size 5 i0 (.int .u8 0) 1 1 Tryd.underlying22 hi hz0 hz1 hz2 rfl (by decide) (.slice (some ⟨g, 0, none⟩) q c) q ((L ++ List.replicate j 0).map (Value.int .u8)) rfl (HO.out.alloc _) ⟨wr.heap.size, 0, none⟩ 1 1 [.int .u8 0] rfl rfl (cell_one_new _ _ _) (by intro u hu; simp at hu; subst hu; rfl) (by unfold maxLen; omega) (by omega) (by simp; omega) ?_; intro v4 w4 hown4 hgrow4 _)
      have hb4 : Below w1.heap.size w1 w4 := (HWr.out.alloc hzr _).grown hgrow4 (by simp; omega) (fun k e => by cases e; exact hg)
      have hv4 : ∃ g c, v4 = .slice (some ⟨g, 0, none⟩) (q + 1) c ∧ w1.heap.size ≤ g := by
        rcases hown4.2 with ⟨_, h00⟩ | ⟨g, cap', cur, hv, hg, _⟩
        · omega
        · exact ⟨g, cap', hv, hg⟩
      have HO4 : Hid (w4.ownsRow w1.heap.size 5 1 v4 (q + 1) ((L ++ List.replicate (j + 1) 0).map (Value.int .u8))) := by
        show World.ownsRow _ _ _ _ _ _ _
        rw [← hap.out, List.map_append]
        exact hown4
      have HW4 := hide hb4
      have Hv4 := hide hv4
      clear hown4 hgrow4 hb4 hv4 HO HWr
      go_wp2
      go_roundw
      case rel => exact ⟨j + 1, by have := Hq.out; omega, by have := Hv4.out; rwa [← Hq.out] at this, by rw [show 0 + (j + 1) = q + 1 by have := Hq.out; omega]; exact HO4, HW4⟩
      case measure =>
        obtain ⟨g', c', rfl, _⟩ := Hv4.out
        simp only [lenV]
        omega
    · have hjs : 0 + j = s := by omega
      obtain ⟨C, hC⟩ : ∃ C, C = L ++ List.replicate j 0 := ⟨_, rfl⟩
      have hCl : Hid (C.length = s) := by show _ = _; rw [hC, List.length_append, List.length_replicate, hLl.out]; exact hjs
      have hBC : Bs wr (.slice (some ⟨g, 0, none⟩) s c) C := by
        have h := HO.out
        rw [← hC, hjs] at h
        have := Bs.own (l := C) (by rw [hCl.out]; exact h) (by rw [hC]; exact hLb.out.append (zero_byte _))
        rwa [hCl.out] at this
      rw [hjs]
      have HBC := hide hBC
      have HWw := hide (hW1.out.trans (HWr.out.mono hws))
      have herr := sealed_err hCl.out h0 h1
      have hwf := hide (parsed_wf (sealL_byte hBC.byte))
      clear hBC hC HO HWr hlt hjs hj
      have hss : ¬ ((s : Int) < (s : Int)) := by omega
      go_wp2_with fail
      have hPa := hide (fun W (h : Bs W (.slice (some ⟨wr.heap.size, 0, none⟩) (s + 4) (s + 4)) (sealL C)) hT => Parse_any h hT)
      have hPb := hide (fun W (h : Bs W (.slice (some ⟨wr.heap.size, 0, none⟩) (s + 4) (s + 4)) (sealL C)) => RParse_any h)
      have hSe := hide (Seal_any HBC.out (HT.out.later HWw.out) (by rw [hCl.out]; omega))
      rw [hCl.out] at hSe
      generalize parsed (sealL C) = PL at *
      obtain ⟨HX, D, E⟩ := PL
      have heq : ∀ w, (binOp .eql 27 (.agg HX.row) (.agg HX.row)).run Tryd.prog w = .ok (.bool true) w := fun w => by rw [hd_eql HX HX hwf.out hwf.out]; simp
      have hgd := eqGuard_hd
      simp only at herr
      have Herr := hide herr
      clear herr
      generalize sealL C = SC at *
      refine hSe.out.mono ?_
      rintro e w5 ⟨rfl, hB5, hb5⟩
      have hW5 := hide (HWw.out.later hb5)
      have HB5 := hide hB5
      clear hb5 hB5 hSe HBC HWw
      generalize hgs : wr.heap.size = gs at *
      clear hgs
      go_wp2_with fail
      refine (hPa.out _ HB5.out (HT.out.later hW5.out)).mono ?_
      rintro e w6 ⟨a6, n6, c6, rfl, hD6, hb6⟩
      have hW6 := hide (hW5.out.later hb6)
      have HB6 := hide (HB5.out.below hb6)
      have HD6 := hide hD6
      clear hb6 hD6 hW5 HB5 hPa
      go_wp2_with ((with_reducible change wpList _ _ _ _ _ _); refine wpList_store_fresh rfl 27 (.tmp 7) (.tmp 41) rfl HX.row Hd.zero.row rfl rfl 27 (hdSize _) rfl (Hd.row_all _) ?_; intro w7 hG7 hb7; have hW7 := hide (hW6.out.later hb7); have HB7 := hide (HB6.out.below hb7); have HD7 := hide (HD6.out.below hb7); clear hb7 hW6 HB6 HD6)
      refine (hPb.out _ HB7.out).mono ?_
      rintro e w8 ⟨a8, n8, c8, rfl, hF8, hb8⟩
      have hG8 := heap_kept hb8 hG7
      have hW8 := hide (hW7.out.later hb8)
      have HD8 := hide (HD7.out.below hb8)
      have HF8 := hide hF8
      clear hb8 hF8 hW7 HB7 HD7 hG7 hPb
      go_wp2_with ((with_reducible change wpList _ _ _ _ _ _); refine wpList_store_fresh rfl 27 (.tmp 10) (.tmp 47) rfl HX.row Hd.zero.row rfl rfl 27 (hdSize _) rfl (Hd.row_all _) ?_; intro w9 hK9 hb9; have hG9 := heap_kept hb9 hG8; have hW9 := hide (hW8.out.later hb9); have HD9 := hide (HD8.out.below hb9); have HF9 := hide (HF8.out.below hb9); clear hb9 hW8 hG8 HD8 HF8; refine unh ?_)
      obtain ⟨S1, hS1⟩ : ∃ S, S = bstr D := ⟨_, rfl⟩
      obtain ⟨S2, hS2⟩ : ∃ S, S = bstr D := ⟨_, rfl⟩
      have hst : (S1.toList == S2.toList) = true := by rw [hS1, hS2]; simp
      have z1 : (convert 22 9 (.slice a6 n6 c6)).run Tryd.prog w9 = .ok (.string S1) w9 := by rw [hS1]; exact conv_str 22 9 5 Tryd.underlying22 Tryd.underlying5 Tryd.underlying9 HD9.out
      have z2 : (convert 22 9 (.slice a8 n8 c8)).run Tryd.prog w9 = .ok (.string S2) w9 := by rw [hS2]; exact conv_str 22 9 5 Tryd.underlying22 Tryd.underlying5 Tryd.underlying9 HF9.out
      clear hS1 hS2
      rcases Herr.out with rfl | rfl | ⟨rfl, hbig⟩
      · clear Herr
        refine hide ?_
        go_wp2_with ((with_reducible change wpList _ _ _ _ _ _); refine stop_load 27 (.tmp 7) rfl ?_)
        refine hide ?_
        refine wpList_load_row_on rfl 27 (.tmp 7) rfl w6.heap.size rfl 27 _ _ _ hG9 Tryd.underlying27 rfl (hdSize _) ?_
        refine wpList_load_row_on rfl 27 (.tmp 10) rfl w8.heap.size rfl 27 _ _ _ hK9 Tryd.underlying27 rfl (hdSize _) ?_
        simp only [Act.put, List.setIfInBounds_toArray, List.set_cons_zero, List.set_cons_succ]
        go_wp2_with fail
        go_ret
        exact ⟨rfl, hW9.out⟩
      · clear Herr
        refine hide ?_
        go_wp2_with ((with_reducible change wpList _ _ _ _ _ _); refine stop_load 27 (.tmp 7) rfl ?_)
        refine hide ?_
        refine wpList_load_row_on rfl 27 (.tmp 7) rfl w6.heap.size rfl 27 _ _ _ hG9 Tryd.underlying27 rfl (hdSize _) ?_
        refine wpList_load_row_on rfl 27 (.tmp 10) rfl w8.heap.size rfl 27 _ _ _ hK9 Tryd.underlying27 rfl (hdSize _) ?_
        simp only [Act.put, List.setIfInBounds_toArray, List.set_cons_zero, List.set_cons_succ]
        go_wp2_with fail
        go_ret
        exact ⟨rfl, hW9.out⟩
      · have hbd : decide ((1514 : Int) < (s : Int)) = true := by simp; omega
        clear Herr hbig
        refine hide ?_
        go_wp2_with ((with_reducible change wpList _ _ _ _ _ _); refine stop_load 27 (.tmp 7) rfl ?_)
        refine hide ?_
        refine wpList_load_row_on rfl 27 (.tmp 7) rfl w6.heap.size rfl 27 _ _ _ hG9 Tryd.underlying27 rfl (hdSize _) ?_
        refine wpList_load_row_on rfl 27 (.tmp 10) rfl w8.heap.size rfl 27 _ _ _ hK9 Tryd.underlying27 rfl (hdSize _) ?_
        simp only [Act.put, List.setIfInBounds_toArray, List.set_cons_zero, List.set_cons_succ]
        go_wp2_with fail
        go_ret
        exact ⟨rfl, hW9.out⟩
set_option maxRecDepth 20000 in
set_option maxHeartbeats 4000000 in
theorem Sea_A4 {w : World} {vc : Nat} {bb oo : Nat} {el : _} {l : List Int} (hT : Tab w) (hv : Bs w (.slice (some ⟨bb, oo, some el⟩) 0 vc) l) (s : Nat) (h0 : 60 ≤ s) (h1 : s ≤ 1518) (hm : 0 = min 0 s) (hvc0 : ¬ vc = 0) :
    Calls Tryd.prog 4 #[.slice (some ⟨bb, oo, some el⟩) 0 vc, .int .i64 s] w fun e w' => e = .returned (.bool true) ∧ Below w.heap.size w w' := by
  have hF := hide (fun w hT => frames_any w hT)
  have HT := hide hT
  have hnl := hv.len0
  have hvc : 0 ≤ vc := by
    obtain ⟨_, a, c, e, h3, _⟩ := hv
    simp only [Value.slice.injEq] at e
    obtain ⟨_, e1, e2⟩ := e
    omega
  have HM := hide (hv.headAny0 0 (by omega))
  obtain ⟨L, hL⟩ : ∃ L, L = l.take 0 := ⟨_, rfl⟩
  rw [← hL] at HM
  have hLl : Hid (L.length = 0) := HM.out.len0.symm
  have hLb : Hid (Byte L) := HM.out.byte
  have hd0 : decide ((s : Int) < 60) = false := by simp; omega
  have hd1 : decide ((1518 : Int) < (s : Int)) = false := by simp; omega
  have hmin : min (0 : Int) (s : Int) = ((0 : Nat) : Int) := by omega
  have hmv : ((0 : Nat) : Int) ≤ ((vc : Nat) : Int) := by omega
  have hms : 0 ≤ s := by omega
  obtain ⟨i0, hi, hz0, hz1, hz2⟩ := info_parts Tryd.infoU8
  clear hT hL hnl hm
  go_enter Tryd.func4, Tryd.ntmps4
  go_wp2_with fail
  refine (hF.out _ HT.out).mono ?_
  rintro e w1 ⟨rfl, hb1⟩
  have hW1 := hide hb1
  have hba : Below w1.heap.size w1 (w1.alloc (.cells #[] 5)) := below1 _ _
  have hown0 : (w1.alloc (.cells #[] 5)).ownsRow w1.heap.size 5 1 (.slice (some ⟨w1.heap.size, 0, none⟩) 0 0) 0 [] := World.ownsRow_made w1 #[] 0 (Nat.le_refl _) (by simp [maxLen]) rfl
  have HO0 := hide hown0
  have HBA := hide hba
  clear hb1 hF hba hown0 HM
  go_wp2_with (at_builtin; refine wpList_append_fits_any _ rfl (.tmp 21) (.tmp 27) 22 rfl w1.heap.size 5 i0 1 Tryd.underlying22 hi hz1 w1.heap.size 0 0 [] rfl HO0.out _ 0 _ [] rfl rfl (by intro h; first | exact ⟨rfl, rfl⟩ | cases h) (by intro _ _ j u h; simp at h) (by simp) (by simp) ?_; intro w2 hown2 hgrow2; refine unh ?_)
  have hb2 : Below w1.heap.size w1 w2 := HBA.out.grown hgrow2 HBA.out.size (fun k e => by cases e; exact Nat.le_refl _)
  obtain ⟨v2, hv2⟩ : ∃ v, v = Value.slice (some ⟨w1.heap.size, 0, none⟩) 0 0 := ⟨_, rfl⟩
  have HO2 : Hid (w2.ownsRow w1.heap.size 5 1 v2 (0 + 0) ((L ++ List.replicate 0 0).map (Value.int .u8))) := by
    show World.ownsRow _ _ _ _ _ _ _
    rw [hv2, List.length_eq_zero_iff.1 hLl.out]
    exact hown2
  have hvs : ∃ g c, v2 = .slice (some ⟨g, 0, none⟩) (0 + 0) c ∧ w1.heap.size ≤ g := ⟨_, _, hv2, Nat.le_refl _⟩
  rw [← hv2]
  have HW2 := hide hb2
  have Hvs := hide hvs
  have hws : w.heap.size ≤ w1.heap.size := hW1.out.size
  clear hown2 hgrow2 hb2 hvs HO0 HBA hv2
  refine hide ?_
  go_wp2_with fail
  go_loopw [5] (fun v wr => ∃ j : Nat, 0 + j ≤ s ∧ (∃ g c, v = .slice (some ⟨g, 0, none⟩) (0 + j) c ∧ w1.heap.size ≤ g) ∧ Hid (wr.ownsRow w1.heap.size 5 1 v (0 + j) ((L ++ List.replicate j 0).map (Value.int .u8))) ∧ Hid (Below w1.heap.size w1 wr)) (fun v _ => s - lenV v)
  case atStart => exact ⟨0, by omega, Hvs.out, HO2, HW2⟩
  case round =>
    clear HO2 HW2 Hvs
    obtain ⟨j, hj, ⟨g, c, rfl, hg⟩, HO, HWr⟩ := hrel
    have hzr := HWr.out.size
    by_cases hlt : 0 + j < s
    · have hap := hide (app_zero L j)
      generalize hq : 0 + j = q at *
      have Hq := hide hq
      have hqs : (q : Int) < (s : Int) := by omega
      clear hq
      go_wp2_with (at_builtin; refine wpList_append_own _ rfl (.tmp 33) (.tmp 34) 22 rfl w1.heap.size 5 i0 (.int .u8 0) 1 1 Tryd.underlying22 hi hz0 hz1 hz2 rfl (by decide) (.slice (some ⟨g, 0, none⟩) q c) q ((L ++ List.replicate j 0).map (Value.int .u8)) rfl (HO.out.alloc _) ⟨wr.heap.size, 0, none⟩ 1 1 [.int .u8 0] rfl rfl (cell_one_new _ _ _) (by intro u hu; simp at hu; subst hu; rfl) (by unfold maxLen; omega) (by omega) (by simp; omega) ?_; intro v4 w4 hown4 hgrow4 _)
      have hb4 : Below w1.heap.size w1 w4 := (HWr.out.alloc hzr _).grown hgrow4 (by simp; omega) (fun k e => by cases e; exact hg)
      have hv4 : ∃ g c, v4 = .slice (some ⟨g, 0, none⟩) (q + 1) c ∧ w1.heap.size ≤ g := by
        rcases hown4.2 with ⟨_, h00⟩ | ⟨g, cap', cur, hv, hg, _⟩
        · omega
        · exact ⟨g, cap', hv, hg⟩
      have HO4 : Hid (w4.ownsRow w1.heap.size 5 1 v4 (q + 1) ((L ++ List.replicate (j + 1) 0).map (Value.int .u8))) := by
        show World.ownsRow _ _ _ _ _ _ _
        rw [← hap.out, List.map_append]
        exact hown4
      have HW4 := hide hb4
      have Hv4 := hide hv4
      clear hown4 hgrow4 hb4 hv4 HO HWr
      go_wp2
      go_roundw
      case rel => exact ⟨j + 1, by have := Hq.out; omega, by have := Hv4.out; rwa [← Hq.out] at this, by rw [show 0 + (j + 1) = q + 1 by have := Hq.out; omega]; exact HO4, HW4⟩
      case measure =>
        obtain ⟨g', c', rfl, _⟩ := Hv4.out
        simp only [lenV]
        omega
    · have hjs : 0 + j = s := by omega
      obtain ⟨C, hC⟩ : ∃ C, C = L ++ List.replicate j 0 := ⟨_, rfl⟩
      have hCl : Hid (C.length = s) := by show _ = _; rw [hC, List.length_append, List.length_replicate, hLl.out]; exact hjs
      have hBC : Bs wr (.slice (some ⟨g, 0, none⟩) s c) C := by
        have h := HO.out
        rw [← hC, hjs] at h
        have := Bs.own (l := C) (by rw [hCl.out]; exact h) (by rw [hC]; exact hLb.out.append (zero_byte _))
        rwa [hCl.out] at this
      rw [hjs]
      have HBC := hide hBC
      have HWw := hide (hW1.out.trans (HWr.out.mono hws))
      have herr := sealed_err hCl.out h0 h1
      have hwf := hide (parsed_wf (sealL_byte hBC.byte))
      clear hBC hC HO HWr hlt hjs hj
      have hss : ¬ ((s : Int) < (s : Int)) := by omega
      go_wp2_with fail
      have hPa := hide (fun W (h : Bs W (.slice (some ⟨wr.heap.size, 0, none⟩) (s + 4) (s + 4)) (sealL C)) hT => Parse_any h hT)
      have hPb := hide (fun W (h : Bs W (.slice (some ⟨wr.heap.size, 0, none⟩) (s + 4) (s + 4)) (sealL C)) => RParse_any h)
      have hSe := hide (Seal_any HBC.out (HT.out.later HWw.out) (by rw [hCl.out]; omega))
      rw [hCl.out] at hSe
      generalize parsed (sealL C) = PL at *
      obtain ⟨HX, D, E⟩ := PL
      have heq : ∀ w, (binOp .eql 27 (.agg HX.row) (.agg HX.row)).run Tryd.prog w = .ok (.bool true) w := fun w => by rw [hd_eql HX HX hwf.out hwf.out]; simp
      have hgd := eqGuard_hd
      simp only at herr
      have Herr := hide herr
      clear herr
      generalize sealL C = SC at *
      refine hSe.out.mono ?_
      rintro e w5 ⟨rfl, hB5, hb5⟩
      have hW5 := hide (HWw.out.later hb5)
      have HB5 := hide hB5
      clear hb5 hB5 hSe HBC HWw
      generalize hgs : wr.heap.size = gs at *
      clear hgs
      go_wp2_with fail
      refine (hPa.out _ HB5.out (HT.out.later hW5.out)).mono ?_
      rintro e w6 ⟨a6, n6, c6, rfl, hD6, hb6⟩
      have hW6 := hide (hW5.out.later hb6)
      have HB6 := hide (HB5.out.below hb6)
      have HD6 := hide hD6
      clear hb6 hD6 hW5 HB5 hPa
      go_wp2_with ((with_reducible change wpList _ _ _ _ _ _); refine wpList_store_fresh rfl 27 (.tmp 7) (.tmp 41) rfl HX.row Hd.zero.row rfl rfl 27 (hdSize _) rfl (Hd.row_all _) ?_; intro w7 hG7 hb7; have hW7 := hide (hW6.out.later hb7); have HB7 := hide (HB6.out.below hb7); have HD7 := hide (HD6.out.below hb7); clear hb7 hW6 HB6 HD6)
      refine (hPb.out _ HB7.out).mono ?_
      rintro e w8 ⟨a8, n8, c8, rfl, hF8, hb8⟩
      have hG8 := heap_kept hb8 hG7
      have hW8 := hide (hW7.out.later hb8)
      have HD8 := hide (HD7.out.below hb8)
      have HF8 := hide hF8
      clear hb8 hF8 hW7 HB7 HD7 hG7 hPb
      go_wp2_with ((with_reducible change wpList _ _ _ _ _ _); refine wpList_store_fresh rfl 27 (.tmp 10) (.tmp 47) rfl HX.row Hd.zero.row rfl rfl 27 (hdSize _) rfl (Hd.row_all _) ?_; intro w9 hK9 hb9; have hG9 := heap_kept hb9 hG8; have hW9 := hide (hW8.out.later hb9); have HD9 := hide (HD8.out.below hb9); have HF9 := hide (HF8.out.below hb9); clear hb9 hW8 hG8 HD8 HF8; refine unh ?_)
      obtain ⟨S1, hS1⟩ : ∃ S, S = bstr D := ⟨_, rfl⟩
      obtain ⟨S2, hS2⟩ : ∃ S, S = bstr D := ⟨_, rfl⟩
      have hst : (S1.toList == S2.toList) = true := by rw [hS1, hS2]; simp
      have z1 : (convert 22 9 (.slice a6 n6 c6)).run Tryd.prog w9 = .ok (.string S1) w9 := by rw [hS1]; exact conv_str 22 9 5 Tryd.underlying22 Tryd.underlying5 Tryd.underlying9 HD9.out
      have z2 : (convert 22 9 (.slice a8 n8 c8)).run Tryd.prog w9 = .ok (.string S2) w9 := by rw [hS2]; exact conv_str 22 9 5 Tryd.underlying22 Tryd.underlying5 Tryd.underlying9 HF9.out
      clear hS1 hS2
      rcases Herr.out with rfl | rfl | ⟨rfl, hbig⟩
      · clear Herr
        refine hide ?_
        go_wp2_with ((with_reducible change wpList _ _ _ _ _ _); refine stop_load 27 (.tmp 7) rfl ?_)
        refine hide ?_
        refine wpList_load_row_on rfl 27 (.tmp 7) rfl w6.heap.size rfl 27 _ _ _ hG9 Tryd.underlying27 rfl (hdSize _) ?_
        refine wpList_load_row_on rfl 27 (.tmp 10) rfl w8.heap.size rfl 27 _ _ _ hK9 Tryd.underlying27 rfl (hdSize _) ?_
        simp only [Act.put, List.setIfInBounds_toArray, List.set_cons_zero, List.set_cons_succ]
        go_wp2_with fail
        go_ret
        exact ⟨rfl, hW9.out⟩
      · clear Herr
        refine hide ?_
        go_wp2_with ((with_reducible change wpList _ _ _ _ _ _); refine stop_load 27 (.tmp 7) rfl ?_)
        refine hide ?_
        refine wpList_load_row_on rfl 27 (.tmp 7) rfl w6.heap.size rfl 27 _ _ _ hG9 Tryd.underlying27 rfl (hdSize _) ?_
        refine wpList_load_row_on rfl 27 (.tmp 10) rfl w8.heap.size rfl 27 _ _ _ hK9 Tryd.underlying27 rfl (hdSize _) ?_
        simp only [Act.put, List.setIfInBounds_toArray, List.set_cons_zero, List.set_cons_succ]
        go_wp2_with fail
        go_ret
        exact ⟨rfl, hW9.out⟩
      · have hbd : decide ((1514 : Int) < (s : Int)) = true := by simp; omega
        clear Herr hbig
        refine hide ?_
        go_wp2_with ((with_reducible change wpList _ _ _ _ _ _); refine stop_load 27 (.tmp 7) rfl ?_)
        refine hide ?_
        refine wpList_load_row_on rfl 27 (.tmp 7) rfl w6.heap.size rfl 27 _ _ _ hG9 Tryd.underlying27 rfl (hdSize _) ?_
        refine wpList_load_row_on rfl 27 (.tmp 10) rfl w8.heap.size rfl 27 _ _ _ hK9 Tryd.underlying27 rfl (hdSize _) ?_
        simp only [Act.put, List.setIfInBounds_toArray, List.set_cons_zero, List.set_cons_succ]
        go_wp2_with fail
        go_ret
        exact ⟨rfl, hW9.out⟩
theorem Sea_walk {va : Option Addr} {vn vc : Nat} {l : List Int} {w : World} (hT : Tab w) (hv : Bs w (.slice va vn vc) l) (n : Int) :
    Calls Tryd.prog 4 #[.slice va vn vc, .int .i64 n] w fun e w' => e = .returned (.bool true) ∧ Below w.heap.size w w' := by
  have early : (n < 60 ∨ 1518 < n) → Calls Tryd.prog 4 #[.slice va vn vc, .int .i64 n] w fun e w' => e = .returned (.bool true) ∧ Below w.heap.size w w' := by
    intro hn
    have hF := hide (frames_any w hT)
    by_cases h : n < 60
    · have hd : decide (n < 60) = true := by simpa using h
      clear hn h
      go_enter Tryd.func4, Tryd.ntmps4
      go_wp2_with fail
      refine hF.out.mono ?_
      rintro e w1 ⟨rfl, hb1⟩
      go_wp2
      go_ret
      exact ⟨rfl, hb1⟩
    · have hd : decide (n < 60) = false := by simpa using h
      have hd2 : decide (1518 < n) = true := by simp; omega
      clear hn h
      go_enter Tryd.func4, Tryd.ntmps4
      go_wp2_with fail
      refine hF.out.mono ?_
      rintro e w1 ⟨rfl, hb1⟩
      go_wp2
      go_ret
      exact ⟨rfl, hb1⟩
  by_cases hn : n < 60 ∨ 1518 < n
  · exact early hn
  obtain ⟨s, rfl⟩ := Int.eq_ofNat_of_zero_le (show 0 ≤ n by omega)
  have h0 : 60 ≤ s := by omega
  have h1 : s ≤ 1518 := by omega
  have hvl := hv.len0
  have hvc : vn ≤ vc ∧ (va = none → vc = 0) := by
    obtain ⟨_, a, c, e, h3, _, h5, _⟩ := hv
    simp only [Value.slice.injEq] at e
    obtain ⟨rfl, rfl, rfl⟩ := e
    exact ⟨h3, h5⟩
  by_cases hz : vn = 0
  · subst hz
    cases va with
    | none =>
      obtain rfl := hvc.2 rfl
      exact Sea_A1 hT hv s h0 h1 (by omega)
    | some ad =>
      by_cases hc : vc = 0
      · subst hc
        exact Sea_A2 hT hv s h0 h1 (by omega)
      · obtain ⟨bb, oo, el⟩ := ad
        cases el with
        | none => exact Sea_A3 hT hv s h0 h1 (by omega) hc
        | some el => exact Sea_A4 hT hv s h0 h1 (by omega) hc
  · have hv' := hv
    rcases hv'.cases with ⟨rfl, _⟩ | ⟨b, off, cap, e, _⟩
    · simp at hvl; omega
    · simp only [Value.slice.injEq] at e
      obtain ⟨rfl, _, rfl⟩ := e
      by_cases hle : s < vn
      · exact Sea_B2 hT hv s h0 h1 (by omega) (by omega) (by omega) hle (by omega)
      · exact Sea_B1 hT hv s h0 h1 (by omega) (by omega) (by omega) hle (by omega)
end Go.Proofs.YtiimppbfigikfaaDoor
