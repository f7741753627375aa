/-
  The statement MacSealed, walked. Condition: the table lies as the program's text lays it ('Tab').
-/
import Derived.Test.YtiimppbfigikfaaDoorRf3
import Derived.Test.YtiimppbfigikfaaDoorCame
namespace Go.Proofs.YtiimppbfigikfaaDoor
open Go.RowKit
set_option linter.unusedVariables false

theorem sealed_err {c : List Int} {s : Nat} (hl : c.length = s) (h0 : 60 ≤ s) (h1 : s ≤ 1518) : (parsed (sealL c)).2.2 = 0 ∨ (parsed (sealL c)).2.2 = 4 ∨ ((parsed (sealL c)).2.2 = 3 ∧ 1514 < s) := by
  have hlen : (sealL c).length = s + 4 := by rw [sealL_length, hl]
  unfold parsed
  rw [if_neg (by omega), if_neg (by omega), sealL_take, if_neg (by simp)]
  by_cases h : (if (hdOf c).tg then 1522 else 1518) < (sealL c).length
  · rw [if_pos h]
    right; right
    refine ⟨rfl, ?_⟩
    split at h <;> omega
  · rw [if_neg h]
    split
    · right; left; rfl
    · left; rfl
theorem ints_one' (l : List Int) : ∀ u ∈ l.map (Value.int .u8), u.oneCell' = true := by
  intro u hu
  simp only [List.mem_map] at hu
  obtain ⟨z, _, rfl⟩ := hu
  rfl
/-- The walk is to stand still at an append. -/
theorem stop_app {P : Program} {ops : Array Oper} {rest : List Oper} {o : Oper} {a : Act} {w : World} {Q : Exit → Act → World → Prop} {ts : Array TypeId} (x y : Operand) (_ho : o.op = .call { callee := .builtin .append, args := #[x, y], argTypes := ts }) (h : Hid (wpList P ops Q (o :: rest) a w)) : wpList P ops Q (o :: rest) a w := h.out
def lenV : Value → Nat
  | .slice _ n _ => n
  | _ => 0
/-- Bytes, and noughts behind. -/
theorem app_zero (L : List Int) (j : Nat) : (L ++ List.replicate j 0) ++ [0] = L ++ List.replicate (j + 1) 0 := by
  rw [List.append_assoc, List.replicate_succ']
set_option maxRecDepth 20000 in
set_option maxHeartbeats 4000000 in
theorem Sea_B1 {w : World} {vn vc b off : Nat} {l : List Int} (hT : Tab w) (hv : Bs w (.slice (some ⟨b, off, none⟩) vn vc) l) (s : Nat) (h0 : 60 ≤ s) (h1 : s ≤ 1518) (hm : vn = min vn s) (hm0 : 0 < vn) (hvc0 : ¬ vc = 0) (hle : ¬ s < vn) (hle' : ¬ (s : Int) < (vn : Int)) :
    Calls Tryd.prog 4 #[.slice (some ⟨b, off, none⟩) vn vc, .int .i64 s] w fun e w' => e = .returned (.bool true) ∧ Below w.heap.size w w' := by
  have hF := hide (fun w hT => frames_any w hT)
  have HT := hide hT
  have hnl := hv.len0
  have hvc : vn ≤ vc := by
    obtain ⟨_, a, c, e, h3, _⟩ := hv
    simp only [Value.slice.injEq] at e
    obtain ⟨_, e1, e2⟩ := e
    omega
  have HM := hide (hv.headAny0 vn (by omega))
  obtain ⟨L, hL⟩ : ∃ L, L = l.take vn := ⟨_, rfl⟩
  rw [← hL] at HM
  have hLl : Hid (L.length = vn) := HM.out.len0.symm
  have hLb : Hid (Byte L) := HM.out.byte
  have hd0 : decide ((s : Int) < 60) = false := by simp; omega
  have hd1 : decide ((1518 : Int) < (s : Int)) = false := by simp; omega
  have hmin : min (vn : Int) (s : Int) = ((vn : Nat) : Int) := by omega
  have hmv : ((vn : Nat) : Int) ≤ ((vc : Nat) : Int) := by omega
  have hms : vn ≤ s := by omega
  obtain ⟨i0, hi, hz0, hz1, hz2⟩ := info_parts Tryd.infoU8
  clear hT hL hnl hm
  go_enter Tryd.func4, Tryd.ntmps4
  go_wp2_with fail
  refine (hF.out _ HT.out).mono ?_
  rintro e w1 ⟨rfl, hb1⟩
  have hW1 := hide hb1
  have hba : Below w1.heap.size w1 (w1.alloc (.cells #[] 5)) := below1 _ _
  have hown0 : (w1.alloc (.cells #[] 5)).ownsRow w1.heap.size 5 1 (.slice (some ⟨w1.heap.size, 0, none⟩) 0 0) 0 [] := World.ownsRow_made w1 #[] 0 (Nat.le_refl _) (by simp [maxLen]) rfl
  have HO0 := hide hown0
  have HBA := hide hba
  have hnews : ∀ t u, (L.map (Value.int .u8))[t]? = some u → (w1.alloc (.cells #[] 5)).cell? ((⟨b, off, none⟩ : Addr).add t) = some u := by
    obtain ⟨_, a', cap', e, _, _, _, h6⟩ := (HM.out.below hb1).below hba
    simp only [Value.slice.injEq] at e
    obtain ⟨rfl, _, _⟩ := e
    exact Bs.news h6 _ rfl
  have HN := hide hnews
  have HON := hide (ints_one' L)
  have HNL := hide (show (L.map (Value.int .u8)).length = vn * 1 by rw [List.length_map, hLl.out, Nat.mul_one])
  clear hnews
  clear hb1 hF hba hown0 HM
  go_wp2_with (at_builtin; refine wpList_append_own _ rfl (.tmp 21) (.tmp 27) 22 rfl w1.heap.size 5 i0 (.int .u8 0) 1 1 Tryd.underlying22 hi hz0 hz1 hz2 rfl (by decide) (.slice (some ⟨w1.heap.size, 0, none⟩) 0 0) 0 [] rfl HO0.out ⟨b, off, none⟩ vn vc (L.map (Value.int .u8)) rfl HNL.out HN.out HON.out (by unfold maxLen; omega) (by omega) (by simp) ?_; intro v2 w2 hown2 hgrow2 _; simp only [Nat.zero_add, List.nil_append] at hown2; refine unh ?_)
  have hb2 : Below w1.heap.size w1 w2 := HBA.out.grown hgrow2 HBA.out.size (fun k e => by cases e; exact Nat.le_refl _)
  have HO2 : Hid (w2.ownsRow w1.heap.size 5 1 v2 (vn + 0) ((L ++ List.replicate 0 0).map (Value.int .u8))) := by
    show World.ownsRow _ _ _ _ _ _ _
    rw [List.replicate_zero, List.append_nil]
    exact hown2
  have hvs : ∃ g c, v2 = .slice (some ⟨g, 0, none⟩) (vn + 0) c ∧ w1.heap.size ≤ g := by
    rcases hown2.2 with ⟨_, h00⟩ | ⟨g, cap', cur, hv, hg, _⟩
    · omega
    · exact ⟨g, cap', hv, hg⟩
  have HW2 := hide hb2
  have Hvs := hide hvs
  have hws : w.heap.size ≤ w1.heap.size := hW1.out.size
  clear hown2 hgrow2 hb2 hvs HO0 HBA HN HON HNL
  refine hide ?_
  go_wp2_with fail
  go_loopw [5] (fun v wr => ∃ j : Nat, vn + j ≤ s ∧ (∃ g c, v = .slice (some ⟨g, 0, none⟩) (vn + j) c ∧ w1.heap.size ≤ g) ∧ Hid (wr.ownsRow w1.heap.size 5 1 v (vn + j) ((L ++ List.replicate j 0).map (Value.int .u8))) ∧ Hid (Below w1.heap.size w1 wr)) (fun v _ => s - lenV v)
  case atStart => exact ⟨0, by omega, Hvs.out, HO2, HW2⟩
  case round =>
    clear HO2 HW2 Hvs
    obtain ⟨j, hj, ⟨g, c, rfl, hg⟩, HO, HWr⟩ := hrel
    have hzr := HWr.out.size
    by_cases hlt : vn + j < s
    · have hap := hide (app_zero L j)
      generalize hq : vn + j = q at *
      have Hq := hide hq
      have hqs : (q : Int) < (s : Int) := by omega
      clear hq
      go_wp2_with (at_builtin; refine wpList_append_own _ rfl (.tmp 33) (.tmp 34) 22 rfl w1.heap.size 5 i0 (.int .u8 0) 1 1 Tryd.underlying22 hi hz0 hz1 hz2 rfl (by decide) (.slice (some ⟨g, 0, none⟩) q c) q ((L ++ List.replicate j 0).map (Value.int .u8)) rfl (HO.out.alloc _) ⟨wr.heap.size, 0, none⟩ 1 1 [.int .u8 0] rfl rfl (cell_one_new _ _ _) (by intro u hu; simp at hu; subst hu; rfl) (by unfold maxLen; omega) (by omega) (by simp; omega) ?_; intro v4 w4 hown4 hgrow4 _)
      have hb4 : Below w1.heap.size w1 w4 := (HWr.out.alloc hzr _).grown hgrow4 (by simp; omega) (fun k e => by cases e; exact hg)
      have hv4 : ∃ g c, v4 = .slice (some ⟨g, 0, none⟩) (q + 1) c ∧ w1.heap.size ≤ g := by
        rcases hown4.2 with ⟨_, h00⟩ | ⟨g, cap', cur, hv, hg, _⟩
        · omega
        · exact ⟨g, cap', hv, hg⟩
      have HO4 : Hid (w4.ownsRow w1.heap.size 5 1 v4 (q + 1) ((L ++ List.replicate (j + 1) 0).map (Value.int .u8))) := by
        show World.ownsRow _ _ _ _ _ _ _
        rw [← hap.out, List.map_append]
        exact hown4
      have HW4 := hide hb4
      have Hv4 := hide hv4
      clear hown4 hgrow4 hb4 hv4 HO HWr
      go_wp2
      go_roundw
      case rel => exact ⟨j + 1, by have := Hq.out; omega, by have := Hv4.out; rwa [← Hq.out] at this, by rw [show vn + (j + 1) = q + 1 by have := Hq.out; omega]; exact HO4, HW4⟩
      case measure =>
        obtain ⟨g', c', rfl, _⟩ := Hv4.out
        simp only [lenV]
        omega
    · have hjs : vn + j = s := by omega
      obtain ⟨C, hC⟩ : ∃ C, C = L ++ List.replicate j 0 := ⟨_, rfl⟩
      have hCl : Hid (C.length = s) := by show _ = _; rw [hC, List.length_append, List.length_replicate, hLl.out]; exact hjs
      have hBC : Bs wr (.slice (some ⟨g, 0, none⟩) s c) C := by
        have h := HO.out
        rw [← hC, hjs] at h
        have := Bs.own (l := C) (by rw [hCl.out]; exact h) (by rw [hC]; exact hLb.out.append (zero_byte _))
        rwa [hCl.out] at this
      rw [hjs]
      have HBC := hide hBC
      have HWw := hide (hW1.out.trans (HWr.out.mono hws))
      have herr := sealed_err hCl.out h0 h1
      have hwf := hide (parsed_wf (sealL_byte hBC.byte))
      clear hBC hC HO HWr hlt hjs hj
      have hss : ¬ ((s : Int) < (s : Int)) := by omega
      go_wp2_with fail
      have hPa := hide (fun W (h : Bs W (.slice (some ⟨wr.heap.size, 0, none⟩) (s + 4) (s + 4)) (sealL C)) hT => Parse_any h hT)
      have hPb := hide (fun W (h : Bs W (.slice (some ⟨wr.heap.size, 0, none⟩) (s + 4) (s + 4)) (sealL C)) => RParse_any h)
      have hSe := hide (Seal_any HBC.out (HT.out.later HWw.out) (by rw [hCl.out]; omega))
      rw [hCl.out] at hSe
      generalize parsed (sealL C) = PL at *
      obtain ⟨HX, D, E⟩ := PL
      have heq : ∀ w, (binOp .eql 27 (.agg HX.row) (.agg HX.row)).run Tryd.prog w = .ok (.bool true) w := fun w => by rw [hd_eql HX HX hwf.out hwf.out]; simp
      have hgd := eqGuard_hd
      simp only at herr
      have Herr := hide herr
      clear herr
      generalize sealL C = SC at *
      refine hSe.out.mono ?_
      rintro e w5 ⟨rfl, hB5, hb5⟩
      have hW5 := hide (HWw.out.later hb5)
      have HB5 := hide hB5
      clear hb5 hB5 hSe HBC HWw
      generalize hgs : wr.heap.size = gs at *
      clear hgs
      go_wp2_with fail
      refine (hPa.out _ HB5.out (HT.out.later hW5.out)).mono ?_
      rintro e w6 ⟨a6, n6, c6, rfl, hD6, hb6⟩
      have hW6 := hide (hW5.out.later hb6)
      have HB6 := hide (HB5.out.below hb6)
      have HD6 := hide hD6
      clear hb6 hD6 hW5 HB5 hPa
      go_wp2_with ((with_reducible change wpList _ _ _ _ _ _); refine wpList_store_fresh rfl 27 (.tmp 7) (.tmp 41) rfl HX.row Hd.zero.row rfl rfl 27 (hdSize _) rfl (Hd.row_all _) ?_; intro w7 hG7 hb7; have hW7 := hide (hW6.out.later hb7); have HB7 := hide (HB6.out.below hb7); have HD7 := hide (HD6.out.below hb7); clear hb7 hW6 HB6 HD6)
      refine (hPb.out _ HB7.out).mono ?_
      rintro e w8 ⟨a8, n8, c8, rfl, hF8, hb8⟩
      have hG8 := heap_kept hb8 hG7
      have hW8 := hide (hW7.out.later hb8)
      have HD8 := hide (HD7.out.below hb8)
      have HF8 := hide hF8
      clear hb8 hF8 hW7 HB7 HD7 hG7 hPb
      go_wp2_with ((with_reducible change wpList _ _ _ _ _ _); refine wpList_store_fresh rfl 27 (.tmp 10) (.tmp 47) rfl HX.row Hd.zero.row rfl rfl 27 (hdSize _) rfl (Hd.row_all _) ?_; intro w9 hK9 hb9; have hG9 := heap_kept hb9 hG8; have hW9 := hide (hW8.out.later hb9); have HD9 := hide (HD8.out.below hb9); have HF9 := hide (HF8.out.below hb9); clear hb9 hW8 hG8 HD8 HF8; refine unh ?_)
      obtain ⟨S1, hS1⟩ : ∃ S, S = bstr D := ⟨_, rfl⟩
      obtain ⟨S2, hS2⟩ : ∃ S, S = bstr D := ⟨_, rfl⟩
      have hst : (S1.toList == S2.toList) = true := by rw [hS1, hS2]; simp
      have z1 : (convert 22 9 (.slice a6 n6 c6)).run Tryd.prog w9 = .ok (.string S1) w9 := by rw [hS1]; exact conv_str 22 9 5 Tryd.underlying22 Tryd.underlying5 Tryd.underlying9 HD9.out
      have z2 : (convert 22 9 (.slice a8 n8 c8)).run Tryd.prog w9 = .ok (.string S2) w9 := by rw [hS2]; exact conv_str 22 9 5 Tryd.underlying22 Tryd.underlying5 Tryd.underlying9 HF9.out
      clear hS1 hS2
      rcases Herr.out with rfl | rfl | ⟨rfl, hbig⟩
      · clear Herr
        refine hide ?_
        go_wp2_with ((with_reducible change wpList _ _ _ _ _ _); refine stop_load 27 (.tmp 7) rfl ?_)
        refine hide ?_
        refine wpList_load_row_on rfl 27 (.tmp 7) rfl w6.heap.size rfl 27 _ _ _ hG9 Tryd.underlying27 rfl (hdSize _) ?_
        refine wpList_load_row_on rfl 27 (.tmp 10) rfl w8.heap.size rfl 27 _ _ _ hK9 Tryd.underlying27 rfl (hdSize _) ?_
        simp only [Act.put, List.setIfInBounds_toArray, List.set_cons_zero, List.set_cons_succ]
        go_wp2_with fail
        go_ret
        exact ⟨rfl, hW9.out⟩
      · clear Herr
        refine hide ?_
        go_wp2_with ((with_reducible change wpList _ _ _ _ _ _); refine stop_load 27 (.tmp 7) rfl ?_)
        refine hide ?_
        refine wpList_load_row_on rfl 27 (.tmp 7) rfl w6.heap.size rfl 27 _ _ _ hG9 Tryd.underlying27 rfl (hdSize _) ?_
        refine wpList_load_row_on rfl 27 (.tmp 10) rfl w8.heap.size rfl 27 _ _ _ hK9 Tryd.underlying27 rfl (hdSize _) ?_
        simp only [Act.put, List.setIfInBounds_toArray, List.set_cons_zero, List.set_cons_succ]
        go_wp2_with fail
        go_ret
        exact ⟨rfl, hW9.out⟩
      · have hbd : decide ((1514 : Int) < (s : Int)) = true := by simp; omega
        clear Herr hbig
        refine hide ?_
        go_wp2_with ((with_reducible change wpList _ _ _ _ _ _); refine stop_load 27 (.tmp 7) rfl ?_)
        refine hide ?_
        refine wpList_load_row_on rfl 27 (.tmp 7) rfl w6.heap.size rfl 27 _ _ _ hG9 Tryd.underlying27 rfl (hdSize _) ?_
        refine wpList_load_row_on rfl 27 (.tmp 10) rfl w8.heap.size rfl 27 _ _ _ hK9 Tryd.underlying27 rfl (hdSize _) ?_
        simp only [Act.put, List.setIfInBounds_toArray, List.set_cons_zero, List.set_cons_succ]
        go_wp2_with fail
        go_ret
        exact ⟨rfl, hW9.out⟩
set_option maxRecDepth 20000 in
set_option maxHeartbeats 4000000 in
theorem Sea_B2 {w : World} {vn vc b off : Nat} {l : List Int} (hT : Tab w) (hv : Bs w (.slice (some ⟨b, off, none⟩) vn vc) l) (s : Nat) (h0 : 60 ≤ s) (h1 : s ≤ 1518) (hm : s = min vn s) (hm0 : 0 < s) (hvc0 : ¬ vc = 0) (hle : s < vn) (hle' : (s : Int) < (vn : Int)) :
    Calls Tryd.prog 4 #[.slice (some ⟨b, off, none⟩) vn vc, .int .i64 s] w fun e w' => e = .returned (.bool true) ∧ Below w.heap.size w w' := by
  have hF := hide (fun w hT => frames_any w hT)
  have HT := hide hT
  have hnl := hv.len0
  have hvc : vn ≤ vc := by
    obtain ⟨_, a, c, e, h3, _⟩ := hv
    simp only [Value.slice.injEq] at e
    obtain ⟨_, e1, e2⟩ := e
    omega
  have HM := hide (hv.headAny0 s (by omega))
  obtain ⟨L, hL⟩ : ∃ L, L = l.take s := ⟨_, rfl⟩
  rw [← hL] at HM
  have hLl : Hid (L.length = s) := HM.out.len0.symm
  have hLb : Hid (Byte L) := HM.out.byte
  have hd0 : decide ((s : Int) < 60) = false := by simp; omega
  have hd1 : decide ((1518 : Int) < (s : Int)) = false := by simp; omega
  have hmin : min (vn : Int) (s : Int) = ((s : Nat) : Int) := by omega
  have hmv : ((s : Nat) : Int) ≤ ((vc : Nat) : Int) := by omega
  have hms : s ≤ s := by omega
  obtain ⟨i0, hi, hz0, hz1, hz2⟩ := info_parts Tryd.infoU8
  clear hT hL hnl hm
  go_enter Tryd.func4, Tryd.ntmps4
  go_wp2_with fail
  refine (hF.out _ HT.out).mono ?_
  rintro e w1 ⟨rfl, hb1⟩
  have hW1 := hide hb1
  have hba : Below w1.heap.size w1 (w1.alloc (.cells #[] 5)) := below1 _ _
  have hown0 : (w1.alloc (.cells #[] 5)).ownsRow w1.heap.size 5 1 (.slice (some ⟨w1.heap.size, 0, none⟩) 0 0) 0 [] := World.ownsRow_made w1 #[] 0 (Nat.le_refl _) (by simp [maxLen]) rfl
  have HO0 := hide hown0
  have HBA := hide hba
  have hnews : ∀ t u, (L.map (Value.int .u8))[t]? = some u → (w1.alloc (.cells #[] 5)).cell? ((⟨b, off, none⟩ : Addr).add t) = some u := by
    obtain ⟨_, a', cap', e, _, _, _, h6⟩ := (HM.out.below hb1).below hba
    simp only [Value.slice.injEq] at e
    obtain ⟨rfl, _, _⟩ := e
    exact Bs.news h6 _ rfl
  have HN := hide hnews
  have HON := hide (ints_one' L)
  have HNL := hide (show (L.map (Value.int .u8)).length = s * 1 by rw [List.length_map, hLl.out, Nat.mul_one])
  clear hnews
  clear hb1 hF hba hown0 HM
  go_wp2_with (at_builtin; refine wpList_append_own _ rfl (.tmp 21) (.tmp 27) 22 rfl w1.heap.size 5 i0 (.int .u8 0) 1 1 Tryd.underlying22 hi hz0 hz1 hz2 rfl (by decide) (.slice (some ⟨w1.heap.size, 0, none⟩) 0 0) 0 [] rfl HO0.out ⟨b, off, none⟩ s vc (L.map (Value.int .u8)) rfl HNL.out HN.out HON.out (by unfold maxLen; omega) (by omega) (by simp) ?_; intro v2 w2 hown2 hgrow2 _; simp only [Nat.zero_add, List.nil_append] at hown2; refine unh ?_)
  have hb2 : Below w1.heap.size w1 w2 := HBA.out.grown hgrow2 HBA.out.size (fun k e => by cases e; exact Nat.le_refl _)
  have HO2 : Hid (w2.ownsRow w1.heap.size 5 1 v2 (s + 0) ((L ++ List.replicate 0 0).map (Value.int .u8))) := by
    show World.ownsRow _ _ _ _ _ _ _
    rw [List.replicate_zero, List.append_nil]
    exact hown2
  have hvs : ∃ g c, v2 = .slice (some ⟨g, 0, none⟩) (s + 0) c ∧ w1.heap.size ≤ g := by
    rcases hown2.2 with ⟨_, h00⟩ | ⟨g, cap', cur, hv, hg, _⟩
    · omega
    · exact ⟨g, cap', hv, hg⟩
  have HW2 := hide hb2
  have Hvs := hide hvs
  have hws : w.heap.size ≤ w1.heap.size := hW1.out.size
  clear hown2 hgrow2 hb2 hvs HO0 HBA HN HON HNL
  refine hide ?_
  go_wp2_with fail
  go_loopw [5] (fun v wr => ∃ j : Nat, s + j ≤ s ∧ (∃ g c, v = .slice (some ⟨g, 0, none⟩) (s + j) c ∧ w1.heap.size ≤ g) ∧ Hid (wr.ownsRow w1.heap.size 5 1 v (s + j) ((L ++ List.replicate j 0).map (Value.int .u8))) ∧ Hid (Below w1.heap.size w1 wr)) (fun v _ => s - lenV v)
  case atStart => exact ⟨0, by omega, Hvs.out, HO2, HW2⟩
  case round =>
    clear HO2 HW2 Hvs
    obtain ⟨j, hj, ⟨g, c, rfl, hg⟩, HO, HWr⟩ := hrel
    have hzr := HWr.out.size
    by_cases hlt : s + j < s
    · have hap := hide (app_zero L j)
      generalize hq : s + j = q at *
      have Hq := hide hq
      have hqs : (q : Int) < (s : Int) := by omega
      clear hq
      go_wp2_with (at_builtin; refine wpList_append_own _ rfl (.tmp 33) (.tmp 34) 22 rfl w1.heap.size 5 i0 (.int .u8 0) 1 1 Tryd.underlying22 hi hz0 hz1 hz2 rfl (by decide) (.slice (some ⟨g, 0, none⟩) q c) q ((L ++ List.replicate j 0).map (Value.int .u8)) rfl (HO.out.alloc _) ⟨wr.heap.size, 0, none⟩ 1 1 [.int .u8 0] rfl rfl (cell_one_new _ _ _) (by intro u hu; simp at hu; subst hu; rfl) (by unfold maxLen; omega) (by omega) (by simp; omega) ?_; intro v4 w4 hown4 hgrow4 _)
      have hb4 : Below w1.heap.size w1 w4 := (HWr.out.alloc hzr _).grown hgrow4 (by simp; omega) (fun k e => by cases e; exact hg)
      have hv4 : ∃ g c, v4 = .slice (some ⟨g, 0, none⟩) (q + 1) c ∧ w1.heap.size ≤ g := by
        rcases hown4.2 with ⟨_, h00⟩ | ⟨g, cap', cur, hv, hg, _⟩
        · omega
        · exact ⟨g, cap', hv, hg⟩
      have HO4 : Hid (w4.ownsRow w1.heap.size 5 1 v4 (q + 1) ((L ++ List.replicate (j + 1) 0).map (Value.int .u8))) := by
        show World.ownsRow _ _ _ _ _ _ _
        rw [← hap.out, List.map_append]
        exact hown4
      have HW4 := hide hb4
      have Hv4 := hide hv4
      clear hown4 hgrow4 hb4 hv4 HO HWr
      go_wp2
      go_roundw
      case rel => exact ⟨j + 1, by have := Hq.out; omega, by have := Hv4.out; rwa [← Hq.out] at this, by rw [show s + (j + 1) = q + 1 by have := Hq.out; omega]; exact HO4, HW4⟩
      case measure =>
        obtain ⟨g', c', rfl, _⟩ := Hv4.out
        simp only [lenV]
        omega
    · have hjs : s + j = s := by omega
      obtain ⟨C, hC⟩ : ∃ C, C = L ++ List.replicate j 0 := ⟨_, rfl⟩
      have hCl : Hid (C.length = s) := by show _ = _; rw [hC, List.length_append, List.length_replicate, hLl.out]; exact hjs
      have hBC : Bs wr (.slice (some ⟨g, 0, none⟩) s c) C := by
        have h := HO.out
        rw [← hC, hjs] at h
        have := Bs.own (l := C) (by rw [hCl.out]; exact h) (by rw [hC]; exact hLb.out.append (zero_byte _))
        rwa [hCl.out] at this
      rw [hjs]
      have HBC := hide hBC
      have HWw := hide (hW1.out.trans (HWr.out.mono hws))
      have herr := sealed_err hCl.out h0 h1
      have hwf := hide (parsed_wf (sealL_byte hBC.byte))
      clear hBC hC HO HWr hlt hjs hj
      have hss : ¬ ((s : Int) < (s : Int)) := by omega
      go_wp2_with fail
      have hPa := hide (fun W (h : Bs W (.slice (some ⟨wr.heap.size, 0, none⟩) (s + 4) (s + 4)) (sealL C)) hT => Parse_any h hT)
      have hPb := hide (fun W (h : Bs W (.slice (some ⟨wr.heap.size, 0, none⟩) (s + 4) (s + 4)) (sealL C)) => RParse_any h)
      have hSe := hide (Seal_any HBC.out (HT.out.later HWw.out) (by rw [hCl.out]; omega))
      rw [hCl.out] at hSe
      generalize parsed (sealL C) = PL at *
      obtain ⟨HX, D, E⟩ := PL
      have heq : ∀ w, (binOp .eql 27 (.agg HX.row) (.agg HX.row)).run Tryd.prog w = .ok (.bool true) w := fun w => by rw [hd_eql HX HX hwf.out hwf.out]; simp
      have hgd := eqGuard_hd
      simp only at herr
      have Herr := hide herr
      clear herr
      generalize sealL C = SC at *
      refine hSe.out.mono ?_
      rintro e w5 ⟨rfl, hB5, hb5⟩
      have hW5 := hide (HWw.out.later hb5)
      have HB5 := hide hB5
      clear hb5 hB5 hSe HBC HWw
      generalize hgs : wr.heap.size = gs at *
      clear hgs
      go_wp2_with fail
      refine (hPa.out _ HB5.out (HT.out.later hW5.out)).mono ?_
      rintro e w6 ⟨a6, n6, c6, rfl, hD6, hb6⟩
      have hW6 := hide (hW5.out.later hb6)
      have HB6 := hide (HB5.out.below hb6)
      have HD6 := hide hD6
      clear hb6 hD6 hW5 HB5 hPa
      go_wp2_with ((with_reducible change wpList _ _ _ _ _ _); refine wpList_store_fresh rfl 27 (.tmp 7) (.tmp 41) rfl HX.row Hd.zero.row rfl rfl 27 (hdSize _) rfl (Hd.row_all _) ?_; intro w7 hG7 hb7; have hW7 := hide (hW6.out.later hb7); have HB7 := hide (HB6.out.below hb7); have HD7 := hide (HD6.out.below hb7); clear hb7 hW6 HB6 HD6)
      refine (hPb.out _ HB7.out).mono ?_
      rintro e w8 ⟨a8, n8, c8, rfl, hF8, hb8⟩
      have hG8 := heap_kept hb8 hG7
      have hW8 := hide (hW7.out.later hb8)
      have HD8 := hide (HD7.out.below hb8)
      have HF8 := hide hF8
      clear hb8 hF8 hW7 HB7 HD7 hG7 hPb
      go_wp2_with ((with_reducible change wpList _ _ _ _ _ _); refine wpList_store_fresh rfl 27 (.tmp 10) (.tmp 47) rfl HX.row Hd.zero.row rfl rfl 27 (hdSize _) rfl (Hd.row_all _) ?_; intro w9 hK9 hb9; have hG9 := heap_kept hb9 hG8; have hW9 := hide (hW8.out.later hb9); have HD9 := hide (HD8.out.below hb9); have HF9 := hide (HF8.out.below hb9); clear hb9 hW8 hG8 HD8 HF8; refine unh ?_)
      obtain ⟨S1, hS1⟩ : ∃ S, S = bstr D := ⟨_, rfl⟩
      obtain ⟨S2, hS2⟩ : ∃ S, S = bstr D := ⟨_, rfl⟩
      have hst : (S1.toList == S2.toList) = true := by rw [hS1, hS2]; simp
      have z1 : (convert 22 9 (.slice a6 n6 c6)).run Tryd.prog w9 = .ok (.string S1) w9 := by rw [hS1]; exact conv_str 22 9 5 Tryd.underlying22 Tryd.underlying5 Tryd.underlying9 HD9.out
      have z2 : (convert 22 9 (.slice a8 n8 c8)).run Tryd.prog w9 = .ok (.string S2) w9 := by rw [hS2]; exact conv_str 22 9 5 Tryd.underlying22 Tryd.underlying5 Tryd.underlying9 HF9.out
      clear hS1 hS2
      rcases Herr.out with rfl | rfl | ⟨rfl, hbig⟩
      · clear Herr
        refine hide ?_
        go_wp2_with ((with_reducible change wpList _ _ _ _ _ _); refine stop_load 27 (.tmp 7) rfl ?_)
        refine hide ?_
        refine wpList_load_row_on rfl 27 (.tmp 7) rfl w6.heap.size rfl 27 _ _ _ hG9 Tryd.underlying27 rfl (hdSize _) ?_
        refine wpList_load_row_on rfl 27 (.tmp 10) rfl w8.heap.size rfl 27 _ _ _ hK9 Tryd.underlying27 rfl (hdSize _) ?_
        simp only [Act.put, List.setIfInBounds_toArray, List.set_cons_zero, List.set_cons_succ]
        go_wp2_with fail
        go_ret
        exact ⟨rfl, hW9.out⟩
      · clear Herr
        refine hide ?_
        go_wp2_with ((with_reducible change wpList _ _ _ _ _ _); refine stop_load 27 (.tmp 7) rfl ?_)
        refine hide ?_
        refine wpList_load_row_on rfl 27 (.tmp 7) rfl w6.heap.size rfl 27 _ _ _ hG9 Tryd.underlying27 rfl (hdSize _) ?_
        refine wpList_load_row_on rfl 27 (.tmp 10) rfl w8.heap.size rfl 27 _ _ _ hK9 Tryd.underlying27 rfl (hdSize _) ?_
        simp only [Act.put, List.setIfInBounds_toArray, List.set_cons_zero, List.set_cons_succ]
        go_wp2_with fail
        go_ret
        exact ⟨rfl, hW9.out⟩
      · have hbd : decide ((1514 : Int) < (s : Int)) = true := by simp; omega
        clear Herr hbig
        refine hide ?_
        go_wp2_with ((with_reducible change wpList _ _ _ _ _ _); refine stop_load 27 (.tmp 7) rfl ?_)
        refine hide ?_
        refine wpList_load_row_on rfl 27 (.tmp 7) rfl w6.heap.size rfl 27 _ _ _ hG9 Tryd.underlying27 rfl (hdSize _) ?_
        refine wpList_load_row_on rfl 27 (.tmp 10) rfl w8.heap.size rfl 27 _ _ _ hK9 Tryd.underlying27 rfl (hdSize _) ?_
        simp only [Act.put, List.setIfInBounds_toArray, List.set_cons_zero, List.set_cons_succ]
        go_wp2_with fail
        go_ret
        exact ⟨rfl, hW9.out⟩
end Go.Proofs.YtiimppbfigikfaaDoor
