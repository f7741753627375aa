/-
  The statement MacTags, walked. Condition: the table lies as the program's text lays it ('Tab').
-/
import Derived.Test.YtiimppbfigikfaaDoorMacG
import Derived.BigQuiet
namespace Go.Proofs.YtiimppbfigikfaaDoor
open Go.RowKit
set_option linter.unusedVariables false

set_option maxRecDepth 20000 in
set_option maxHeartbeats 2000000 in
theorem Tags_F (h : Hd) (v : Value) (l : List Int) (t q : Int) (w : World) (hT : Tab w) (hW : h.wf) (hv : Bs w v l) (hE : checkE h l.length = 0) (eq2 : (q == 1) = false) (e0 : (t == 1) = false) (eY : (h.typ == 33024) = false) :
    Calls Tryd.prog 7 #[.agg h.row, v, .agg #[.int .i64 t, .int .i64 0, .int .i64 q, .int .i64 0]] w fun e w' => e = .returned (.bool true) ∧ Below w.heap.size w w' := by
  have hs : 0 ≤ h.s0 ∧ h.s0 ≤ 255 := hW.bytes.2 h.s0 (by simp [Hd.src])
  have hodd := check_odd hE
  have hF0 := fits_of_check hW.bytes hE
  have hlen : (l.length : Int) ≤ 1500 := hF0.2.2.1
  have hEt : checkE (withTag h false 0 false 0) 0 = 0 := by
    rw [check_with hodd, if_neg]
    simp [tagFitsB]
  have hEb : ∀ k, checkE (withTag (h.retag false 0 false 0) h.tg h.pcp h.de h.vid) k = checkE (withTag h h.tg h.pcp h.de h.vid) k := fun k => rfl
  have hEo : checkE (withTag h h.tg h.pcp h.de h.vid) 0 = 0 := by
    rw [check_with hodd, if_neg]
    have := hF0.1.tag
    have e : tagFitsB (withTag h h.tg h.pcp h.de h.vid) = tagFitsB h := rfl
    rw [e, this]
    simp
  have hd6 : decide ((1600 : Int) < (l.length : Int)) = false := by simp; omega
  have hC1 := hide (carr_build hW.bytes hE)
  have hC := hide (fun w => Check_any h l.length w hs)
  rw [hE] at hC
  have hF := hide (fun w hT => frames_any w hT)
  have HT := hide hT
  have HE := hide hE
  have HV := hide hv
  have HW := hide hW
  have HF0 := hide hF0
  have HEt := hide hEt
  have HEo := hide hEo
  obtain ⟨_, va, vc, rfl, _⟩ := hv
  have hk := heap_kept (below1 (w.alloc (.cells h.row 27)) (.cells #[.int .i64 t, .int .i64 0, .int .i64 q, .int .i64 0] 42)) (heap_alloc_new w (.cells h.row 27))
  have hf := heap_alloc_new (w.alloc (.cells h.row 27)) (.cells #[.int .i64 t, .int .i64 0, .int .i64 q, .int .i64 0] 42)
  rw [World.size_alloc] at hf
  have hb0 := (below1 w (.cells h.row 27)).later (below1 (w.alloc (.cells h.row 27)) (.cells #[.int .i64 t, .int .i64 0, .int .i64 q, .int .i64 0] 42))
  clear hT hW hE hs hodd hF0 hEt hEo hEb
  go_enter Tryd.func7, Tryd.ntmps7
  go_wp2_with fail
  refine (hF.out _ (HT.out.later hb0)).mono ?_
  rintro e w1 ⟨rfl, hb1⟩
  have hk1 := heap_kept hb1 hk
  have hf1 := heap_kept hb1 hf
  have hW1 := hide (hb0.later hb1)
  clear hb1 hb0 hk hf hF
  have HLEN := hide hlen
  clear hlen
  go_wp2_with (first | (with_reducible change wpList _ _ _ _ _ _; refine wpList_load_row_on rfl 27 _ rfl w.heap.size rfl 27 _ _ _ hk1 Tryd.underlying27 rfl (hdSize _) ?_))
  refine (hC.out _).mono ?_
  rintro e w2 ⟨rfl, hb2⟩
  have hk2 := heap_kept hb2 hk1
  have hf2 := heap_kept hb2 hf1
  have hW2 := hide (hW1.out.later hb2)
  clear hb2 hk1 hf1 hC hW1
  go_wp2_with (first | (with_reducible change wpList _ _ _ _ _ _; refine wpList_load_row rfl 27 _ rfl w.heap.size rfl 27 _ _ _ hk2 Tryd.underlying27 rfl (hdSize _) ?_))
  refine (Build_ok h _ HW.out.bytes (HT.out.later hW2.out) (HV.out.below hW2.out) HE.out).mono ?_
  rintro e w3 ⟨g3, n3, rfl, hn3, hg3, hB3, hb3⟩
  clear hn3 hg3
  have hk3 := heap_kept hb3 hk2
  have hf3 := heap_kept hb3 hf2
  have hW3 := hide (hW2.out.later hb3)
  have HB3 := hide hB3
  have q0 : w3.cell? ⟨w.heap.size + 1, 0, none⟩ = some (.int .i64 t) := (cell_of_row _ _ _ _ _ _ hf3).trans rfl
  have q1 : w3.cell? ⟨w.heap.size + 1, 1, none⟩ = some (.int .i64 0) := (cell_of_row _ _ _ _ _ _ hf3).trans rfl
  have q2 : w3.cell? ⟨w.heap.size + 1, 2, none⟩ = some (.int .i64 q) := (cell_of_row _ _ _ _ _ _ hf3).trans rfl
  have q3 : w3.cell? ⟨w.heap.size + 1, 3, none⟩ = some (.int .i64 0) := (cell_of_row _ _ _ _ _ _ hf3).trans rfl
  have Hk3 := hide hk3
  have Hf3 := hide hf3
  clear hb3 hk2 hf2 hW2 hB3 hk3 hf3
  go_wp2_with fail
  go_quiet (fail)
  have Hk4 : Hid ((w3.drewN nq).heap[w.heap.size]? = _) := Hk3
  have Hf4 : Hid ((w3.drewN nq).heap[w.heap.size + 1]? = _) := Hf3
  have HB4 := hide (HB3.out.below (below_drewN (Below.refl _ _) nq))
  have hW4 := hide (below_drewN hW3.out nq)
  have q1' : (w3.drewN nq).cell? ⟨w.heap.size + 1, 1, none⟩ = some (.int .i64 0) := q1
  have q3' : (w3.drewN nq).cell? ⟨w.heap.size + 1, 3, none⟩ = some (.int .i64 0) := q3
  clear q0 q1 q2 q3 Hk3 Hf3 HB3 hW3
  generalize hw4 : w3.drewN nq = w4 at *
  clear hw4
  go_wp2_with fail
  have hR5 := Retag_ok HB4.out (HT.out.later hW4.out) hC1.out.good false 0 false 0 (by rw [hC1.out.hd]; exact HEt.out) (.inr (by rw [hC1.out.hd]; simpa using eY))
  have hC5 := hide (carr_retag HB4.out.byte hC1.out false 0 false 0 HEt.out (.inr (by simpa using eY)))
  refine hR5.mono ?_
  rintro e w5 ⟨g5, n5, rfl, hn5, hB5, hb5⟩
  clear hn5
  have hk5 := heap_kept hb5 Hk4.out
  have hf5 := heap_kept hb5 Hf4.out
  have hW5 := hide (hW4.out.later hb5)
  have HB5 := hide hB5
  have q1 : w5.cell? ⟨w.heap.size + 1, 1, none⟩ = some (.int .i64 0) := (cell_of_row _ _ _ _ _ _ hf5).trans rfl
  have q3 : w5.cell? ⟨w.heap.size + 1, 3, none⟩ = some (.int .i64 0) := (cell_of_row _ _ _ _ _ _ hf5).trans rfl
  have c16 : w5.cell? ⟨w.heap.size, 16, none⟩ = some (.int .i64 h.typ) := (cell_of_row _ _ _ _ _ _ hk5).trans rfl
  have Hk5 := hide hk5
  have Hf5 := hide hf5
  clear hb5 hR5 Hk4 Hf4 HB4 hW4 q1' q3' hB5 hk5 hf5 hC1
  obtain ⟨m5, hP5, hm5⟩ := carr_parsed hC5.out
  · skip
    go_wp2_with fail
    have hPa := Parse_any HB5.out (HT.out.later hW5.out)
    rw [hP5] at hPa
    refine hPa.mono ?_
    rintro e w6 ⟨pa, pn, pc, rfl, hB6, hb6⟩
    have hk6 := heap_kept hb6 Hk5.out
    have hf6 := heap_kept hb6 Hf5.out
    have hW6 := hide (hW5.out.later hb6)
    have HB6 := hide hB6
    have HB56 := hide (HB5.out.below hb6)
    have Hk6 := hide hk6
    have Hf6 := hide hf6
    clear hb6 hPa hB6 hk6 hf6 Hk5 Hf5 HB5 hW5 q1 q3 c16
    have hmd : ∀ w, (binOp .neq 25 (.agg (mac6 h.d0 h.d1 h.d2 h.d3 h.d4 h.d5)) (.agg (mac6 h.d0 h.d1 h.d2 h.d3 h.d4 h.d5))).run Tryd.prog w = .ok (.bool false) w := fun w => by rw [mac_neq _ _ _ _ _ _ _ _ _ _ _ _ HW.out.bytes.1 HW.out.bytes.1]; simp
    have hms : ∀ w, (binOp .neq 25 (.agg (mac6 h.s0 h.s1 h.s2 h.s3 h.s4 h.s5)) (.agg (mac6 h.s0 h.s1 h.s2 h.s3 h.s4 h.s5))).run Tryd.prog w = .ok (.bool false) w := fun w => by rw [mac_neq _ _ _ _ _ _ _ _ _ _ _ _ HW.out.bytes.2 HW.out.bytes.2]; simp
    have hgm := eqGuard_mac
    obtain ⟨hB6f, hpn, hpc⟩ := HB6.out.front_of
    have HB6f := hide hB6f
    have Hpn := hide hpn
    have hsl := fun W => slice_front pa pn pc l.length hpc W
    have hlt : decide ((pn : Int) < (l.length : Int)) = false := by have := Hpn.out; simp; omega
    have hlt2 : decide (pn < l.length) = false := by have := Hpn.out; simp; omega
    clear hB6f hpn hpc
    go_wp2_with ((with_reducible change wpList _ _ _ _ _ _); refine wpList_store_fresh rfl 27 _ _ rfl (Hd.mk h.d0 h.d1 h.d2 h.d3 h.d4 h.d5 h.s0 h.s1 h.s2 h.s3 h.s4 h.s5 false 0 false 0 h.typ h.llc).row Hd.zero.row rfl rfl 27 (hdSize _) rfl (Hd.row_all _) ?_; intro w7 hG7 hb7; have hk7 := heap_kept hb7 Hk6.out; have hf7 := heap_kept hb7 Hf6.out; have q1 : w7.cell? ⟨w.heap.size + 1, 1, none⟩ = some (.int .i64 0) := (cell_of_row _ _ _ _ _ _ hf7).trans rfl; have q3 : w7.cell? ⟨w.heap.size + 1, 3, none⟩ = some (.int .i64 0) := (cell_of_row _ _ _ _ _ _ hf7).trans rfl; have c16 : w7.cell? ⟨w.heap.size, 16, none⟩ = some (.int .i64 h.typ) := (cell_of_row _ _ _ _ _ _ hk7).trans rfl; have c17 : w7.cell? ⟨w.heap.size, 17, none⟩ = some (.bool h.llc) := (cell_of_row _ _ _ _ _ _ hk7).trans rfl; have g12 : w7.cell? ⟨w6.heap.size, 12, none⟩ = some (.bool false) := (cell_of_row _ _ _ _ _ _ hG7).trans rfl; have g13 : w7.cell? ⟨w6.heap.size, 13, none⟩ = some (.int .i64 0) := (cell_of_row _ _ _ _ _ _ hG7).trans rfl; have g14 : w7.cell? ⟨w6.heap.size, 14, none⟩ = some (.bool false) := (cell_of_row _ _ _ _ _ _ hG7).trans rfl; have g15 : w7.cell? ⟨w6.heap.size, 15, none⟩ = some (.int .i64 0) := (cell_of_row _ _ _ _ _ _ hG7).trans rfl; have g16 : w7.cell? ⟨w6.heap.size, 16, none⟩ = some (.int .i64 h.typ) := (cell_of_row _ _ _ _ _ _ hG7).trans rfl; have g17 : w7.cell? ⟨w6.heap.size, 17, none⟩ = some (.bool h.llc) := (cell_of_row _ _ _ _ _ _ hG7).trans rfl; have hW7 := hide (hW6.out.later hb7); have HB7f := hide (HB6f.out.below hb7); have HB57 := hide (HB56.out.below hb7); clear hb7 Hk6 Hf6 hW6 HB6f HB6 HB56; refine unh ?_)
    refine hide ?_
    obtain ⟨S, hS⟩ : ∃ S, S = bstr l := ⟨_, rfl⟩
    obtain ⟨S2, hS2⟩ : ∃ S2, S2 = bstr l := ⟨_, rfl⟩
    have hne : (S2.toList == S.toList) = true := by rw [hS, hS2]; simp
    have z1 : ∀ nq, (convert 22 9 (.slice pa l.length pc)).run Tryd.prog (w7.drewN nq) = .ok (.string S2) (w7.drewN nq) := fun nq => by rw [hS2]; exact conv_str 22 9 5 Tryd.underlying22 Tryd.underlying5 Tryd.underlying9 (HB7f.out.below (below_drewN (Below.refl _ _) nq))
    have z2 : ∀ nq, (convert 22 9 (.slice va l.length vc)).run Tryd.prog (w7.drewN nq) = .ok (.string S) (w7.drewN nq) := fun nq => by rw [hS]; exact conv_str 22 9 5 Tryd.underlying22 Tryd.underlying5 Tryd.underlying9 (HV.out.below (below_drewN hW7.out nq))
    have HS := hide hS
    clear hS hS2
    go_wp2_with (first | (with_reducible change wpList _ _ _ _ _ _; refine wpList_load_dst rfl _ rfl w6.heap.size rfl (Hd.mk h.d0 h.d1 h.d2 h.d3 h.d4 h.d5 h.s0 h.s1 h.s2 h.s3 h.s4 h.s5 false 0 false 0 h.typ h.llc) _ _ hG7 ?_) | (with_reducible change wpList _ _ _ _ _ _; refine wpList_load_dst rfl _ rfl w.heap.size rfl h _ _ hk7 ?_) | (with_reducible change wpList _ _ _ _ _ _; refine wpList_load_src rfl _ rfl w6.heap.size rfl (Hd.mk h.d0 h.d1 h.d2 h.d3 h.d4 h.d5 h.s0 h.s1 h.s2 h.s3 h.s4 h.s5 false 0 false 0 h.typ h.llc) _ _ hG7 ?_) | (with_reducible change wpList _ _ _ _ _ _; refine wpList_load_src rfl _ rfl w.heap.size rfl h _ _ hk7 ?_))
    go_quiet (fail)
    have hk8 : (w7.drewN nq).heap[w.heap.size]? = some (.cells h.row 27 (0, 0)) := hk7
    have HB58 := hide (HB57.out.below (below_drewN (Below.refl _ _) nq))
    have hW8 := hide (below_drewN hW7.out nq)
    clear z1 z2 hne hk7 hf7 hG7 HB57 HB7f hW7 q1 q3 c16 c17 g12 g13 g14 g15 g16 g17 hsl hlt hlt2 hmd hms Hpn
    generalize hw8 : w7.drewN nq = w8 at *
    clear hw8
    have c12 : w8.cell? ⟨w.heap.size, 12, none⟩ = some (.bool h.tg) := (cell_of_row _ _ _ _ _ _ hk8).trans rfl
    have c13 : w8.cell? ⟨w.heap.size, 13, none⟩ = some (.int .i64 h.pcp) := (cell_of_row _ _ _ _ _ _ hk8).trans rfl
    have c14 : w8.cell? ⟨w.heap.size, 14, none⟩ = some (.bool h.de) := (cell_of_row _ _ _ _ _ _ hk8).trans rfl
    have c15 : w8.cell? ⟨w.heap.size, 15, none⟩ = some (.int .i64 h.vid) := (cell_of_row _ _ _ _ _ _ hk8).trans rfl
    have Hk8 := hide hk8
    clear hk8
    go_wp2_with fail
    have hR9 := Retag_ok HB58.out (HT.out.later hW8.out) hC5.out.good h.tg h.pcp h.de h.vid (by rw [hC5.out.hd]; exact HEo.out) (by rw [hC5.out.hd]; exact HF0.out.1.notag)
    have hC9 : Hid (Carr (retagL (retagL (buildL h l) false 0 false 0) h.tg h.pcp h.de h.vid) h l) := carr_retag HB58.out.byte hC5.out h.tg h.pcp h.de h.vid HEo.out HF0.out.1.notag
    refine hR9.mono ?_
    rintro e w9 ⟨g9, n9, rfl, hn9, hB9, hb9⟩
    have Hk9 := hide (heap_kept hb9 Hk8.out)
    have hW9 := hide (hW8.out.later hb9)
    have HB9 := hide hB9
    clear hn9 hb9 hB9 hR9 hW8 Hk8 c12 c13 c14 c15 HB58 hC5
    obtain ⟨m9, hP9, hm9⟩ := carr_parsed hC9.out
    go_wp2_with fail
    have hPb := Parse_any HB9.out (HT.out.later hW9.out)
    rw [hP9] at hPb
    refine hPb.mono ?_
    rintro e wA ⟨ra, rn, rc, rfl, hBA, hbA⟩
    have HkA := hide (heap_kept hbA Hk9.out)
    have hWA := hide (hW9.out.later hbA)
    obtain ⟨hBAf, hrn, hrc⟩ := hBA.front_of
    have HBAf := hide hBAf
    have Hrn := hide hrn
    have hsl := fun W => slice_front ra rn rc l.length hrc W
    have hge : decide ((l.length : Int) ≤ (rn : Int)) = true := by have := Hrn.out; simp; omega
    have heq : ∀ w, (binOp .eql 27 (.agg h.row) (.agg h.row)).run Tryd.prog w = .ok (.bool true) w := fun w => by rw [hd_eql h h HW.out HW.out]; simp
    have hgd := eqGuard_hd
    have hge2 : decide (l.length ≤ rn) = true := by have := Hrn.out; simp; omega
    clear hPb hbA Hk9 hW9 HB9 hBA hBAf hrn hrc
    go_wp2_with ((with_reducible change wpList _ _ _ _ _ _); refine wpList_store_fresh rfl 27 _ _ rfl h.row Hd.zero.row rfl rfl 27 (hdSize _) rfl (Hd.row_all _) ?_; intro wB hGB hbB; have HkB := hide (heap_kept hbB HkA.out); have hWB := hide (hWA.out.later hbB); have HBBf := hide (HBAf.out.below hbB); have HGB := hide hGB; clear hbB HkA hWA HBAf hGB; refine unh ?_)
    refine hide ?_
    obtain ⟨S3, hS3⟩ : ∃ S3, S3 = bstr l := ⟨_, rfl⟩
    have hne : (S3.toList == S.toList) = true := by rw [HS.out, hS3]; simp
    have z1 : ∀ nq, (convert 22 9 (.slice ra l.length rc)).run Tryd.prog (wB.drewN nq) = .ok (.string S3) (wB.drewN nq) := fun nq => by rw [hS3]; exact conv_str 22 9 5 Tryd.underlying22 Tryd.underlying5 Tryd.underlying9 (HBBf.out.below (below_drewN (Below.refl _ _) nq))
    have z2 : ∀ nq, (convert 22 9 (.slice va l.length vc)).run Tryd.prog (wB.drewN nq) = .ok (.string S) (wB.drewN nq) := fun nq => by rw [HS.out]; exact conv_str 22 9 5 Tryd.underlying22 Tryd.underlying5 Tryd.underlying9 (HV.out.below (below_drewN hWB.out nq))
    have z3 : ∀ nq, (Instr.loadAt 27 (.pointer (some ⟨wA.heap.size, 0, none⟩))).run Tryd.prog (wB.drewN nq) = .ok (.agg h.row) (wB.drewN nq) := fun nq => load_hd (W := wB.drewN nq) HGB.out
    have z4 : ∀ nq, (Instr.loadAt 27 (.pointer (some ⟨w.heap.size, 0, none⟩))).run Tryd.prog (wB.drewN nq) = .ok (.agg h.row) (wB.drewN nq) := fun nq => load_hd (W := wB.drewN nq) HkB.out
    clear hS3
    go_wp2_with fail
    refine wp_region_quiet_lit (by kernel_rfl) (by kernel_rfl) ?_
    repeat (go_big_quiet_step (fail))
    refine wpQuiet_row rfl 27 _ rfl _ z3 ?_
    try simp only [Act.put, List.setIfInBounds_toArray, List.set_cons_zero, List.set_cons_succ]
    refine wpQuiet_row rfl 27 _ rfl _ z4 ?_
    try simp only [Act.put, List.setIfInBounds_toArray, List.set_cons_zero, List.set_cons_succ]
    repeat (go_big_quiet_step (fail))
    refine wpQuiet_nil ?_
    intro _ hw'
    obtain ⟨nq, hw''⟩ := hw'
    subst hw''
    go_wp2
    go_ret
    exact ⟨rfl, below_drewN hWB.out _⟩
end Go.Proofs.YtiimppbfigikfaaDoor
