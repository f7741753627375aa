/-
  The statement BpduBuilds, walked. Condition: the table lies as the program's text lays it ('Tab').
-/
import Derived.Test.YtiimppbfigikfaaDoorBq7
import Derived.Test.YtiimppbfigikfaaDoorFlatB
namespace Go.Proofs.YtiimppbfigikfaaDoor
open Go.RowKit
set_option linter.unusedVariables false

theorem cells_new (w : World) (t : TypeId) (xs : List Value) : ∀ j u, xs[j]? = some u → (w.alloc (.cells xs.toArray t)).cell? ((⟨w.heap.size, 0, none⟩ : Addr).add j) = some u := by
  intro j u h
  rw [Addr.add_mid, Nat.zero_add, World.cell?_alloc_new, List.getElem?_toArray]
  exact h
theorem ints_one (l : List Int) : ∀ u ∈ l.map (Value.int .u8), u.oneCell' = true := by
  intro u hu
  simp only [List.mem_map] at hu
  obtain ⟨z, _, rfl⟩ := hu
  rfl
theorem Bs.headAny {w : World} {a : Option Addr} {n c : Nat} {l : List Int} (h : Bs w (.slice a n c) l) (k : Nat) (hk : k ≤ l.length) : Bs w (.slice a k c) (l.take k) := by
  have e : l = l.take k ++ l.drop k := (List.take_append_drop k l).symm
  rw [e] at h
  have h1 := h.front_of.1
  have e2 : (l.take k).length = k := by simp; omega
  rwa [e2] at h1
set_option maxRecDepth 20000 in
theorem BB_bad (b : Bp) (cut : Int) (w : World) (hT : Tab w) (hW : b.wf) (hE : bcheckE b ≠ 0) :
    Calls Tryd.prog 12 #[.agg b.row, .int .i64 cut] w fun e w' => e = .returned (.bool true) ∧ Below w.heap.size w w' := by
  have hB := hide (fun w => BBuild_bad b w hW hE)
  have hC := hide (fun w => BCheck_any b w hW)
  have hne : (bcheckE b != 0) = true := by simpa using hE
  generalize bcheckE b = E at *
  have hF := hide (fun w hT => tells_any w hT)
  have HT := hide hT
  have hk := heap_alloc_new w (.cells b.row 55)
  clear hT hW hE
  go_enter Tryd.func12, Tryd.ntmps12
  go_wp2_with fail
  refine (hF.out _ (HT.out.later (below1 _ _))).mono ?_
  rintro e w1 ⟨rfl, hb1⟩
  have hk1 := heap_kept hb1 hk
  have hW1 := hide ((below1 w _).later hb1)
  clear hb1 hk hF
  go_wp2_with ((with_reducible change wpList _ _ _ _ _ _); refine wpList_load_row rfl 55 (.tmp 2) rfl w.heap.size rfl 55 _ _ _ hk1 Tryd.underlying55 rfl (bpSize _) ?_)
  refine (hB.out _).mono ?_
  rintro e w2 ⟨rfl, hb2⟩
  have hk2 := heap_kept hb2 hk1
  have hW2 := hide (hW1.out.later hb2)
  clear hb2 hk1 hB hW1
  go_wp2_with ((with_reducible change wpList _ _ _ _ _ _); refine wpList_load_row rfl 55 (.tmp 2) rfl w.heap.size rfl 55 _ _ _ hk2 Tryd.underlying55 rfl (bpSize _) ?_)
  refine (hC.out _).mono ?_
  rintro e w3 ⟨rfl, hb3⟩
  have hW3 := hide (hW2.out.later hb3)
  clear hb3 hk2 hC hW2
  go_wp2
  go_ret
  exact ⟨ret_bool (by simp), hW3.out⟩
set_option maxRecDepth 20000 in
set_option maxHeartbeats 2000000 in
theorem BB_ok (b : Bp) (cut : Int) (w : World) (hT : Tab w) (hW : b.wf) (hE : bcheckE b = 0) :
    Calls Tryd.prog 12 #[.agg b.row, .int .i64 cut] w fun e w' => e = .returned (.bool true) ∧ Below w.heap.size w w' := by
  have hB := hide (fun w => BBuild_ok b w hW hE)
  have hC := hide (fun w => BCheck_any b w hW)
  rw [hE] at hC
  have hP0 := hide (bparsed_build hW hE [])
  rw [List.append_nil] at hP0
  have hP3 := hide (bparsed_build hW hE [0, 0, 0])
  have hPc := hide (fun k hk => bparsed_cut hW hE k hk)
  have hL := hide (bbuildL_le b)
  have hL7 : Hid (7 ≤ (bbuildL b).length) := by
    show 7 ≤ _
    rw [bbuildL_length]; split <;> (try split) <;> omega
  have hneq : ∀ w, (binOp .neq 55 (.agg b.row) (.agg b.row)).run Tryd.prog w = .ok (.bool false) w := fun w => by rw [bp_neq b b hW hW]; simp
  have hgd := eqGuard_bp
  obtain ⟨i0, hi, hz0, hz1, hz2⟩ := info_parts Tryd.infoU8
  generalize bbuildL b = D at *
  have hF := hide (fun w hT => tells_any w hT)
  have HT := hide hT
  have hk := heap_alloc_new w (.cells b.row 55)
  clear hT hW hE
  go_enter Tryd.func12, Tryd.ntmps12
  go_wp2_with fail
  refine (hF.out _ (HT.out.later (below1 _ _))).mono ?_
  rintro e w1 ⟨rfl, hb1⟩
  have hk1 := heap_kept hb1 hk
  have hW1 := hide ((below1 w _).later hb1)
  clear hb1 hk hF
  go_wp2_with ((with_reducible change wpList _ _ _ _ _ _); refine wpList_load_row rfl 55 (.tmp 2) rfl w.heap.size rfl 55 _ _ _ hk1 Tryd.underlying55 rfl (bpSize _) ?_)
  refine (hB.out _).mono ?_
  rintro e w2 ⟨va, n, vk, rfl, hB2, hb2⟩
  have hn := hB2.lenB
  subst hn
  obtain ⟨pb, poff, rfl, hvk⟩ : ∃ pb poff, va = some ⟨pb, poff, none⟩ ∧ D.length ≤ vk := by
    rcases hB2.cases with ⟨h, _⟩ | ⟨b, off, cap, e, _, h1, h2, h3⟩
    · have := hL7.out; rw [h] at this; simp at this
    · simp only [Value.slice.injEq] at e
      obtain ⟨rfl, _, rfl⟩ := e
      exact ⟨b, off, rfl, h1⟩
  have hk2 := heap_kept hb2 hk1
  have hW2 := hide (hW1.out.later hb2)
  have HB2 := hide hB2
  have Hvk := hide hvk
  clear hb2 hk1 hB hW1 hB2 hvk
  go_wp2_with ((with_reducible change wpList _ _ _ _ _ _); refine wpList_load_row rfl 55 (.tmp 2) rfl w.heap.size rfl 55 _ _ _ hk2 Tryd.underlying55 rfl (bpSize _) ?_)
  refine (hC.out _).mono ?_
  rintro e w3 ⟨rfl, hb3⟩
  have hk3 := heap_kept hb3 hk2
  have hW3 := hide (hW2.out.later hb3)
  have HB3 := hide (HB2.out.below hb3)
  clear hb3 hk2 hC hW2 HB2
  go_wp2_with fail
  have hQ := BParse_any HB3.out (by have := hL.out; omega)
  rw [hP0.out] at hQ
  refine hQ.mono ?_
  rintro e w4 ⟨rfl, hb4⟩
  have hk4 := heap_kept hb4 hk3
  have hW4 := hide (hW3.out.later hb4)
  have HB4 := hide (HB3.out.below hb4)
  clear hb4 hk3 hQ hW3 HB3
  have hDl : (D.length : Int) ≤ 39 := by have := hL.out; omega
  go_wp2_with (first | ((with_reducible change wpList _ _ _ _ _ _); refine wpList_store_fresh rfl 55 (.tmp 8) (.tmp 36) rfl b.row Bp.zero.row rfl rfl 55 (bpSize _) rfl (Bp.row_all _) ?_; intro w5 hG5 hb5; have hk5 := heap_kept hb5 hk4; have hW5 := hide (hW4.out.later hb5); have HB5 := hide (HB4.out.below hb5); have hz4 := hb5.size; clear hb5 hk4 hW4 HB4) | (at_builtin; refine unh ?_))
  have hba : Below w5.heap.size w5 (w5.alloc (.cells #[] 5)) := below1 _ _
  have hown0 : (w5.alloc (.cells #[] 5)).ownsRow w5.heap.size 5 1 (.slice (some ⟨w5.heap.size, 0, none⟩) 0 0) 0 [] := World.ownsRow_made w5 #[] 0 (Nat.le_refl _) (by simp [maxLen]) rfl
  have hnews : ∀ t u, (D.map (Value.int .u8))[t]? = some u → (w5.alloc (.cells #[] 5)).cell? ((⟨pb, poff, none⟩ : Addr).add t) = some u := by
    obtain ⟨_, a', cap', e, _, _, _, h6⟩ := HB5.out.below hba
    simp only [Value.slice.injEq] at e
    obtain ⟨rfl, _, _⟩ := e
    exact Bs.news h6 _ rfl
  have hone := ints_one D
  have hnl : (D.map (Value.int .u8)).length = D.length * 1 := by rw [List.length_map, Nat.mul_one]
  have HO0 := hide hown0
  have HN := hide hnews
  have HON := hide hone
  have HNL := hide hnl
  have HBA := hide hba
  clear hown0 hnews hone hnl hba
  refine hide ?_
  go_wp2_with (at_builtin; refine wpList_append_own _ rfl _ _ 22 rfl w5.heap.size 5 i0 (.int .u8 0) 1 1 Tryd.underlying22 hi hz0 hz1 hz2 rfl (by decide) (.slice (some ⟨w5.heap.size, 0, none⟩) 0 0) 0 [] rfl HO0.out ⟨pb, poff, none⟩ D.length vk (D.map (Value.int .u8)) rfl HNL.out HN.out HON.out (by unfold maxLen; omega) (by omega) (by simp) ?_; intro v6 w6 hown6 hgrow6 _; simp only [Nat.zero_add, List.nil_append] at hown6; refine unh ?_)
  have hb6 : Below w5.heap.size w5 w6 := HBA.out.grown hgrow6 HBA.out.size (fun k e => by cases e; exact Nat.le_refl _)
  obtain ⟨g6, cap6, rfl, hgg⟩ : ∃ g cap2, v6 = .slice (some ⟨g, 0, none⟩) D.length cap2 ∧ w5.heap.size ≤ g := by
    rcases hown6.2 with ⟨_, h0⟩ | ⟨g, cap', cur, hv, hg, _⟩
    · have := hL7.out; omega
    · exact ⟨g, cap', hv, hg⟩
  have HO6 := hide hown6
  have hz5 : w.heap.size < w5.heap.size := (Array.getElem?_eq_some_iff.1 hk5).1
  have hk6 := heap_kept hb6 hk5
  have hG6 := heap_kept hb6 hG5
  have hW6 := hide (hW5.out.later hb6)
  have HB6 := hide (HB5.out.below hb6)
  have hz6 := hb6.size
  have HG5 := hide hG5
  have HDl := hide (HB5.out.bl)
  clear hown6 hgrow6 HO0 HN HON HNL HBA hb6 hk5 hG5 hW5 HB5
  refine hide ?_
  go_wp2_with (at_builtin; refine wpList_append_own _ rfl _ _ 22 rfl w5.heap.size 5 i0 (.int .u8 0) 1 1 Tryd.underlying22 hi hz0 hz1 hz2 rfl (by decide) (.slice (some ⟨g6, 0, none⟩) D.length cap6) D.length (D.map (Value.int .u8)) rfl (HO6.out.alloc _) ⟨w6.heap.size, 0, none⟩ 3 3 [.int .u8 0, .int .u8 0, .int .u8 0] rfl rfl (cells_new w6 _ [.int .u8 0, .int .u8 0, .int .u8 0]) (ints_one [0, 0, 0]) (by unfold maxLen; omega) (by omega) (by simp; omega) ?_; intro v7 w7 hown7 hgrow7 _; refine unh ?_)
  have hb7 : Below w5.heap.size w6 w7 := ((below1 w6 _).mono hz6).grown hgrow7 (by simp; omega) (fun k e => by cases e; exact hgg)
  obtain ⟨g7, cap7, rfl, hg7⟩ : ∃ g cap2, v7 = .slice (some ⟨g, 0, none⟩) (D.length + 3) cap2 ∧ w5.heap.size ≤ g := by
    rcases hown7.2 with ⟨_, h0⟩ | ⟨g, cap', cur, hv, hg, _⟩
    · omega
    · exact ⟨g, cap', hv, hg⟩
  have hB7 : Bs w7 (.slice (some ⟨g7, 0, none⟩) (D.length + 3) cap7) (D ++ [0, 0, 0]) := by
    have e : (D ++ [0, 0, 0]).length = D.length + 3 := by simp
    have := Bs.own (l := D ++ [0, 0, 0]) (by rw [e, List.map_append]; exact hown7) (HB6.out.byte.append (by intro z hz; simp at hz; omega))
    rwa [e] at this
  have hk7 := (hb7.block w.heap.size hz5).trans hk6
  have hG7 := (hb7.block w4.heap.size (Array.getElem?_eq_some_iff.1 HG5.out).1).trans hG6
  have hW7 := hide (hW6.out.trans (hb7.mono (Nat.le_of_lt hz5)))
  have HB7 := hide hB7
  have HD7 := hide (show Bs w7 (.slice (some ⟨pb, poff, none⟩) D.length vk) D from HB6.out.belowAt HDl.out hb7)
  clear hown7 hgrow7 HO6 hb7 hk6 hG6 hW6 HB6 hB7 HG5 HDl
  refine hide ?_
  go_wp2_with fail
  have hQ := BParse_any HB7.out (by have := hL.out; simp; omega)
  rw [hP3.out] at hQ
  refine hQ.mono ?_
  rintro e w8 ⟨rfl, hb8⟩
  have hk8 := heap_kept hb8 hk7
  have hG8 := heap_kept hb8 hG7
  have hW8 := hide (hW7.out.later hb8)
  have HD8 := hide (HD7.out.below hb8)
  clear hQ hb8 hk7 hG7 hW7 HD7 HB7
  go_wp2_with (first | ((with_reducible change wpList _ _ _ _ _ _); refine wpList_store_fresh rfl 55 (.tmp 10) (.tmp 45) rfl b.row Bp.zero.row rfl rfl 55 (bpSize _) rfl (Bp.row_all _) ?_; intro w9 hJ9 hb9; have hk9 := heap_kept hb9 hk8; have hG9 := heap_kept hb9 hG8; have hW9 := hide (hW8.out.later hb9); have HD9 := hide (HD8.out.below hb9); clear hb9 hk8 hG8 hW8 HD8; refine unh ?_))
  by_cases h0 : cut < 0
  · have d0 : decide (cut < 0) = true := by simpa using h0
    clear h0
    refine hide ?_
    go_wp2_with (first | ((with_reducible change wpList _ _ _ _ _ _); refine wpList_load_row_on rfl 55 (.tmp 8) rfl w4.heap.size rfl 55 _ _ _ hG9 Tryd.underlying55 rfl (bpSize _) ?_) | ((with_reducible change wpList _ _ _ _ _ _); refine wpList_load_row_on rfl 55 (.tmp 2) rfl w.heap.size rfl 55 _ _ _ hk9 Tryd.underlying55 rfl (bpSize _) ?_) | ((with_reducible change wpList _ _ _ _ _ _); refine wpList_load_row_on rfl 55 (.tmp 10) rfl w8.heap.size rfl 55 _ _ _ hJ9 Tryd.underlying55 rfl (bpSize _) ?_))
    go_ret
    exact ⟨rfl, hW9.out⟩
  by_cases h1 : (D.length : Int) ≤ cut
  · have d0 : decide (cut < 0) = false := by simpa using h0
    have d1 : decide ((D.length : Int) ≤ cut) = true := by simpa using h1
    clear h0 h1
    refine hide ?_
    go_wp2_with (first | ((with_reducible change wpList _ _ _ _ _ _); refine wpList_load_row_on rfl 55 (.tmp 8) rfl w4.heap.size rfl 55 _ _ _ hG9 Tryd.underlying55 rfl (bpSize _) ?_) | ((with_reducible change wpList _ _ _ _ _ _); refine wpList_load_row_on rfl 55 (.tmp 2) rfl w.heap.size rfl 55 _ _ _ hk9 Tryd.underlying55 rfl (bpSize _) ?_) | ((with_reducible change wpList _ _ _ _ _ _); refine wpList_load_row_on rfl 55 (.tmp 10) rfl w8.heap.size rfl 55 _ _ _ hJ9 Tryd.underlying55 rfl (bpSize _) ?_))
    go_ret
    exact ⟨rfl, hW9.out⟩
  obtain ⟨k, rfl⟩ := Int.eq_ofNat_of_zero_le (show 0 ≤ cut by omega)
  have hkl : k < D.length := by omega
  have d0 : decide ((k : Int) < 0) = false := by simp
  have d1 : decide ((D.length : Int) ≤ (k : Int)) = false := by simp; omega
  have d1' : decide (D.length ≤ k) = false := by simp; omega
  have hkv : (k : Int) ≤ (vk : Int) := by have := Hvk.out; omega
  have hc2 := hPc.out k hkl
  have HP9 := hide (Bs.headAny HD9.out k (by omega))
  have Hkl := hide hkl
  clear h0 h1 hkl
  refine hide ?_
  go_wp2_with (first | ((with_reducible change wpList _ _ _ _ _ _); refine wpList_load_row_on rfl 55 (.tmp 8) rfl w4.heap.size rfl 55 _ _ _ hG9 Tryd.underlying55 rfl (bpSize _) ?_) | ((with_reducible change wpList _ _ _ _ _ _); refine wpList_load_row_on rfl 55 (.tmp 2) rfl w.heap.size rfl 55 _ _ _ hk9 Tryd.underlying55 rfl (bpSize _) ?_) | ((with_reducible change wpList _ _ _ _ _ _); refine wpList_load_row_on rfl 55 (.tmp 10) rfl w8.heap.size rfl 55 _ _ _ hJ9 Tryd.underlying55 rfl (bpSize _) ?_))
  have hQ := BParse_any HP9.out (by have := hL.out; have := Hkl.out; simp; omega)
  rw [hc2] at hQ
  generalize (bparsed (D.take k)).1 = BX at *
  refine hQ.mono ?_
  rintro e wA ⟨rfl, hbA⟩
  have hWA := hide (hW9.out.later hbA)
  clear hQ hbA hc2 hW9
  go_wp2_with ((with_reducible change wpList _ _ _ _ _ _); refine wpList_store_fresh rfl 55 (.tmp 12) (.tmp 80) rfl BX.row Bp.zero.row rfl rfl 55 (bpSize _) rfl (Bp.row_all _) ?_; intro wB hJB hbB; have hWB := hide (hWA.out.later hbB); clear hbB hWA)
  go_ret
  exact ⟨rfl, hWB.out⟩
theorem BBuilds_walk (b : Bp) (cut : Int) (w : World) (hT : Tab w) (hW : b.wf) :
    Calls Tryd.prog 12 #[.agg b.row, .int .i64 cut] w fun e w' => e = .returned (.bool true) ∧ Below w.heap.size w w' := by
  by_cases hE : bcheckE b = 0
  · exact BB_ok b cut w hT hW hE
  · exact BB_bad b cut w hT hW hE
end Go.Proofs.YtiimppbfigikfaaDoor
