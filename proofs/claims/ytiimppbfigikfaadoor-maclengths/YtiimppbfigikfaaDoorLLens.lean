/-
  The statement MacLengths, walked. Condition: the table lies as the program's text lays it ('Tab').
-/
import Derived.Test.YtiimppbfigikfaaDoorMacF
import Derived.Test.YtiimppbfigikfaaDoorFlat
namespace Go.Proofs.YtiimppbfigikfaaDoor
open Go.RowKit
set_option linter.unusedVariables false

/-- What stands ahead, then sevens, then noughts. -/
def lenRow (k : Int) (room j : Nat) : List Int := [0, 0, 0, 0, 0, 0, 2, 0, 0, 0, 0, 0, k / 256, k % 256] ++ (List.replicate j 7 ++ List.replicate (room - j) 0)
theorem lenRow_length (k : Int) (room j : Nat) (h : j ≤ room) : (lenRow k room j).length = 14 + room := by simp [lenRow]; omega
theorem lenRow_set (k : Int) (room j : Nat) (h : j < room) : (lenRow k room j).set (14 + j) 7 = lenRow k room (j + 1) := by
  unfold lenRow
  rw [List.set_append_right (h := by simp)]
  congr 1
  rw [show 14 + j - [0, 0, 0, 0, 0, 0, 2, 0, 0, 0, 0, 0, k / 256, k % 256].length = j by simp]
  rw [List.set_append_right (h := by simp)]
  rw [List.length_replicate, Nat.sub_self, List.replicate_succ', show room - j = (room - (j + 1)) + 1 by omega, List.replicate_succ]
  simp
theorem lenRow_byte (k : Int) (room j : Nat) (h0 : 0 ≤ k) (h1 : k < 65536) : Byte (lenRow k room j) := by
  refine Byte.append ?_ (Byte.append ?_ (zero_byte _))
  · intro z hz
    simp only [List.mem_cons, List.not_mem_nil, or_false] at hz
    rcases hz with rfl | rfl | rfl | rfl | rfl | rfl | rfl | rfl | rfl | rfl | rfl | rfl | rfl | rfl <;> omega
  · intro z hz
    have := List.eq_of_mem_replicate hz
    omega
theorem lenRow_zero (k : Int) (room : Nat) : (((List.replicate (14 + room) (0 : Int)).set 6 2).set 12 (k / 256)).set 13 (k % 256) = lenRow k room 0 := by
  rw [← List.replicate_append_replicate]
  simp [lenRow, List.replicate]
/-- The header that stands there. -/
def lenH (k : Int) : Hd := hdPlain 0 0 0 0 0 0 2 0 0 0 0 0 k
theorem len_hd (k : Int) (room : Nat) (h0 : 0 ≤ k) (h1 : k < 65536) (hn : k ≠ 33024) : hdOf (lenRow k room room) = lenH k ∧ restOf (lenRow k room room) = List.replicate room 7 := by
  have e : n2 (k / 256) (k % 256) = k := by unfold n2; omega
  constructor
  · show (if n2 (k / 256) (k % 256) = 33024 then _ else hdPlain 0 0 0 0 0 0 2 0 0 0 0 0 (n2 (k / 256) (k % 256))) = _
    rw [e, if_neg hn]; rfl
  · unfold restOf isTag
    rw [if_neg (by simp [lenRow, e, hn])]
    simp [lenRow]
theorem len_parsed (k : Int) (room : Nat) (h0 : 0 ≤ k) (h1 : k < 65536) (hn : k ≠ 33024) (hr : 46 ≤ room) (hr2 : room ≤ 1500) :
    parsed (sealL (lenRow k room room)) = if 1536 ≤ k then (lenH k, List.replicate room 7, 0) else if k ≤ 1500 ∧ k ≤ room then (lenH k, (List.replicate room 7).take k.toNat, 0) else (Hd.zero, [], 4) := by
  obtain ⟨e1, e2⟩ := len_hd k room h0 h1 hn
  have hl : (sealL (lenRow k room room)).length = 18 + room := by rw [sealL_length, lenRow_length _ _ _ (Nat.le_refl _)]; omega
  unfold parsed
  rw [if_neg (by omega), if_neg (by omega), sealL_take, if_neg (by simp), e1, e2]
  rw [if_neg (by simp [lenH, hdPlain]; omega)]
  by_cases hk : 1536 ≤ k
  · have hp : payN (lenH k) (List.replicate room 7) = room := by simp [payN, lenH, hdPlain]; omega
    rw [if_pos hk, hp, if_neg (by simp [mayBeB, lenH, hdPlain]; omega), List.take_of_length_le (by simp)]
  · rw [if_neg hk]
    by_cases hq : k ≤ 1500
    · have hp : payN (lenH k) (List.replicate room 7) = k.toNat := by simp [payN, lenH, hdPlain, hq]
      rw [hp]
      by_cases hm : k ≤ room
      · rw [if_neg (by simp [mayBeB, lenH, hdPlain, hq]; omega), if_pos ⟨hq, hm⟩]
      · rw [if_pos (.inr (by simp; omega)), if_neg (by omega)]
    · rw [if_pos (.inl (by simp [mayBeB, lenH, hdPlain]; omega)), if_neg (by omega)]

theorem Bs.len {w : World} {a : Option Addr} {n c : Nat} {l : List Int} (h : Bs w (.slice a n c) l) : n = l.length := by
  obtain ⟨_, _, _, e, _⟩ := h
  simp only [Value.slice.injEq] at e
  exact e.2.1
set_option maxRecDepth 20000 in
set_option maxHeartbeats 1000000 in
theorem Lens_in (k : Int) (room : Nat) (w : World) (hT : Tab w) (h0 : 0 ≤ k) (h1 : k < 65536) (hn : k ≠ 33024) (hr : 46 ≤ room) (hr2 : room ≤ 1500) :
    Calls Tryd.prog 10 #[.int .i64 k, .int .i64 room] w fun e w' => e = .returned (.bool true) ∧ Below w.heap.size w w' := by
  have hF := hide (fun w hT => frames_any w hT)
  have HT := hide hT
  have hPD := hide (len_parsed k room h0 h1 hn hr hr2)
  obtain ⟨i0, hi, hz0, hz1, hz2⟩ := info_parts Tryd.infoU8
  have n1 : (room : Int) ≤ 1500 := by omega
  have n2' : (46 : Int) ≤ (room : Int) := by omega
  have k1 : k ≤ 65535 := by omega
  have hn' : (k == 33024) = false := by simpa using hn
  have ks : IntKind.u8.wrap (k / 256) = k / 256 := by rw [IntKind.wrap_u8, Int.emod_eq_of_lt (by omega) (by omega)]
  have ks2 : IntKind.u8.wrap k = k % 256 := by rw [IntKind.wrap_u8]
  clear hT hn
  go_enter Tryd.func10, Tryd.ntmps10
  go_wp2_with fail
  refine (hF.out _ HT.out).mono ?_
  rintro e w1 ⟨rfl, hb1⟩
  clear hF
  have hc14 : ((14 + room : Nat) : Int) = 14 + (room : Int) := by omega
  go_wp2_with (at_make; refine wpList_make_full _ rfl _ _ 22 rfl w1.heap.size 5 i0 (.int .u8 0) 1 Tryd.underlying22 hi hz0 hz1 _ _ _ _ (14 + room) rfl rfl hc14.symm hc14.symm (by rw [hz2]; omega) (by unfold maxLen; omega) (Nat.le_refl _) ?_; intro w2 hown hgrow; refine unh ?_)
  have hb2 : Below w1.heap.size w1 w2 := (Below.refl _ _).grown hgrow (Nat.le_refl _) (fun _ e => by cases e)
  have hown0 : w2.ownsRow w1.heap.size 5 1 (.slice (some ⟨w1.heap.size, 0, none⟩) (14 + room) (14 + room)) (14 + room) ((List.replicate (14 + room) (0 : Int)).map (Value.int .u8)) := by
    rw [List.map_replicate, ← toList_madeCells_one]
    simpa [Value.cells] using hown
  have cz : ∀ i, i < 14 → w2.cell? ⟨w1.heap.size, i, none⟩ = some (.int .u8 0) := fun i hi => by
    rw [hown0.cellAt i (by omega), getElem?_map_u8 _ _ (by simp; omega)]
    simp [List.getD_eq_getElem?_getD, show i < 14 + room by omega]
  have c6 := cz 6 (by decide)
  have c12 := cz 12 (by decide)
  have c13 := cz 13 (by decide)
  have f6 := hown0.frozenAt 6
  have f12 := hown0.frozenAt 12
  have f13 := hown0.frozenAt 13
  have hs1 := hown0.stored 6 (.int .u8 2)
  rw [← List.map_set] at hs1
  have hs2 := hs1.1.stored 12 (.int .u8 (k / 256))
  rw [← List.map_set] at hs2
  have hs3 := hs2.1.stored 13 (.int .u8 (k % 256))
  rw [← List.map_set, lenRow_zero] at hs3
  have HS3 := hide hs3.1
  have hW2 := hide (hb1.later hb2)
  have hws : w.heap.size ≤ w1.heap.size := hb1.size
  clear hown hgrow hown0 cz hs1 hs2 hs3 hb2 hb1
  refine hide ?_
  go_wp2_with fail
  have hW3 : Hid (Below w.heap.size w (((w2.setCell ⟨w1.heap.size, 6, none⟩ (.int .u8 2)).setCell ⟨w1.heap.size, 12, none⟩ (.int .u8 (k / 256))).setCell ⟨w1.heap.size, 13, none⟩ (.int .u8 (k % 256)))) := ((hW2.out.setCell (p := ⟨w1.heap.size, 6, none⟩) hws _).setCell (p := ⟨w1.heap.size, 12, none⟩) hws _).setCell (p := ⟨w1.heap.size, 13, none⟩) hws _
  clear c6 c12 c13 f6 f12 f13 hW2
  go_loopw [6] (fun i wr => ∃ j : Nat, j ≤ room ∧ i = .int .i64 ((14 + j : Nat) : Int) ∧ Hid (wr.ownsRow w1.heap.size 5 1 (.slice (some ⟨w1.heap.size, 0, none⟩) (14 + room) (14 + room)) (14 + room) ((lenRow k room j).map (Value.int .u8))) ∧ Hid (Below w.heap.size w wr)) (fun i _ => 14 + room - (intOf i).toNat)
  case atStart => exact ⟨0, Nat.zero_le _, rfl, HS3, hW3⟩
  case round =>
    clear HS3 hW3
    obtain ⟨j, hj, rfl, HO, HW⟩ := hrel
    by_cases hlt : j < room
    · have hcell : wr.cell? ⟨w1.heap.size, 14 + j, none⟩ = some (.int .u8 ((lenRow k room j).getD (14 + j) 0)) := by
        rw [HO.out.cellAt (14 + j) (by omega), getElem?_map_u8 _ _ (by rw [lenRow_length _ _ _ hj]; omega)]
      have hfz := HO.out.frozenAt (14 + j)
      have hst := HO.out.stored (14 + j) (.int .u8 7)
      rw [← List.map_set, lenRow_set k room j hlt] at hst
      have HS := hide hst.1
      clear hst
      have b1 : ((14 + j : Nat) : Int) < ((14 + room : Nat) : Int) := by omega
      have b2 : (0 : Int) ≤ ((14 + j : Nat) : Int) := by omega
      generalize hjj : 14 + j = q at *
      have Hq := hide hjj
      clear hjj
      go_wp2
      go_roundw
      case rel => exact ⟨j + 1, by omega, by congr 1; have := Hq.out; omega, HS, HW.out.setCell (p := ⟨w1.heap.size, q, none⟩) hws _⟩
      case measure => have := Hq.out; simp [intOf]; omega
    · obtain rfl : j = room := by omega
      have hV : Bs wr (.slice (some ⟨w1.heap.size, 0, none⟩) (14 + j) (14 + j)) (lenRow k j j) := by
        have := Bs.own (l := lenRow k j j) (by rw [lenRow_length _ _ _ (Nat.le_refl _)]; exact HO.out) (lenRow_byte k j j h0 h1)
        rwa [lenRow_length _ _ _ (Nat.le_refl _)] at this
      clear HO
      by_cases hk : 1536 ≤ k
      · have hk' : ¬ k < 1536 := by omega
        go_wp2_with fail
        refine (Seal_any hV (HT.out.later HW.out) (by rw [lenRow_length _ _ _ (Nat.le_refl _)]; omega)).mono ?_
        rw [lenRow_length _ _ _ (Nat.le_refl _)]
        rintro e w4 ⟨rfl, hB4, hb4⟩
        have hW4 := hide (HW.out.later hb4)
        clear hb4 hV
        go_wp2_with fail
        have hP := Parse_any hB4 (HT.out.later hW4.out)
        rw [hPD.out, if_pos hk] at hP
        refine hP.mono ?_
        rintro e w5 ⟨da, dn, dc, rfl, hB5, hb5⟩
        have hdn := hB5.len
        have hW5 := hide (hW4.out.later hb5)
        clear hP hB5 hb5 hB4
        go_wp2_with ((with_reducible change wpList _ _ _ _ _ _); refine wpList_store_fresh rfl 27 _ _ rfl (lenH k).row Hd.zero.row rfl rfl 27 (hdSize _) rfl (Hd.row_all _) ?_; intro w6 hH6 hb6; have c16 : w6.cell? ⟨w5.heap.size, 16, none⟩ = some (.int .i64 (lenH k).typ) := (cell_of_row _ _ _ _ _ _ hH6).trans rfl; have c17 : w6.cell? ⟨w5.heap.size, 17, none⟩ = some (.bool (lenH k).llc) := (cell_of_row _ _ _ _ _ _ hH6).trans rfl; have hW6 := hide (hW5.out.later hb6); clear hH6 hb6; refine unh ?_)
        have hdnI : (dn : Int) = (j : Int) := by rw [hdn]; simp
        clear hdn
        have ht : (lenH k).typ = k := rfl
        have hl : (lenH k).llc = false := by simp [lenH, hdPlain]; omega
        rw [ht] at c16
        rw [hl] at c17
        refine hide ?_
        go_wp2
        go_ret
        first | exact ⟨rfl, hW6.out⟩ | (refine ⟨ret_bool ?_, hW6.out⟩; simp; omega)
      · by_cases hq : k ≤ 1500 ∧ k ≤ (j : Int)
        · obtain ⟨hq1, hq2⟩ := hq
          have hq : k ≤ 1500 ∧ k ≤ (j : Int) := ⟨hq1, hq2⟩
          have Hq := hide hq
          clear hq
          go_wp2_with fail
          refine (Seal_any hV (HT.out.later HW.out) (by rw [lenRow_length _ _ _ (Nat.le_refl _)]; omega)).mono ?_
          rw [lenRow_length _ _ _ (Nat.le_refl _)]
          rintro e w4 ⟨rfl, hB4, hb4⟩
          have hW4 := hide (HW.out.later hb4)
          clear hb4 hV
          go_wp2_with fail
          have hP := Parse_any hB4 (HT.out.later hW4.out)
          rw [hPD.out, if_neg (by omega), if_pos Hq.out] at hP
          refine hP.mono ?_
          rintro e w5 ⟨da, dn, dc, rfl, hB5, hb5⟩
          have hdn := hB5.len
          have hW5 := hide (hW4.out.later hb5)
          clear hP hB5 hb5 hB4
          go_wp2_with ((with_reducible change wpList _ _ _ _ _ _); refine wpList_store_fresh rfl 27 _ _ rfl (lenH k).row Hd.zero.row rfl rfl 27 (hdSize _) rfl (Hd.row_all _) ?_; intro w6 hH6 hb6; have c16 : w6.cell? ⟨w5.heap.size, 16, none⟩ = some (.int .i64 (lenH k).typ) := (cell_of_row _ _ _ _ _ _ hH6).trans rfl; have c17 : w6.cell? ⟨w5.heap.size, 17, none⟩ = some (.bool (lenH k).llc) := (cell_of_row _ _ _ _ _ _ hH6).trans rfl; have hW6 := hide (hW5.out.later hb6); clear hH6 hb6; refine unh ?_)
          have hdnI : (dn : Int) = k := by rw [hdn]; simp; omega
          clear hdn
          have ht : (lenH k).typ = k := rfl
          have hl : (lenH k).llc = true := by simp [lenH, hdPlain]; omega
          rw [ht] at c16
          rw [hl] at c17
          refine hide ?_
          go_wp2
          go_ret
          first | exact ⟨rfl, hW6.out⟩ | (refine ⟨ret_bool ?_, hW6.out⟩; simp; omega)
        · have Hq := hide hq
          rcases (show 1500 < k ∨ (k ≤ 1500 ∧ (j : Int) < k) from by omega) with hq1 | ⟨hq1, hq2⟩
          · clear hq
            go_wp2_with fail
            refine (Seal_any hV (HT.out.later HW.out) (by rw [lenRow_length _ _ _ (Nat.le_refl _)]; omega)).mono ?_
            rw [lenRow_length _ _ _ (Nat.le_refl _)]
            rintro e w4 ⟨rfl, hB4, hb4⟩
            have hW4 := hide (HW.out.later hb4)
            clear hb4 hV
            go_wp2_with fail
            have hP := Parse_any hB4 (HT.out.later hW4.out)
            rw [hPD.out, if_neg (by omega), if_neg Hq.out] at hP
            refine hP.mono ?_
            rintro e w5 ⟨da, dn, dc, rfl, hB5, hb5⟩
            have hdn := hB5.len
            have hW5 := hide (hW4.out.later hb5)
            clear hP hB5 hb5 hB4
            go_wp2_with ((with_reducible change wpList _ _ _ _ _ _); refine wpList_store_fresh rfl 27 _ _ rfl Hd.zero.row Hd.zero.row rfl rfl 27 (hdSize _) rfl (Hd.row_all _) ?_; intro w6 hH6 hb6; have c16 : w6.cell? ⟨w5.heap.size, 16, none⟩ = some (.int .i64 Hd.zero.typ) := (cell_of_row _ _ _ _ _ _ hH6).trans rfl; have c17 : w6.cell? ⟨w5.heap.size, 17, none⟩ = some (.bool Hd.zero.llc) := (cell_of_row _ _ _ _ _ _ hH6).trans rfl; have hW6 := hide (hW5.out.later hb6); clear hH6 hb6; refine unh ?_)
            have hdnI : (dn : Int) = 0 := by rw [hdn]; simp
            clear hdn
            refine hide ?_
            go_wp2
            go_ret
            first | exact ⟨rfl, hW6.out⟩ | (refine ⟨ret_bool ?_, hW6.out⟩; simp; omega)
          · clear hq
            go_wp2_with fail
            refine (Seal_any hV (HT.out.later HW.out) (by rw [lenRow_length _ _ _ (Nat.le_refl _)]; omega)).mono ?_
            rw [lenRow_length _ _ _ (Nat.le_refl _)]
            rintro e w4 ⟨rfl, hB4, hb4⟩
            have hW4 := hide (HW.out.later hb4)
            clear hb4 hV
            go_wp2_with fail
            have hP := Parse_any hB4 (HT.out.later hW4.out)
            rw [hPD.out, if_neg (by omega), if_neg Hq.out] at hP
            refine hP.mono ?_
            rintro e w5 ⟨da, dn, dc, rfl, hB5, hb5⟩
            have hdn := hB5.len
            have hW5 := hide (hW4.out.later hb5)
            clear hP hB5 hb5 hB4
            go_wp2_with ((with_reducible change wpList _ _ _ _ _ _); refine wpList_store_fresh rfl 27 _ _ rfl Hd.zero.row Hd.zero.row rfl rfl 27 (hdSize _) rfl (Hd.row_all _) ?_; intro w6 hH6 hb6; have c16 : w6.cell? ⟨w5.heap.size, 16, none⟩ = some (.int .i64 Hd.zero.typ) := (cell_of_row _ _ _ _ _ _ hH6).trans rfl; have c17 : w6.cell? ⟨w5.heap.size, 17, none⟩ = some (.bool Hd.zero.llc) := (cell_of_row _ _ _ _ _ _ hH6).trans rfl; have hW6 := hide (hW5.out.later hb6); clear hH6 hb6; refine unh ?_)
            have hdnI : (dn : Int) = 0 := by rw [hdn]; simp
            clear hdn
            refine hide ?_
            go_wp2
            go_ret
            first | exact ⟨rfl, hW6.out⟩ | (refine ⟨ret_bool ?_, hW6.out⟩; simp; omega)
theorem Lens_out (k r : Int) (w : World) (hT : Tab w) (h : (k < 0 ∨ 65535 < k) ∨ k = 33024 ∨ r < 46 ∨ 1500 < r) :
    Calls Tryd.prog 10 #[.int .i64 k, .int .i64 r] w fun e w' => e = .returned (.bool true) ∧ Below w.heap.size w w' := by
  have hF := hide (frames_any w hT)
  rcases (show k < 0 ∨ (0 ≤ k ∧ 65535 < k) ∨ ((0 ≤ k ∧ k ≤ 65535) ∧ k = 33024) ∨ ((0 ≤ k ∧ k ≤ 65535) ∧ ¬ k = 33024 ∧ r < 46) ∨ ((0 ≤ k ∧ k ≤ 65535) ∧ ¬ k = 33024 ∧ 46 ≤ r ∧ 1500 < r) from by omega) with h1 | ⟨h1, h2⟩ | ⟨⟨h1, h2⟩, h3⟩ | ⟨⟨h1, h2⟩, h3, h4⟩ | ⟨⟨h1, h2⟩, h3, h4, h5⟩
  all_goals
    clear h
    go_enter Tryd.func10, Tryd.ntmps10
    go_wp2_with fail
    refine hF.out.mono ?_
    rintro e w1 ⟨rfl, hb1⟩
    go_wp2
    go_ret
    exact ⟨rfl, hb1⟩
theorem Lens_walk (k r : Int) (w : World) (hT : Tab w) :
    Calls Tryd.prog 10 #[.int .i64 k, .int .i64 r] w fun e w' => e = .returned (.bool true) ∧ Below w.heap.size w w' := by
  by_cases h : (k < 0 ∨ 65535 < k) ∨ k = 33024 ∨ r < 46 ∨ 1500 < r
  · exact Lens_out k r w hT h
  · obtain ⟨n, rfl⟩ := Int.eq_ofNat_of_zero_le (show 0 ≤ r by omega)
    exact Lens_in k n w hT (by omega) (by omega) (by omega) (by omega) (by omega)
end Go.Proofs.YtiimppbfigikfaaDoor
