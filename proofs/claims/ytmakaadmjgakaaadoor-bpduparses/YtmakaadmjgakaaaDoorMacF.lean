/-
  The heads of layer 3's statements: a frame with a tag, and one without ('frames'). Condition: the table lies as the program's text lays it ('Tab').
-/
import Derived.Test.YtmakaadmjgakaaaDoorHdEq
import Derived.Test.YtmakaadmjgakaaaDoorMacU
import Derived.Test.YtmakaadmjgakaaaDoorMacV
import Derived.Test.YtmakaadmjgakaaaDoorMacX
namespace Go.Proofs.YtmakaadmjgakaaaDoor
open Go.RowKit

/-- Bytes that are laid as they are written. -/
theorem Bs.lit (w : World) (l : List Int) (fr : Nat × Nat) (hb : Byte l) (hm : l.length ≤ maxLen) : Bs (w.alloc (.cells (l.map (Value.int .u8)).toArray 5 fr)) (.slice (some ⟨w.heap.size, 0, none⟩) l.length l.length) l :=
  Bs.mk_at hb (Nat.le_refl _) hm fun i hi => by
    rw [cell_of_row _ _ _ _ _ _ (heap_alloc_new w _), Nat.zero_add, List.getElem?_toArray]
    exact getElem?_map_u8 l i hi
theorem unh {p : Prop} (h : Hid p) : p := h.out
def H0 : Hd := ⟨1, 2, 3, 4, 5, 6, 2, 0, 0, 0, 0, 1, true, 5, false, 100, 2048, false⟩
def D0 : List Int := [104, 101, 108, 108, 111]
theorem H0_bytes : H0.bytes := ⟨by intro z hz; simp [H0, Hd.dst] at hz; omega, by intro z hz; simp [H0, Hd.src] at hz; omega⟩
theorem D0_byte : Byte D0 := by intro z hz; simp [D0] at hz; omega
theorem H0_wf : H0.wf := ⟨H0_bytes, ⟨by decide, by decide⟩, ⟨by decide, by decide⟩, ⟨by decide, by decide⟩⟩
theorem text0 : bstr (textTo [1, 2, 3, 4, 5, 6] 6) = ⟨#[48, 49, 58, 48, 50, 58, 48, 51, 58, 48, 52, 58, 48, 53, 58, 48, 54]⟩ := by rfl
theorem H0_check : checkE H0 D0.length = 0 := by decide
theorem H0_built : Good (buildL H0 D0) ∧ parsed (buildL H0 D0) = (H0, D0 ++ List.replicate 37 0, 0) := parsed_of_check H0_bytes H0_check
theorem H0_len : (buildL H0 D0).length = 64 := by
  unfold buildL
  rw [sealL_length, pad60_length, bodyL_length]
  decide
theorem H0_hd : hdOf ((buildL H0 D0).take ((buildL H0 D0).length - 4)) = H0 := by
  have h1 := H0_built.1.is
  rw [H0_built.2] at h1
  exact (congrArg Prod.fst h1).symm
set_option maxRecDepth 100000 in
set_option maxHeartbeats 4000000 in
theorem frames_any (w : World) (hT : Tab w) : Calls Tryd.prog 7 #[] w fun e w' => e = .returned (.bool true) ∧ Below w.heap.size w w' := by
  have HT := hide hT
  clear hT
  have kc := fun (w : World) (C : Array Value) (n c : Nat) => Lib.run_convert_bytes_const (P := Tryd.prog) w 26 5 C n c Tryd.underlying26 Tryd.underlying5
  go_enter Tryd.func7, Tryd.ntmps7
  go_wp2_with (first | (refine wpList_store_fresh rfl 25 _ _ rfl H0.row Hd.zero.row rfl rfl 25 (hdSize _) rfl (Hd.row_all _) ?_; intro w1 hH1 hb1) | (refine wpList_load_row rfl 25 _ rfl w.heap.size rfl 25 _ _ _ hH1 Tryd.underlying25 rfl (hdSize _) ?_))
  clear kc
  have hbd := below1 w1 (.cells #[.int .u8 104, .int .u8 101, .int .u8 108, .int .u8 108, .int .u8 111] 5 (5, 6))
  refine (Build_ok H0 _ H0_bytes (HT.out.later (hb1.later hbd)) (Bs.lit w1 D0 (5, 6) D0_byte (by decide)) H0_check).mono ?_
  rintro e w2 ⟨g2, n2, rfl, hn2, _, hB2, hb2⟩
  rw [H0_len] at hn2
  subst hn2
  have hW2 := hide ((hb1.later hbd).later hb2)
  have hH2 := heap_kept hb2 (heap_kept hbd hH1)
  have HB2 := hide hB2
  clear hb1 hbd hb2 hH1 hB2
  go_wp2_with fail
  have hP2 := Parse_any HB2.out (HT.out.later hW2.out)
  rw [H0_built.2] at hP2
  refine hP2.mono ?_
  rintro e w3 ⟨pa, pn, pc, rfl, hB3, hb3⟩
  obtain ⟨pb, poff, rfl, hpn, hpc, hpm, hcell3⟩ : ∃ pb poff, pa = some ⟨pb, poff, none⟩ ∧ pn = 42 ∧ 42 ≤ pc ∧ pc ≤ maxLen ∧ ∀ i, i < 42 → w3.cell? ⟨pb, poff + i, none⟩ = some (.int .u8 ((D0 ++ List.replicate 37 0).getD i 0)) := by
    rcases hB3.cases with ⟨h, _⟩ | ⟨b, off, cap, e, _, h1, h2, h3⟩
    · simp [D0] at h
    · simp only [Value.slice.injEq] at e
      obtain ⟨rfl, rfl, rfl⟩ := e
      exact ⟨b, off, rfl, by simp [D0], by simpa [D0] using h1, h2, fun i hi => h3 i (by simpa [D0] using hi)⟩
  subst hpn
  have hp3 : Bs w3 (.slice (some ⟨pb, poff, none⟩) 5 pc) D0 := by
    have := Bs.piece (hB3.byte) (by simpa [D0] using hpc) hpm (fun i hi => hcell3 i (by simpa [D0] using hi)) 0 5 (by omega) (by simp [D0])
    simpa [D0] using this
  have hW3 := hide (hW2.out.later hb3)
  have hH3 := heap_kept hb3 hH2
  have HB3 := hide (HB2.out.below hb3)
  have HP3 := hide hp3
  clear hb3 hP2 hB3 hcell3 hH2 HB2 hW2 hp3
  go_wp2_with (refine wpList_store_fresh rfl 25 _ _ rfl H0.row Hd.zero.row rfl rfl 25 (hdSize _) rfl (Hd.row_all _) ?_; intro w4 hG4 hb4)
  have hW4 := hide (hW3.out.later hb4)
  have hH4 := heap_kept hb4 hH3
  have HB4 := hide (HB3.out.below hb4)
  have HP4 := hide (HP3.out.below hb4)
  clear hb4 hH3 HB3 HP3 hW3
  have hR4 := Retag_okF HB4.out (HT.out.later hW4.out) H0_built.1 0 false 0 (by rw [H0_hd]; decide) (by rw [H0_hd]; decide)
  obtain ⟨k5, hG5, hP5⟩ := parsed_retag HB4.out.byte H0_built.1 false 0 false 0 (by rw [H0_hd]; decide) (.inr (by rw [H0_hd]; decide))
  rw [H0_hd] at hP5
  generalize retagL (buildL H0 D0) false 0 false 0 = RL at *
  refine hR4.mono ?_
  rintro e w5 ⟨g5, n5, rfl, hn5, hB5, hb5⟩
  have hW5 := hide (hW4.out.later hb5)
  have hH5 := heap_kept hb5 hH4
  have hG4' := heap_kept hb5 hG4
  have HP5 := hide (HP4.out.below hb5)
  have HB5 := hide hB5
  clear hb5 hH4 hG4 HB4 HP4 hW4 hn5 hB5 hR4
  go_wp2_with fail
  have hP6 := Parse_any HB5.out (HT.out.later hW5.out)
  rw [hP5] at hP6
  refine hP6.mono ?_
  rintro e w6 ⟨qa, qn, qc, rfl, _, hb6⟩
  have hW6 := hide (hW5.out.later hb6)
  have hH6 := heap_kept hb6 hH5
  have hG6 := heap_kept hb6 hG4'
  have HP6 := hide (HP5.out.below hb6)
  clear hb6 hH5 hG4' HB5 HP5 hW5 hP6 hP5 hG5
  have heq : ∀ w, (binOp .eql 25 (.agg H0.row) (.agg H0.row)).run Tryd.prog w = .ok (.bool true) w := fun w => hd_eql H0 H0 H0_wf H0_wf w
  have hgd := eqGuard_hd
  have hpc5 : (5 : Int) ≤ (pc : Int) := by omega
  go_wp2_with (refine wpList_store_fresh rfl 25 _ _ rfl (H0.retag false 0 false 0).row Hd.zero.row rfl rfl 25 (hdSize _) rfl (Hd.row_all _) ?_; intro w7 hK7 hb7; have hW7 := hide (hW6.out.later hb7); have hH7 := heap_kept hb7 hH6; have hG7 := heap_kept hb7 hG6; have hq7 : (convert 26 9 (.slice (some ⟨pb, poff, none⟩) 5 pc)).run Tryd.prog w7 = .ok (.string ⟨#[104, 101, 108, 108, 111]⟩) w7 := conv_str (P := Tryd.prog) 26 9 5 Tryd.underlying26 Tryd.underlying5 Tryd.underlying9 (HP6.out.below hb7); have c12 : w7.cell? ⟨w6.heap.size, 12, none⟩ = some (.bool false) := (cell_of_row _ _ _ _ _ _ hK7).trans rfl; have c16 : w7.cell? ⟨w6.heap.size, 16, none⟩ = some (.int .i64 2048) := (cell_of_row _ _ _ _ _ _ hK7).trans rfl; clear hb7 hH6 hG6 HP6 hW6; refine unh ?_)
  refine hide ?_
  first | go_values | go_skip | go_guarded | go_step | go_upon | go_back
  first | go_values | go_skip | go_guarded | go_step | go_upon | go_back
  first | go_values | go_skip | go_guarded | go_step | go_upon | go_back
  first | go_values | go_skip | go_guarded | go_step | go_upon | go_back
  first | go_values | go_skip | go_guarded | go_step | go_upon | go_back
  first | go_values | go_skip | go_guarded | go_step | go_upon | go_back
  first | go_values | go_skip | go_guarded | go_step | go_upon | go_back
  first | go_values | go_skip | go_guarded | go_step | go_upon | go_back
  first | go_values | go_skip | go_guarded | go_step | go_upon | go_back
  first | go_values | go_skip | go_guarded | go_step | go_upon | go_back
  first | go_values | go_skip | go_guarded | go_step | go_upon | go_back
  simp only [List.append_eq, List.cons_append, List.nil_append]
  go_wp2_with (first | (refine wpList_load_row_on rfl 25 _ rfl w3.heap.size rfl 25 _ _ _ hG7 Tryd.underlying25 rfl (hdSize _) ?_) | (refine wpList_load_row_on rfl 25 _ rfl w.heap.size rfl 25 _ _ _ hH7 Tryd.underlying25 rfl (hdSize _) ?_) | (refine wpList_load_row_on rfl 25 _ rfl w.heap.size rfl 25 _ _ _ hHA Tryd.underlying25 rfl (hdSize _) ?_) | (refine wpList_load_dst rfl _ rfl w.heap.size rfl H0 _ _ hH7 ?_) | (refine wpList_load_dst rfl _ rfl w.heap.size rfl H0 _ _ hH9 ?_) | (refine wpList_load_src rfl _ rfl w.heap.size rfl H0 _ _ hH8 ?_) | (go_at_call 26; refine (Group_yes 1 2 3 4 5 6 _ (by decide) (by decide)).mono ?_; rintro e w8 ⟨rfl, hb8⟩; have hH8 := heap_kept hb8 hH7; have hW8 := hide (hW7.out.later hb8); clear hb8 hH7) | (go_at_call 26; refine (Group_no 2 0 0 0 0 1 _ (by decide) (by decide)).mono ?_; rintro e w9 ⟨rfl, hb9⟩; have hH9 := heap_kept hb9 hH8; have hW9 := hide (hW8.out.later hb9); clear hb9 hH8) | (go_at_call 27; refine (Text_any 1 2 3 4 5 6 _ H0_bytes.1).mono ?_; rw [text0]; rintro e wA ⟨rfl, hbA⟩; have hHA := heap_kept hbA hH9; have hWA := hide (hW9.out.later hbA); clear hbA hH9) | (go_at_call 8; refine (Check_any H0 1501 _ (by decide)).mono ?_; rw [show checkE H0 1501 = 3 by decide]; rintro e wB ⟨rfl, hbB⟩; have hWB := hide (hWA.out.later hbB); clear hbB))
  go_ret
  exact ⟨rfl, hWB.out⟩
end Go.Proofs.YtmakaadmjgakaaaDoor
