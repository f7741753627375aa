
/-
  A contract of mac.Retag. Conditions: the table lies as the program's text lays it ('Tab'); those that each theorem names.
-/
import Derived.Test.YtiahiakllpjliaaDoorMacP
namespace Go.Proofs.YtiahiakllpjliaaDoor
open Go.RowKit

/-- What a frame that is read tells of its bytes. -/
structure Good (l : List Int) : Prop where
  least : 64 ≤ l.length
  most : l.length ≤ (if (hdOf (l.take (l.length - 4))).tg then 1522 else 1518)
  sum : sealL (l.take (l.length - 4)) = l
  may : mayBeB (hdOf (l.take (l.length - 4))) = true
  pay : payN (hdOf (l.take (l.length - 4))) (restOf (l.take (l.length - 4))) ≤ (restOf (l.take (l.length - 4))).length
  is : parsed l = (hdOf (l.take (l.length - 4)), (restOf (l.take (l.length - 4))).take (payN (hdOf (l.take (l.length - 4))) (restOf (l.take (l.length - 4)))), 0)
theorem Good.up {l : List Int} (h : Good l) : l.length ≤ 1522 := by
  have := h.most
  split at this <;> omega
theorem good_of {l : List Int} (h : (parsed l).2.2 = 0) : Good l := by
  by_cases h1 : l.length < 64
  · rw [parsed, if_pos h1] at h; simp at h
  by_cases h2 : 1522 < l.length
  · rw [parsed, if_neg h1, if_pos h2] at h; simp at h
  by_cases h3 : sealL (l.take (l.length - 4)) ≠ l
  · rw [parsed, if_neg h1, if_neg h2, if_pos h3] at h; simp at h
  by_cases h4 : (if (hdOf (l.take (l.length - 4))).tg then 1522 else 1518) < l.length
  · rw [parsed, if_neg h1, if_neg h2, if_neg h3, if_pos h4] at h; simp at h
  by_cases h5 : mayBeB (hdOf (l.take (l.length - 4))) = false ∨ (restOf (l.take (l.length - 4))).length < payN (hdOf (l.take (l.length - 4))) (restOf (l.take (l.length - 4)))
  · rw [parsed, if_neg h1, if_neg h2, if_neg h3, if_neg h4, if_pos h5] at h; simp at h
  have h5' := not_or.1 h5
  refine ⟨by omega, by omega, Decidable.not_not.1 h3, ?_, by omega, ?_⟩
  · cases hq : mayBeB (hdOf (l.take (l.length - 4)))
    · exact absurd hq h5'.1
    · rfl
  · rw [parsed, if_neg h1, if_neg h2, if_neg h3, if_neg h4, if_neg h5]
theorem parsed_of {l : List Int} (h1 : 64 ≤ l.length) (h2 : l.length ≤ (if (hdOf (l.take (l.length - 4))).tg then 1522 else 1518)) (h3 : sealL (l.take (l.length - 4)) = l) (h4 : mayBeB (hdOf (l.take (l.length - 4))) = true)
    (h5 : payN (hdOf (l.take (l.length - 4))) (restOf (l.take (l.length - 4))) ≤ (restOf (l.take (l.length - 4))).length) : Good l := by
  have h6 : l.length ≤ 1522 := by split at h2 <;> omega
  refine ⟨h1, h2, h3, h4, h5, ?_⟩
  unfold parsed
  rw [if_neg (by omega), if_neg (by omega), if_neg (by simpa using h3), if_neg (by omega), if_neg (by rw [h4]; simp; exact h5)]
theorem hdOf_tag (l : List Int) (hb : Byte l) (h : mayBeB (hdOf l) = true) : tagFitsB (hdOf l) = true := by
  revert h
  unfold hdOf
  split
  · rename_i a0 a1 a2 a3 a4 a5 a6 a7 a8 a9 a10 a11 a12 a13 r
    intro h
    have hr : Byte r := fun z hz => hb z (by simp [hz])
    have h0 := hr.getD 0
    have h1 := hr.getD 1
    by_cases hn : n2 a12 a13 = 33024
    · simp only [if_pos hn] at h ⊢
      simp only [mayBeB, Hd.typed, Hd.tagged, hdPlain, n2, tagFitsB] at h ⊢
      generalize r.getD 0 0 = x at *
      generalize r.getD 1 0 = y at *
      simp at h ⊢
      exact decide_eq_true (by omega)
    · simp only [if_neg hn]
      simp [tagFitsB, hdPlain]
  · intro _; simp [tagFitsB, Hd.zero]
theorem tagL_len (h : Hd) : (tagL h).length = if h.tg then 4 else 0 := by
  unfold tagL
  split <;> simp [digs_length]

/-- The header by which a new tag is held. -/
@[reducible] def withTag (h : Hd) (tg : Bool) (p : Int) (de : Bool) (v : Int) : Hd := ⟨0, 0, 0, 0, 0, 0, h.s0, h.s1, h.s2, h.s3, h.s4, h.s5, tg, p, de, v, 1536, false⟩
/-- A frame with another tag. -/
def retagL (l : List Int) (tg : Bool) (p : Int) (de : Bool) (v : Int) : List Int :=
  sealL (pad60 (l.take 12 ++ (tagL (withTag (hdOf (l.take (l.length - 4))) tg p de v) ++ (l.drop (12 + (tagL (hdOf (l.take (l.length - 4)))).length)).take (l.length - 4 - (12 + (tagL (hdOf (l.take (l.length - 4)))).length)))))

set_option maxRecDepth 20000 in
set_option maxHeartbeats 1000000 in
theorem Retag_check {v : Value} {l : List Int} {w : World} (hv : Bs w v l) (hT : Tab w) (hG : Good l) (tg : Bool) (p : Int) (de : Bool) (vid : Int) (hE : checkE (withTag (hdOf (l.take (l.length - 4))) tg p de vid) 0 ≠ 0) :
    Calls Tryd.prog 28 #[v, .bool tg, .int .i64 p, .bool de, .int .i64 vid] w fun e w' => e = .returned (.tuple #[.slice none 0 0, .int .i64 (checkE (withTag (hdOf (l.take (l.length - 4))) tg p de vid) 0)]) ∧ Below w.heap.size w w' := by
  have hs0 := hdOf_s0 (l.take (l.length - 4)) (hv.byte.take _)
  have hP := hide (Parse_any hv hT)
  rw [hG.is] at hP
  have HV := hide hv
  obtain ⟨_, a, cap, rfl, _⟩ := hv
  generalize hdOf (l.take (l.length - 4)) = H at *
  have hC := hide (fun w => Check_any (withTag H tg p de vid) 0 w hs0)
  have hE' : (checkE (withTag H tg p de vid) 0 != 0) = true := by simpa using hE
  clear hE
  generalize checkE (withTag H tg p de vid) 0 = E at *
  go_enter Tryd.func28, Tryd.ntmps28
  go_wp2_with fail
  refine hP.out.mono ?_
  rintro e w1 ⟨da, dn, dc, rfl, _, hb1⟩
  go_wp2_with (first | (refine wpList_store_fresh rfl 25 _ _ rfl H.row Hd.zero.row rfl rfl 25 (hdSize _) rfl (Hd.row_all _) ?_; intro w2 hH2 hb2; have c6 : w2.cell? ⟨w1.heap.size, 6, none⟩ = some (.int .u8 H.s0) := (cell_of_row _ _ _ _ _ _ hH2).trans rfl; have c7 : w2.cell? ⟨w1.heap.size, 7, none⟩ = some (.int .u8 H.s1) := (cell_of_row _ _ _ _ _ _ hH2).trans rfl; have c8 : w2.cell? ⟨w1.heap.size, 8, none⟩ = some (.int .u8 H.s2) := (cell_of_row _ _ _ _ _ _ hH2).trans rfl; have c9 : w2.cell? ⟨w1.heap.size, 9, none⟩ = some (.int .u8 H.s3) := (cell_of_row _ _ _ _ _ _ hH2).trans rfl; have c10 : w2.cell? ⟨w1.heap.size, 10, none⟩ = some (.int .u8 H.s4) := (cell_of_row _ _ _ _ _ _ hH2).trans rfl; have c11 : w2.cell? ⟨w1.heap.size, 11, none⟩ = some (.int .u8 H.s5) := (cell_of_row _ _ _ _ _ _ hH2).trans rfl) | (refine wpList_store_fresh rfl 25 _ _ rfl (withTag H tg p de vid).row Hd.zero.row rfl rfl 25 (hdSize _) rfl (Hd.row_all _) ?_; intro w3 hH3 hb3) | (refine wpList_load_row rfl 25 _ rfl w2.heap.size rfl 25 _ _ _ hH3 Tryd.underlying25 rfl (hdSize _) ?_) | (go_at_call 6; refine (hC.out _).mono ?_; rintro e w4 ⟨rfl, hb4⟩))
  go_ret2
  exact ⟨rfl, ((hb1.later hb2).later hb3).later hb4⟩
set_option maxRecDepth 20000 in
set_option maxHeartbeats 1000000 in
theorem Retag_type {v : Value} {l : List Int} {w : World} (hv : Bs w v l) (hT : Tab w) (hG : Good l) (p : Int) (de : Bool) (vid : Int) (hE : checkE (withTag (hdOf (l.take (l.length - 4))) false p de vid) 0 = 0) (hY : (hdOf (l.take (l.length - 4))).typ = 33024) :
    Calls Tryd.prog 28 #[v, .bool false, .int .i64 p, .bool de, .int .i64 vid] w fun e w' => e = .returned (.tuple #[.slice none 0 0, .int .i64 4]) ∧ Below w.heap.size w w' := by
  have hs0 := hdOf_s0 (l.take (l.length - 4)) (hv.byte.take _)
  have hP := hide (Parse_any hv hT)
  rw [hG.is] at hP
  have HV := hide hv
  obtain ⟨_, a, cap, rfl, _⟩ := hv
  generalize hdOf (l.take (l.length - 4)) = H at *
  have hC := hide (fun w => Check_any (withTag H false p de vid) 0 w hs0)
  rw [hE] at hC
  clear hE
  go_enter Tryd.func28, Tryd.ntmps28
  go_wp2_with fail
  refine hP.out.mono ?_
  rintro e w1 ⟨da, dn, dc, rfl, _, hb1⟩
  go_wp2_with (first | (refine wpList_store_fresh rfl 25 _ _ rfl H.row Hd.zero.row rfl rfl 25 (hdSize _) rfl (Hd.row_all _) ?_; intro w2 hH2 hb2; have c6 : w2.cell? ⟨w1.heap.size, 6, none⟩ = some (.int .u8 H.s0) := (cell_of_row _ _ _ _ _ _ hH2).trans rfl; have c7 : w2.cell? ⟨w1.heap.size, 7, none⟩ = some (.int .u8 H.s1) := (cell_of_row _ _ _ _ _ _ hH2).trans rfl; have c8 : w2.cell? ⟨w1.heap.size, 8, none⟩ = some (.int .u8 H.s2) := (cell_of_row _ _ _ _ _ _ hH2).trans rfl; have c9 : w2.cell? ⟨w1.heap.size, 9, none⟩ = some (.int .u8 H.s3) := (cell_of_row _ _ _ _ _ _ hH2).trans rfl; have c10 : w2.cell? ⟨w1.heap.size, 10, none⟩ = some (.int .u8 H.s4) := (cell_of_row _ _ _ _ _ _ hH2).trans rfl; have c11 : w2.cell? ⟨w1.heap.size, 11, none⟩ = some (.int .u8 H.s5) := (cell_of_row _ _ _ _ _ _ hH2).trans rfl) | (refine wpList_store_fresh rfl 25 _ _ rfl (withTag H false p de vid).row Hd.zero.row rfl rfl 25 (hdSize _) rfl (Hd.row_all _) ?_; intro w3 hH3 hb3) | (refine wpList_load_row rfl 25 _ rfl w2.heap.size rfl 25 _ _ _ hH3 Tryd.underlying25 rfl (hdSize _) ?_) | (go_at_call 6; refine (hC.out _).mono ?_; rintro e w4 ⟨rfl, hb4⟩; have hH4 := heap_kept hb4 (heap_kept hb3 hH2); have c16 : w4.cell? ⟨w1.heap.size, 16, none⟩ = some (.int .i64 H.typ) := (cell_of_row _ _ _ _ _ _ hH4).trans rfl))
  go_ret2
  exact ⟨rfl, ((hb1.later hb2).later hb3).later hb4⟩
theorem tag_len_any (h : Hd) (w : World) (hf : tagFitsB h = true) :
    Calls Tryd.prog 25 #[.agg h.row] w fun e w' => ∃ a c, e = .returned (.slice a (tagL h).length c) ∧ Bs w' (.slice a (tagL h).length c) (tagL h) ∧ Below w.heap.size w w' := by
  refine (tag_any h w hf).mono ?_
  rintro e w' ⟨a, n, c, rfl, hB, hb⟩
  obtain rfl : n = (tagL h).length := by
    obtain ⟨_, _, _, e, _⟩ := hB
    simp only [Value.slice.injEq] at e
    exact e.2.1
  exact ⟨a, c, rfl, hB, hb⟩
theorem wrap_i64_id (x : Int) (h0 : -9223372036854775808 ≤ x) (h1 : x ≤ 9223372036854775807) : IntKind.i64.wrap x = x := by rw [IntKind.wrap_i64]; omega
theorem checkE_tag {h : Hd} {n : Int} (hE : checkE h n = 0) : tagFitsB h = true := by
  unfold checkE at hE
  split at hE
  · cases hE
  · split at hE
    · cases hE
    · rename_i h1; simpa using h1
end Go.Proofs.YtiahiakllpjliaaDoor
