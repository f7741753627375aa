/-
  A contract of the document's own Build of frames. Conditions: those that each theorem names.
-/
import Derived.Test.YtiimppbfigikfaaDoorRf4
namespace Go.Proofs.YtiimppbfigikfaaDoor
open Go.RowKit
set_option linter.unusedVariables false

set_option maxRecDepth 20000 in
set_option maxHeartbeats 4000000 in
theorem RBuild_T (h : Hd) {v : Value} {l : List Int} (w : World) (hB : h.bytes) (hv : Bs w v l) (hE : checkE h l.length = 0) (ht : h.tg = true) (hde : h.de = false) :
    Calls Tryd.prog 24 #[.agg h.row, v] w fun e w' => ∃ a n c, e = .returned (.slice a n c) ∧ Bs w' (.slice a n c) (buildL h l) ∧ Below w.heap.size w w' := by
  have hF := fits_of_check hB hE
  have HV := hide hv
  have HB := hide hB
  obtain ⟨_, va, vc, rfl, _⟩ := hv
  obtain ⟨i0, hi, hz0, hz1, hz2⟩ := info_parts Tryd.infoU8
  have hk : (w.alloc (.cells h.row 27)).drew.heap[w.heap.size]? = some (.cells h.row 27 (0, 0)) := heap_alloc_new w _
  have hb0 : Below w.heap.size w (w.alloc (.cells h.row 27)).drew := below_drewN (below1 _ _) 1
  have t0 := hF.1.t0
  have htag := hF.1.tag
  have t1 := hF.1.t1
  have hlen := hF.2.2.1
  clear hB hE hF
  go_enter Tryd.func24, Tryd.ntmps24
  go_wp2_with fail
  refine wp_region_noPanic ?_
  refine wp_region_held_drew (S := fun W => W.heap[w.heap.size]? = some (.cells h.row 27 (0, 0))) (by kernel_rfl) hk (fun hHeld => ?_)
  generalize hw0 : (w.alloc (.cells h.row 27)).drew = w0 at *
  clear hw0
  refine wpAnyH_take (i := 1) (oi := { dst := some 10, op := Op.fieldAddr 27 (Operand.tmp 2) 0, type := 0, pos := "ref.go:70", after := #[], guard := none }) (v := ?v1) rfl (by kernel_rfl) (by kernel_rfl) (by kernel_rfl) (fun _ _ _ h => h) (Or.inl ⟨by rfl, ?y1⟩) (by assumption) ?r1
  case y1 => (intro w hSw; (try dsimp only at hSw); (try (go_split_ands)); go_simp; try with_reducible rfl)
  try simp only [Act.put, List.setIfInBounds_toArray, List.set_cons_zero, List.set_cons_succ]
  refine wpAnyH_take (i := 2) (oi := { dst := some 11, op := Op.slice 25 (Operand.tmp 10) none none none, type := 22, pos := "ref.go:70", after := #[{ on := 1, ground := Ground.data }], guard := none }) (v := ?v2) rfl (by kernel_rfl) (by kernel_rfl) (by kernel_rfl) (fun _ _ _ h => h) (Or.inl ⟨by rfl, ?y2⟩) (by assumption) ?r2
  case y2 => (intro w hSw; (try dsimp only at hSw); (try (go_split_ands)); go_simp; try with_reducible rfl)
  try simp only [Act.put, List.setIfInBounds_toArray, List.set_cons_zero, List.set_cons_succ]
  refine wpAnyH_take (i := 4) (oi := { dst := some 13, op := Op.fieldAddr 27 (Operand.tmp 2) 1, type := 0, pos := "ref.go:70", after := #[], guard := none }) (v := ?v3) rfl (by kernel_rfl) (by kernel_rfl) (by kernel_rfl) (fun _ _ _ h => h) (Or.inl ⟨by rfl, ?y3⟩) (by assumption) ?r3
  case y3 => (intro w hSw; (try dsimp only at hSw); (try (go_split_ands)); go_simp; try with_reducible rfl)
  try simp only [Act.put, List.setIfInBounds_toArray, List.set_cons_zero, List.set_cons_succ]
  refine wpAnyH_take (i := 5) (oi := { dst := some 14, op := Op.slice 25 (Operand.tmp 13) none none none, type := 22, pos := "ref.go:70", after := #[{ on := 4, ground := Ground.data }], guard := none }) (v := ?v4) rfl (by kernel_rfl) (by kernel_rfl) (by kernel_rfl) (fun _ _ _ h => h) (Or.inl ⟨by rfl, ?y4⟩) (by assumption) ?r4
  case y4 => (intro w hSw; (try dsimp only at hSw); (try (go_split_ands)); go_simp; try with_reducible rfl)
  try simp only [Act.put, List.setIfInBounds_toArray, List.set_cons_zero, List.set_cons_succ]
  refine wpAnyH_ready (rs := [0]) (by kernel_rfl) (by simp) ?_
  refine AllReadyH.cons (o := { dst := some 9, op := Op.buildSlice 22 0 #[], type := 22, pos := "ref.go:70", after := #[], guard := none }) rfl (fun K hK => ?_) AllReadyH.nil
  go_simp
  have hba : Below w0.heap.size w0 (w0.alloc (.cells #[] 5)) := below1 _ _
  have hk1 := heap_kept hba hk
  have HO0 := hide (show (w0.alloc (.cells #[] 5)).ownsRow w0.heap.size 5 1 (.slice (some ⟨w0.heap.size, 0, none⟩) 0 0) 0 [] from World.ownsRow_made w0 #[] 0 (Nat.le_refl _) (by simp [maxLen]) rfl)
  refine hK.out _ _ hk1 (fun hHeld0 => ?_)
  clear hK K
  try simp only [Act.put, List.setIfInBounds_toArray, List.set_cons_zero, List.set_cons_succ]
  refine wpAnyH_ready (rs := [3]) (by kernel_rfl) (by simp) ?_
  refine AllReadyH.cons (o := { dst := some 12, op := Op.call { callee := Callee.builtin Builtin.append, args := #[Operand.tmp 9, Operand.tmp 11], argTypes := #[22, 22] }, type := 22, pos := "ref.go:70", after := #[{ on := 0, ground := Ground.data }, { on := 2, ground := Ground.data }], guard := none }) rfl (fun K hK => ?_) AllReadyH.nil
  refine step_append_own rfl (.tmp 9) (.tmp 11) 22 rfl w0.heap.size 5 i0 (.int .u8 0) 1 1 Tryd.underlying22 hi hz0 hz1 hz2 rfl (by decide) (.slice (some ⟨w0.heap.size, 0, none⟩) 0 0) 0 [] rfl HO0.out ⟨w.heap.size, 0, none⟩ 6 6 (h.dst.map (Value.int .u8)) rfl rfl (dst_news hk1) (ints_one2 _) (by unfold maxLen; omega) (by decide) (by simp) ?_
  intro v2 w2 hown2 hgrow2 _
  have hb2 : Below w0.heap.size w0 w2 := hba.grown hgrow2 hba.size (fun k e => by cases e; exact Nat.le_refl _)
  have hk2 := heap_kept hb2 hk
  obtain ⟨g2, c2, rfl, hg2, _⟩ := own_at hown2 (by decide)
  refine hK.out _ _ hk2 (fun hHeld3 => ?_)
  clear hK K
  try simp only [Act.put, List.setIfInBounds_toArray, List.set_cons_zero, List.set_cons_succ]
  refine wpAnyH_ready (rs := [6]) (by kernel_rfl) (by simp) ?_
  refine AllReadyH.cons (o := { dst := some 15, op := Op.call { callee := Callee.builtin Builtin.append, args := #[Operand.tmp 12, Operand.tmp 14], argTypes := #[22, 22] }, type := 22, pos := "ref.go:70", after := #[{ on := 3, ground := Ground.data }, { on := 5, ground := Ground.data }, { on := 3, ground := Ground.chain }], guard := none }) rfl (fun K hK => ?_) AllReadyH.nil
  refine step_append_own rfl (.tmp 12) (.tmp 14) 22 rfl w0.heap.size 5 i0 (.int .u8 0) 1 1 Tryd.underlying22 hi hz0 hz1 hz2 rfl (by decide) _ 6 _ rfl hown2 ⟨w.heap.size, 6, none⟩ 6 6 (h.src.map (Value.int .u8)) rfl rfl (src_news hk2) (ints_one2 _) (by unfold maxLen; omega) (by decide) hb2.size ?_
  intro v3 w3 hown3 hgrow3 _
  have hb3 : Below w0.heap.size w0 w3 := hb2.grown hgrow3 hb2.size (fun k e => by cases e; exact hg2)
  have hk3 := heap_kept hb3 hk
  obtain ⟨g3, c3, rfl, hg3, _⟩ := own_at hown3 (by decide)
  have HO3 : Hid (w3.ownsRow w0.heap.size 5 1 (.slice (some ⟨g3, 0, none⟩) 12 c3) 12 ((h.dst ++ h.src).map (Value.int .u8))) := by
    show World.ownsRow _ _ _ _ _ _ _
    rw [List.map_append]
    exact hown3
  have HB3 := hide hb3
  refine hK.out _ _ hk3 (fun hHeld6 => ?_)
  clear hown2 hgrow2 hb2 hk2 hown3 hgrow3 hb3 hba hk1 HO0
  clear hK K
  try simp only [Act.put, List.setIfInBounds_toArray, List.set_cons_zero, List.set_cons_succ]
  refine wpAnyH_take (i := 7) (oi := { dst := some 5, op := Op.assign (Operand.tmp 15), type := 22, pos := "ref.go:70", after := #[{ on := 6, ground := Ground.data }, { on := 6, ground := Ground.chain }, { on := 0, ground := Ground.phase }, { on := 1, ground := Ground.phase }, { on := 2, ground := Ground.phase }, { on := 3, ground := Ground.phase }, { on := 4, ground := Ground.phase }, { on := 5, ground := Ground.phase }, { on := 6, ground := Ground.phase }], guard := none }) (v := ?v5) rfl (by kernel_rfl) (by kernel_rfl) (by kernel_rfl) (fun _ _ _ h => h) (Or.inl ⟨by rfl, ?y5⟩) (by assumption) ?r5
  case y5 => (intro w hSw; (try dsimp only at hSw); (try (go_split_ands)); go_simp; try with_reducible rfl)
  try simp only [Act.put, List.setIfInBounds_toArray, List.set_cons_zero, List.set_cons_succ]
  refine wpAnyH_done (by kernel_rfl) ?_ _
  refine NoPanic.normal ?_
  have c12 : w3.cell? ⟨w.heap.size, 12, none⟩ = some (.bool h.tg) := (cell_of_row _ _ _ _ _ _ hk3).trans rfl
  rw [ht] at c12
  have c13 : w3.cell? ⟨w.heap.size, 13, none⟩ = some (.int .i64 h.pcp) := (cell_of_row _ _ _ _ _ _ hk3).trans rfl
  have c14 : w3.cell? ⟨w.heap.size, 14, none⟩ = some (.bool h.de) := (cell_of_row _ _ _ _ _ _ hk3).trans rfl
  have c15 : w3.cell? ⟨w.heap.size, 15, none⟩ = some (.int .i64 h.vid) := (cell_of_row _ _ _ _ _ _ hk3).trans rfl
  rw [hde] at c14
  have hr : (0 ≤ h.pcp ∧ h.pcp ≤ 7) ∧ 0 ≤ h.vid ∧ h.vid ≤ 4094 := by
    have := htag
    rw [tagFitsB, ht] at this
    simp at this
    omega
  obtain ⟨⟨r0, r1⟩, r2, r3⟩ := hr
  have hN : Hid (tagN h = h.pcp * 8192 + h.vid) := by show _ = _; unfold tagN; rw [hde]; simp; try omega
  have kt1 : IntKind.u8.wrap ((h.pcp * 8192 + h.vid) / 256) = (h.pcp * 8192 + h.vid) / 256 := by rw [IntKind.wrap_u8, Int.emod_eq_of_lt (by omega) (by omega)]
  have kt2 : IntKind.u8.wrap ((h.pcp * 8192 + h.vid) % 256) = (h.pcp * 8192 + h.vid) % 256 := by rw [IntKind.wrap_u8, Int.emod_eq_of_lt (by omega) (by omega)]
  have htl : Hid (tagL h = [129, 0, (h.pcp * 8192 + h.vid) / 256, (h.pcp * 8192 + h.vid) % 256]) := by
    show _ = _
    unfold tagL
    rw [if_pos ht, digs2, digs2, hN.out, Int.emod_eq_of_lt (a := (h.pcp * 8192 + h.vid) / 256) (by omega) (by omega)]
    rfl
  go_wp2_with (at_builtin; refine wpList_append_own _ rfl (.tmp 28) (.tmp 35) 22 rfl w0.heap.size 5 i0 (.int .u8 0) 1 1 Tryd.underlying22 hi hz0 hz1 hz2 rfl (by decide) (.slice (some ⟨g3, 0, none⟩) 12 c3) 12 ((h.dst ++ h.src).map (Value.int .u8)) rfl (HO3.out.alloc _) ⟨w3.heap.size, 0, none⟩ 4 4 [.int .u8 129, .int .u8 0, .int .u8 ((h.pcp * 8192 + h.vid) / 256), .int .u8 ((h.pcp * 8192 + h.vid) % 256)] rfl rfl (cells_new4 w3 _ _ _ _ _) (by intro u hu; simp at hu; rcases hu with rfl | rfl | rfl | rfl <;> rfl) (by unfold maxLen; omega) (by decide) (by have := HB3.out.size; simp; omega) ?_; intro v9 w9 hown9 hgrow9 _; refine unh ?_)
  have hb9 : Below w0.heap.size w0 w9 := (HB3.out.alloc HB3.out.size _).grown hgrow9 (by have := HB3.out.size; simp; omega) (fun k e => by cases e; exact hg3)
  obtain ⟨g9, c9, rfl, hg9, hc9⟩ := own_at hown9 (by decide)
  have HO9 : Hid (w9.ownsRow w0.heap.size 5 1 (.slice (some ⟨g9, 0, none⟩) 16 c9) 16 ((h.dst ++ h.src ++ tagL h).map (Value.int .u8))) := by
    show World.ownsRow _ _ _ _ _ _ _
    rw [htl.out, List.map_append (l₁ := h.dst ++ h.src)]
    exact hown9
  have hk9 := heap_kept hb9 hk
  have HB9 := hide hb9
  have c16 : w9.cell? ⟨w.heap.size, 16, none⟩ = some (.int .i64 h.typ) := (cell_of_row _ _ _ _ _ _ hk9).trans rfl
  clear hown9 hgrow9 hb9 HO3 HB3 c12 c13 c14 c15 hk3 kt1 kt2 r0 r1 r2 r3
  refine hide ?_
  have ks1 : IntKind.u8.wrap (h.typ / 256) = h.typ / 256 := by rw [IntKind.wrap_u8, Int.emod_eq_of_lt (by omega) (by omega)]
  have ks2 : IntKind.u8.wrap (h.typ % 256) = h.typ % 256 := by rw [IntKind.wrap_u8, Int.emod_eq_of_lt (by omega) (by omega)]
  have hdg : Hid (digs h.typ 2 = [h.typ / 256, h.typ % 256]) := by show _ = _; rw [digs2, Int.emod_eq_of_lt (by omega) (by omega)]
  go_wp2_with (at_builtin; refine wpList_append_own _ rfl (.tmp 37) (.tmp 46) 22 rfl w0.heap.size 5 i0 (.int .u8 0) 1 1 Tryd.underlying22 hi hz0 hz1 hz2 rfl (by decide) (.slice (some ⟨g9, 0, none⟩) 16 c9) 16 ((h.dst ++ h.src ++ tagL h).map (Value.int .u8)) rfl (HO9.out.alloc _) ⟨w9.heap.size, 0, none⟩ 2 2 [.int .u8 (h.typ / 256), .int .u8 (h.typ % 256)] rfl rfl (cells_two_new w9 _ _ _) (by intro u hu; simp at hu; rcases hu with rfl | rfl <;> rfl) (by unfold maxLen; omega) (by decide) (by have := HB9.out.size; simp; omega) ?_; intro v4 w4 hown4 hgrow4 _; refine unh ?_)
  have hb4 : Below w0.heap.size w0 w4 := (HB9.out.alloc HB9.out.size _).grown hgrow4 (by have := HB9.out.size; simp; omega) (fun k e => by cases e; exact hg9)
  obtain ⟨g4, c4, rfl, hg4, hc4⟩ := own_at hown4 (by decide)
  obtain ⟨X, hX⟩ : ∃ X, X = h.dst ++ h.src ++ tagL h ++ digs h.typ 2 := ⟨_, rfl⟩
  have HO4 : Hid (w4.ownsRow w0.heap.size 5 1 (.slice (some ⟨g4, 0, none⟩) 18 c4) 18 (X.map (Value.int .u8))) := by
    show World.ownsRow _ _ _ _ _ _ _
    rw [hX, hdg.out, List.map_append]
    exact hown4
  have hXl : Hid (X.length = 18) := by show _ = _; rw [hX, hdg.out, htl.out]; rfl
  have hXb : Hid (Byte X) := by show Byte _; rw [hX]; exact ((HB.out.1.append HB.out.2).append (tagL_byte h)).append (digs_byte _ _)
  have HX := hide hX
  have HB4 := hide hb4
  clear hown4 hgrow4 hb4 HO9 HB9 hX c16 hk9 ks1 ks2
  refine hide ?_
  have HXL : Hid (bodyL h l = X ++ l) := by
    show _ = _
    rw [HX.out]
    simp [bodyL]
  have hlb := hide HV.out.byte
  have hvn : va = none → vc = 0 := by obtain ⟨_, a, c, e, _, _, h5, _⟩ := HV.out; simp only [Value.slice.injEq] at e; obtain ⟨rfl, _, rfl⟩ := e; exact h5
  have hV4 := hide (HV.out.below (hb0.later HB4.out))
  by_cases hl0 : l.length = 0
  case pos =>
    have hl00 : Hid (l = []) := List.eq_nil_of_length_eq_zero hl0
    have Hl0 := hide hl0
    clear hl0
    go_wp2_with (at_builtin; refine wpList_append_fits_any _ rfl (.tmp 48) (.tmp 49) 22 rfl w0.heap.size 5 i0 1 Tryd.underlying22 hi hz1 g4 18 c4 (X.map (Value.int .u8)) rfl HO4.out va l.length vc (l.map (Value.int .u8)) rfl (by simp) (fun e => ⟨Hl0.out, hvn e⟩) (by intro _ _ j u h; rw [hl00.out] at h; simp at h) (ints_one2 l) (by rw [Hl0.out]; simpa using hc4) ?_; intro w5 hown5 hgrow5; refine unh ?_)
    have hb5 : Below w0.heap.size w0 w5 := HB4.out.grown hgrow5 HB4.out.size (fun k e => by cases e; exact hg4)
    have HO5 : Hid (w5.ownsRow w0.heap.size 5 1 (.slice (some ⟨g4, 0, none⟩) (18 + l.length) c4) (18 + l.length) ((X ++ l).map (Value.int .u8))) := by
      show World.ownsRow _ _ _ _ _ _ _
      rw [List.map_append]
      exact hown5
    have HB5 := hide hb5
    clear hown5 hgrow5 hb5 HO4 HB4 hV4 hvn
    have hbb := hide hb0
    obtain ⟨Y, hY⟩ : ∃ Y, Y = X ++ l := ⟨_, rfl⟩
    rw [← hY] at HO5 HXL
    have HYl : Hid (Y.length = 18 + l.length) := by show _ = _; rw [hY, List.length_append, hXl.out]
    have HYb : Hid (Byte Y) := by show Byte _; rw [hY]; exact hXb.out.append hlb.out
    clear hY hb0
    obtain ⟨q0, hq0⟩ : ∃ q, q = 18 + l.length := ⟨_, rfl⟩
    rw [← hq0] at HO5 HYl ⊢
    have hq1 : q0 ≤ 1518 := by omega
    have hq14 : 14 ≤ q0 := by omega
    clear hq0
    refine hide ?_
    go_wp2_with fail
    go_loopw [5] (fun v wr => ∃ j : Nat, q0 + j ≤ max q0 60 ∧ (∃ g c, v = .slice (some ⟨g, 0, none⟩) (q0 + j) c ∧ w0.heap.size ≤ g) ∧ Hid (wr.ownsRow w0.heap.size 5 1 v (q0 + j) ((Y ++ List.replicate j 0).map (Value.int .u8))) ∧ Hid (Below w0.heap.size w0 wr)) (fun v _ => 60 - lenW v)
    case atStart => exact ⟨0, by omega, ⟨g4, c4, rfl, hg4⟩, by rw [List.replicate_zero, List.append_nil]; exact HO5, HB5⟩
    case round =>
      clear HO5 HB5
      obtain ⟨j, hj, ⟨g, c, rfl, hg⟩, HO, HWr⟩ := hrel
      have hzr := HWr.out.size
      by_cases hlt : q0 + j < 60
      · have hap : Hid ((Y ++ List.replicate j 0) ++ [0] = Y ++ List.replicate (j + 1) 0) := by show _ = _; rw [List.append_assoc, List.replicate_succ']
        generalize hq : q0 + j = q at *
        have Hq := hide hq
        have hqs : (q : Int) < 60 := by omega
        clear hq
        go_wp2_with (at_builtin; refine wpList_append_own _ rfl (.tmp 54) (.tmp 55) 22 rfl w0.heap.size 5 i0 (.int .u8 0) 1 1 Tryd.underlying22 hi hz0 hz1 hz2 rfl (by decide) (.slice (some ⟨g, 0, none⟩) q c) q ((Y ++ List.replicate j 0).map (Value.int .u8)) rfl (HO.out.alloc _) ⟨wr.heap.size, 0, none⟩ 1 1 [.int .u8 0] rfl rfl (cell_one_new _ _ _) (by intro u hu; simp at hu; subst hu; rfl) (by unfold maxLen; omega) (by omega) (by simp; omega) ?_; intro v6 w6 hown6 hgrow6 _)
        have hb6 : Below w0.heap.size w0 w6 := (HWr.out.alloc hzr _).grown hgrow6 (by simp; omega) (fun k e => by cases e; exact hg)
        have hv6 : ∃ g c, v6 = .slice (some ⟨g, 0, none⟩) (q + 1) c ∧ w0.heap.size ≤ g := by
          obtain ⟨g, c, e, h1, _⟩ := own_at hown6 (by omega)
          exact ⟨g, c, e, h1⟩
        have HO6 : Hid (w6.ownsRow w0.heap.size 5 1 v6 (q + 1) ((Y ++ List.replicate (j + 1) 0).map (Value.int .u8))) := by
          show World.ownsRow _ _ _ _ _ _ _
          rw [← hap.out, List.map_append]
          exact hown6
        have HW6 := hide hb6
        have Hv6 := hide hv6
        clear hown6 hgrow6 hb6 hv6 HO HWr
        go_wp2
        go_roundw
        case rel => exact ⟨j + 1, by have := Hq.out; omega, by have := Hv6.out; rwa [← Hq.out] at this, by rw [show q0 + (j + 1) = q + 1 by have := Hq.out; omega]; exact HO6, HW6⟩
        case measure =>
          obtain ⟨g', c', rfl, _⟩ := Hv6.out
          simp only [lenW]
          omega
      · obtain ⟨P, hP⟩ : ∃ P, P = Y ++ List.replicate j 0 := ⟨_, rfl⟩
        have hPp : Hid (pad60 (bodyL h l) = P) := by
          show _ = _
          rw [HXL.out, hP]
          unfold pad60
          rw [HYl.out, show 60 - q0 = j by omega]
        obtain ⟨pl, hpl⟩ : ∃ n, n = q0 + j := ⟨_, rfl⟩
        have hPl : Hid (P.length = pl) := by show _ = _; rw [hP, List.length_append, List.length_replicate, HYl.out, hpl]
        rw [← hpl, ← hP] at HO
        rw [← hpl]
        have hp6 : ¬ ((pl : Int) < 60) := by omega
        have hp15 : pl ≤ 1518 := by omega
        have HBP : Hid (Bs wr (.slice (some ⟨g, 0, none⟩) pl c) P) := by
          show Bs _ _ _
          have := Bs.own (l := P) (by rw [hPl.out]; exact HO.out) (by rw [hP]; exact HYb.out.append (zero_byte _))
          rwa [hPl.out] at this
        clear hP hpl hlt hj
        go_wp2_with fail
        refine (RSum_any HBP.out (by rw [hPl.out]; omega)).mono ?_
        rintro e w7 ⟨rfl, hb7⟩
        have HOs : Hid (w7.ownsRow w0.heap.size 5 1 (.slice (some ⟨g, 0, none⟩) (pl + 0) c) (pl + 0) ((sumRow P (crcSum P) 0).map (Value.int .u8))) := by
          show World.ownsRow _ _ _ _ _ _ _
          have := HO.out.keptBelow hb7
          simpa [sumRow] using this
        have HBs := hide (HWr.out.trans (hb7.mono hzr))
        have hcr : 0 ≤ ((crcSum P).toNat : Int) ∧ ((crcSum P).toNat : Int) < 4294967296 := ⟨by omega, by have := (crcSum P).isLt; omega⟩
        have hPb : Hid (Byte P) := HBP.out.byte
        obtain ⟨C, hC⟩ : ∃ C, C = crcSum P := ⟨_, rfl⟩
        rw [← hC] at HOs hcr ⊢
        have HCe := hide hC
        have hgg : w0.heap.size ≤ g := hg
        clear hC hb7 HO HWr HBP hzr
        obtain ⟨CN, hCN⟩ : ∃ n : Int, n = ((C.toNat : Nat) : Int) := ⟨_, rfl⟩
        rw [← hCN] at hcr ⊢
        have HCN := hide hCN
        clear hCN
        go_wp2_with fail
        go_loopw [5, 7, 8] (fun v n i wr => ∃ t : Nat, t ≤ 4 ∧ i = .int .i64 t ∧ n = .int .u32 (CN / 256 ^ t) ∧ (∃ g c, v = .slice (some ⟨g, 0, none⟩) (pl + t) c ∧ w0.heap.size ≤ g) ∧ Hid (wr.ownsRow w0.heap.size 5 1 v (pl + t) ((sumRow P C t).map (Value.int .u8))) ∧ Hid (Below w0.heap.size w0 wr)) (fun _ _ i _ => 4 - (intOf i).toNat)
        case atStart => exact ⟨0, by omega, rfl, by simp, ⟨g, c, rfl, hgg⟩, HOs, HBs⟩
        case round =>
          clear HOs HBs
          obtain ⟨t, ht4, rfl, rfl, ⟨g, c, rfl, hg⟩, HO, HWr⟩ := hrel
          have hzr := HWr.out.size
          by_cases hlt : t < 4
          · have hxr : 0 ≤ CN / 256 ^ t ∧ CN / 256 ^ t < 4294967296 := by
              refine ⟨Int.ediv_nonneg hcr.1 (Int.le_of_lt (Int.pow_pos (by decide))), ?_⟩
              have : CN / 256 ^ t ≤ CN := Int.ediv_le_self _ hcr.1
              omega
            have hnext : Hid (CN / 256 ^ t / 256 = CN / 256 ^ (t + 1)) := by
              show _ = _
              rw [Int.pow_succ, Int.ediv_ediv_of_nonneg (Int.le_of_lt (Int.pow_pos (by decide)))]
            have hsu := hide (sumRow_succ P C t hlt)
            rw [← HCN.out] at hsu
            obtain ⟨Z, hZ⟩ : ∃ Z, Z = CN / 256 ^ t := ⟨_, rfl⟩
            rw [← hZ] at hxr hnext hsu ⊢
            clear hZ
            obtain ⟨x0, x1⟩ := hxr
            have hqz := quo256_u32 Z x0 x1
            have hwz : IntKind.u8.wrap (Z % 256) = Z % 256 := by rw [IntKind.wrap_u8, Int.emod_eq_of_lt (by omega) (by omega)]
            have ht5 : (t : Int) < 4 := by omega
            generalize hq : pl + t = q at *
            have Hq := hide hq
            clear hq
            go_wp2_with (at_builtin; refine wpList_append_own _ rfl (.tmp 63) (.tmp 67) 22 rfl w0.heap.size 5 i0 (.int .u8 0) 1 1 Tryd.underlying22 hi hz0 hz1 hz2 rfl (by decide) (.slice (some ⟨g, 0, none⟩) q c) q ((sumRow P C t).map (Value.int .u8)) rfl (HO.out.alloc _) ⟨wr.heap.size, 0, none⟩ 1 1 [.int .u8 (Z % 256)] rfl rfl (cell_one_new _ _ _) (by intro u hu; simp at hu; subst hu; rfl) (by have := Hq.out; unfold maxLen; omega) (by have := Hq.out; omega) (by simp; omega) ?_; intro v8 w8 hown8 hgrow8 _; refine unh ?_)
            have hb8 : Below w0.heap.size w0 w8 := (HWr.out.alloc hzr _).grown hgrow8 (by simp; omega) (fun k e => by cases e; exact hg)
            have hv8 : ∃ g c, v8 = .slice (some ⟨g, 0, none⟩) (q + 1) c ∧ w0.heap.size ≤ g := by
              obtain ⟨g, c, e, h1, _⟩ := own_at hown8 (by omega)
              exact ⟨g, c, e, h1⟩
            have HO8 : Hid (w8.ownsRow w0.heap.size 5 1 v8 (q + 1) ((sumRow P C (t + 1)).map (Value.int .u8))) := by
              show World.ownsRow _ _ _ _ _ _ _
              rw [hsu.out, List.map_append]
              exact hown8
            have HW8 := hide hb8
            have Hv8 := hide hv8
            clear hown8 hgrow8 hb8 hv8 HO HWr
            refine hide ?_
            go_wp2_with fail
            go_roundw
            case rel => exact ⟨t + 1, by omega, by go_num, by rw [hnext.out], by have := Hv8.out; rwa [← Hq.out] at this, by rw [show pl + (t + 1) = q + 1 by have := Hq.out; omega]; exact HO8, HW8⟩
            case measure => simp [intOf]; omega
          · obtain rfl : t = 4 := by omega
            have hsl : sumRow P C 4 = sealL P := by
              unfold sumRow sealL
              rw [← HCe.out, List.take_of_length_le (by rw [sumBytes_length]; omega)]
            have hfin : Hid (Bs wr (.slice (some ⟨g, 0, none⟩) (pl + 4) c) (buildL h l)) := by
              show Bs _ _ _
              unfold buildL
              rw [hPp.out]
              have h8 := HO.out
              rw [hsl] at h8
              have := Bs.own (l := sealL P) (by rw [sealL_length, hPl.out]; exact h8) (sealL_byte hPb.out)
              rwa [sealL_length, hPl.out] at this
            have hBf := hide (hbb.out.trans (HWr.out.mono hbb.out.size))
            clear HO HWr hsl hlt
            go_wp2_with fail
            go_ret
            exact ⟨_, _, _, rfl, hfin.out, hBf.out⟩
  case neg =>
    obtain ⟨b, off, rfl⟩ : ∃ b off, va = some ⟨b, off, none⟩ := by
      rcases HV.out.cases with ⟨h, _⟩ | ⟨b, off, cap, e, _⟩
      · rw [h] at hl0; simp at hl0
      · simp only [Value.slice.injEq] at e
        exact ⟨b, off, e.1⟩
    have hnews : ∀ t u, (l.map (Value.int .u8))[t]? = some u → w4.cell? ((⟨b, off, none⟩ : Addr).add t) = some u := by
      obtain ⟨_, a', cap', e, _, _, _, h6⟩ := hV4.out
      simp only [Value.slice.injEq] at e
      obtain ⟨rfl, _, _⟩ := e
      exact Bs.news h6 _ rfl
    have HN := hide hnews
    clear hnews
    go_wp2_with (at_builtin; refine wpList_append_own _ rfl (.tmp 48) (.tmp 49) 22 rfl w0.heap.size 5 i0 (.int .u8 0) 1 1 Tryd.underlying22 hi hz0 hz1 hz2 rfl (by decide) (.slice (some ⟨g4, 0, none⟩) 18 c4) 18 (X.map (Value.int .u8)) rfl HO4.out ⟨b, off, none⟩ l.length vc (l.map (Value.int .u8)) rfl (by simp) HN.out (ints_one2 l) (by unfold maxLen; omega) (by omega) HB4.out.size ?_; intro v5 w5 hown5 hgrow5 _; refine unh ?_)
    have hb5 : Below w0.heap.size w0 w5 := HB4.out.grown hgrow5 HB4.out.size (fun k e => by cases e; exact hg4)
    obtain ⟨g5, c5, rfl, hg5, _⟩ := own_at hown5 (by omega)
    have HO5 : Hid (w5.ownsRow w0.heap.size 5 1 (.slice (some ⟨g5, 0, none⟩) (18 + l.length) c5) (18 + l.length) ((X ++ l).map (Value.int .u8))) := by
      show World.ownsRow _ _ _ _ _ _ _
      rw [List.map_append]
      exact hown5
    have HB5 := hide hb5
    clear hown5 hgrow5 hb5 HO4 HB4 hV4 hvn HN hl0
    have hbb := hide hb0
    obtain ⟨Y, hY⟩ : ∃ Y, Y = X ++ l := ⟨_, rfl⟩
    rw [← hY] at HO5 HXL
    have HYl : Hid (Y.length = 18 + l.length) := by show _ = _; rw [hY, List.length_append, hXl.out]
    have HYb : Hid (Byte Y) := by show Byte _; rw [hY]; exact hXb.out.append hlb.out
    clear hY hb0
    obtain ⟨q0, hq0⟩ : ∃ q, q = 18 + l.length := ⟨_, rfl⟩
    rw [← hq0] at HO5 HYl ⊢
    have hq1 : q0 ≤ 1518 := by omega
    have hq14 : 14 ≤ q0 := by omega
    clear hq0
    refine hide ?_
    go_wp2_with fail
    go_loopw [5] (fun v wr => ∃ j : Nat, q0 + j ≤ max q0 60 ∧ (∃ g c, v = .slice (some ⟨g, 0, none⟩) (q0 + j) c ∧ w0.heap.size ≤ g) ∧ Hid (wr.ownsRow w0.heap.size 5 1 v (q0 + j) ((Y ++ List.replicate j 0).map (Value.int .u8))) ∧ Hid (Below w0.heap.size w0 wr)) (fun v _ => 60 - lenW v)
    case atStart => exact ⟨0, by omega, ⟨g5, c5, rfl, hg5⟩, by rw [List.replicate_zero, List.append_nil]; exact HO5, HB5⟩
    case round =>
      clear HO5 HB5
      obtain ⟨j, hj, ⟨g, c, rfl, hg⟩, HO, HWr⟩ := hrel
      have hzr := HWr.out.size
      by_cases hlt : q0 + j < 60
      · have hap : Hid ((Y ++ List.replicate j 0) ++ [0] = Y ++ List.replicate (j + 1) 0) := by show _ = _; rw [List.append_assoc, List.replicate_succ']
        generalize hq : q0 + j = q at *
        have Hq := hide hq
        have hqs : (q : Int) < 60 := by omega
        clear hq
        go_wp2_with (at_builtin; refine wpList_append_own _ rfl (.tmp 54) (.tmp 55) 22 rfl w0.heap.size 5 i0 (.int .u8 0) 1 1 Tryd.underlying22 hi hz0 hz1 hz2 rfl (by decide) (.slice (some ⟨g, 0, none⟩) q c) q ((Y ++ List.replicate j 0).map (Value.int .u8)) rfl (HO.out.alloc _) ⟨wr.heap.size, 0, none⟩ 1 1 [.int .u8 0] rfl rfl (cell_one_new _ _ _) (by intro u hu; simp at hu; subst hu; rfl) (by unfold maxLen; omega) (by omega) (by simp; omega) ?_; intro v6 w6 hown6 hgrow6 _)
        have hb6 : Below w0.heap.size w0 w6 := (HWr.out.alloc hzr _).grown hgrow6 (by simp; omega) (fun k e => by cases e; exact hg)
        have hv6 : ∃ g c, v6 = .slice (some ⟨g, 0, none⟩) (q + 1) c ∧ w0.heap.size ≤ g := by
          obtain ⟨g, c, e, h1, _⟩ := own_at hown6 (by omega)
          exact ⟨g, c, e, h1⟩
        have HO6 : Hid (w6.ownsRow w0.heap.size 5 1 v6 (q + 1) ((Y ++ List.replicate (j + 1) 0).map (Value.int .u8))) := by
          show World.ownsRow _ _ _ _ _ _ _
          rw [← hap.out, List.map_append]
          exact hown6
        have HW6 := hide hb6
        have Hv6 := hide hv6
        clear hown6 hgrow6 hb6 hv6 HO HWr
        go_wp2
        go_roundw
        case rel => exact ⟨j + 1, by have := Hq.out; omega, by have := Hv6.out; rwa [← Hq.out] at this, by rw [show q0 + (j + 1) = q + 1 by have := Hq.out; omega]; exact HO6, HW6⟩
        case measure =>
          obtain ⟨g', c', rfl, _⟩ := Hv6.out
          simp only [lenW]
          omega
      · obtain ⟨P, hP⟩ : ∃ P, P = Y ++ List.replicate j 0 := ⟨_, rfl⟩
        have hPp : Hid (pad60 (bodyL h l) = P) := by
          show _ = _
          rw [HXL.out, hP]
          unfold pad60
          rw [HYl.out, show 60 - q0 = j by omega]
        obtain ⟨pl, hpl⟩ : ∃ n, n = q0 + j := ⟨_, rfl⟩
        have hPl : Hid (P.length = pl) := by show _ = _; rw [hP, List.length_append, List.length_replicate, HYl.out, hpl]
        rw [← hpl, ← hP] at HO
        rw [← hpl]
        have hp6 : ¬ ((pl : Int) < 60) := by omega
        have hp15 : pl ≤ 1518 := by omega
        have HBP : Hid (Bs wr (.slice (some ⟨g, 0, none⟩) pl c) P) := by
          show Bs _ _ _
          have := Bs.own (l := P) (by rw [hPl.out]; exact HO.out) (by rw [hP]; exact HYb.out.append (zero_byte _))
          rwa [hPl.out] at this
        clear hP hpl hlt hj
        go_wp2_with fail
        refine (RSum_any HBP.out (by rw [hPl.out]; omega)).mono ?_
        rintro e w7 ⟨rfl, hb7⟩
        have HOs : Hid (w7.ownsRow w0.heap.size 5 1 (.slice (some ⟨g, 0, none⟩) (pl + 0) c) (pl + 0) ((sumRow P (crcSum P) 0).map (Value.int .u8))) := by
          show World.ownsRow _ _ _ _ _ _ _
          have := HO.out.keptBelow hb7
          simpa [sumRow] using this
        have HBs := hide (HWr.out.trans (hb7.mono hzr))
        have hcr : 0 ≤ ((crcSum P).toNat : Int) ∧ ((crcSum P).toNat : Int) < 4294967296 := ⟨by omega, by have := (crcSum P).isLt; omega⟩
        have hPb : Hid (Byte P) := HBP.out.byte
        obtain ⟨C, hC⟩ : ∃ C, C = crcSum P := ⟨_, rfl⟩
        rw [← hC] at HOs hcr ⊢
        have HCe := hide hC
        have hgg : w0.heap.size ≤ g := hg
        clear hC hb7 HO HWr HBP hzr
        obtain ⟨CN, hCN⟩ : ∃ n : Int, n = ((C.toNat : Nat) : Int) := ⟨_, rfl⟩
        rw [← hCN] at hcr ⊢
        have HCN := hide hCN
        clear hCN
        go_wp2_with fail
        go_loopw [5, 7, 8] (fun v n i wr => ∃ t : Nat, t ≤ 4 ∧ i = .int .i64 t ∧ n = .int .u32 (CN / 256 ^ t) ∧ (∃ g c, v = .slice (some ⟨g, 0, none⟩) (pl + t) c ∧ w0.heap.size ≤ g) ∧ Hid (wr.ownsRow w0.heap.size 5 1 v (pl + t) ((sumRow P C t).map (Value.int .u8))) ∧ Hid (Below w0.heap.size w0 wr)) (fun _ _ i _ => 4 - (intOf i).toNat)
        case atStart => exact ⟨0, by omega, rfl, by simp, ⟨g, c, rfl, hgg⟩, HOs, HBs⟩
        case round =>
          clear HOs HBs
          obtain ⟨t, ht4, rfl, rfl, ⟨g, c, rfl, hg⟩, HO, HWr⟩ := hrel
          have hzr := HWr.out.size
          by_cases hlt : t < 4
          · have hxr : 0 ≤ CN / 256 ^ t ∧ CN / 256 ^ t < 4294967296 := by
              refine ⟨Int.ediv_nonneg hcr.1 (Int.le_of_lt (Int.pow_pos (by decide))), ?_⟩
              have : CN / 256 ^ t ≤ CN := Int.ediv_le_self _ hcr.1
              omega
            have hnext : Hid (CN / 256 ^ t / 256 = CN / 256 ^ (t + 1)) := by
              show _ = _
              rw [Int.pow_succ, Int.ediv_ediv_of_nonneg (Int.le_of_lt (Int.pow_pos (by decide)))]
            have hsu := hide (sumRow_succ P C t hlt)
            rw [← HCN.out] at hsu
            obtain ⟨Z, hZ⟩ : ∃ Z, Z = CN / 256 ^ t := ⟨_, rfl⟩
            rw [← hZ] at hxr hnext hsu ⊢
            clear hZ
            obtain ⟨x0, x1⟩ := hxr
            have hqz := quo256_u32 Z x0 x1
            have hwz : IntKind.u8.wrap (Z % 256) = Z % 256 := by rw [IntKind.wrap_u8, Int.emod_eq_of_lt (by omega) (by omega)]
            have ht5 : (t : Int) < 4 := by omega
            generalize hq : pl + t = q at *
            have Hq := hide hq
            clear hq
            go_wp2_with (at_builtin; refine wpList_append_own _ rfl (.tmp 63) (.tmp 67) 22 rfl w0.heap.size 5 i0 (.int .u8 0) 1 1 Tryd.underlying22 hi hz0 hz1 hz2 rfl (by decide) (.slice (some ⟨g, 0, none⟩) q c) q ((sumRow P C t).map (Value.int .u8)) rfl (HO.out.alloc _) ⟨wr.heap.size, 0, none⟩ 1 1 [.int .u8 (Z % 256)] rfl rfl (cell_one_new _ _ _) (by intro u hu; simp at hu; subst hu; rfl) (by have := Hq.out; unfold maxLen; omega) (by have := Hq.out; omega) (by simp; omega) ?_; intro v8 w8 hown8 hgrow8 _; refine unh ?_)
            have hb8 : Below w0.heap.size w0 w8 := (HWr.out.alloc hzr _).grown hgrow8 (by simp; omega) (fun k e => by cases e; exact hg)
            have hv8 : ∃ g c, v8 = .slice (some ⟨g, 0, none⟩) (q + 1) c ∧ w0.heap.size ≤ g := by
              obtain ⟨g, c, e, h1, _⟩ := own_at hown8 (by omega)
              exact ⟨g, c, e, h1⟩
            have HO8 : Hid (w8.ownsRow w0.heap.size 5 1 v8 (q + 1) ((sumRow P C (t + 1)).map (Value.int .u8))) := by
              show World.ownsRow _ _ _ _ _ _ _
              rw [hsu.out, List.map_append]
              exact hown8
            have HW8 := hide hb8
            have Hv8 := hide hv8
            clear hown8 hgrow8 hb8 hv8 HO HWr
            refine hide ?_
            go_wp2_with fail
            go_roundw
            case rel => exact ⟨t + 1, by omega, by go_num, by rw [hnext.out], by have := Hv8.out; rwa [← Hq.out] at this, by rw [show pl + (t + 1) = q + 1 by have := Hq.out; omega]; exact HO8, HW8⟩
            case measure => simp [intOf]; omega
          · obtain rfl : t = 4 := by omega
            have hsl : sumRow P C 4 = sealL P := by
              unfold sumRow sealL
              rw [← HCe.out, List.take_of_length_le (by rw [sumBytes_length]; omega)]
            have hfin : Hid (Bs wr (.slice (some ⟨g, 0, none⟩) (pl + 4) c) (buildL h l)) := by
              show Bs _ _ _
              unfold buildL
              rw [hPp.out]
              have h8 := HO.out
              rw [hsl] at h8
              have := Bs.own (l := sealL P) (by rw [sealL_length, hPl.out]; exact h8) (sealL_byte hPb.out)
              rwa [sealL_length, hPl.out] at this
            have hBf := hide (hbb.out.trans (HWr.out.mono hbb.out.size))
            clear HO HWr hsl hlt
            go_wp2_with fail
            go_ret
            exact ⟨_, _, _, rfl, hfin.out, hBf.out⟩
end Go.Proofs.YtiimppbfigikfaaDoor
