/-
  The walk of RelayFirst. Conditions: those that each theorem names.
-/
import Derived.Test.YtiahiakllpjliaaRl8
namespace Go.Proofs.Ytiahiakllpjliaa
open Go.RowKit Go.Maps
set_option linter.unusedVariables false
set_option linter.unusedSimpArgs false
set_option maxRecDepth 20000

set_option maxHeartbeats 16000000 in
theorem Rf_walk (from_ to_ one two : Int) (w : World) (ho : 0 ≤ one ∧ one ≤ 255) (ht : 0 ≤ two ∧ two ≤ 255) : Calls Try.prog 8 #[.int .i64 from_, .int .i64 to_, .agg #[.int .u8 one, .int .u8 two]] w fun r w' => r = .returned (.bool true) ∧ Below w.heap.size w w' := by
  have hb0 := hide (below1 w (.cells #[.int .u8 one, .int .u8 two] 55))
  have hr0 := hide (heap_alloc_new w (.cells #[.int .u8 one, .int .u8 two] 55))
  have hk := hide (fun w => ways_any w)
  have hwx := hide (sta_wf ho)
  have hwy := hide (sta_wf ht)
  clear ho ht
  generalize hC0 : (#[.int .u8 one, .int .u8 two] : Array Value) = C0 at *
  go_enter Try.func8, Try.ntmps8
  go_wp2_with fail
  generalize w.alloc (.cells C0 55) = w1 at *
  refine wp_region_noPanic ?_
  refine wp_region_held_drew (S := fun W => Below w1.heap.size w1 W) (by kernel_rfl) (below_drewS (Below.refl _ _)) (fun hHeld => ?_)
  refine wpAnyH_take (i := 0) (oi := { dst := some 16, op := Op.indexAddr 55 (Operand.tmp 5) (Operand.const (Value.int IntKind.i64 0)), type := 0, pos := "law.go:204", after := #[], guard := none }) (v := ?v1) rfl (by kernel_rfl) (by kernel_rfl) (by kernel_rfl) (fun _ _ _ h => h) (Or.inl ⟨by rfl, ?y1⟩) (by assumption) ?r1
  case y1 => (intro w hSw; (try dsimp only at hSw); (try (go_split_ands)); go_simp; try with_reducible rfl)
  try simp only [Act.put, List.setIfInBounds_toArray, List.set_cons_zero, List.set_cons_succ]
  refine wpAnyH_take (i := 1) (oi := { dst := some 17, op := Op.load 5 (Operand.tmp 16), type := 5, pos := "law.go:204", after := #[{ on := 0, ground := Ground.data }], guard := none }) (v := (.int .u8 one)) rfl (by kernel_rfl) (by kernel_rfl) (by kernel_rfl) (fun _ _ _ h => h) (.inl ⟨by rfl, fun W hW => by have hca : W.cell? ⟨w.heap.size, 0, none⟩ = some (.int .u8 one) := (cell_of_row _ _ _ _ _ _ (heap_kept hW hr0.out)).trans (by rw [← hC0]; rfl); clear hHeld hC0; go_simp⟩) (by assumption) ?_
  try simp only [Act.put, List.setIfInBounds_toArray, List.set_cons_zero, List.set_cons_succ]
  refine wpAnyH_take (i := 2) (oi := { dst := some 18, op := Op.indexAddr 55 (Operand.tmp 5) (Operand.const (Value.int IntKind.i64 1)), type := 0, pos := "law.go:204", after := #[{ on := 4, ground := Ground.gcOnly Departure.lateStores }], guard := none }) (v := ?v2) rfl (by kernel_rfl) (by kernel_rfl) (by kernel_rfl) (fun _ _ _ h => h) (Or.inl ⟨by rfl, ?y2⟩) (by assumption) ?r2
  case y2 => (intro w hSw; (try dsimp only at hSw); (try (go_split_ands)); go_simp; try with_reducible rfl)
  try simp only [Act.put, List.setIfInBounds_toArray, List.set_cons_zero, List.set_cons_succ]
  refine wpAnyH_take (i := 3) (oi := { dst := some 19, op := Op.load 5 (Operand.tmp 18), type := 5, pos := "law.go:204", after := #[{ on := 2, ground := Ground.data }, { on := 4, ground := Ground.gcOnly Departure.lateStores }], guard := none }) (v := (.int .u8 two)) rfl (by kernel_rfl) (by kernel_rfl) (by kernel_rfl) (fun _ _ _ h => h) (.inl ⟨by rfl, fun W hW => by have hca : W.cell? ⟨w.heap.size, 1, none⟩ = some (.int .u8 two) := (cell_of_row _ _ _ _ _ _ (heap_kept hW hr0.out)).trans (by rw [← hC0]; rfl); clear hHeld hC0; go_simp⟩) (by assumption) ?_
  try simp only [Act.put, List.setIfInBounds_toArray, List.set_cons_zero, List.set_cons_succ]
  refine wpAnyH_take (i := 4) (oi := { dst := some 7, op := Op.assign (Operand.tmp 17), type := 5, pos := "law.go:204", after := #[{ on := 1, ground := Ground.data }, { on := 0, ground := Ground.phase }, { on := 1, ground := Ground.phase }, { on := 2, ground := Ground.textOnly Departure.lateStores }, { on := 3, ground := Ground.textOnly Departure.lateStores }], guard := none }) (v := ?v3) rfl (by kernel_rfl) (by kernel_rfl) (by kernel_rfl) (fun _ _ _ h => h) (Or.inl ⟨by rfl, ?y3⟩) (by assumption) ?r3
  case y3 => (intro w hSw; (try dsimp only at hSw); (try (go_split_ands)); go_simp; try with_reducible rfl)
  try simp only [Act.put, List.setIfInBounds_toArray, List.set_cons_zero, List.set_cons_succ]
  refine wpAnyH_take (i := 5) (oi := { dst := some 8, op := Op.assign (Operand.tmp 19), type := 5, pos := "law.go:204", after := #[{ on := 3, ground := Ground.data }, { on := 4, ground := Ground.chain }, { on := 0, ground := Ground.phase }, { on := 1, ground := Ground.phase }, { on := 2, ground := Ground.phase }, { on := 3, ground := Ground.phase }, { on := 4, ground := Ground.phase }], guard := none }) (v := ?v4) rfl (by kernel_rfl) (by kernel_rfl) (by kernel_rfl) (fun _ _ _ h => h) (Or.inl ⟨by rfl, ?y4⟩) (below_drewS (Below.refl _ _)) ?r4
  case y4 => (intro w hSw; (try dsimp only at hSw); (try (go_split_ands)); go_simp; try with_reducible rfl)
  try simp only [Act.put, List.setIfInBounds_toArray, List.set_cons_zero, List.set_cons_succ]
  refine wpAnyH_done (by kernel_rfl) ?_ _
  refine NoPanic.normal ?_
  have hd1 : Below w1.heap.size w1 w1.drew := below_drewS (Below.refl _ _)
  have hB1 : Hid (Below w.heap.size w w1.drew) := hb0.out.later hd1
  clear hHeld hb0 hr0 hd1 hC0
  generalize w1.drew = w2 at *
  clear w1
  go_wp2_with fail
  refine (hk.out _).mono ?_
  rintro _ w3 ⟨rfl, hb3⟩
  have hB3 := hide (hB1.out.later hb3)
  clear hk hb3 hB1
  by_cases h1 : from_ < 0
  · go_wp2
    go_ret
    exact ⟨rfl, hB3.out⟩
  by_cases h2 : 3 < from_
  · go_wp2
    go_ret
    exact ⟨rfl, hB3.out⟩
  by_cases h3 : to_ < 0
  · go_wp2
    go_ret
    exact ⟨rfl, hB3.out⟩
  by_cases h4 : 3 < to_
  · go_wp2
    go_ret
    exact ⟨rfl, hB3.out⟩
  by_cases h5 : from_ = to_
  · have h5' : (from_ == to_) = true := by rw [h5]; simp
    go_wp2
    go_ret
    exact ⟨rfl, hB3.out⟩
  by_cases h6 : one = two
  · have h5' : (from_ == to_) = false := beq_eq_false_iff_ne.2 h5
    have h6' : (one == two) = true := by rw [h6]; simp
    go_wp2
    go_ret
    exact ⟨rfl, hB3.out⟩
  have h5' : (from_ == to_) = false := beq_eq_false_iff_ne.2 h5
  have h6' : (one == two) = false := beq_eq_false_iff_ne.2 h6
  have hd1 : decide (from_ < 0) = false := decide_eq_false h1
  have hd2 : decide (3 < from_) = false := decide_eq_false h2
  have hd3 : decide (to_ < 0) = false := decide_eq_false h3
  have hd4 : decide (3 < to_) = false := decide_eq_false h4
  have hF4 := hide (four_of (p := from_) (by omega) (by omega))
  have hT4 := hide (four_of (p := to_) (by omega) (by omega))
  replace h5 := hide h5
  replace h6 := hide h6
  clear h1 h2 h3 h4
  have hb1 := hide (below1 w3 (.cells (stRow [2, 2, 2, 2]) 3))
  have hr1 := hide (heap_alloc_new w3 (.cells (stRow [2, 2, 2, 2]) 3))
  have hs1 : Hid ((w3.alloc (.cells (stRow [2, 2, 2, 2]) 3)).heap.size = w3.heap.size + 1) := World.size_alloc _ _
  have hBr := hide (bridge_far (K := w.heap.size) (A0 := fun k => k = w3.heap.size) (w3.alloc (.cells (stRow [2, 2, 2, 2]) 3)) w3.heap.size [2, 2, 2, 2] hr1.out (fun k e => by have := hs1.out; omega) rfl (by have := hs1.out; have := hB3.out.size; omega) (by decide))
  go_wp2_with fail
  clear hd1 hd2 hd3 hd4 h5' h6'
  refine hBr.out.mono ?_
  rintro _ w4 ⟨g, pb, mb, t, rfl, hG, hb4, hf1, hf2, hf3⟩
  have hw4 : Hid (Below w.heap.size w w4) := hB3.out.later (hb1.out.later hb4)
  have hne : Hid (w3.heap.size ≠ mb) := by have := hs1.out; exact hide (by omega)
  have hKm : Hid (w.heap.size ≤ mb) := by have := hs1.out; have := hB3.out.size; exact hide (by omega)
  have hgb : Hid (mb < w4.heap.size) := hG.br.vt.lt.2.2
  replace hG := hide hG
  generalize w3.heap.size = sb at *
  clear hBr hb1 hr1 hs1 hb4 hf1 hf2 hf3 hB3
  go_wp2_with ((with_reducible change wpList _ _ _ _ _ _); refine stop_storeB 58 (.tmp 9) (.tmp 47) rfl ?_)
  refine hide (fresh_atC rfl 58 (.tmp 9) (.tmp 47) rfl w4.heap.size rfl (brC g t sb 4) #[.pointer none, .pointer none, .slice none 0 0] rfl rfl 58 (brSize _ _ _ _) rfl (br_all _ _ _ _) ?_)
  intro w5 h5a hb5
  obtain ⟨a1, ha1⟩ : ∃ a1, a1 = w4.heap.size := ⟨_, rfl⟩
  have hG5 := hide (hG.out.more (A' := fun k => (k = sb ∨ k = g ∨ k = pb ∨ k = mb) ∨ k = w4.heap.size) hb5 (fun k e => by
    rcases e with e | e
    · exact .inl e
    · exact .inr ⟨by omega, by have := (Array.getElem?_eq_some_iff.1 h5a).1; omega⟩) (fun k e => .inl e))
  have hw5 : Hid (Below w.heap.size w w5) := hw4.out.later hb5
  have hne1 : Hid (a1 ≠ mb) := by have := hgb.out; exact hide (by omega)
  rw [← ha1] at h5a hG5 ⊢
  replace h5a := hide h5a
  clear hG hw4 hb5 ha1 hgb
  clear w4
  have c50 : w5.cell? ⟨a1, 0, none⟩ = some (.pointer (some ⟨g, 0, none⟩)) := (cell_of_row _ _ _ _ _ _ h5a.out).trans rfl
  have hSt := hide (BgSet hG5.out hne.out hKm.out 2 15 0 (by kernel_rfl) (by decide) (by kernel_rfl) (by decide))
  go_wp2_with fail
  refine hSt.out.mono ?_
  rintro _ w6 ⟨rfl, hG6, hb6, hk6⟩
  have hw6 : Hid (Below w.heap.size w w6) := hw5.out.trans hb6
  have h6a := hide ((hk6 a1 (Array.getElem?_eq_some_iff.1 h5a.out).1 hne1.out).trans h5a.out)
  replace hG6 : Hid (Bg w.heap.size (fun k => (k = sb ∨ k = g ∨ k = pb ∨ k = mb) ∨ k = a1) w6 g pb mb sb t (List.replicate 4 pvOne) fF 2 [2, 2, 2, 2] []) := hG6
  clear hSt hb6 hk6 hG5 hw5 h5a c50 hne hKm hne1
  clear w5
  go_wp2_with ((with_reducible change wpList _ _ _ _ _ _); refine stop_storeB 28 (.tmp 10) (.tmp 52) rfl ?_)
  refine hide (twoM rfl rfl (.tmp 10) (.tmp 52) (.tmp 11) (.tmp 54) rfl rfl (sta one) (sta two) rfl rfl rfl rfl ?_)
  intro w7 h51 h52 hb7
  have r0_br := hide (heap_kept hb7 h6a.out)
  have hw_0 : Hid (Below w.heap.size w w7) := hw6.out.later hb7
  obtain ⟨A0, m0_br, m0_one, m0_two, hB0⟩ : ∃ A' : Nat → Prop, A' a1 ∧ A' w6.heap.size ∧ A' (w6.heap.size + 1) ∧ Bg w.heap.size A' w7 g pb mb sb t (List.replicate 4 pvOne) fF 2 [2, 2, 2, 2] [] := by
    refine ⟨fun k => ((k = sb ∨ k = g ∨ k = pb ∨ k = mb) ∨ k = a1) ∨ k = w6.heap.size ∨ k = w6.heap.size + 1, .inl (.inr rfl), .inr (.inl rfl), .inr (.inr rfl), hG6.out.more hb7 (fun k e => ?_) (fun k e => .inl e)⟩
    have h1 := (Array.getElem?_eq_some_iff.1 h51).1
    have h2 := (Array.getElem?_eq_some_iff.1 h52).1
    rcases e with e | e | e
    · exact .inl e
    · exact .inr ⟨by omega, by omega⟩
    · exact .inr ⟨by omega, by omega⟩
  have r0_one := hide h51
  have r0_two := hide h52
  replace hB0 := hide hB0
  clear h51 h52 hb7 h6a hG6 hw6
  generalize hsbq : w6.heap.size = a2 at *
  clear hsbq
  clear w6
  have hL1 := hide (BgDecide hB0.out from_ (hdC (sta two) (sta one) false 0 false 0 0 false) (sta two) (sta one) false 0 0 (hdC_mac _ _ _ _ _ _ _ _) ⟨rfl, by simp [Value.oneCell'], rfl, rfl, rfl⟩ hwy.out hwx.out (by constructor <;> decide) (pvOne_64 4) 0 (by constructor <;> decide) (sta_res _) 1 0 (by constructor <;> decide) (f_c1 hF4.out) (f_st hF4.out) [⟨1, sta one, from_, 0⟩] f_l1 (by simp) (butL from_ [0, 1, 2, 3]) 0 (f_d1 hF4.out h6.out))
  go_wp2_with (first | ((with_reducible change wpList _ _ _ _ _ _); refine wpList_load_row rfl 58 (.tmp 9) rfl a1 rfl 58 _ _ _ r0_br.out Try.underlying58 rfl (brSize _ _ _ _) ?_) | ((with_reducible change wpList _ _ _ _ _ _); refine stop_load 28 (.tmp 10) rfl ?_))
  refine hide (wpList_load_row rfl 28 (.tmp 10) rfl a2 rfl 28 _ _ _ r0_one.out Try.underlying28 rfl (m6Size _) ?_)
  go_wp2_with ((with_reducible change wpList _ _ _ _ _ _); refine wpList_load_row rfl 28 (.tmp 11) rfl (a2 + 1) rfl 28 _ _ _ r0_two.out Try.underlying28 rfl (m6Size _) ?_)
  refine hL1.out.mono ?_
  rintro _ x1 ⟨v1, rfl, hOn, hGn, hbn, hkn⟩
  obtain ⟨s1, c1, rfl⟩ := hOn.shape
  replace hGn := hide hGn
  replace hOn := hide hOn
  replace hkn := hide hkn
  have hwn1 : Hid (Below w.heap.size w x1) := hw_0.out.trans hbn
  clear hL1 hbn hB0 hw_0
  go_wp2_with ((with_reducible change wpList _ _ _ _ _ _); refine stop_storeB 62 (.tmp 12) (.tmp 60) rfl ?_)
  refine hide (fresh_atC rfl 62 (.tmp 12) (.tmp 60) rfl x1.heap.size rfl (wayC 1 0 (.slice s1 (butL from_ [0, 1, 2, 3]).length c1) 0) (wayC 0 0 (.slice none 0 0) 0) rfl rfl 62 (waySize _ _ _ _) rfl (way_one _ _ _ _ _ _) ?_)
  intro y1 hy1 hyb
  obtain ⟨q1, hq1⟩ : ∃ q, q = x1.heap.size := ⟨_, rfl⟩
  obtain ⟨A1, hsub1, hown1, hat1, hB1⟩ : ∃ A' : Nat → Prop, (∀ k, A0 k → A' k) ∧ (∀ b, (Value.slice s1 (butL from_ [0, 1, 2, 3]).length c1).ownBlock = some b → A' b) ∧ A' q1 ∧ Bg w.heap.size A' y1 g pb mb sb t (List.replicate 4 pvOne) fF 2 [2, 2, 2, 2] [⟨1, sta one, from_, 0⟩] := by
    refine ⟨fun k => (A0 k ∨ (Value.slice s1 (butL from_ [0, 1, 2, 3]).length c1).ownBlock = some k) ∨ k = q1, fun k e => .inl (.inl e), fun b e => .inl (.inr e), .inr rfl, hGn.out.more hyb (fun k e => ?_) (fun k e => .inl e)⟩
    rcases e with e | e
    · exact .inl e
    · exact .inr ⟨by omega, by have := (Array.getElem?_eq_some_iff.1 hy1).1; omega⟩
  have r1_br := hide (heap_kept hyb (hkn.out.row (m0_br) r0_br.out))
  have r1_one := hide (heap_kept hyb (hkn.out.row (m0_one) r0_one.out))
  have r1_two := hide (heap_kept hyb (hkn.out.row (m0_two) r0_two.out))
  have o1_w1 := hide (hOn.out.below hyb)
  have hw_1 : Hid (Below w.heap.size w y1) := hwn1.out.trans (hyb.mono hwn1.out.size)
  rw [← hq1] at hy1 ⊢
  have r1_w1 := hide hy1
  replace hB1 := hide hB1
  clear hy1 hyb hGn hOn hkn hwn1 hq1 r0_br r0_one r0_two 
  clear x1
  have hL2 := hide (BgDecide hB1.out to_ (hdC (sta one) (sta two) false 0 false 0 0 false) (sta one) (sta two) false 0 0 (hdC_mac _ _ _ _ _ _ _ _) ⟨rfl, by simp [Value.oneCell'], rfl, rfl, rfl⟩ hwx.out hwy.out (by constructor <;> decide) (pvOne_64 4) 1 (by constructor <;> decide) (sta_res _) 1 0 (by constructor <;> decide) (f_c1 hT4.out) (f_st hT4.out) [⟨1, sta one, from_, 0⟩, ⟨1, sta two, to_, 1⟩] (f_l2 h6.out) (by simp) [from_] 0 (f_d2 hF4.out h5.out))
  go_wp2_with (first | ((with_reducible change wpList _ _ _ _ _ _); refine wpList_load_row rfl 58 (.tmp 9) rfl a1 rfl 58 _ _ _ r1_br.out Try.underlying58 rfl (brSize _ _ _ _) ?_) | ((with_reducible change wpList _ _ _ _ _ _); refine stop_load 28 (.tmp 11) rfl ?_))
  refine hide (wpList_load_row rfl 28 (.tmp 11) rfl (a2 + 1) rfl 28 _ _ _ r1_two.out Try.underlying28 rfl (m6Size _) ?_)
  go_wp2_with ((with_reducible change wpList _ _ _ _ _ _); refine wpList_load_row rfl 28 (.tmp 10) rfl a2 rfl 28 _ _ _ r1_one.out Try.underlying28 rfl (m6Size _) ?_)
  refine hL2.out.mono ?_
  rintro _ x2 ⟨v2, rfl, hOn, hGn, hbn, hkn⟩
  obtain ⟨s2, c2, rfl⟩ := hOn.shape
  replace hGn := hide hGn
  replace hOn := hide hOn
  replace hkn := hide hkn
  have hwn2 : Hid (Below w.heap.size w x2) := hw_1.out.trans hbn
  clear hL2 hbn hB1 hw_1
  go_wp2_with ((with_reducible change wpList _ _ _ _ _ _); refine stop_storeB 62 (.tmp 13) (.tmp 66) rfl ?_)
  refine hide (fresh_atC rfl 62 (.tmp 13) (.tmp 66) rfl x2.heap.size rfl (wayC 1 0 (.slice s2 [from_].length c2) 0) (wayC 0 0 (.slice none 0 0) 0) rfl rfl 62 (waySize _ _ _ _) rfl (way_one _ _ _ _ _ _) ?_)
  intro y2 hy2 hyb
  obtain ⟨q2, hq2⟩ : ∃ q, q = x2.heap.size := ⟨_, rfl⟩
  obtain ⟨A2, hsub2, hown2, hat2, hB2⟩ : ∃ A' : Nat → Prop, (∀ k, A1 k → A' k) ∧ (∀ b, (Value.slice s2 [from_].length c2).ownBlock = some b → A' b) ∧ A' q2 ∧ Bg w.heap.size A' y2 g pb mb sb t (List.replicate 4 pvOne) fF 2 [2, 2, 2, 2] [⟨1, sta one, from_, 0⟩, ⟨1, sta two, to_, 1⟩] := by
    refine ⟨fun k => (A1 k ∨ (Value.slice s2 [from_].length c2).ownBlock = some k) ∨ k = q2, fun k e => .inl (.inl e), fun b e => .inl (.inr e), .inr rfl, hGn.out.more hyb (fun k e => ?_) (fun k e => .inl e)⟩
    rcases e with e | e
    · exact .inl e
    · exact .inr ⟨by omega, by have := (Array.getElem?_eq_some_iff.1 hy2).1; omega⟩
  have r2_br := hide (heap_kept hyb (hkn.out.row (hsub1 _ (m0_br)) r1_br.out))
  have r2_one := hide (heap_kept hyb (hkn.out.row (hsub1 _ (m0_one)) r1_one.out))
  have r2_two := hide (heap_kept hyb (hkn.out.row (hsub1 _ (m0_two)) r1_two.out))
  have r2_w1 := hide (heap_kept hyb (hkn.out.row (hat1) r1_w1.out))
  have o2_w1 := hide ((o1_w1.out.kpt hkn.out (fun b e => hown1 b e)).below hyb)
  have o2_w2 := hide (hOn.out.below hyb)
  have hw_2 : Hid (Below w.heap.size w y2) := hwn2.out.trans (hyb.mono hwn2.out.size)
  rw [← hq2] at hy2 ⊢
  have r2_w2 := hide hy2
  replace hB2 := hide hB2
  clear hy2 hyb hGn hOn hkn hwn2 hq2 r1_br r1_one r1_two r1_w1 o1_w1
  clear x2
  have hL3 := hide (BgDecide hB2.out from_ (hdC (sta two) (sta one) false 0 false 0 0 false) (sta two) (sta one) false 0 0 (hdC_mac _ _ _ _ _ _ _ _) ⟨rfl, by simp [Value.oneCell'], rfl, rfl, rfl⟩ hwy.out hwx.out (by constructor <;> decide) (pvOne_64 4) 2 (by constructor <;> decide) (sta_res _) 1 0 (by constructor <;> decide) (f_c1 hF4.out) (f_st hF4.out) [⟨1, sta two, to_, 1⟩, ⟨1, sta one, from_, 2⟩] (f_l3 h6.out) (by simp) [to_] 0 (f_d3 hT4.out h5.out))
  go_wp2_with (first | ((with_reducible change wpList _ _ _ _ _ _); refine wpList_load_row rfl 58 (.tmp 9) rfl a1 rfl 58 _ _ _ r2_br.out Try.underlying58 rfl (brSize _ _ _ _) ?_) | ((with_reducible change wpList _ _ _ _ _ _); refine stop_load 28 (.tmp 10) rfl ?_))
  refine hide (wpList_load_row rfl 28 (.tmp 10) rfl a2 rfl 28 _ _ _ r2_one.out Try.underlying28 rfl (m6Size _) ?_)
  go_wp2_with ((with_reducible change wpList _ _ _ _ _ _); refine wpList_load_row rfl 28 (.tmp 11) rfl (a2 + 1) rfl 28 _ _ _ r2_two.out Try.underlying28 rfl (m6Size _) ?_)
  refine hL3.out.mono ?_
  rintro _ x3 ⟨v3, rfl, hOn, hGn, hbn, hkn⟩
  obtain ⟨s3, c3, rfl⟩ := hOn.shape
  replace hGn := hide hGn
  replace hOn := hide hOn
  replace hkn := hide hkn
  have hwn3 : Hid (Below w.heap.size w x3) := hw_2.out.trans hbn
  clear hL3 hbn hB2 hw_2
  go_wp2_with ((with_reducible change wpList _ _ _ _ _ _); refine stop_storeB 62 (.tmp 14) (.tmp 72) rfl ?_)
  refine hide (fresh_atC rfl 62 (.tmp 14) (.tmp 72) rfl x3.heap.size rfl (wayC 1 0 (.slice s3 [to_].length c3) 0) (wayC 0 0 (.slice none 0 0) 0) rfl rfl 62 (waySize _ _ _ _) rfl (way_one _ _ _ _ _ _) ?_)
  intro y3 hy3 hyb
  obtain ⟨q3, hq3⟩ : ∃ q, q = x3.heap.size := ⟨_, rfl⟩
  obtain ⟨A3, hsub3, hown3, hat3, hB3⟩ : ∃ A' : Nat → Prop, (∀ k, A2 k → A' k) ∧ (∀ b, (Value.slice s3 [to_].length c3).ownBlock = some b → A' b) ∧ A' q3 ∧ Bg w.heap.size A' y3 g pb mb sb t (List.replicate 4 pvOne) fF 2 [2, 2, 2, 2] [⟨1, sta two, to_, 1⟩, ⟨1, sta one, from_, 2⟩] := by
    refine ⟨fun k => (A2 k ∨ (Value.slice s3 [to_].length c3).ownBlock = some k) ∨ k = q3, fun k e => .inl (.inl e), fun b e => .inl (.inr e), .inr rfl, hGn.out.more hyb (fun k e => ?_) (fun k e => .inl e)⟩
    rcases e with e | e
    · exact .inl e
    · exact .inr ⟨by omega, by have := (Array.getElem?_eq_some_iff.1 hy3).1; omega⟩
  have r3_br := hide (heap_kept hyb (hkn.out.row (hsub2 _ (hsub1 _ (m0_br))) r2_br.out))
  have r3_one := hide (heap_kept hyb (hkn.out.row (hsub2 _ (hsub1 _ (m0_one))) r2_one.out))
  have r3_two := hide (heap_kept hyb (hkn.out.row (hsub2 _ (hsub1 _ (m0_two))) r2_two.out))
  have r3_w1 := hide (heap_kept hyb (hkn.out.row (hsub2 _ (hat1)) r2_w1.out))
  have r3_w2 := hide (heap_kept hyb (hkn.out.row (hat2) r2_w2.out))
  have o3_w1 := hide ((o2_w1.out.kpt hkn.out (fun b e => hsub2 _ (hown1 b e))).below hyb)
  have o3_w2 := hide ((o2_w2.out.kpt hkn.out (fun b e => hown2 b e)).below hyb)
  have o3_w3 := hide (hOn.out.below hyb)
  have hw_3 : Hid (Below w.heap.size w y3) := hwn3.out.trans (hyb.mono hwn3.out.size)
  rw [← hq3] at hy3 ⊢
  have r3_w3 := hide hy3
  replace hB3 := hide hB3
  clear hy3 hyb hGn hOn hkn hwn3 hq3 r2_br r2_one r2_two r2_w1 r2_w2 o2_w1 o2_w2
  clear x3
  have hL4 := hide (BgDecide hB3.out from_ (hdC (sta two) (sta one) true 0 false 2 0 false) (sta two) (sta one) true 0 2 (hdC_mac _ _ _ _ _ _ _ _) ⟨rfl, by simp [Value.oneCell'], rfl, rfl, rfl⟩ hwy.out hwx.out (by constructor <;> decide) (pvOne_64 4) 3 (by constructor <;> decide) (sta_res _) 2 0 (by constructor <;> decide) (f_c2 hF4.out) (f_st hF4.out) [⟨1, sta two, to_, 1⟩, ⟨1, sta one, from_, 2⟩, ⟨2, sta one, from_, 3⟩] (f_l4 h6.out) (by simp) (butL from_ [0, 1, 2, 3]) 0 (f_d4 hF4.out h6.out))
  go_wp2_with (first | ((with_reducible change wpList _ _ _ _ _ _); refine wpList_load_row rfl 58 (.tmp 9) rfl a1 rfl 58 _ _ _ r3_br.out Try.underlying58 rfl (brSize _ _ _ _) ?_) | ((with_reducible change wpList _ _ _ _ _ _); refine stop_load 28 (.tmp 10) rfl ?_))
  refine hide (wpList_load_row rfl 28 (.tmp 10) rfl a2 rfl 28 _ _ _ r3_one.out Try.underlying28 rfl (m6Size _) ?_)
  go_wp2_with ((with_reducible change wpList _ _ _ _ _ _); refine wpList_load_row rfl 28 (.tmp 11) rfl (a2 + 1) rfl 28 _ _ _ r3_two.out Try.underlying28 rfl (m6Size _) ?_)
  refine hL4.out.mono ?_
  rintro _ x4 ⟨v4, rfl, hOn, hGn, hbn, hkn⟩
  obtain ⟨s4, c4, rfl⟩ := hOn.shape
  replace hGn := hide hGn
  replace hOn := hide hOn
  replace hkn := hide hkn
  have hwn4 : Hid (Below w.heap.size w x4) := hw_3.out.trans hbn
  clear hL4 hbn hB3 hw_3
  go_wp2_with ((with_reducible change wpList _ _ _ _ _ _); refine stop_storeB 62 (.tmp 15) (.tmp 78) rfl ?_)
  refine hide (fresh_atC rfl 62 (.tmp 15) (.tmp 78) rfl x4.heap.size rfl (wayC 2 0 (.slice s4 (butL from_ [0, 1, 2, 3]).length c4) 0) (wayC 0 0 (.slice none 0 0) 0) rfl rfl 62 (waySize _ _ _ _) rfl (way_one _ _ _ _ _ _) ?_)
  intro y4 hy4 hyb
  obtain ⟨q4, hq4⟩ : ∃ q, q = x4.heap.size := ⟨_, rfl⟩
  obtain ⟨A4, hsub4, hown4, hat4, hB4⟩ : ∃ A' : Nat → Prop, (∀ k, A3 k → A' k) ∧ (∀ b, (Value.slice s4 (butL from_ [0, 1, 2, 3]).length c4).ownBlock = some b → A' b) ∧ A' q4 ∧ Bg w.heap.size A' y4 g pb mb sb t (List.replicate 4 pvOne) fF 2 [2, 2, 2, 2] [⟨1, sta two, to_, 1⟩, ⟨1, sta one, from_, 2⟩, ⟨2, sta one, from_, 3⟩] := by
    refine ⟨fun k => (A3 k ∨ (Value.slice s4 (butL from_ [0, 1, 2, 3]).length c4).ownBlock = some k) ∨ k = q4, fun k e => .inl (.inl e), fun b e => .inl (.inr e), .inr rfl, hGn.out.more hyb (fun k e => ?_) (fun k e => .inl e)⟩
    rcases e with e | e
    · exact .inl e
    · exact .inr ⟨by omega, by have := (Array.getElem?_eq_some_iff.1 hy4).1; omega⟩
  have r4_br := hide (heap_kept hyb (hkn.out.row (hsub3 _ (hsub2 _ (hsub1 _ (m0_br)))) r3_br.out))
  have r4_one := hide (heap_kept hyb (hkn.out.row (hsub3 _ (hsub2 _ (hsub1 _ (m0_one)))) r3_one.out))
  have r4_two := hide (heap_kept hyb (hkn.out.row (hsub3 _ (hsub2 _ (hsub1 _ (m0_two)))) r3_two.out))
  have r4_w1 := hide (heap_kept hyb (hkn.out.row (hsub3 _ (hsub2 _ (hat1))) r3_w1.out))
  have r4_w2 := hide (heap_kept hyb (hkn.out.row (hsub3 _ (hat2)) r3_w2.out))
  have r4_w3 := hide (heap_kept hyb (hkn.out.row (hat3) r3_w3.out))
  have o4_w1 := hide ((o3_w1.out.kpt hkn.out (fun b e => hsub3 _ (hsub2 _ (hown1 b e)))).below hyb)
  have o4_w2 := hide ((o3_w2.out.kpt hkn.out (fun b e => hsub3 _ (hown2 b e))).below hyb)
  have o4_w3 := hide ((o3_w3.out.kpt hkn.out (fun b e => hown3 b e)).below hyb)
  have o4_w4 := hide (hOn.out.below hyb)
  have hw_4 : Hid (Below w.heap.size w y4) := hwn4.out.trans (hyb.mono hwn4.out.size)
  rw [← hq4] at hy4 ⊢
  have r4_w4 := hide hy4
  replace hB4 := hide hB4
  clear hy4 hyb hGn hOn hkn hwn4 hq4 r3_br r3_one r3_two r3_w1 r3_w2 r3_w3 o3_w1 o3_w2 o3_w3
  clear x4
  obtain ⟨b2, d2, he2, hc2⟩ := o4_w2.out.at_i (by simp)
  obtain ⟨b3, d3, he3, hc3⟩ := o4_w3.out.at_i (by simp)
  simp only [Value.slice.injEq, List.length_cons, List.length_nil, true_and] at he2 he3
  obtain ⟨rfl, rfl⟩ := he2
  obtain ⟨rfl, rfl⟩ := he3
  have e20 : y4.cell? ⟨b2, 0, none⟩ = some (.int .i64 from_) := hc2 0 (by simp)
  have e30 : y4.cell? ⟨b3, 0, none⟩ = some (.int .i64 to_) := hc3 0 (by simp)
  clear hc2 hc3
  have hl3 := f_but hF4.out
  have k00 : y4.cell? ⟨q1, 0, none⟩ = some (.int .i64 1) := (cell_of_row _ _ _ _ _ _ r4_w1.out).trans rfl
  have k02 : y4.cell? ⟨q1, 2, none⟩ = some (.slice (s1) (butL from_ [0, 1, 2, 3]).length c1) := (cell_of_row _ _ _ _ _ _ r4_w1.out).trans rfl
  have k10 : y4.cell? ⟨q2, 0, none⟩ = some (.int .i64 1) := (cell_of_row _ _ _ _ _ _ r4_w2.out).trans rfl
  have k12 : y4.cell? ⟨q2, 2, none⟩ = some (.slice (some ⟨b2, 0, none⟩) 1 c2) := (cell_of_row _ _ _ _ _ _ r4_w2.out).trans rfl
  have k20 : y4.cell? ⟨q3, 0, none⟩ = some (.int .i64 1) := (cell_of_row _ _ _ _ _ _ r4_w3.out).trans rfl
  have k22 : y4.cell? ⟨q3, 2, none⟩ = some (.slice (some ⟨b3, 0, none⟩) 1 c3) := (cell_of_row _ _ _ _ _ _ r4_w3.out).trans rfl
  have k30 : y4.cell? ⟨q4, 0, none⟩ = some (.int .i64 2) := (cell_of_row _ _ _ _ _ _ r4_w4.out).trans rfl
  have k32 : y4.cell? ⟨q4, 2, none⟩ = some (.slice (s4) (butL from_ [0, 1, 2, 3]).length c4) := (cell_of_row _ _ _ _ _ _ r4_w4.out).trans rfl
  rw [hl3] at k02 k32
  go_wp2
  go_ret
  exact ⟨rfl, hw_4.out⟩
end Go.Proofs.Ytiahiakllpjliaa
