
/-
  The walk of WholeWays. Condition: the table lies as the program's text lays it ('Tab').
-/
import Derived.Test.YtiahiakllpjliaaDoorDr3
namespace Go.Proofs.YtiahiakllpjliaaDoor
open Go.RowKit Go.Maps
set_option linter.unusedVariables false
set_option linter.unusedSimpArgs false
set_option maxRecDepth 20000

set_option maxHeartbeats 16000000 in
theorem Ww_walk (vid pcp src dst : Int) (w : World) (hT : Tab w) (hs : 0 ≤ src ∧ src ≤ 255) (hd : 0 ≤ dst ∧ dst ≤ 255) :
    Calls Tryd.prog 4 #[.int .i64 vid, .int .i64 pcp, .agg #[.int .u8 src, .int .u8 dst]] w fun r w' => r = .returned (.bool true) ∧ Below w.heap.size w w' := by
  have hb0 := hide (below1 w (.cells #[.int .u8 src, .int .u8 dst] 46))
  have hr0 := hide (heap_alloc_new w (.cells #[.int .u8 src, .int .u8 dst] 46))
  have HT := hide hT
  have hN0 := hide (fun w => RName_any 0 w)
  rw [show nameN 0 = ⟨#[103, 111, 101, 115]⟩ from rfl] at hN0
  replace hs := hide hs
  replace hd := hide hd
  clear hT
  generalize hC0 : (#[.int .u8 src, .int .u8 dst] : Array Value) = C0 at *
  go_enter Tryd.func4, Tryd.ntmps4
  go_wp2_with fail
  generalize w.alloc (.cells C0 46) = w1 at *
  refine wp_region_noPanic ?_
  refine wp_region_held_drew (S := fun W => Below w1.heap.size w1 W) (by kernel_rfl) (below_drewS (Below.refl _ _)) (fun hHeld => ?_)
  refine wpAnyH_take (i := 0) (oi := { dst := some 20, op := Op.indexAddr 46 (Operand.tmp 5) (Operand.const (Value.int IntKind.i64 0)), type := 0, pos := "top07.go:14", after := #[], guard := none }) (v := ?v1) rfl (by kernel_rfl) (by kernel_rfl) (by kernel_rfl) (fun _ _ _ h => h) (Or.inl ⟨by rfl, ?y1⟩) (by assumption) ?r1
  case y1 => (intro w hSw; (try dsimp only at hSw); (try (go_split_ands)); go_simp; try with_reducible rfl)
  try simp only [Act.put, List.setIfInBounds_toArray, List.set_cons_zero, List.set_cons_succ]
  refine wpAnyH_take (i := 1) (oi := { dst := some 21, op := Op.load 5 (Operand.tmp 20), type := 5, pos := "top07.go:14", after := #[{ on := 0, ground := Ground.data }], guard := none }) (v := (.int .u8 src)) rfl (by kernel_rfl) (by kernel_rfl) (by kernel_rfl) (fun _ _ _ h => h) (.inl ⟨by rfl, fun W hW => by have hca : W.cell? ⟨w.heap.size, 0, none⟩ = some (.int .u8 src) := (cell_of_row _ _ _ _ _ _ (heap_kept hW hr0.out)).trans (by rw [← hC0]; rfl); clear hHeld hC0; go_simp⟩) (by assumption) ?_
  try simp only [Act.put, List.setIfInBounds_toArray, List.set_cons_zero, List.set_cons_succ]
  refine wpAnyH_take (i := 2) (oi := { dst := some 22, op := Op.indexAddr 46 (Operand.tmp 5) (Operand.const (Value.int IntKind.i64 1)), type := 0, pos := "top07.go:14", after := #[{ on := 4, ground := Ground.gcOnly Departure.lateStores }], guard := none }) (v := ?v2) rfl (by kernel_rfl) (by kernel_rfl) (by kernel_rfl) (fun _ _ _ h => h) (Or.inl ⟨by rfl, ?y2⟩) (by assumption) ?r2
  case y2 => (intro w hSw; (try dsimp only at hSw); (try (go_split_ands)); go_simp; try with_reducible rfl)
  try simp only [Act.put, List.setIfInBounds_toArray, List.set_cons_zero, List.set_cons_succ]
  refine wpAnyH_take (i := 3) (oi := { dst := some 23, op := Op.load 5 (Operand.tmp 22), type := 5, pos := "top07.go:14", after := #[{ on := 2, ground := Ground.data }, { on := 4, ground := Ground.gcOnly Departure.lateStores }], guard := none }) (v := (.int .u8 dst)) rfl (by kernel_rfl) (by kernel_rfl) (by kernel_rfl) (fun _ _ _ h => h) (.inl ⟨by rfl, fun W hW => by have hca : W.cell? ⟨w.heap.size, 1, none⟩ = some (.int .u8 dst) := (cell_of_row _ _ _ _ _ _ (heap_kept hW hr0.out)).trans (by rw [← hC0]; rfl); clear hHeld hC0; go_simp⟩) (by assumption) ?_
  try simp only [Act.put, List.setIfInBounds_toArray, List.set_cons_zero, List.set_cons_succ]
  refine wpAnyH_take (i := 4) (oi := { dst := some 7, op := Op.assign (Operand.tmp 21), type := 5, pos := "top07.go:14", after := #[{ on := 1, ground := Ground.data }, { on := 0, ground := Ground.phase }, { on := 1, ground := Ground.phase }, { on := 2, ground := Ground.textOnly Departure.lateStores }, { on := 3, ground := Ground.textOnly Departure.lateStores }], guard := none }) (v := ?v3) rfl (by kernel_rfl) (by kernel_rfl) (by kernel_rfl) (fun _ _ _ h => h) (Or.inl ⟨by rfl, ?y3⟩) (by assumption) ?r3
  case y3 => (intro w hSw; (try dsimp only at hSw); (try (go_split_ands)); go_simp; try with_reducible rfl)
  try simp only [Act.put, List.setIfInBounds_toArray, List.set_cons_zero, List.set_cons_succ]
  refine wpAnyH_take (i := 5) (oi := { dst := some 8, op := Op.assign (Operand.tmp 23), type := 5, pos := "top07.go:14", after := #[{ on := 3, ground := Ground.data }, { on := 4, ground := Ground.chain }, { on := 0, ground := Ground.phase }, { on := 1, ground := Ground.phase }, { on := 2, ground := Ground.phase }, { on := 3, ground := Ground.phase }, { on := 4, ground := Ground.phase }], guard := none }) (v := ?v4) rfl (by kernel_rfl) (by kernel_rfl) (by kernel_rfl) (fun _ _ _ h => h) (Or.inl ⟨by rfl, ?y4⟩) (below_drewS (Below.refl _ _)) ?r4
  case y4 => (intro w hSw; (try dsimp only at hSw); (try (go_split_ands)); go_simp; try with_reducible rfl)
  try simp only [Act.put, List.setIfInBounds_toArray, List.set_cons_zero, List.set_cons_succ]
  refine wpAnyH_done (by kernel_rfl) ?_ _
  refine NoPanic.normal ?_
  have hd1 : Below w1.heap.size w1 w1.drew := below_drewS (Below.refl _ _)
  have hw0 : Hid (Below w.heap.size w w1.drew) := hb0.out.later hd1
  clear hHeld hb0 hr0 hd1 hC0
  generalize w1.drew = x0 at *
  have hx0s : Hid (w.heap.size ≤ x0.heap.size) := hw0.out.size
  clear w1
  go_wp2_with fail
  refine (VNew_any 3 x0).mono ?_
  rintro _ u1 ⟨g1, pb1, mb1, rfl, hV1, hbn, hg1, hg2, hg3⟩
  have hn3 : portsN 3 = 3 := by decide +kernel
  rw [hn3] at hV1
  clear hn3
  have hwu1 : Hid (Below w.heap.size w u1) := hw0.out.later hbn
  have hgb1 : Hid (x0.heap.size ≤ g1 ∧ x0.heap.size ≤ pb1 ∧ x0.heap.size ≤ mb1) := ⟨hg1, hg2, hg3⟩
  replace hV1 := hide hV1
  clear hbn hg1 hg2 hg3 hw0 
  go_wp2_with fail
  refine (FNew_any 9 1000 u1).mono ?_
  rintro _ v1 ⟨rfl, hF, hbn⟩
  have hF1 : Hid (Ft v1 u1.heap.size (.slice none 0 0) 9 1000 0 []) := hF
  have hVv1 := hide (hV1.out.below hbn)
  have hwv1 : Hid (Below w.heap.size w v1) := hwu1.out.later hbn
  have hlt1 : Hid (g1 < u1.heap.size ∧ pb1 < u1.heap.size ∧ mb1 < u1.heap.size) := hV1.out.lt
  have htl1 : Hid (w.heap.size ≤ u1.heap.size ∧ u1.heap.size < v1.heap.size) := ⟨hwu1.out.size, hF.lt⟩
  generalize u1.heap.size = t1 at *
  clear hF hbn hV1 hwu1 
  clear u1
  have hra := hide (heap_alloc_new v1 (.cells #[.int .i64 2, .int .i64 2, .int .i64 2] 3))
  have hba := hide (below1 v1 (.cells #[.int .i64 2, .int .i64 2, .int .i64 2] 3))
  go_wp2_with ((with_reducible change wpList _ _ _ _ _ _); refine stop_storeB 35 (.tmp 9) (.tmp 27) rfl ?_)
  have hys : (v1.alloc (.cells #[.int .i64 2, .int .i64 2, .int .i64 2] 3)).heap.size = v1.heap.size + 1 := World.size_alloc _ _
  generalize hy1 : v1.alloc (.cells #[.int .i64 2, .int .i64 2, .int .i64 2] 3) = y1 at *
  refine hide (fresh_atC rfl 35 (.tmp 9) (.tmp 27) rfl (v1.heap.size + 1) hys.symm (brC g1 t1 v1.heap.size 3) #[.pointer none, .pointer none, .slice none 0 0] rfl rfl 35 (brSize _ _ _ _) rfl (br_all _ _ _ _) ?_)
  intro z1 hz hbz
  have hvz := hba.out.later hbz
  have hB1 : Hid (Br z1 g1 pb1 mb1 v1.heap.size (List.replicate 3 pvOne) (newF 3) (newC 3) [2, 2, 2]) := ⟨hVv1.out.below hvz, heap_kept hbz hra.out, by decide⟩
  have hFz1 := hide (Ft.below hF1.out hvz)
  have hwz1 : Hid (Below w.heap.size w z1) := hwv1.out.later hvz
  have hst1 : Hid (w.heap.size ≤ t1 ∧ t1 < v1.heap.size ∧ v1.heap.size < z1.heap.size ∧ v1.heap.size + 1 < z1.heap.size) := ⟨htl1.out.1, htl1.out.2, by have h1 := (Array.getElem?_eq_some_iff.1 hz).1; omega, (Array.getElem?_eq_some_iff.1 hz).1⟩
  obtain ⟨sb1, hsb⟩ : ∃ sb, sb = v1.heap.size := ⟨_, rfl⟩
  obtain ⟨a1, hsa⟩ : ∃ a, a = v1.heap.size + 1 := ⟨_, rfl⟩
  rw [← hsa] at hz hst1 ⊢
  rw [← hsb] at hB1 hst1 hz ⊢
  replace hz1 := hide hz
  have ha1_s : Hid (a1 < z1.heap.size ∧ sb1 < a1) := ⟨(Array.getElem?_eq_some_iff.1 hz1.out).1, by omega⟩
  clear hz hbz hvz hra hba hy1 hF1 hVv1 hwv1 hsb hsa hys htl1 
  clear y1
  clear v1
  go_wp2_with fail
  refine (VNew_any 3 z1).mono ?_
  rintro _ u2 ⟨g2, pb2, mb2, rfl, hV2, hbn, hg1, hg2, hg3⟩
  have hn3 : portsN 3 = 3 := by decide +kernel
  rw [hn3] at hV2
  clear hn3
  have hwu2 : Hid (Below w.heap.size w u2) := hwz1.out.later hbn
  have hB1u2 := hide (hB1.out.below hbn)
  have hFz1u2 := hide (Ft.below hFz1.out hbn)
  have hz1u2 := hide (heap_kept hbn hz1.out)
  have hgb2 : Hid (z1.heap.size ≤ g2 ∧ z1.heap.size ≤ pb2 ∧ z1.heap.size ≤ mb2) := ⟨hg1, hg2, hg3⟩
  replace hV2 := hide hV2
  clear hbn hg1 hg2 hg3 hwz1 hB1 hFz1 hz1
  go_wp2_with fail
  refine (FNew_any 9 1000 u2).mono ?_
  rintro _ v2 ⟨rfl, hF, hbn⟩
  have hF2 : Hid (Ft v2 u2.heap.size (.slice none 0 0) 9 1000 0 []) := hF
  have hVv2 := hide (hV2.out.below hbn)
  have hwv2 : Hid (Below w.heap.size w v2) := hwu2.out.later hbn
  have hlt2 : Hid (g2 < u2.heap.size ∧ pb2 < u2.heap.size ∧ mb2 < u2.heap.size) := hV2.out.lt
  have htl2 : Hid (w.heap.size ≤ u2.heap.size ∧ u2.heap.size < v2.heap.size) := ⟨hwu2.out.size, hF.lt⟩
  have hB1v2 := hide (hB1u2.out.below hbn)
  have hFz1v2 := hide (Ft.below hFz1u2.out hbn)
  have hz1v2 := hide (heap_kept hbn hz1u2.out)
  generalize u2.heap.size = t2 at *
  clear hF hbn hV2 hwu2 hB1u2 hFz1u2 hz1u2
  clear u2
  have hra := hide (heap_alloc_new v2 (.cells #[.int .i64 2, .int .i64 2, .int .i64 2] 3))
  have hba := hide (below1 v2 (.cells #[.int .i64 2, .int .i64 2, .int .i64 2] 3))
  go_wp2_with ((with_reducible change wpList _ _ _ _ _ _); refine stop_storeB 35 (.tmp 10) (.tmp 31) rfl ?_)
  have hys : (v2.alloc (.cells #[.int .i64 2, .int .i64 2, .int .i64 2] 3)).heap.size = v2.heap.size + 1 := World.size_alloc _ _
  generalize hy2 : v2.alloc (.cells #[.int .i64 2, .int .i64 2, .int .i64 2] 3) = y2 at *
  refine hide (fresh_atC rfl 35 (.tmp 10) (.tmp 31) rfl (v2.heap.size + 1) hys.symm (brC g2 t2 v2.heap.size 3) #[.pointer none, .pointer none, .slice none 0 0] rfl rfl 35 (brSize _ _ _ _) rfl (br_all _ _ _ _) ?_)
  intro z2 hz hbz
  have hvz := hba.out.later hbz
  have hB2 : Hid (Br z2 g2 pb2 mb2 v2.heap.size (List.replicate 3 pvOne) (newF 3) (newC 3) [2, 2, 2]) := ⟨hVv2.out.below hvz, heap_kept hbz hra.out, by decide⟩
  have hFz2 := hide (Ft.below hF2.out hvz)
  have hwz2 : Hid (Below w.heap.size w z2) := hwv2.out.later hvz
  have hst2 : Hid (w.heap.size ≤ t2 ∧ t2 < v2.heap.size ∧ v2.heap.size < z2.heap.size ∧ v2.heap.size + 1 < z2.heap.size) := ⟨htl2.out.1, htl2.out.2, by have h1 := (Array.getElem?_eq_some_iff.1 hz).1; omega, (Array.getElem?_eq_some_iff.1 hz).1⟩
  have hB1z2 := hide (hB1v2.out.below hvz)
  have hFz1z2 := hide (Ft.below hFz1v2.out hvz)
  have hz1z2 := hide (heap_kept hvz hz1v2.out)
  obtain ⟨sb2, hsb⟩ : ∃ sb, sb = v2.heap.size := ⟨_, rfl⟩
  obtain ⟨a2, hsa⟩ : ∃ a, a = v2.heap.size + 1 := ⟨_, rfl⟩
  rw [← hsa] at hz hst2 ⊢
  rw [← hsb] at hB2 hst2 hz ⊢
  replace hz2 := hide hz
  have ha2_s : Hid (a2 < z2.heap.size ∧ sb2 < a2) := ⟨(Array.getElem?_eq_some_iff.1 hz2.out).1, by omega⟩
  clear hz hbz hvz hra hba hy2 hF2 hVv2 hwv2 hsb hsa hys htl2 hB1v2 hFz1v2 hz1v2
  clear y2
  clear v2
  have hord : Hid (g1 < t1 ∧ pb1 < t1 ∧ mb1 < t1 ∧ t1 < sb1 ∧ sb1 < a1 ∧ a1 < g2 ∧ a1 < pb2 ∧ a1 < mb2 ∧ g2 < t2 ∧ pb2 < t2 ∧ mb2 < t2 ∧ t2 < sb2 ∧ sb2 < a2 ∧ a2 < z2.heap.size ∧ w.heap.size ≤ t1 ∧ w.heap.size ≤ g1 ∧ w.heap.size ≤ pb1 ∧ w.heap.size ≤ mb1) := by
    have h1 := hst1.out
    have h2 := hst2.out
    have h3 := hlt1.out
    have h4 := hlt2.out
    have h5 := hgb2.out
    have h6 := hgb1.out
    have h7 := hx0s.out
    have h8 := (Array.getElem?_eq_some_iff.1 hz2.out).1
    have h9 := ha1_s.out
    have h10 := ha2_s.out
    exact ⟨by omega, by omega, by omega, by omega, by omega, by omega, by omega, by omega, by omega, by omega, by omega, by omega, by omega, by omega, by omega, by omega, by omega, by omega⟩
  clear hst1 hst2 hlt1 hlt2 hgb2 hgb1 hx0s ha1_s ha2_s
  clear z1
  clear x0
  have k10 : z2.cell? ⟨a1, 0, none⟩ = some (.pointer (some ⟨g1, 0, none⟩)) := (cell_of_row _ _ _ _ _ _ hz1z2.out).trans rfl
  have k11 : z2.cell? ⟨a1, 1, none⟩ = some (.pointer (some ⟨t1, 0, none⟩)) := (cell_of_row _ _ _ _ _ _ hz1z2.out).trans rfl
  have k20 : z2.cell? ⟨a2, 0, none⟩ = some (.pointer (some ⟨g2, 0, none⟩)) := (cell_of_row _ _ _ _ _ _ hz2.out).trans rfl
  have hPt := hide (Ports_any hB1z2.out.vt)
  rw [show ((List.replicate 3 pvOne).length : Int) = 3 from rfl] at hPt
  go_wp2_with fail
  refine hPt.out.mono ?_
  rintro _ e1 ⟨rfl, he⟩
  obtain rfl := he.symm
  clear he
  go_wp2_with fail
  refine (hN0.out _).mono ?_
  rintro _ e1 ⟨rfl, he⟩
  obtain rfl := he.symm
  clear he hPt hN0
  by_cases c1 : vid < 2
  · go_wp2
    go_ret
    exact ⟨rfl, hwz2.out⟩
  have dc1 : decide (vid < 2) = false := decide_eq_false c1
  by_cases c2 : 4094 < vid
  · go_wp2
    go_ret
    exact ⟨rfl, hwz2.out⟩
  have dc2 : decide (4094 < vid) = false := decide_eq_false c2
  by_cases c3 : pcp < 0
  · go_wp2
    go_ret
    exact ⟨rfl, hwz2.out⟩
  have dc3 : decide (pcp < 0) = false := decide_eq_false c3
  by_cases c4 : 7 < pcp
  · go_wp2
    go_ret
    exact ⟨rfl, hwz2.out⟩
  have dc4 : decide (7 < pcp) = false := decide_eq_false c4
  by_cases c5 : src = dst
  · have d5 : (src == dst) = true := by rw [c5]; simp
    go_wp2
    go_ret
    exact ⟨rfl, hwz2.out⟩
  have d5 : (src == dst) = false := beq_eq_false_iff_ne.2 c5
  have hv := hide (show 2 ≤ vid ∧ vid ≤ 4094 by omega)
  have hp := hide (show 0 ≤ pcp ∧ pcp ≤ 7 by omega)
  replace c5 := hide c5
  clear c1 c2 c3 c4
  have hSt := hide (Set_ok hB1z2.out.vt vid 7 0 (ww_set hv.out) (by decide) (.inr (by decide)) (by decide))
  go_wp2_with fail
  clear dc1 dc2 dc3 dc4 d5
  refine hSt.out.mono ?_
  rintro _ m1 ⟨rfl, hV, hC⟩
  have hs1 : Sam mb1 z2 m1 := fun b h1 h2 => hC.block b h1 h2
  have o := hord.out
  have hwm1 : Hid (Below w.heap.size w m1) := hwz2.out.trans (hC.belowK (fun k e => by omega) hwz2.out.size)
  obtain ⟨cc1, hB1m⟩ : ∃ c', Hid (Br m1 g1 pb1 mb1 sb1 (List.replicate 3 pvOne) (wwF vid) c' [2, 2, 2]) := ⟨_, hV, (hs1 sb1 (by omega) (by omega)).trans hB1z2.out.st, hB1z2.out.few⟩
  have hB2m := hide (hB2.out.sam hs1 (by omega))
  have hF1m := hide (Ft.sam hFz1z2.out hs1 (by omega))
  have hF2m := hide (Ft.sam hFz2.out hs1 (by omega))
  have hz1m := hide ((hs1 a1 (by omega) (by omega)).trans hz1z2.out)
  have hz2m := hide ((hs1 a2 (by omega) (by omega)).trans hz2.out)
  have hsz1 : Hid (a2 < m1.heap.size) := Nat.lt_of_lt_of_le (by omega) hC.size
  have k2m : m1.cell? ⟨a2, 0, none⟩ = some (.pointer (some ⟨g2, 0, none⟩)) := (cell_of_row _ _ _ _ _ _ hz2m.out).trans rfl
  clear o hSt hV hC hs1 hwz2 hB1z2 hB2 hFz1z2 hFz2 hz1z2 hz2 k10 k11 k20
  replace hord : Hid (g1 < t1 ∧ pb1 < t1 ∧ mb1 < t1 ∧ t1 < sb1 ∧ sb1 < a1 ∧ a1 < g2 ∧ a1 < pb2 ∧ a1 < mb2 ∧ g2 < t2 ∧ pb2 < t2 ∧ mb2 < t2 ∧ t2 < sb2 ∧ sb2 < a2 ∧ a2 < m1.heap.size ∧ w.heap.size ≤ t1 ∧ w.heap.size ≤ g1 ∧ w.heap.size ≤ pb1 ∧ w.heap.size ≤ mb1) := by
    have o := hord.out
    have := hsz1.out
    exact hide (by omega)
  have hSt := hide (Set_ok hB2m.out.vt vid 7 0 (ww_set hv.out) (by decide) (.inr (by decide)) (by decide))
  go_wp2_with fail
  refine hSt.out.mono ?_
  rintro _ m2 ⟨rfl, hV, hC⟩
  have hs1 : Sam mb2 m1 m2 := fun b h1 h2 => hC.block b h1 h2
  have o := hord.out
  have hwm2 : Hid (Below w.heap.size w m2) := hwm1.out.trans (hC.belowK (fun k e => by omega) hwm1.out.size)
  obtain ⟨cc2, hB2n⟩ : ∃ c', Hid (Br m2 g2 pb2 mb2 sb2 (List.replicate 3 pvOne) (wwF vid) c' [2, 2, 2]) := ⟨_, hV, (hs1 sb2 (by omega) (by omega)).trans hB2m.out.st, hB2m.out.few⟩
  have hB1n := hide (hB1m.out.sam hs1 (by omega))
  have hF1n := hide (Ft.sam hF1m.out hs1 (by omega))
  have hF2n := hide (Ft.sam hF2m.out hs1 (by omega))
  have hz1n := hide ((hs1 a1 (by omega) (by omega)).trans hz1m.out)
  have hz2n := hide ((hs1 a2 (by omega) (by omega)).trans hz2m.out)
  have hsz2 : Hid (a2 < m2.heap.size) := Nat.lt_of_lt_of_le (by omega) hC.size
  replace hord : Hid (g1 < t1 ∧ pb1 < t1 ∧ mb1 < t1 ∧ t1 < sb1 ∧ sb1 < a1 ∧ a1 < g2 ∧ a1 < pb2 ∧ a1 < mb2 ∧ g2 < t2 ∧ pb2 < t2 ∧ mb2 < t2 ∧ t2 < sb2 ∧ sb2 < a2 ∧ w.heap.size ≤ t1 ∧ w.heap.size ≤ g1 ∧ w.heap.size ≤ pb1 ∧ w.heap.size ≤ mb1) := by
    exact hide (by omega)
  clear o hSt hV hC hs1 hwm1 hB1m hB2m hF1m hF2m hz1m hz2m hsz1 k2m
  clear m1
  clear z2
  have hN := hide (Fso.new m2 w.heap.size (fun k => k < m2.heap.size) (fun k h => h) hwm2.out.size)
  have hbn := hide (below1 m2 (.cells #[.slice none 0 0] 53))
  have hA := hide (SoAdd hN.out Sfs.nil ⟨0, stb dst, vid, 6⟩ (stb_wf hd.out))
  rw [ww_add hv.out] at hA
  go_wp2_with fail
  refine hA.out.mono ?_
  rintro _ m3 ⟨rfl, hFs, hb3, hk3⟩
  have hs3 : ∀ b, b < m2.heap.size → m3.heap[b]? = m2.heap[b]? := fun b h1 => (hk3 b h1).trans (hbn.out.block b h1)
  have hs4 : Sam m2.heap.size m2 m3 := fun b h1 _ => hs3 b h1
  have hsz3 : Hid (m2.heap.size < m3.heap.size) := by
    obtain ⟨vS, h1, _⟩ := hFs
    exact hide h1.lt
  have o := hord.out
  have o2 := hsz2.out
  have hwm3 : Hid (Below w.heap.size w m3) := hwm2.out.trans ((hbn.out.mono hwm2.out.size).trans hb3)
  have hB1p := hide (hB1n.out.sam hs4 (by omega))
  have hB2p := hide (hB2n.out.sam hs4 (by omega))
  have hF1p := hide (Ft.sam hF1n.out hs4 (by omega))
  have hF2p := hide (Ft.sam hF2n.out hs4 (by omega))
  have hz1p := hide ((hs3 a1 (by omega)).trans hz1n.out)
  have hz2p := hide ((hs3 a2 (by omega)).trans hz2n.out)
  obtain ⟨vS, hS, hSf, -, -⟩ := hFs
  have hSf2 : Hid (∀ k, Fst.foot m2.heap.size vS k → t2 < k) := fun k e => by
    have h1 := (hSf k e).2
    have h2 : m2.heap.size ≤ k := Nat.le_of_not_lt h1
    omega
  have hS3 := hide hS
  generalize m2.heap.size = ts at *
  clear o o2 hA hN hbn hb3 hk3 hs3 hs4 hsz2 hsz3 hS hSf hwm2 hB1n hB2n hF1n hF2n hz1n hz2n
  clear m2
  have kc := fun (w : World) (C : Array Value) (n c : Nat) => Lib.run_convert_bytes_const (P := Tryd.prog) w 26 5 C n c Tryd.underlying26 Tryd.underlying5
  go_wp2_with fail
  clear kc
  have hb4 := below1 m3 (.cells #[.int .u8 120] 5 (1, 2))
  have hBd := hide (Build_ok (wwH src dst pcp vid) _ (ww_bytes hs.out hd.out) (HT.out.later (hwm3.out.later hb4)) (Bs.one m3 120 (by omega) (1, 2)) (ww_check hv.out hp.out))
  refine hBd.out.mono ?_
  rintro _ m4 ⟨g7, n7, rfl, hn7, hg7, hF7, hb5⟩
  have hb45 := hb4.later hb5
  have hwm4 : Hid (Below w.heap.size w m4) := hwm3.out.later hb45
  have hSp := hS3
  have hB1q := hide (hB1p.out.below (hb45))
  have hB2q := hide (hB2p.out.below (hb45))
  have hF1q := hide (Ft.below hF1p.out (hb45))
  have hF2q := hide (Ft.below hF2p.out (hb45))
  have hSq := hide (Fst.below hSp.out (hb45))
  have hz1q := hide (heap_kept (hb45) hz1p.out)
  have hz2q := hide (heap_kept (hb45) hz2p.out)
  have hCr := hide (carr_build (l := [120]) (ww_bytes hs.out hd.out) (ww_check (src := src) (dst := dst) hv.out hp.out))
  replace hF7 := hide hF7
  clear hBd hn7 hg7 hb4 hb5 hb45 hwm3 hB1p hB2p hF1p hF2p hz1p hz2p hS3 hSp
  go_wp2_with (first | ((with_reducible change wpList _ _ _ _ _ _); refine wpList_load_row rfl 35 (.tmp 9) rfl a1 rfl 35 _ _ _ hz1q.out Tryd.underlying35 rfl (brSize _ _ _ _) ?_) | ((with_reducible change wpList _ _ _ _ _ _); refine stop_load 35 (.tmp 10) rfl ?_))
  refine hide (wpList_load_row rfl 35 (.tmp 10) rfl a2 rfl 35 _ _ _ hz2q.out Tryd.underlying35 rfl (brSize _ _ _ _) ?_)
  have hb6 := hide (below1 m4 (.cells #[.pointer (some ⟨g1, 0, none⟩), .pointer (some ⟨t1, 0, none⟩), .slice (some ⟨sb1, 0, none⟩) 3 3, .pointer (some ⟨g2, 0, none⟩), .pointer (some ⟨t2, 0, none⟩), .slice (some ⟨sb2, 0, none⟩) 3 3] 35))
  have hrx := hide (heap_alloc_new m4 (.cells #[.pointer (some ⟨g1, 0, none⟩), .pointer (some ⟨t1, 0, none⟩), .slice (some ⟨sb1, 0, none⟩) 3 3, .pointer (some ⟨g2, 0, none⟩), .pointer (some ⟨t2, 0, none⟩), .slice (some ⟨sb2, 0, none⟩) 3 3] 35))
  go_wp2_with fail
  generalize hm5 : m4.alloc (.cells #[.pointer (some ⟨g1, 0, none⟩), .pointer (some ⟨t1, 0, none⟩), .slice (some ⟨sb1, 0, none⟩) 3 3, .pointer (some ⟨g2, 0, none⟩), .pointer (some ⟨t2, 0, none⟩), .slice (some ⟨sb2, 0, none⟩) 3 3] 35) = m5 at *
  have hB1r := hide (hB1q.out.below (hb6.out))
  have hB2r := hide (hB2q.out.below (hb6.out))
  have hF1r := hide (Ft.below hF1q.out (hb6.out))
  have hF2r := hide (Ft.below hF2q.out (hb6.out))
  have hSr := hide (Fst.below hSq.out (hb6.out))
  have hz1r := hide (heap_kept (hb6.out) hz1q.out)
  have hz2r := hide (heap_kept (hb6.out) hz2q.out)
  have hF7r := hide (hF7.out.below hb6.out)
  have hwm5 : Hid (Below w.heap.size w m5) := hwm4.out.later hb6.out
  obtain ⟨bS, hbS⟩ : ∃ bS, bS = m4.heap.size := ⟨_, rfl⟩
  have hgS : Hid (t2 < bS) := by have h1 := (Array.getElem?_eq_some_iff.1 hz2q.out).1; have h2 := hord.out; exact hide (by omega)
  rw [← hbS] at hrx ⊢
  clear hb6 hm5 hbS hF7 hwm4 hB1q hB2q hF1q hF2q hSq hz1q hz2q hz1r hz2r
  go_loopw [12, 99] (fun fv i wr => ∃ j : Nat, j ≤ 2 ∧ i = .int .i64 j ∧ (∃ (F : List Int) (gF nF : Nat), fv = .slice (some ⟨gF, 0, none⟩) nF nF ∧ Hid (Bs wr (.slice (some ⟨gF, 0, none⟩) nF nF) F) ∧ Hid (Carr F (wwH src dst pcp vid) [120])) ∧ Hid (Below w.heap.size w wr) ∧ Hid (Br wr g1 pb1 mb1 sb1 (List.replicate 3 pvOne) (wwF vid) cc1 [2, 2, 2]) ∧ Hid (Br wr g2 pb2 mb2 sb2 (List.replicate 3 pvOne) (wwF vid) cc2 [2, 2, 2]) ∧ Hid (j = 0 → Ft wr t1 (.slice none 0 0) 9 1000 0 []) ∧ Hid (j ≤ 1 → Ft wr t2 (.slice none 0 0) 9 1000 0 []) ∧ Hid (Fst wr ts vS [⟨0, stb dst, vid, 6⟩]) ∧ Hid (wr.heap[bS]? = some (.cells #[.pointer (some ⟨g1, 0, none⟩), .pointer (some ⟨t1, 0, none⟩), .slice (some ⟨sb1, 0, none⟩) 3 3, .pointer (some ⟨g2, 0, none⟩), .pointer (some ⟨t2, 0, none⟩), .slice (some ⟨sb2, 0, none⟩) 3 3] 35 (0, 0)))) (fun _ i _ => 2 - (intOf i).toNat)
  case atStart => exact ⟨0, by omega, rfl, ⟨_, _, _, rfl, hF7r, hCr⟩, hwm5, hB1r, hB2r, fun _ => hF1r.out, fun _ => hF2r.out, hSr, hrx⟩
  case round =>
    obtain ⟨j, hj, rfl, ⟨F, gF, nF, rfl, hFF, hCF⟩, hwr, hB1, hB2, hF1, hF2, hS, hrS⟩ := hrel
    clear hF7r hCr hwm5 hB1r hB2r hF1r hF2r hSr hrx
    rcases (show j = 0 ∨ j = 1 ∨ j = 2 by omega) with rfl | rfl | rfl
    · as_aux_lemma =>
      have hrg := hide (World.rangeAt_of_block hrS.out 0 3)
      have hFt := hide (hF1.out (by omega))
      have hbl : Hid (t1 < t2 ∧ t2 < wr.heap.size ∧ bS < wr.heap.size) := by
        have h1 := (Array.getElem?_eq_some_iff.1 hrS.out).1
        have h2 := hord.out
        have h3 := hgS.out
        exact hide (by omega)
      go_wp2_with (first | ((with_reducible change wpList _ _ _ _ _ _); refine wpList_load_mid rfl 35 (.tmp 102) rfl bS 0 rfl (brC g1 t1 sb1 3).toList _ hrg.out Tryd.underlying35 rfl (brSize _ _ _ _) ?_) | ((with_reducible change wpList _ _ _ _ _ _); refine stop_storeB 35 (.tmp 15) (.tmp 103) rfl ?_))
      refine hide (fresh_atC rfl 35 (.tmp 15) (.tmp 103) rfl wr.heap.size rfl (brC g1 t1 sb1 3) #[.pointer none, .pointer none, .slice none 0 0] rfl rfl 35 (brSize _ _ _ _) rfl (br_all _ _ _ _) ?_)
      intro r1 h15 hb1
      have hc15b : Hid (t2 < wr.heap.size) := by have h1 := hbl.out; exact hide (by omega)
      have hPa := hide (Parse_any (hFF.out.below hb1) (HT.out.later (hwr.out.later hb1)))
      obtain ⟨m0, hP0, -⟩ := carr_parsed hCF.out
      rw [hP0] at hPa
      clear hP0
      go_wp2_with fail
      refine hPa.out.mono ?_
      rintro _ r2 ⟨pa, pn, pc, rfl, -, hb2⟩
      have hb12 := hb1.later hb2
      have h15b := hide (heap_kept hb2 h15)
      go_wp2_with ((with_reducible change wpList _ _ _ _ _ _); refine stop_storeB 25 (.tmp 16) (.tmp 107) rfl ?_)
      refine hide (fresh_atC rfl 25 (.tmp 16) (.tmp 107) rfl r2.heap.size rfl (wwH src dst pcp vid).row Hd.zero.row rfl rfl 25 (hdSize _) rfl (Hd.row_all _) ?_)
      intro r3 h16 hb3
      obtain ⟨c16, hc16⟩ : ∃ c, c = r2.heap.size := ⟨_, rfl⟩
      have hc16b : Hid (t2 < c16) := by have h1 := hbl.out; have h2 := hb12.size; exact hide (by omega)
      rw [← hc16] at h16 ⊢
      have hb13 := hb12.later hb3
      have hw3 := hide (hwr.out.later hb13)
      have hB1a := hide (hB1.out.below hb13)
      have hB2a := hide (hB2.out.below hb13)
      have hFta := hide (Ft.below hFt.out hb13)
      have hF2a : Hid (Ft r3 t2 (.slice none 0 0) 9 1000 0 []) := Ft.below (hF2.out (by omega)) hb13
      have hSa := hide (Fst.below hS.out hb13)
      have hra := hide (heap_kept hb13 hrS.out)
      have hFa := hide (hFF.out.below hb13)
      have h15c := hide (heap_kept hb3 h15b.out)
      have hsz3 : Hid (wr.heap.size ≤ r3.heap.size) := hb13.size
      replace h16 := hide h16
      clear hPa hb1 hb2 hb3 hb12 hb13 h15 h15b hwr hB1 hB2 hFt hF1 hF2 hS hrS hFF hrg hc16
      have hDe := hide (DecideW (K := w.heap.size) (pcp := pcp) hB1a.out hFta.out (by have h1 := hord.out; omega) (by have h1 := hord.out; omega) hs.out hd.out c5.out hv.out 0 (by constructor <;> decide))
      go_wp2_with (first | ((with_reducible change wpList _ _ _ _ _ _); refine wpList_load_row rfl 35 (.tmp 15) rfl wr.heap.size rfl 35 _ _ _ h15c.out Tryd.underlying35 rfl (brSize _ _ _ _) ?_) | ((with_reducible change wpList _ _ _ _ _ _); refine wpList_load_row rfl 25 (.tmp 16) rfl c16 rfl 25 _ _ _ h16.out Tryd.underlying25 rfl (hdSize _) ?_))
      refine hDe.out.mono ?_
      rintro _ r4 ⟨aw, cw, rfl, hbK, hsam⟩
      go_wp2_with ((with_reducible change wpList _ _ _ _ _ _); refine stop_storeB 42 (.tmp 19) (.tmp 113) rfl ?_)
      refine hide (fresh_atC rfl 42 (.tmp 19) (.tmp 113) rfl r4.heap.size rfl (wayC vid pcp (.slice aw 2 cw) 0) (wayC 0 0 (.slice none 0 0) 0) rfl rfl 42 (waySize _ _ _ _) rfl (way_one _ _ _ _ _ _) ?_)
      intro r5 h19 hb5
      obtain ⟨c19, hc19⟩ : ∃ c, c = r4.heap.size := ⟨_, rfl⟩
      rw [← hc19] at h19 ⊢
      have hwf : gF ≠ t1 := Bs.not_ft hFa.out hCF.out.len hFta.out
      have o := hord.out
      have o2 := hbl.out
      have o3 := hgS.out
      have o4 := hsz3.out
      have hw5 : Hid (Below w.heap.size w r5) := (hw3.out.trans hbK).later hb5
      have hB1b := hide ((hB1a.out.sam hsam (by omega)).below hb5)
      have hB2b := hide ((hB2a.out.sam hsam (by omega)).below hb5)
      have hSb := hide (Fst.below (Fst.sam hSa.out hsam (fun k e => by have := hSf2.out k e; omega)) hb5)
      have hrb := hide (heap_kept hb5 ((hsam bS (by omega) (by omega)).trans hra.out))
      have hgl : gF < r3.heap.size := by
        obtain ⟨_, a', cap', q1, q2, q3, q4, q5⟩ := hFa.out
        obtain ⟨b', off', q6, q7⟩ := q5 0 (by have := hCF.out.len; omega)
        simp only [Value.slice.injEq] at q1
        rw [← q1.1] at q6
        simp only [Option.some.injEq, Addr.mk.injEq, and_true] at q6
        obtain ⟨rfl, rfl⟩ := q6
        exact block_lt_of_cell q7
      have hFb := hide ((Bs.kept hFa.out (hsam gF hgl hwf)).below hb5)
      have h15d := hide (heap_kept hb5 ((hsam wr.heap.size (Array.getElem?_eq_some_iff.1 h15c.out).1 (by have := hc15b.out; omega)).trans h15c.out))
      have h16d := hide (heap_kept hb5 ((hsam c16 (Array.getElem?_eq_some_iff.1 h16.out).1 (by have := hc16b.out; omega)).trans h16.out))
      have hF2b : Hid (Ft r5 t2 (.slice none 0 0) 9 1000 0 []) := Ft.below (Ft.sam hF2a.out hsam (by omega)) hb5
      have k0 : r5.cell? ⟨c19, 0, none⟩ = some (.int .i64 vid) := (cell_of_row _ _ _ _ _ _ h19).trans rfl
      have k1 : r5.cell? ⟨c19, 1, none⟩ = some (.int .i64 pcp) := (cell_of_row _ _ _ _ _ _ h19).trans rfl
      have k2 : r5.cell? ⟨c19, 2, none⟩ = some (.slice aw 2 cw) := (cell_of_row _ _ _ _ _ _ h19).trans rfl
      have k3 : r5.cell? ⟨c19, 3, none⟩ = some (.int .i64 0) := (cell_of_row _ _ _ _ _ _ h19).trans rfl
      replace h19 := hide h19
      have hFi := hide (FindS_any hSb.out ⟨by simp, fun e he => by simp at he; subst he; exact stb_wf hd.out⟩ (wwH src dst pcp vid).row (stb dst) (stb src) (hdC_mac (stb dst) (stb src) true pcp false vid 2048 false) vid (stb_wf hd.out) (stb_wf hs.out))
      rw [ww_find] at hFi
      clear o o2 o3 o4 hDe hbK hsam hb5 hwf hgl hw3 hB1a hB2a hFta hF2a hSa hra hFa h15c h16 hc19 hc15b hc16b hsz3
      go_wp2_with ((with_reducible change wpList _ _ _ _ _ _); refine wpList_load_row_on rfl 25 (.tmp 16) rfl c16 rfl 25 _ _ _ h16d.out Tryd.underlying25 rfl (hdSize _) ?_)
      refine hFi.out.mono ?_
      rintro _ r6 ⟨rfl, hb6⟩
      have hw6 := hide (hw5.out.later hb6)
      have hDr := hide (Dress_on (hB1b.out.below hb6) t1 _ _ (hFb.out.below hb6) (HT.out.later hw6.out) (wwH src dst pcp vid) [120] hCF.out (by show ¬ (2 : Int) % 2 = 1; decide) (by show (2048 : Int) ≠ 33024; decide) vid pcp 2 aw 2 cw 0 ⟨by have := hv.out; omega, by have := hv.out; omega⟩ ⟨by have := hv.out; omega, hv.out.2⟩ hp.out)
      rw [ww_plain] at hDr
      have h15e := hide (heap_kept hb6 h15d.out)
      have h19e := hide (heap_kept hb6 h19.out)
      go_wp2_with (first | ((with_reducible change wpList _ _ _ _ _ _); refine wpList_load_row rfl 35 (.tmp 15) rfl wr.heap.size rfl 35 _ _ _ h15e.out Tryd.underlying35 rfl (brSize _ _ _ _) ?_) | ((with_reducible change wpList _ _ _ _ _ _); refine wpList_load_row rfl 42 (.tmp 19) rfl c19 rfl 42 _ _ _ h19e.out Tryd.underlying42 rfl (waySize _ _ _ _) ?_))
      refine hDr.out.mono ?_
      rintro _ r7 ⟨g9, n9, F9, rfl, hB9, hC9, hb7⟩
      have hb67 := hb6.later hb7
      have hwz := hide (hw5.out.later hb67)
      have hB1z := hide (hB1b.out.below hb67)
      have hB2z := hide (hB2b.out.below hb67)
      have hF1z : Hid (0 + 1 = 0 → Ft r7 t1 (.slice none 0 0) 9 1000 0 []) := fun e => by omega
      have hF2z : Hid (0 + 1 ≤ 1 → Ft r7 t2 (.slice none 0 0) 9 1000 0 []) := fun e => Ft.below hF2b.out hb67
      have hSz := hide (Fst.below hSb.out hb67)
      have hrz := hide (heap_kept hb67 hrb.out)
      have hBz := hide hB9
      have hCz : Hid (Carr F9 (wwH src dst pcp vid) [120]) := hC9
      clear hFi hDr hb6 hb7 hb67 hw6 hw5 hB1b hB2b hF2b hSb hrb hFb h15d h16d h15e h19 h19e hB9 hC9 k0 k1 k2 k3 hCF
      go_wp2
      go_roundw
      case rel => exact ⟨0 + 1, by omega, by go_num, ⟨_, _, _, rfl, hBz, hCz⟩, hwz, hB1z, hB2z, hF1z, hF2z, hSz, hrz⟩
      case measure => simp [intOf]
    · as_aux_lemma =>
      have hrg := hide (World.rangeAt_of_block hrS.out 3 3)
      have hFt := hide (hF2.out (by omega))
      have hbl : Hid (t1 < t2 ∧ t2 < wr.heap.size ∧ bS < wr.heap.size) := by
        have h1 := (Array.getElem?_eq_some_iff.1 hrS.out).1
        have h2 := hord.out
        have h3 := hgS.out
        exact hide (by omega)
      go_wp2_with (first | ((with_reducible change wpList _ _ _ _ _ _); refine wpList_load_mid rfl 35 (.tmp 102) rfl bS 3 rfl (brC g2 t2 sb2 3).toList _ hrg.out Tryd.underlying35 rfl (brSize _ _ _ _) ?_) | ((with_reducible change wpList _ _ _ _ _ _); refine stop_storeB 35 (.tmp 15) (.tmp 103) rfl ?_))
      refine hide (fresh_atC rfl 35 (.tmp 15) (.tmp 103) rfl wr.heap.size rfl (brC g2 t2 sb2 3) #[.pointer none, .pointer none, .slice none 0 0] rfl rfl 35 (brSize _ _ _ _) rfl (br_all _ _ _ _) ?_)
      intro r1 h15 hb1
      have hc15b : Hid (t2 < wr.heap.size) := by have h1 := hbl.out; exact hide (by omega)
      have hPa := hide (Parse_any (hFF.out.below hb1) (HT.out.later (hwr.out.later hb1)))
      obtain ⟨m0, hP0, -⟩ := carr_parsed hCF.out
      rw [hP0] at hPa
      clear hP0
      go_wp2_with fail
      refine hPa.out.mono ?_
      rintro _ r2 ⟨pa, pn, pc, rfl, -, hb2⟩
      have hb12 := hb1.later hb2
      have h15b := hide (heap_kept hb2 h15)
      go_wp2_with ((with_reducible change wpList _ _ _ _ _ _); refine stop_storeB 25 (.tmp 16) (.tmp 107) rfl ?_)
      refine hide (fresh_atC rfl 25 (.tmp 16) (.tmp 107) rfl r2.heap.size rfl (wwH src dst pcp vid).row Hd.zero.row rfl rfl 25 (hdSize _) rfl (Hd.row_all _) ?_)
      intro r3 h16 hb3
      obtain ⟨c16, hc16⟩ : ∃ c, c = r2.heap.size := ⟨_, rfl⟩
      have hc16b : Hid (t2 < c16) := by have h1 := hbl.out; have h2 := hb12.size; exact hide (by omega)
      rw [← hc16] at h16 ⊢
      have hb13 := hb12.later hb3
      have hw3 := hide (hwr.out.later hb13)
      have hB1a := hide (hB1.out.below hb13)
      have hB2a := hide (hB2.out.below hb13)
      have hFta := hide (Ft.below hFt.out hb13)
      have hSa := hide (Fst.below hS.out hb13)
      have hra := hide (heap_kept hb13 hrS.out)
      have hFa := hide (hFF.out.below hb13)
      have h15c := hide (heap_kept hb3 h15b.out)
      have hsz3 : Hid (wr.heap.size ≤ r3.heap.size) := hb13.size
      replace h16 := hide h16
      clear hPa hb1 hb2 hb3 hb12 hb13 h15 h15b hwr hB1 hB2 hFt hF1 hF2 hS hrS hFF hrg hc16
      have hDe := hide (DecideW (K := w.heap.size) (pcp := pcp) hB2a.out hFta.out (by have h1 := hord.out; omega) (by have h1 := hord.out; omega) hs.out hd.out c5.out hv.out 1 (by constructor <;> decide))
      go_wp2_with (first | ((with_reducible change wpList _ _ _ _ _ _); refine wpList_load_row rfl 35 (.tmp 15) rfl wr.heap.size rfl 35 _ _ _ h15c.out Tryd.underlying35 rfl (brSize _ _ _ _) ?_) | ((with_reducible change wpList _ _ _ _ _ _); refine wpList_load_row rfl 25 (.tmp 16) rfl c16 rfl 25 _ _ _ h16.out Tryd.underlying25 rfl (hdSize _) ?_))
      refine hDe.out.mono ?_
      rintro _ r4 ⟨aw, cw, rfl, hbK, hsam⟩
      go_wp2_with ((with_reducible change wpList _ _ _ _ _ _); refine stop_storeB 42 (.tmp 19) (.tmp 113) rfl ?_)
      refine hide (fresh_atC rfl 42 (.tmp 19) (.tmp 113) rfl r4.heap.size rfl (wayC vid pcp (.slice aw 2 cw) 0) (wayC 0 0 (.slice none 0 0) 0) rfl rfl 42 (waySize _ _ _ _) rfl (way_one _ _ _ _ _ _) ?_)
      intro r5 h19 hb5
      obtain ⟨c19, hc19⟩ : ∃ c, c = r4.heap.size := ⟨_, rfl⟩
      rw [← hc19] at h19 ⊢
      have hwf : gF ≠ t2 := Bs.not_ft hFa.out hCF.out.len hFta.out
      have o := hord.out
      have o2 := hbl.out
      have o3 := hgS.out
      have o4 := hsz3.out
      have hw5 : Hid (Below w.heap.size w r5) := (hw3.out.trans hbK).later hb5
      have hB1b := hide ((hB1a.out.sam hsam (by omega)).below hb5)
      have hB2b := hide ((hB2a.out.sam hsam (by omega)).below hb5)
      have hSb := hide (Fst.below (Fst.sam hSa.out hsam (fun k e => by have := hSf2.out k e; omega)) hb5)
      have hrb := hide (heap_kept hb5 ((hsam bS (by omega) (by omega)).trans hra.out))
      have hgl : gF < r3.heap.size := by
        obtain ⟨_, a', cap', q1, q2, q3, q4, q5⟩ := hFa.out
        obtain ⟨b', off', q6, q7⟩ := q5 0 (by have := hCF.out.len; omega)
        simp only [Value.slice.injEq] at q1
        rw [← q1.1] at q6
        simp only [Option.some.injEq, Addr.mk.injEq, and_true] at q6
        obtain ⟨rfl, rfl⟩ := q6
        exact block_lt_of_cell q7
      have hFb := hide ((Bs.kept hFa.out (hsam gF hgl hwf)).below hb5)
      have h15d := hide (heap_kept hb5 ((hsam wr.heap.size (Array.getElem?_eq_some_iff.1 h15c.out).1 (by have := hc15b.out; omega)).trans h15c.out))
      have h16d := hide (heap_kept hb5 ((hsam c16 (Array.getElem?_eq_some_iff.1 h16.out).1 (by have := hc16b.out; omega)).trans h16.out))
      have k0 : r5.cell? ⟨c19, 0, none⟩ = some (.int .i64 vid) := (cell_of_row _ _ _ _ _ _ h19).trans rfl
      have k1 : r5.cell? ⟨c19, 1, none⟩ = some (.int .i64 pcp) := (cell_of_row _ _ _ _ _ _ h19).trans rfl
      have k2 : r5.cell? ⟨c19, 2, none⟩ = some (.slice aw 2 cw) := (cell_of_row _ _ _ _ _ _ h19).trans rfl
      have k3 : r5.cell? ⟨c19, 3, none⟩ = some (.int .i64 0) := (cell_of_row _ _ _ _ _ _ h19).trans rfl
      replace h19 := hide h19
      have hFi := hide (FindS_any hSb.out ⟨by simp, fun e he => by simp at he; subst he; exact stb_wf hd.out⟩ (wwH src dst pcp vid).row (stb dst) (stb src) (hdC_mac (stb dst) (stb src) true pcp false vid 2048 false) vid (stb_wf hd.out) (stb_wf hs.out))
      rw [ww_find] at hFi
      clear o o2 o3 o4 hDe hbK hsam hb5 hwf hgl hw3 hB1a hB2a hFta hSa hra hFa h15c h16 hc19 hc15b hc16b hsz3
      go_wp2_with ((with_reducible change wpList _ _ _ _ _ _); refine wpList_load_row_on rfl 25 (.tmp 16) rfl c16 rfl 25 _ _ _ h16d.out Tryd.underlying25 rfl (hdSize _) ?_)
      refine hFi.out.mono ?_
      rintro _ r6 ⟨rfl, hb6⟩
      have hw6 := hide (hw5.out.later hb6)
      have hDr := hide (Dress_on (hB2b.out.below hb6) t2 _ _ (hFb.out.below hb6) (HT.out.later hw6.out) (wwH src dst pcp vid) [120] hCF.out (by show ¬ (2 : Int) % 2 = 1; decide) (by show (2048 : Int) ≠ 33024; decide) vid pcp 2 aw 2 cw 0 ⟨by have := hv.out; omega, by have := hv.out; omega⟩ ⟨by have := hv.out; omega, hv.out.2⟩ hp.out)
      rw [ww_plain] at hDr
      have h15e := hide (heap_kept hb6 h15d.out)
      have h19e := hide (heap_kept hb6 h19.out)
      go_wp2_with (first | ((with_reducible change wpList _ _ _ _ _ _); refine wpList_load_row rfl 35 (.tmp 15) rfl wr.heap.size rfl 35 _ _ _ h15e.out Tryd.underlying35 rfl (brSize _ _ _ _) ?_) | ((with_reducible change wpList _ _ _ _ _ _); refine wpList_load_row rfl 42 (.tmp 19) rfl c19 rfl 42 _ _ _ h19e.out Tryd.underlying42 rfl (waySize _ _ _ _) ?_))
      refine hDr.out.mono ?_
      rintro _ r7 ⟨g9, n9, F9, rfl, hB9, hC9, hb7⟩
      have hb67 := hb6.later hb7
      have hwz := hide (hw5.out.later hb67)
      have hB1z := hide (hB1b.out.below hb67)
      have hB2z := hide (hB2b.out.below hb67)
      have hF1z : Hid (1 + 1 = 0 → Ft r7 t1 (.slice none 0 0) 9 1000 0 []) := fun e => by omega
      have hF2z : Hid (1 + 1 ≤ 1 → Ft r7 t2 (.slice none 0 0) 9 1000 0 []) := fun e => by omega
      have hSz := hide (Fst.below hSb.out hb67)
      have hrz := hide (heap_kept hb67 hrb.out)
      have hBz := hide hB9
      have hCz : Hid (Carr F9 (wwH src dst pcp vid) [120]) := hC9
      clear hFi hDr hb6 hb7 hb67 hw6 hw5 hB1b hB2b hSb hrb hFb h15d h16d h15e h19 h19e hB9 hC9 k0 k1 k2 k3 hCF
      go_wp2
      go_roundw
      case rel => exact ⟨1 + 1, by omega, by go_num, ⟨_, _, _, rfl, hBz, hCz⟩, hwz, hB1z, hB2z, hF1z, hF2z, hSz, hrz⟩
      case measure => simp [intOf]
    · go_wp2
      go_ret
      exact ⟨rfl, hwr.out⟩
end Go.Proofs.YtiahiakllpjliaaDoor
