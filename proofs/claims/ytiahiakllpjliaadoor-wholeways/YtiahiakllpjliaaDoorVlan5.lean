import Derived.Test.YtiahiakllpjliaaDoorVlan4
/-
  Contract of the table's Classify. Conditions: those that each theorem names.
-/
namespace Go.Proofs.YtiahiakllpjliaaDoor
open Go.RowKit Go.Maps
set_option linter.unusedVariables false
set_option maxRecDepth 20000

/-- A header, of which the tag counts. -/
structure HdIs (cs : Array Value) (tg : Bool) (pcp vid : Int) : Prop where
  size : cs.size = 18
  one : cs.all (·.oneCell') = true
  c12 : cs[12]? = some (.bool tg)
  c13 : cs[13]? = some (.int .i64 pcp)
  c15 : cs[15]? = some (.int .i64 vid)
/-- To which VLAN a frame belongs: its number, its priority, the error. -/
def classP (p : Pv) (n : Nat) (f : Int → Option (Int × Int)) (i : Int) (nm : Bool) (v q : Int) : Int × Int × Int :=
  if takesB p nm = true then if p.flt = true ∧ (hasP n i && bitAt (memN f v) i) = false then (0, 0, 21) else (v, q, 0) else (0, 0, 11)
def classN (ps : List Pv) (f : Int → Option (Int × Int)) (i : Int) (tg : Bool) (pcp vid : Int) : Int × Int × Int :=
  if hasP ps.length i = true then
    if tg = false then classP (ps.getD i.toNat Pv.zero) ps.length f i false (ps.getD i.toNat Pv.zero).pvid (ps.getD i.toNat Pv.zero).pcp
    else if vid = 0 then classP (ps.getD i.toNat Pv.zero) ps.length f i false (ps.getD i.toNat Pv.zero).pvid pcp
    else classP (ps.getD i.toNat Pv.zero) ps.length f i true vid pcp
  else (0, 0, 1)
theorem pvLen (p : Pv) : (Tryd.prog.info? 85).map (·.size) = some (fPv p).length := by kernel_rfl
theorem below_drewV {B : Nat} {w w' : World} (h : Below B w w') : Below B w w'.drew := ⟨h.os, h.tape, h.output, h.size, h.block⟩
theorem bcell' {w w' : World} {b : Nat} (hb : Below w.heap.size w w') (h : b < w.heap.size) (o : Nat) : w'.cell? ⟨b, o, none⟩ = w.cell? ⟨b, o, none⟩ := hb.cell (p := ⟨b, o, none⟩) h
section
variable {w : World} {g pb mb c : Nat} {ps : List Pv} {f : Int → Option (Int × Int)}
set_option maxHeartbeats 2000000 in
theorem Class_any (h : Vt w g pb mb ps f c) (i : Int) (cs : Array Value) (tg : Bool) (pcp vid : Int) (hH : HdIs cs tg pcp vid) (hv : I64G vid) (hp : ∀ p ∈ ps, I64G p.pvid) :
    Calls Tryd.prog 40 #[.pointer (some ⟨g, 0, none⟩), .int .i64 i, .agg cs] w fun r w' => r = .returned (.tuple #[.int .i64 (classN ps f i tg pcp vid).1, .int .i64 (classN ps f i tg pcp vid).2.1, .int .i64 (classN ps f i tg pcp vid).2.2]) ∧ Below w.heap.size w w' := by
  have hb1 := hide (below1 w (.cells cs 25))
  have hrow := hide (heap_alloc_new w (.cells cs 25))
  have hHas := hide (vhas_any (h.below hb1.out) i)
  cases hi : hasP ps.length i
  · have hE : Hid (classN ps f i tg pcp vid = (0, 0, 1)) := by
      show _ = _
      unfold classN
      rw [hi]
      rfl
    rw [hi] at hHas
    generalize classN ps f i tg pcp vid = R at *
    rw [hE.out]
    clear h hE hi hH
    go_enter Tryd.func40, Tryd.ntmps40
    go_wp2_with (go_at_call 59; refine hHas.out.mono ?_; rintro e w' ⟨rfl, rfl⟩)
    go_ret3
    exact ⟨rfl, hb1.out⟩
  · have hE : Hid (classN ps f i tg pcp vid = if tg = false then classP (ps.getD i.toNat Pv.zero) ps.length f i false (ps.getD i.toNat Pv.zero).pvid (ps.getD i.toNat Pv.zero).pcp
        else if vid = 0 then classP (ps.getD i.toNat Pv.zero) ps.length f i false (ps.getD i.toNat Pv.zero).pvid pcp
        else classP (ps.getD i.toNat Pv.zero) ps.length f i true vid pcp) := by
      show _ = _
      unfold classN
      rw [if_pos hi]
    rw [hi] at hHas
    have hr : 0 ≤ i ∧ i.toNat < ps.length := by simp [hasP] at hi; omega
    obtain ⟨k, rfl⟩ := Int.eq_ofNat_of_zero_le hr.1
    rw [Int.toNat_natCast] at hE
    have hk : k < ps.length := by omega
    have hc0 := (h.below hb1.out).c0
    have hrg := hide ((h.below hb1.out).fl.range wide_Pv Pv.zero k hk)
    have hpv : I64G (ps.getD k Pv.zero).pvid := hp _ (by rw [List.getD_eq_getElem?_getD, List.getElem?_eq_getElem hk]; exact List.getElem_mem _)
    have hMem := hide (fun (w3 : World) (hb : Below w.heap.size w w3) (v : Int) (hv : I64G v) => Member_any (h.below hb) v k hv)
    have hf16 := h.few
    rw [hi] at hMem
    simp only [classP, hi] at hE
    generalize classN ps f k tg pcp vid = R at *
    generalize ps.getD k Pv.zero = p at *
    clear h hp hr hi
    generalize ps.length = n at *
    obtain ⟨ac, pv, pc, fl⟩ := p
    dsimp only at hpv hE
    have hT := hide (fun (b : Bool) (w : World) => takes_any ⟨ac, pv, pc, fl⟩ b w)
    generalize takesB ⟨ac, pv, pc, fl⟩ = tk at *
    go_enter Tryd.func40, Tryd.ntmps40
    go_wp2_with (first | (go_at_call 59; refine hHas.out.mono ?_; rintro e w' ⟨rfl, rfl⟩) | ((with_reducible change wpList _ _ _ _ _ _); refine wpList_load_mid rfl 85 (.tmp 22) rfl pb (k * 4) rfl (fPv ⟨ac, pv, pc, fl⟩) _ hrg.out Tryd.underlying85 rfl (pvLen _) ?_) | ((with_reducible change wpList _ _ _ _ _ _); refine stop_storeB 85 (.tmp 9) (.tmp 23) rfl ?_))
    refine hide (fresh_atC rfl 85 (.tmp 9) (.tmp 23) rfl (w.heap.size + 1) (World.size_alloc _ _).symm (fPv ⟨ac, pv, pc, fl⟩).toArray (fPv Pv.zero).toArray rfl rfl 85 (pvSize _) rfl (pv_all _) ?_)
    intro w3 h3 hb3
    have hb03 := hide (hb1.out.later hb3)
    have hrow3 := heap_kept hb3 hrow.out
    have x12 : w3.cell? ⟨w.heap.size, 12, none⟩ = _ := (cell_of_row _ _ _ _ _ _ hrow3).trans hH.c12
    have x13 : w3.cell? ⟨w.heap.size, 13, none⟩ = _ := (cell_of_row _ _ _ _ _ _ hrow3).trans hH.c13
    have x15 : w3.cell? ⟨w.heap.size, 15, none⟩ = _ := (cell_of_row _ _ _ _ _ _ hrow3).trans hH.c15
    have p0 : w3.cell? ⟨w.heap.size + 1, 0, none⟩ = some (.int .i64 ac) := (cell_of_row _ _ _ _ _ _ h3).trans rfl
    have p1 : w3.cell? ⟨w.heap.size + 1, 1, none⟩ = some (.int .i64 pv) := (cell_of_row _ _ _ _ _ _ h3).trans rfl
    have p2 : w3.cell? ⟨w.heap.size + 1, 2, none⟩ = some (.int .i64 pc) := (cell_of_row _ _ _ _ _ _ h3).trans rfl
    have p3 : w3.cell? ⟨w.heap.size + 1, 3, none⟩ = some (.bool fl) := (cell_of_row _ _ _ _ _ _ h3).trans rfl
    replace hrow3 := hide hrow3
    replace h3 := hide h3
    replace hb3 := hide hb3
    replace hH := hide hH
    clear hHas hc0 hrg hrow
    generalize hBe : w.heap.size + 1 = B at *
    clear hBe
    rcases (show tg = false ∨ (tg = true ∧ vid = 0) ∨ (tg = true ∧ vid ≠ 0) by cases tg <;> simp; omega) with rfl | ⟨rfl, rfl⟩ | ⟨rfl, hv0⟩
    · rw [if_pos rfl] at hE
      go_wp2_with ((with_reducible change wpList _ _ _ _ _ _); refine stop_load 85 (.tmp 9) rfl ?_)
      refine hide (wpList_load_row rfl 85 (.tmp 9) rfl B rfl 85 _ (0, 0) _ h3.out Tryd.underlying85 rfl (pvSize ⟨ac, pv, pc, fl⟩) ?_)
      go_wp2_with fail
      refine (hT.out false w3).mono ?_
      rintro e w4 ⟨rfl, hb4⟩
      replace p0 := hide p0
      have y12 := x12; have y13 := x13; have y15 := x15; have r1 := p1; have r2 := p2; have r3 := p3
      rw [← (bcell' hb4 (show w.heap.size < w3.heap.size by have := hb03.out.size; have := (Array.getElem?_eq_some_iff.1 hrow3.out).1; omega)) 12] at y12
      rw [← (bcell' hb4 (show w.heap.size < w3.heap.size by have := (Array.getElem?_eq_some_iff.1 hrow3.out).1; omega)) 13] at y13
      rw [← (bcell' hb4 (show w.heap.size < w3.heap.size by have := (Array.getElem?_eq_some_iff.1 hrow3.out).1; omega)) 15] at y15
      rw [← (bcell' hb4 (show B < w3.heap.size by have := (Array.getElem?_eq_some_iff.1 h3.out).1; omega)) 1] at r1
      rw [← (bcell' hb4 (show B < w3.heap.size by have := (Array.getElem?_eq_some_iff.1 h3.out).1; omega)) 2] at r2
      rw [← (bcell' hb4 (show B < w3.heap.size by have := (Array.getElem?_eq_some_iff.1 h3.out).1; omega)) 3] at r3
      have hb04 := hide (hb03.out.later hb4)
      clear x12 x13 x15 p1 p2 p3 p0 h3 hrow3 hb3 hb03 hT hb4
      have hM4 := hide (hMem.out w4.drew (below_drewV hb04.out) pv hpv)
      clear hMem
      generalize tk false = tkv at *
      cases tkv
      · rw [if_neg (by simp)] at hE
        clear hM4
        go_wp2
        go_ret3
        exact ⟨by rw [hE.out]; rfl, hb04.out⟩
      · rw [if_pos rfl] at hE
        generalize bitAt (memN f pv) k = bt at *
        go_wp2_with fail
        refine wp_region_noPanic ?_
        refine wp_region_held_drew (S := fun W => W.cell? ⟨B, 1, none⟩ = some (.int .i64 pv) ∧ W.cell? ⟨B, 2, none⟩ = some (.int .i64 pc)) (by kernel_rfl) ⟨r1, r2⟩ (fun hHeld => ?_)
        refine wpAnyH_take (i := 0) (oi := { dst := some 35, op := Op.fieldAddr 85 (Operand.tmp 9) 1, type := 0, pos := "vlan.go:121", after := #[], guard := none }) (v := ?v1) rfl (by kernel_rfl) (by kernel_rfl) (by kernel_rfl) (fun _ _ _ h => h) (Or.inl ⟨by rfl, ?y1⟩) (by assumption) ?r1
        case y1 => (intro w hSw; (try dsimp only at hSw); (try (go_split_ands)); go_simp; try with_reducible rfl)
        try simp only [Act.put, List.setIfInBounds_toArray, List.set_cons_zero, List.set_cons_succ]
        refine wpAnyH_take (i := 1) (oi := { dst := some 36, op := Op.load 3 (Operand.tmp 35), type := 3, pos := "vlan.go:121", after := #[{ on := 0, ground := Ground.data }], guard := none }) (v := ?v2) rfl (by kernel_rfl) (by kernel_rfl) (by kernel_rfl) (fun _ _ _ h => h) (Or.inl ⟨by rfl, ?y2⟩) (by assumption) ?r2
        case y2 => (intro w hSw; (try dsimp only at hSw); (try (go_split_ands)); go_simp; try with_reducible rfl)
        try simp only [Act.put, List.setIfInBounds_toArray, List.set_cons_zero, List.set_cons_succ]
        refine wpAnyH_take (i := 2) (oi := { dst := some 37, op := Op.fieldAddr 85 (Operand.tmp 9) 2, type := 0, pos := "vlan.go:121", after := #[{ on := 4, ground := Ground.gcOnly Departure.lateStores }], guard := none }) (v := ?v3) rfl (by kernel_rfl) (by kernel_rfl) (by kernel_rfl) (fun _ _ _ h => h) (Or.inl ⟨by rfl, ?y3⟩) (by assumption) ?r3
        case y3 => (intro w hSw; (try dsimp only at hSw); (try (go_split_ands)); go_simp; try with_reducible rfl)
        try simp only [Act.put, List.setIfInBounds_toArray, List.set_cons_zero, List.set_cons_succ]
        refine wpAnyH_take (i := 3) (oi := { dst := some 38, op := Op.load 3 (Operand.tmp 37), type := 3, pos := "vlan.go:121", after := #[{ on := 2, ground := Ground.data }, { on := 4, ground := Ground.gcOnly Departure.lateStores }], guard := none }) (v := ?v4) rfl (by kernel_rfl) (by kernel_rfl) (by kernel_rfl) (fun _ _ _ h => h) (Or.inl ⟨by rfl, ?y4⟩) (by assumption) ?r4
        case y4 => (intro w hSw; (try dsimp only at hSw); (try (go_split_ands)); go_simp; try with_reducible rfl)
        try simp only [Act.put, List.setIfInBounds_toArray, List.set_cons_zero, List.set_cons_succ]
        refine wpAnyH_take (i := 4) (oi := { dst := some 11, op := Op.assign (Operand.tmp 36), type := 3, pos := "vlan.go:121", after := #[{ on := 1, ground := Ground.data }, { on := 0, ground := Ground.phase }, { on := 1, ground := Ground.phase }, { on := 2, ground := Ground.textOnly Departure.lateStores }, { on := 3, ground := Ground.textOnly Departure.lateStores }], guard := none }) (v := ?v5) rfl (by kernel_rfl) (by kernel_rfl) (by kernel_rfl) (fun _ _ _ h => h) (Or.inl ⟨by rfl, ?y5⟩) (by assumption) ?r5
        case y5 => (intro w hSw; (try dsimp only at hSw); (try (go_split_ands)); go_simp; try with_reducible rfl)
        try simp only [Act.put, List.setIfInBounds_toArray, List.set_cons_zero, List.set_cons_succ]
        refine wpAnyH_take (i := 5) (oi := { dst := some 12, op := Op.assign (Operand.tmp 38), type := 3, pos := "vlan.go:121", after := #[{ on := 3, ground := Ground.data }, { on := 4, ground := Ground.chain }, { on := 0, ground := Ground.phase }, { on := 1, ground := Ground.phase }, { on := 2, ground := Ground.phase }, { on := 3, ground := Ground.phase }, { on := 4, ground := Ground.phase }], guard := none }) (v := ?v6) rfl (by kernel_rfl) (by kernel_rfl) (by kernel_rfl) (fun _ _ _ h => h) (Or.inl ⟨by rfl, ?y6⟩) (by assumption) ?r6
        case y6 => (intro w hSw; (try dsimp only at hSw); (try (go_split_ands)); go_simp; try with_reducible rfl)
        try simp only [Act.put, List.setIfInBounds_toArray, List.set_cons_zero, List.set_cons_succ]
        refine wpAnyH_done (by kernel_rfl) ?_ _
        refine NoPanic.normal ?_
        have y12d : w4.drew.cell? ⟨w.heap.size, 12, none⟩ = _ := y12
        have y13d : w4.drew.cell? ⟨w.heap.size, 13, none⟩ = _ := y13
        have y15d : w4.drew.cell? ⟨w.heap.size, 15, none⟩ = _ := y15
        have r3d : w4.drew.cell? ⟨B, 3, none⟩ = _ := r3
        clear y12 y13 y15 r1 r2 r3 hHeld
        clear hv hpv
        cases fl
        · rw [if_neg (by simp)] at hE
          clear hM4
          go_wp2
          go_ret3
          exact ⟨by rw [hE.out]; rfl, below_drewV hb04.out⟩
        · cases bt
          · rw [if_pos (by simp)] at hE
            skip
            go_wp2_with (go_at_call 51; refine hM4.out.mono ?_; rintro e w' ⟨rfl, rfl⟩)
            go_ret3
            exact ⟨by rw [hE.out]; rfl, below_drewV hb04.out⟩
          · rw [if_neg (by simp)] at hE
            skip
            go_wp2_with (go_at_call 51; refine hM4.out.mono ?_; rintro e w' ⟨rfl, rfl⟩)
            go_ret3
            exact ⟨by rw [hE.out]; rfl, below_drewV hb04.out⟩
    · rw [if_neg (by simp), if_pos rfl] at hE
      go_wp2_with ((with_reducible change wpList _ _ _ _ _ _); refine stop_load 85 (.tmp 9) rfl ?_)
      refine hide (wpList_load_row rfl 85 (.tmp 9) rfl B rfl 85 _ (0, 0) _ h3.out Tryd.underlying85 rfl (pvSize ⟨ac, pv, pc, fl⟩) ?_)
      go_wp2_with fail
      refine (hT.out false w3).mono ?_
      rintro e w4 ⟨rfl, hb4⟩
      replace p0 := hide p0
      have y12 := x12; have y13 := x13; have y15 := x15; have r1 := p1; have r2 := p2; have r3 := p3
      rw [← (bcell' hb4 (show w.heap.size < w3.heap.size by have := hb03.out.size; have := (Array.getElem?_eq_some_iff.1 hrow3.out).1; omega)) 12] at y12
      rw [← (bcell' hb4 (show w.heap.size < w3.heap.size by have := (Array.getElem?_eq_some_iff.1 hrow3.out).1; omega)) 13] at y13
      rw [← (bcell' hb4 (show w.heap.size < w3.heap.size by have := (Array.getElem?_eq_some_iff.1 hrow3.out).1; omega)) 15] at y15
      rw [← (bcell' hb4 (show B < w3.heap.size by have := (Array.getElem?_eq_some_iff.1 h3.out).1; omega)) 1] at r1
      rw [← (bcell' hb4 (show B < w3.heap.size by have := (Array.getElem?_eq_some_iff.1 h3.out).1; omega)) 2] at r2
      rw [← (bcell' hb4 (show B < w3.heap.size by have := (Array.getElem?_eq_some_iff.1 h3.out).1; omega)) 3] at r3
      have hb04 := hide (hb03.out.later hb4)
      clear x12 x13 x15 p1 p2 p3 p0 h3 hrow3 hb3 hb03 hT hb4
      have hM4 := hide (hMem.out w4.drew (below_drewV hb04.out) pv hpv)
      clear hMem
      generalize tk false = tkv at *
      cases tkv
      · rw [if_neg (by simp)] at hE
        clear hM4
        go_wp2
        go_ret3
        exact ⟨by rw [hE.out]; rfl, hb04.out⟩
      · rw [if_pos rfl] at hE
        generalize bitAt (memN f pv) k = bt at *
        go_wp2_with fail
        refine wp_region_noPanic ?_
        refine wp_region_held_drew (S := fun W => W.cell? ⟨B, 1, none⟩ = some (.int .i64 pv) ∧ W.cell? ⟨B, 2, none⟩ = some (.int .i64 pc)) (by kernel_rfl) ⟨r1, r2⟩ (fun hHeld => ?_)
        refine wpAnyH_take (i := 0) (oi := { dst := some 35, op := Op.fieldAddr 85 (Operand.tmp 9) 1, type := 0, pos := "vlan.go:121", after := #[], guard := none }) (v := ?v7) rfl (by kernel_rfl) (by kernel_rfl) (by kernel_rfl) (fun _ _ _ h => h) (Or.inl ⟨by rfl, ?y7⟩) (by assumption) ?r7
        case y7 => (intro w hSw; (try dsimp only at hSw); (try (go_split_ands)); go_simp; try with_reducible rfl)
        try simp only [Act.put, List.setIfInBounds_toArray, List.set_cons_zero, List.set_cons_succ]
        refine wpAnyH_take (i := 1) (oi := { dst := some 36, op := Op.load 3 (Operand.tmp 35), type := 3, pos := "vlan.go:121", after := #[{ on := 0, ground := Ground.data }], guard := none }) (v := ?v8) rfl (by kernel_rfl) (by kernel_rfl) (by kernel_rfl) (fun _ _ _ h => h) (Or.inl ⟨by rfl, ?y8⟩) (by assumption) ?r8
        case y8 => (intro w hSw; (try dsimp only at hSw); (try (go_split_ands)); go_simp; try with_reducible rfl)
        try simp only [Act.put, List.setIfInBounds_toArray, List.set_cons_zero, List.set_cons_succ]
        refine wpAnyH_take (i := 2) (oi := { dst := some 37, op := Op.fieldAddr 85 (Operand.tmp 9) 2, type := 0, pos := "vlan.go:121", after := #[{ on := 4, ground := Ground.gcOnly Departure.lateStores }], guard := none }) (v := ?v9) rfl (by kernel_rfl) (by kernel_rfl) (by kernel_rfl) (fun _ _ _ h => h) (Or.inl ⟨by rfl, ?y9⟩) (by assumption) ?r9
        case y9 => (intro w hSw; (try dsimp only at hSw); (try (go_split_ands)); go_simp; try with_reducible rfl)
        try simp only [Act.put, List.setIfInBounds_toArray, List.set_cons_zero, List.set_cons_succ]
        refine wpAnyH_take (i := 3) (oi := { dst := some 38, op := Op.load 3 (Operand.tmp 37), type := 3, pos := "vlan.go:121", after := #[{ on := 2, ground := Ground.data }, { on := 4, ground := Ground.gcOnly Departure.lateStores }], guard := none }) (v := ?v10) rfl (by kernel_rfl) (by kernel_rfl) (by kernel_rfl) (fun _ _ _ h => h) (Or.inl ⟨by rfl, ?y10⟩) (by assumption) ?r10
        case y10 => (intro w hSw; (try dsimp only at hSw); (try (go_split_ands)); go_simp; try with_reducible rfl)
        try simp only [Act.put, List.setIfInBounds_toArray, List.set_cons_zero, List.set_cons_succ]
        refine wpAnyH_take (i := 4) (oi := { dst := some 11, op := Op.assign (Operand.tmp 36), type := 3, pos := "vlan.go:121", after := #[{ on := 1, ground := Ground.data }, { on := 0, ground := Ground.phase }, { on := 1, ground := Ground.phase }, { on := 2, ground := Ground.textOnly Departure.lateStores }, { on := 3, ground := Ground.textOnly Departure.lateStores }], guard := none }) (v := ?v11) rfl (by kernel_rfl) (by kernel_rfl) (by kernel_rfl) (fun _ _ _ h => h) (Or.inl ⟨by rfl, ?y11⟩) (by assumption) ?r11
        case y11 => (intro w hSw; (try dsimp only at hSw); (try (go_split_ands)); go_simp; try with_reducible rfl)
        try simp only [Act.put, List.setIfInBounds_toArray, List.set_cons_zero, List.set_cons_succ]
        refine wpAnyH_take (i := 5) (oi := { dst := some 12, op := Op.assign (Operand.tmp 38), type := 3, pos := "vlan.go:121", after := #[{ on := 3, ground := Ground.data }, { on := 4, ground := Ground.chain }, { on := 0, ground := Ground.phase }, { on := 1, ground := Ground.phase }, { on := 2, ground := Ground.phase }, { on := 3, ground := Ground.phase }, { on := 4, ground := Ground.phase }], guard := none }) (v := ?v12) rfl (by kernel_rfl) (by kernel_rfl) (by kernel_rfl) (fun _ _ _ h => h) (Or.inl ⟨by rfl, ?y12⟩) (by assumption) ?r12
        case y12 => (intro w hSw; (try dsimp only at hSw); (try (go_split_ands)); go_simp; try with_reducible rfl)
        try simp only [Act.put, List.setIfInBounds_toArray, List.set_cons_zero, List.set_cons_succ]
        refine wpAnyH_done (by kernel_rfl) ?_ _
        refine NoPanic.normal ?_
        have y12d : w4.drew.cell? ⟨w.heap.size, 12, none⟩ = _ := y12
        have y13d : w4.drew.cell? ⟨w.heap.size, 13, none⟩ = _ := y13
        have y15d : w4.drew.cell? ⟨w.heap.size, 15, none⟩ = _ := y15
        have r3d : w4.drew.cell? ⟨B, 3, none⟩ = _ := r3
        clear y12 y13 y15 r1 r2 r3 hHeld
        clear hv hpv
        cases fl
        · rw [if_neg (by simp)] at hE
          clear hM4
          go_wp2
          go_ret3
          exact ⟨by rw [hE.out]; rfl, below_drewV hb04.out⟩
        · cases bt
          · rw [if_pos (by simp)] at hE
            skip
            go_wp2_with (go_at_call 51; refine hM4.out.mono ?_; rintro e w' ⟨rfl, rfl⟩)
            go_ret3
            exact ⟨by rw [hE.out]; rfl, below_drewV hb04.out⟩
          · rw [if_neg (by simp)] at hE
            skip
            go_wp2_with (go_at_call 51; refine hM4.out.mono ?_; rintro e w' ⟨rfl, rfl⟩)
            go_ret3
            exact ⟨by rw [hE.out]; rfl, below_drewV hb04.out⟩
    · rw [if_neg (by simp), if_neg hv0] at hE
      have hv0' : (vid != 0) = true := by simpa using hv0
      go_wp2_with ((with_reducible change wpList _ _ _ _ _ _); refine stop_load 85 (.tmp 9) rfl ?_)
      refine hide (wpList_load_row rfl 85 (.tmp 9) rfl B rfl 85 _ (0, 0) _ h3.out Tryd.underlying85 rfl (pvSize ⟨ac, pv, pc, fl⟩) ?_)
      go_wp2_with fail
      refine (hT.out true w3).mono ?_
      rintro e w4 ⟨rfl, hb4⟩
      replace p0 := hide p0
      have y12 := x12; have y13 := x13; have y15 := x15; have r1 := p1; have r2 := p2; have r3 := p3
      rw [← (bcell' hb4 (show w.heap.size < w3.heap.size by have := hb03.out.size; have := (Array.getElem?_eq_some_iff.1 hrow3.out).1; omega)) 12] at y12
      rw [← (bcell' hb4 (show w.heap.size < w3.heap.size by have := (Array.getElem?_eq_some_iff.1 hrow3.out).1; omega)) 13] at y13
      rw [← (bcell' hb4 (show w.heap.size < w3.heap.size by have := (Array.getElem?_eq_some_iff.1 hrow3.out).1; omega)) 15] at y15
      rw [← (bcell' hb4 (show B < w3.heap.size by have := (Array.getElem?_eq_some_iff.1 h3.out).1; omega)) 1] at r1
      rw [← (bcell' hb4 (show B < w3.heap.size by have := (Array.getElem?_eq_some_iff.1 h3.out).1; omega)) 2] at r2
      rw [← (bcell' hb4 (show B < w3.heap.size by have := (Array.getElem?_eq_some_iff.1 h3.out).1; omega)) 3] at r3
      have hb04 := hide (hb03.out.later hb4)
      clear x12 x13 x15 p1 p2 p3 p0 h3 hrow3 hb3 hb03 hT hb4
      have hM4 := hide (hMem.out w4.drew (below_drewV hb04.out) vid hv)
      clear hMem
      generalize tk true = tkv at *
      cases tkv
      · rw [if_neg (by simp)] at hE
        clear hM4
        go_wp2
        go_ret3
        exact ⟨by rw [hE.out]; rfl, hb04.out⟩
      · rw [if_pos rfl] at hE
        generalize bitAt (memN f vid) k = bt at *
        go_wp2_with fail
        refine wp_region_noPanic ?_
        refine wp_region_held_drew (S := fun W => W.cell? ⟨B, 1, none⟩ = some (.int .i64 pv) ∧ W.cell? ⟨B, 2, none⟩ = some (.int .i64 pc)) (by kernel_rfl) ⟨r1, r2⟩ (fun hHeld => ?_)
        refine wpAnyH_take (i := 0) (oi := { dst := some 35, op := Op.fieldAddr 85 (Operand.tmp 9) 1, type := 0, pos := "vlan.go:121", after := #[], guard := none }) (v := ?v13) rfl (by kernel_rfl) (by kernel_rfl) (by kernel_rfl) (fun _ _ _ h => h) (Or.inl ⟨by rfl, ?y13⟩) (by assumption) ?r13
        case y13 => (intro w hSw; (try dsimp only at hSw); (try (go_split_ands)); go_simp; try with_reducible rfl)
        try simp only [Act.put, List.setIfInBounds_toArray, List.set_cons_zero, List.set_cons_succ]
        refine wpAnyH_take (i := 1) (oi := { dst := some 36, op := Op.load 3 (Operand.tmp 35), type := 3, pos := "vlan.go:121", after := #[{ on := 0, ground := Ground.data }], guard := none }) (v := ?v14) rfl (by kernel_rfl) (by kernel_rfl) (by kernel_rfl) (fun _ _ _ h => h) (Or.inl ⟨by rfl, ?y14⟩) (by assumption) ?r14
        case y14 => (intro w hSw; (try dsimp only at hSw); (try (go_split_ands)); go_simp; try with_reducible rfl)
        try simp only [Act.put, List.setIfInBounds_toArray, List.set_cons_zero, List.set_cons_succ]
        refine wpAnyH_take (i := 2) (oi := { dst := some 37, op := Op.fieldAddr 85 (Operand.tmp 9) 2, type := 0, pos := "vlan.go:121", after := #[{ on := 4, ground := Ground.gcOnly Departure.lateStores }], guard := none }) (v := ?v15) rfl (by kernel_rfl) (by kernel_rfl) (by kernel_rfl) (fun _ _ _ h => h) (Or.inl ⟨by rfl, ?y15⟩) (by assumption) ?r15
        case y15 => (intro w hSw; (try dsimp only at hSw); (try (go_split_ands)); go_simp; try with_reducible rfl)
        try simp only [Act.put, List.setIfInBounds_toArray, List.set_cons_zero, List.set_cons_succ]
        refine wpAnyH_take (i := 3) (oi := { dst := some 38, op := Op.load 3 (Operand.tmp 37), type := 3, pos := "vlan.go:121", after := #[{ on := 2, ground := Ground.data }, { on := 4, ground := Ground.gcOnly Departure.lateStores }], guard := none }) (v := ?v16) rfl (by kernel_rfl) (by kernel_rfl) (by kernel_rfl) (fun _ _ _ h => h) (Or.inl ⟨by rfl, ?y16⟩) (by assumption) ?r16
        case y16 => (intro w hSw; (try dsimp only at hSw); (try (go_split_ands)); go_simp; try with_reducible rfl)
        try simp only [Act.put, List.setIfInBounds_toArray, List.set_cons_zero, List.set_cons_succ]
        refine wpAnyH_take (i := 4) (oi := { dst := some 11, op := Op.assign (Operand.tmp 36), type := 3, pos := "vlan.go:121", after := #[{ on := 1, ground := Ground.data }, { on := 0, ground := Ground.phase }, { on := 1, ground := Ground.phase }, { on := 2, ground := Ground.textOnly Departure.lateStores }, { on := 3, ground := Ground.textOnly Departure.lateStores }], guard := none }) (v := ?v17) rfl (by kernel_rfl) (by kernel_rfl) (by kernel_rfl) (fun _ _ _ h => h) (Or.inl ⟨by rfl, ?y17⟩) (by assumption) ?r17
        case y17 => (intro w hSw; (try dsimp only at hSw); (try (go_split_ands)); go_simp; try with_reducible rfl)
        try simp only [Act.put, List.setIfInBounds_toArray, List.set_cons_zero, List.set_cons_succ]
        refine wpAnyH_take (i := 5) (oi := { dst := some 12, op := Op.assign (Operand.tmp 38), type := 3, pos := "vlan.go:121", after := #[{ on := 3, ground := Ground.data }, { on := 4, ground := Ground.chain }, { on := 0, ground := Ground.phase }, { on := 1, ground := Ground.phase }, { on := 2, ground := Ground.phase }, { on := 3, ground := Ground.phase }, { on := 4, ground := Ground.phase }], guard := none }) (v := ?v18) rfl (by kernel_rfl) (by kernel_rfl) (by kernel_rfl) (fun _ _ _ h => h) (Or.inl ⟨by rfl, ?y18⟩) (by assumption) ?r18
        case y18 => (intro w hSw; (try dsimp only at hSw); (try (go_split_ands)); go_simp; try with_reducible rfl)
        try simp only [Act.put, List.setIfInBounds_toArray, List.set_cons_zero, List.set_cons_succ]
        refine wpAnyH_done (by kernel_rfl) ?_ _
        refine NoPanic.normal ?_
        have y12d : w4.drew.cell? ⟨w.heap.size, 12, none⟩ = _ := y12
        have y13d : w4.drew.cell? ⟨w.heap.size, 13, none⟩ = _ := y13
        have y15d : w4.drew.cell? ⟨w.heap.size, 15, none⟩ = _ := y15
        have r3d : w4.drew.cell? ⟨B, 3, none⟩ = _ := r3
        clear y12 y13 y15 r1 r2 r3 hHeld
        clear hv hpv hv0 hv0'
        cases fl
        · rw [if_neg (by simp)] at hE
          clear hM4
          go_wp2
          go_ret3
          exact ⟨by rw [hE.out]; rfl, below_drewV hb04.out⟩
        · cases bt
          · rw [if_pos (by simp)] at hE
            skip
            go_wp2_with (go_at_call 51; refine hM4.out.mono ?_; rintro e w' ⟨rfl, rfl⟩)
            go_ret3
            exact ⟨by rw [hE.out]; rfl, below_drewV hb04.out⟩
          · rw [if_neg (by simp)] at hE
            skip
            go_wp2_with (go_at_call 51; refine hM4.out.mono ?_; rintro e w' ⟨rfl, rfl⟩)
            go_ret3
            exact ⟨by rw [hE.out]; rfl, below_drewV hb04.out⟩
end
end Go.Proofs.YtiahiakllpjliaaDoor

/-
  The head of layer 11's statements (tells). Conditions: those that each theorem names.
-/
namespace Go.Proofs.YtiahiakllpjliaaDoor
open Go.RowKit Go.Maps
set_option linter.unusedVariables false
set_option maxRecDepth 20000

@[reducible] def hdrA (tg : Bool) (pcp vid : Int) : Array Value := #[.int .u8 0, .int .u8 0, .int .u8 0, .int .u8 0, .int .u8 0, .int .u8 0, .int .u8 0, .int .u8 0, .int .u8 0, .int .u8 0, .int .u8 0, .int .u8 0, .bool tg, .int .i64 pcp, .bool false, .int .i64 vid, .int .i64 0, .bool false]
theorem hdr_is (tg : Bool) (pcp vid : Int) : HdIs (hdrA tg pcp vid) tg pcp vid := ⟨rfl, by simp [Value.oneCell'], rfl, rfl, rfl⟩
/-- Classify at a header of a tag alone. -/
theorem Class_hdr {w : World} {g pb mb c : Nat} {ps : List Pv} {f : Int → Option (Int × Int)} (h : Vt w g pb mb ps f c) (i : Int) (tg : Bool) (pcp vid : Int) (hv : I64G vid) (hp : ∀ p ∈ ps, I64G p.pvid) (v q e : Int) (hE : classN ps f i tg pcp vid = (v, q, e)) :
    Calls Tryd.prog 40 #[.pointer (some ⟨g, 0, none⟩), .int .i64 i, .agg (hdrA tg pcp vid)] w fun r w' => r = .returned (.tuple #[.int .i64 v, .int .i64 q, .int .i64 e]) ∧ Below w.heap.size w w' := by
  have := Class_any h i (hdrA tg pcp vid) tg pcp vid (hdr_is tg pcp vid) hv hp
  rw [hE] at this
  exact this
end Go.Proofs.YtiahiakllpjliaaDoor
