/-
  Contract of gate's State. Conditions: those that each theorem names.
-/
import Derived.Test.YtmacdghkbmjdmaaGt4
namespace Go.Proofs.Ytmacdghkbmjdmaa
open Go.RowKit
set_option linter.unusedVariables false
set_option maxRecDepth 20000

/-- The set of classes at a time. -/
def stateN (L : Ls) (t : Int) : Int := if t < L.base then 255 else ((findL L.cyc (fun q => decide (intoN L t < q.e)) 0 L.es).getD Pi.zero).op
set_option maxHeartbeats 4000000 in
theorem State_any {L : Ls} {a : Option Addr} {cap : Nat} {w : World} (hE : Ent w a L.es) (hm : L.may = true) (t : Int) (ht2 : t ≤ 9223372036854775807) :
    Calls Try.prog 23 #[.agg (lRow L a L.es.length cap), .int .i64 t] w fun r w' => r = .returned (.int .i64 (stateN L t)) ∧ Below w.heap.size w w' := by
  have hb1 := below1 w (.cells (lRow L a L.es.length cap) 47)
  have hr1 := heap_alloc_new w (.cells (lRow L a L.es.length cap) 47)
  obtain ⟨-, ⟨a1, a2⟩, ⟨y1, y2⟩, -, -⟩ := L.may_iff.1 hm
  have hV : Hid (stateN L t = if t < L.base then 255 else ((findL L.cyc (fun q => decide (intoN L t < q.e)) 0 L.es).getD Pi.zero).op) := rfl
  generalize stateN L t = V at *
  have hz := lSize L a L.es.length cap
  by_cases hlt : t < L.base
  · rw [if_pos hlt] at hV
    obtain rfl : V = 255 := hV.out
    have c0 : (w.alloc (.cells (lRow L a L.es.length cap) 47)).cell? ⟨w.heap.size, 0, none⟩ = some (.int .i64 L.base) := (cell_of_row _ _ _ _ _ _ hr1).trans rfl
    generalize lRow L a L.es.length cap = R at *
    generalize L.base = ba at *
    replace hb1 := hide hb1
    clear hr1 hV hE
    go_enter Try.func23, Try.ntmps23
    go_wp2
    go_ret
    exact ⟨rfl, hb1.out⟩
  rw [if_neg hlt] at hV
  have c0 : (w.alloc (.cells (lRow L a L.es.length cap) 47)).cell? ⟨w.heap.size, 0, none⟩ = some (.int .i64 L.base) := (cell_of_row _ _ _ _ _ _ hr1).trans rfl
  have hin := hide (fun w => into_any L a L.es.length cap t w ⟨y1, y2⟩ a1 (by omega) ht2)
  have hfi : Hid (∀ w', Below w.heap.size w w' → ∀ c, w'.cell? ⟨c, 0, none⟩ = some (.int .i64 (intoN L t)) → Calls Try.prog 36 #[.agg (lRow L a L.es.length cap), .func (.func 49) #[] #[.pointer (some ⟨c, 0, none⟩)]] w' fun r w'' => r = .returned (.tuple #[.agg (fPi ((findL L.cyc (fun q => decide (intoN L t < q.e)) 0 L.es).getD Pi.zero)).toArray, .bool (findL L.cyc (fun q => decide (intoN L t < q.e)) 0 L.es).isSome]) ∧ Below w'.heap.size w' w'') :=
    fun w' hb c hc => Find_any (hE.below hb (fun _ => by simp)) hm ⟨(goes_cl hc).1, fun w'' h q _ => (goes_cl hc).2 w'' h q trivial⟩
  generalize intoN L t = at0 at *
  generalize findL L.cyc (fun q => decide (at0 < q.e)) 0 L.es = FO at *
  generalize FO.isSome = fb at *
  generalize FO.getD Pi.zero = fq at *
  generalize hR : lRow L a L.es.length cap = R at *
  clear hR hE hm
  replace hr1 := hide hr1
  replace hb1 := hide hb1
  have hgl : Hid (w.heap.size < (w.alloc (.cells R 47)).heap.size) := by rw [World.size_alloc]; exact Nat.lt_succ_self _
  generalize L.base = ba at *
  go_enter Try.func23, Try.ntmps23
  go_wp2_with fail
  generalize w.alloc (.cells R 47) = w1 at *
  clear c0
  have hS : Hid (w1.drew.heap[w.heap.size]? = some (.cells R 47 (0, 0))) := hr1.out
  have hB : Hid (Below w.heap.size w w1.drew) := below_drewN hb1.out 1
  have hgt : Hid (w.heap.size < w1.drew.heap.size) := hgl.out
  clear hr1 hb1 hgl
  refine wp_region_noPanic ?_
  refine wp_region_held_drew (S := fun W => W.heap[w.heap.size]? = some (.cells R 47 (0, 0))) (by kernel_rfl) hS.out (fun hHeld => ?_)
  refine wpAnyH_take (i := 0) (oi := { dst := some 12, op := Op.load 47 (Operand.tmp 2), type := 47, pos := "gate.go:54", after := #[], guard := none }) (v := _) rfl (by kernel_rfl) (by kernel_rfl) (by kernel_rfl) (fun _ _ _ h => h) (yieldsIf_load_row rfl 47 (.tmp 2) rfl w.heap.size rfl 47 _ _ _ (fun _ h => h) Try.underlying47 rfl hz) (by assumption) ?_
  try simp only [Act.put, List.setIfInBounds_toArray, List.set_cons_zero, List.set_cons_succ]
  refine wpAnyH_take (i := 1) (oi := { dst := some 13, op := Op.load 47 (Operand.tmp 2), type := 47, pos := "gate.go:54", after := #[], guard := none }) (v := _) rfl (by kernel_rfl) (by kernel_rfl) (by kernel_rfl) (fun _ _ _ h => h) (yieldsIf_load_row rfl 47 (.tmp 2) rfl w.heap.size rfl 47 _ _ _ (fun _ h => h) Try.underlying47 rfl hz) (by assumption) ?_
  try simp only [Act.put, List.setIfInBounds_toArray, List.set_cons_zero, List.set_cons_succ]
  refine wpAnyH_take (i := 2) (oi := { dst := some 14, op := Op.move (Operand.tmp 1), type := 2, pos := "gate.go:54", after := #[], guard := none }) (v := ?v1) rfl (by kernel_rfl) (by kernel_rfl) (by kernel_rfl) (fun _ _ _ h => h) (Or.inl ⟨by rfl, ?y1⟩) (by assumption) ?r1
  case y1 => (intro w hSw; (try dsimp only at hSw); (try (go_split_ands)); go_simp; try with_reducible rfl)
  try simp only [Act.put, List.setIfInBounds_toArray, List.set_cons_zero, List.set_cons_succ]
  generalize w1.drew = w2 at *
  clear hHeld w1
  refine wpAnyH_ready (rs := [3, 9]) (by kernel_rfl) (by simp) ?_
  refine AllReadyH.cons (o := { dst := some 15, op := Op.call { callee := Callee.value (Operand.func 38), args := #[Operand.tmp 13, Operand.tmp 14], argTypes := #[47, 2] }, type := 2, pos := "gate.go:54", after := #[{ on := 1, ground := Ground.data }, { on := 2, ground := Ground.data }], guard := none }) rfl (fun K hK => ?_) (AllReadyH.cons (o := { dst := some 5, op := Op.alloc 69, type := 0, pos := "gate.go:54", after := #[], guard := none }) rfl (fun K hK => ?_) AllReadyH.nil)
  · go_simp
    refine (hin.out _).mono ?_
    rintro _ v1 ⟨rfl, hbx⟩
    have hBn := hide (hB.out.trans (hbx.mono hB.out.size))
    have hSn := hide (heap_kept hbx hS.out)
    have hgn : Hid (w.heap.size < v1.heap.size) := Nat.lt_of_lt_of_le hgt.out hbx.size
    clear hB hS hgt hbx
    have hB := hBn
    have hS := hSn
    have hgt := hgn
    clear hBn hSn hgn
    go_wp2_with fail
    refine hK.out _ _ ?_ (fun hHeld3 => ?_)
    · exact hS.out
    clear hK K
    try simp only [Act.put, List.setIfInBounds_toArray, List.set_cons_zero, List.set_cons_succ]
    clear hHeld3
    refine wpAnyH_ready (rs := [4, 9]) (by kernel_rfl) (by simp) ?_
    refine AllReadyH.cons (o := { dst := some 16, op := Op.call { callee := Callee.value (Operand.func 37), args := #[Operand.tmp 15], argTypes := #[2] }, type := 72, pos := "gate.go:54", after := #[{ on := 3, ground := Ground.data }, { on := 3, ground := Ground.chain }], guard := none }) rfl (fun K hK => ?_) (AllReadyH.cons (o := { dst := some 5, op := Op.alloc 69, type := 0, pos := "gate.go:54", after := #[], guard := none }) rfl (fun K hK => ?_) AllReadyH.nil)
    · go_simp
      refine (goesOn_any at0 _).mono ?_
      rintro _ v2 ⟨c, rfl, hcx, hbx⟩
      have hBn := hide (hB.out.trans (hbx.mono hB.out.size))
      have hSn := hide (heap_kept hbx hS.out)
      have hgn : Hid (w.heap.size < v2.heap.size) := Nat.lt_of_lt_of_le hgt.out hbx.size
      have cc := hide hcx
      clear hcx
      clear hB hS hgt hbx
      have hB := hBn
      have hS := hSn
      have hgt := hgn
      clear hBn hSn hgn
      go_wp2_with fail
      refine hK.out _ _ ?_ (fun hHeld4 => ?_)
      · exact hS.out
      clear hK K
      try simp only [Act.put, List.setIfInBounds_toArray, List.set_cons_zero, List.set_cons_succ]
      clear hHeld4
      refine wpAnyH_ready (rs := [5, 9]) (by kernel_rfl) (by simp) ?_
      refine AllReadyH.cons (o := { dst := some 17, op := Op.call { callee := Callee.value (Operand.func 36), args := #[Operand.tmp 12, Operand.tmp 16], argTypes := #[47, 72] }, type := 70, pos := "gate.go:54", after := #[{ on := 0, ground := Ground.data }, { on := 4, ground := Ground.data }, { on := 4, ground := Ground.chain }], guard := none }) rfl (fun K hK => ?_) (AllReadyH.cons (o := { dst := some 5, op := Op.alloc 69, type := 0, pos := "gate.go:54", after := #[], guard := none }) rfl (fun K hK => ?_) AllReadyH.nil)
      · go_simp
        refine (hfi.out v2 hB.out c cc.out).mono ?_
        rintro _ v3 ⟨rfl, hbx⟩
        have hBn := hide (hB.out.trans (hbx.mono hB.out.size))
        have hSn := hide (heap_kept hbx hS.out)
        have hgn : Hid (w.heap.size < v3.heap.size) := Nat.lt_of_lt_of_le hgt.out hbx.size
        clear cc
        clear hB hS hgt hbx
        have hB := hBn
        have hS := hSn
        have hgt := hgn
        clear hBn hSn hgn
        go_wp2_with fail
        refine hK.out _ _ ?_ (fun hHeld5 => ?_)
        · exact hS.out
        clear hK K
        try simp only [Act.put, List.setIfInBounds_toArray, List.set_cons_zero, List.set_cons_succ]
        clear hHeld5
        refine wpAnyH_take (i := 6) (oi := { dst := some 11, op := Op.move (Operand.tmp 17), type := 70, pos := "gate.go:54", after := #[{ on := 5, ground := Ground.data }], guard := none }) (v := ?v2) rfl (by kernel_rfl) (by kernel_rfl) (by kernel_rfl) (fun _ _ _ h => h) (Or.inl ⟨by rfl, ?y2⟩) (by assumption) ?r2
        case y2 => (intro w hSw; (try dsimp only at hSw); (try (go_split_ands)); go_simp; try with_reducible rfl)
        try simp only [Act.put, List.setIfInBounds_toArray, List.set_cons_zero, List.set_cons_succ]
        refine wpAnyH_take (i := 7) (oi := { dst := some 18, op := Op.extract (Operand.tmp 11) 0, type := 69, pos := "gate.go:54", after := #[{ on := 6, ground := Ground.data }], guard := none }) (v := ?v3) rfl (by kernel_rfl) (by kernel_rfl) (by kernel_rfl) (fun _ _ _ h => h) (Or.inl ⟨by rfl, ?y3⟩) (by assumption) ?r3
        case y3 => (intro w hSw; (try dsimp only at hSw); (try (go_split_ands)); go_simp; try with_reducible rfl)
        try simp only [Act.put, List.setIfInBounds_toArray, List.set_cons_zero, List.set_cons_succ]
        refine wpAnyH_take (i := 8) (oi := { dst := some 19, op := Op.extract (Operand.tmp 11) 1, type := 4, pos := "gate.go:54", after := #[{ on := 6, ground := Ground.data }, { on := 10, ground := Ground.gcOnly Departure.lateStores }], guard := none }) (v := ?v4) rfl (by kernel_rfl) (by kernel_rfl) (by kernel_rfl) (fun _ _ _ h => h) (Or.inl ⟨by rfl, ?y4⟩) (by assumption) ?r4
        case y4 => (intro w hSw; (try dsimp only at hSw); (try (go_split_ands)); go_simp; try with_reducible rfl)
        try simp only [Act.put, List.setIfInBounds_toArray, List.set_cons_zero, List.set_cons_succ]
        refine wpAnyH_ready (rs := [9]) (by kernel_rfl) (by simp) ?_
        refine AllReadyH.cons (o := { dst := some 5, op := Op.alloc 69, type := 0, pos := "gate.go:54", after := #[], guard := none }) rfl (fun K hK => ?_) AllReadyH.nil
        go_simp
        have hZn := hide (heap_alloc_new v3 (.cells (fPi Pi.zero).toArray 69))
        have hSn : Hid ((v3.alloc (.cells (fPi Pi.zero).toArray 69)).heap[w.heap.size]? = some (.cells R 47 (0, 0))) := heap_kept (below1 _ _) hS.out
        have hBn := hide (hB.out.later ((below1 v3 (.cells (fPi Pi.zero).toArray 69)).mono (Nat.le_refl _)))
        have hEg : Hid (w.heap.size ≤ v3.heap.size ∧ v3.heap.size ≠ w.heap.size) := ⟨hB.out.size, by have := hgt.out; omega⟩
        have hgn : Hid (w.heap.size < (v3.alloc (.cells (fPi Pi.zero).toArray 69)).heap.size) := Nat.lt_of_lt_of_le hgt.out (below1 v3 _).size
        refine hK.out _ _ hSn.out (fun hHeld => ?_)
        clear hK K
        try simp only [Act.put]
        clear hB hS hgt
        have hB := hBn
        have hS := hSn
        have hZ := hZn
        have hgt := hgn
        clear hBn hSn hZn hgn hHeld
        generalize v3.alloc (.cells (fPi Pi.zero).toArray 69) = wa at *
        generalize v3.heap.size = E at *
        refine wpAnyH_ready (rs := [10]) (by kernel_rfl) (by simp) ?_
        refine AllReadyH.cons (o := { dst := none, op := Op.store 69 (Operand.tmp 5) (Operand.tmp 18), type := 0, pos := "gate.go:54", after := #[{ on := 9, ground := Ground.data }, { on := 7, ground := Ground.data }, { on := 5, ground := Ground.chain }, { on := 0, ground := Ground.phase }, { on := 1, ground := Ground.phase }, { on := 2, ground := Ground.phase }, { on := 3, ground := Ground.phase }, { on := 4, ground := Ground.phase }, { on := 5, ground := Ground.phase }, { on := 6, ground := Ground.phase }, { on := 7, ground := Ground.phase }, { on := 8, ground := Ground.textOnly Departure.lateStores }, { on := 9, ground := Ground.phase }], guard := none }) rfl (fun K hK => ?_) AllReadyH.nil
        refine step_store_row rfl 69 (.tmp 5) (.tmp 18) rfl E (fPi fq).toArray rfl rfl 69 _ hZ.out (piSize _) rfl (pi_all _) ?_
        have hEge : Hid (w.heap.size ≤ E ∧ E ≠ w.heap.size) := hEg
        have hB9 := hide (below_setRow hB.out hEge.out.1 (fPi fq).toArray)
        have hZ9 := hide (setRow_heap wa E _ (fPi fq).toArray 69 _ hZ.out)
        have hS9 : Hid ((wa.setRow E (fPi fq).toArray).heap[w.heap.size]? = some (.cells R 47 (0, 0))) := (Go.setRow_other wa E w.heap.size (fPi fq).toArray (fun e => hEge.out.2 e.symm)).trans hS.out
        clear hB hS hZ hEg
        refine hK.out _ _ hS9.out (fun hHeld => ?_)
        clear hK K
        try simp only [Act.put]
        generalize wa.setRow E (fPi fq).toArray = wz at *
        refine wpAnyH_take (i := 11) (oi := { dst := some 6, op := Op.assign (Operand.tmp 19), type := 4, pos := "gate.go:54", after := #[{ on := 8, ground := Ground.data }, { on := 10, ground := Ground.chain }, { on := 0, ground := Ground.phase }, { on := 1, ground := Ground.phase }, { on := 2, ground := Ground.phase }, { on := 3, ground := Ground.phase }, { on := 4, ground := Ground.phase }, { on := 5, ground := Ground.phase }, { on := 6, ground := Ground.phase }, { on := 7, ground := Ground.phase }, { on := 8, ground := Ground.phase }, { on := 9, ground := Ground.phase }, { on := 10, ground := Ground.phase }], guard := none }) (v := ?v5) rfl (by kernel_rfl) (by kernel_rfl) (by kernel_rfl) (fun _ _ _ h => h) (Or.inl ⟨by rfl, ?y5⟩) (by assumption) ?r5
        case y5 => (intro w hSw; (try dsimp only at hSw); (try (go_split_ands)); go_simp; try with_reducible rfl)
        try simp only [Act.put, List.setIfInBounds_toArray, List.set_cons_zero, List.set_cons_succ]
        refine wpAnyH_done (by kernel_rfl) ?_ _
        refine NoPanic.normal ?_
        clear hHeld hS9
        have c2 : wz.cell? ⟨E, 2, none⟩ = some (.int .i64 fq.op) := (cell_of_row _ _ _ _ _ _ hZ9.out).trans rfl
        clear hZ9
        generalize fq.op = fo at *
        go_wp2
        go_ret
        exact ⟨ret_i64 (by rw [hV.out]), hB9.out⟩
      · go_simp
        have hZn := hide (heap_alloc_new v2 (.cells (fPi Pi.zero).toArray 69))
        have hSn : Hid ((v2.alloc (.cells (fPi Pi.zero).toArray 69)).heap[w.heap.size]? = some (.cells R 47 (0, 0))) := heap_kept (below1 _ _) hS.out
        have hBn := hide (hB.out.later ((below1 v2 (.cells (fPi Pi.zero).toArray 69)).mono (Nat.le_refl _)))
        have hEg : Hid (w.heap.size ≤ v2.heap.size ∧ v2.heap.size ≠ w.heap.size) := ⟨hB.out.size, by have := hgt.out; omega⟩
        have hgn : Hid (w.heap.size < (v2.alloc (.cells (fPi Pi.zero).toArray 69)).heap.size) := Nat.lt_of_lt_of_le hgt.out (below1 v2 _).size
        have ccn : Hid ((v2.alloc (.cells (fPi Pi.zero).toArray 69)).cell? ⟨c, 0, none⟩ = some (.int .i64 at0)) := ((below1 v2 _).cell (p := ⟨c, 0, none⟩) (block_lt_of_cell cc.out)).trans cc.out
        clear cc
        refine hK.out _ _ hSn.out (fun hHeld => ?_)
        clear hK K
        try simp only [Act.put]
        clear hB hS hgt
        have hB := hBn
        have hS := hSn
        have hZ := hZn
        have hgt := hgn
        clear hBn hSn hZn hgn hHeld
        have cc := ccn
        clear ccn
        generalize v2.alloc (.cells (fPi Pi.zero).toArray 69) = wa at *
        generalize v2.heap.size = E at *
        refine wpAnyH_ready (rs := [5]) (by kernel_rfl) (by simp) ?_
        refine AllReadyH.cons (o := { dst := some 17, op := Op.call { callee := Callee.value (Operand.func 36), args := #[Operand.tmp 12, Operand.tmp 16], argTypes := #[47, 72] }, type := 70, pos := "gate.go:54", after := #[{ on := 0, ground := Ground.data }, { on := 4, ground := Ground.data }, { on := 4, ground := Ground.chain }], guard := none }) rfl (fun K hK => ?_) AllReadyH.nil
        go_simp
        refine (hfi.out wa hB.out c cc.out).mono ?_
        rintro _ v4 ⟨rfl, hbx⟩
        have hBn := hide (hB.out.trans (hbx.mono hB.out.size))
        have hSn := hide (heap_kept hbx hS.out)
        have hgn : Hid (w.heap.size < v4.heap.size) := Nat.lt_of_lt_of_le hgt.out hbx.size
        have hZn := hide (heap_kept hbx hZ.out)
        clear hZ
        have hZ := hZn
        clear hZn
        clear cc
        clear hB hS hgt hbx
        have hB := hBn
        have hS := hSn
        have hgt := hgn
        clear hBn hSn hgn
        go_wp2_with fail
        refine hK.out _ _ ?_ (fun hHeld5 => ?_)
        · exact hS.out
        clear hK K
        try simp only [Act.put, List.setIfInBounds_toArray, List.set_cons_zero, List.set_cons_succ]
        clear hHeld5
        refine wpAnyH_take (i := 6) (oi := { dst := some 11, op := Op.move (Operand.tmp 17), type := 70, pos := "gate.go:54", after := #[{ on := 5, ground := Ground.data }], guard := none }) (v := ?v6) rfl (by kernel_rfl) (by kernel_rfl) (by kernel_rfl) (fun _ _ _ h => h) (Or.inl ⟨by rfl, ?y6⟩) (by assumption) ?r6
        case y6 => (intro w hSw; (try dsimp only at hSw); (try (go_split_ands)); go_simp; try with_reducible rfl)
        try simp only [Act.put, List.setIfInBounds_toArray, List.set_cons_zero, List.set_cons_succ]
        refine wpAnyH_take (i := 7) (oi := { dst := some 18, op := Op.extract (Operand.tmp 11) 0, type := 69, pos := "gate.go:54", after := #[{ on := 6, ground := Ground.data }], guard := none }) (v := ?v7) rfl (by kernel_rfl) (by kernel_rfl) (by kernel_rfl) (fun _ _ _ h => h) (Or.inl ⟨by rfl, ?y7⟩) (by assumption) ?r7
        case y7 => (intro w hSw; (try dsimp only at hSw); (try (go_split_ands)); go_simp; try with_reducible rfl)
        try simp only [Act.put, List.setIfInBounds_toArray, List.set_cons_zero, List.set_cons_succ]
        refine wpAnyH_take (i := 8) (oi := { dst := some 19, op := Op.extract (Operand.tmp 11) 1, type := 4, pos := "gate.go:54", after := #[{ on := 6, ground := Ground.data }, { on := 10, ground := Ground.gcOnly Departure.lateStores }], guard := none }) (v := ?v8) rfl (by kernel_rfl) (by kernel_rfl) (by kernel_rfl) (fun _ _ _ h => h) (Or.inl ⟨by rfl, ?y8⟩) (by assumption) ?r8
        case y8 => (intro w hSw; (try dsimp only at hSw); (try (go_split_ands)); go_simp; try with_reducible rfl)
        try simp only [Act.put, List.setIfInBounds_toArray, List.set_cons_zero, List.set_cons_succ]
        refine wpAnyH_ready (rs := [10]) (by kernel_rfl) (by simp) ?_
        refine AllReadyH.cons (o := { dst := none, op := Op.store 69 (Operand.tmp 5) (Operand.tmp 18), type := 0, pos := "gate.go:54", after := #[{ on := 9, ground := Ground.data }, { on := 7, ground := Ground.data }, { on := 5, ground := Ground.chain }, { on := 0, ground := Ground.phase }, { on := 1, ground := Ground.phase }, { on := 2, ground := Ground.phase }, { on := 3, ground := Ground.phase }, { on := 4, ground := Ground.phase }, { on := 5, ground := Ground.phase }, { on := 6, ground := Ground.phase }, { on := 7, ground := Ground.phase }, { on := 8, ground := Ground.textOnly Departure.lateStores }, { on := 9, ground := Ground.phase }], guard := none }) rfl (fun K hK => ?_) AllReadyH.nil
        refine step_store_row rfl 69 (.tmp 5) (.tmp 18) rfl E (fPi fq).toArray rfl rfl 69 _ hZ.out (piSize _) rfl (pi_all _) ?_
        have hEge : Hid (w.heap.size ≤ E ∧ E ≠ w.heap.size) := hEg
        have hB9 := hide (below_setRow hB.out hEge.out.1 (fPi fq).toArray)
        have hZ9 := hide (setRow_heap v4 E _ (fPi fq).toArray 69 _ hZ.out)
        have hS9 : Hid ((v4.setRow E (fPi fq).toArray).heap[w.heap.size]? = some (.cells R 47 (0, 0))) := (Go.setRow_other v4 E w.heap.size (fPi fq).toArray (fun e => hEge.out.2 e.symm)).trans hS.out
        clear hB hS hZ hEg
        refine hK.out _ _ hS9.out (fun hHeld => ?_)
        clear hK K
        try simp only [Act.put]
        generalize v4.setRow E (fPi fq).toArray = wz at *
        refine wpAnyH_take (i := 11) (oi := { dst := some 6, op := Op.assign (Operand.tmp 19), type := 4, pos := "gate.go:54", after := #[{ on := 8, ground := Ground.data }, { on := 10, ground := Ground.chain }, { on := 0, ground := Ground.phase }, { on := 1, ground := Ground.phase }, { on := 2, ground := Ground.phase }, { on := 3, ground := Ground.phase }, { on := 4, ground := Ground.phase }, { on := 5, ground := Ground.phase }, { on := 6, ground := Ground.phase }, { on := 7, ground := Ground.phase }, { on := 8, ground := Ground.phase }, { on := 9, ground := Ground.phase }, { on := 10, ground := Ground.phase }], guard := none }) (v := ?v9) rfl (by kernel_rfl) (by kernel_rfl) (by kernel_rfl) (fun _ _ _ h => h) (Or.inl ⟨by rfl, ?y9⟩) (by assumption) ?r9
        case y9 => (intro w hSw; (try dsimp only at hSw); (try (go_split_ands)); go_simp; try with_reducible rfl)
        try simp only [Act.put, List.setIfInBounds_toArray, List.set_cons_zero, List.set_cons_succ]
        refine wpAnyH_done (by kernel_rfl) ?_ _
        refine NoPanic.normal ?_
        clear hHeld hS9
        have c2 : wz.cell? ⟨E, 2, none⟩ = some (.int .i64 fq.op) := (cell_of_row _ _ _ _ _ _ hZ9.out).trans rfl
        clear hZ9
        generalize fq.op = fo at *
        go_wp2
        go_ret
        exact ⟨ret_i64 (by rw [hV.out]), hB9.out⟩
    · go_simp
      have hZn := hide (heap_alloc_new v1 (.cells (fPi Pi.zero).toArray 69))
      have hSn : Hid ((v1.alloc (.cells (fPi Pi.zero).toArray 69)).heap[w.heap.size]? = some (.cells R 47 (0, 0))) := heap_kept (below1 _ _) hS.out
      have hBn := hide (hB.out.later ((below1 v1 (.cells (fPi Pi.zero).toArray 69)).mono (Nat.le_refl _)))
      have hEg : Hid (w.heap.size ≤ v1.heap.size ∧ v1.heap.size ≠ w.heap.size) := ⟨hB.out.size, by have := hgt.out; omega⟩
      have hgn : Hid (w.heap.size < (v1.alloc (.cells (fPi Pi.zero).toArray 69)).heap.size) := Nat.lt_of_lt_of_le hgt.out (below1 v1 _).size
      refine hK.out _ _ hSn.out (fun hHeld => ?_)
      clear hK K
      try simp only [Act.put]
      clear hB hS hgt
      have hB := hBn
      have hS := hSn
      have hZ := hZn
      have hgt := hgn
      clear hBn hSn hZn hgn hHeld
      generalize v1.alloc (.cells (fPi Pi.zero).toArray 69) = wa at *
      generalize v1.heap.size = E at *
      refine wpAnyH_ready (rs := [4]) (by kernel_rfl) (by simp) ?_
      refine AllReadyH.cons (o := { dst := some 16, op := Op.call { callee := Callee.value (Operand.func 37), args := #[Operand.tmp 15], argTypes := #[2] }, type := 72, pos := "gate.go:54", after := #[{ on := 3, ground := Ground.data }, { on := 3, ground := Ground.chain }], guard := none }) rfl (fun K hK => ?_) AllReadyH.nil
      go_simp
      refine (goesOn_any at0 _).mono ?_
      rintro _ v5 ⟨c, rfl, hcx, hbx⟩
      have hBn := hide (hB.out.trans (hbx.mono hB.out.size))
      have hSn := hide (heap_kept hbx hS.out)
      have hgn : Hid (w.heap.size < v5.heap.size) := Nat.lt_of_lt_of_le hgt.out hbx.size
      have cc := hide hcx
      clear hcx
      have hZn := hide (heap_kept hbx hZ.out)
      clear hZ
      have hZ := hZn
      clear hZn
      clear hB hS hgt hbx
      have hB := hBn
      have hS := hSn
      have hgt := hgn
      clear hBn hSn hgn
      go_wp2_with fail
      refine hK.out _ _ ?_ (fun hHeld4 => ?_)
      · exact hS.out
      clear hK K
      try simp only [Act.put, List.setIfInBounds_toArray, List.set_cons_zero, List.set_cons_succ]
      clear hHeld4
      refine wpAnyH_ready (rs := [5]) (by kernel_rfl) (by simp) ?_
      refine AllReadyH.cons (o := { dst := some 17, op := Op.call { callee := Callee.value (Operand.func 36), args := #[Operand.tmp 12, Operand.tmp 16], argTypes := #[47, 72] }, type := 70, pos := "gate.go:54", after := #[{ on := 0, ground := Ground.data }, { on := 4, ground := Ground.data }, { on := 4, ground := Ground.chain }], guard := none }) rfl (fun K hK => ?_) AllReadyH.nil
      go_simp
      refine (hfi.out v5 hB.out c cc.out).mono ?_
      rintro _ v6 ⟨rfl, hbx⟩
      have hBn := hide (hB.out.trans (hbx.mono hB.out.size))
      have hSn := hide (heap_kept hbx hS.out)
      have hgn : Hid (w.heap.size < v6.heap.size) := Nat.lt_of_lt_of_le hgt.out hbx.size
      have hZn := hide (heap_kept hbx hZ.out)
      clear hZ
      have hZ := hZn
      clear hZn
      clear cc
      clear hB hS hgt hbx
      have hB := hBn
      have hS := hSn
      have hgt := hgn
      clear hBn hSn hgn
      go_wp2_with fail
      refine hK.out _ _ ?_ (fun hHeld5 => ?_)
      · exact hS.out
      clear hK K
      try simp only [Act.put, List.setIfInBounds_toArray, List.set_cons_zero, List.set_cons_succ]
      clear hHeld5
      refine wpAnyH_take (i := 6) (oi := { dst := some 11, op := Op.move (Operand.tmp 17), type := 70, pos := "gate.go:54", after := #[{ on := 5, ground := Ground.data }], guard := none }) (v := ?v10) rfl (by kernel_rfl) (by kernel_rfl) (by kernel_rfl) (fun _ _ _ h => h) (Or.inl ⟨by rfl, ?y10⟩) (by assumption) ?r10
      case y10 => (intro w hSw; (try dsimp only at hSw); (try (go_split_ands)); go_simp; try with_reducible rfl)
      try simp only [Act.put, List.setIfInBounds_toArray, List.set_cons_zero, List.set_cons_succ]
      refine wpAnyH_take (i := 7) (oi := { dst := some 18, op := Op.extract (Operand.tmp 11) 0, type := 69, pos := "gate.go:54", after := #[{ on := 6, ground := Ground.data }], guard := none }) (v := ?v11) rfl (by kernel_rfl) (by kernel_rfl) (by kernel_rfl) (fun _ _ _ h => h) (Or.inl ⟨by rfl, ?y11⟩) (by assumption) ?r11
      case y11 => (intro w hSw; (try dsimp only at hSw); (try (go_split_ands)); go_simp; try with_reducible rfl)
      try simp only [Act.put, List.setIfInBounds_toArray, List.set_cons_zero, List.set_cons_succ]
      refine wpAnyH_take (i := 8) (oi := { dst := some 19, op := Op.extract (Operand.tmp 11) 1, type := 4, pos := "gate.go:54", after := #[{ on := 6, ground := Ground.data }, { on := 10, ground := Ground.gcOnly Departure.lateStores }], guard := none }) (v := ?v12) rfl (by kernel_rfl) (by kernel_rfl) (by kernel_rfl) (fun _ _ _ h => h) (Or.inl ⟨by rfl, ?y12⟩) (by assumption) ?r12
      case y12 => (intro w hSw; (try dsimp only at hSw); (try (go_split_ands)); go_simp; try with_reducible rfl)
      try simp only [Act.put, List.setIfInBounds_toArray, List.set_cons_zero, List.set_cons_succ]
      refine wpAnyH_ready (rs := [10]) (by kernel_rfl) (by simp) ?_
      refine AllReadyH.cons (o := { dst := none, op := Op.store 69 (Operand.tmp 5) (Operand.tmp 18), type := 0, pos := "gate.go:54", after := #[{ on := 9, ground := Ground.data }, { on := 7, ground := Ground.data }, { on := 5, ground := Ground.chain }, { on := 0, ground := Ground.phase }, { on := 1, ground := Ground.phase }, { on := 2, ground := Ground.phase }, { on := 3, ground := Ground.phase }, { on := 4, ground := Ground.phase }, { on := 5, ground := Ground.phase }, { on := 6, ground := Ground.phase }, { on := 7, ground := Ground.phase }, { on := 8, ground := Ground.textOnly Departure.lateStores }, { on := 9, ground := Ground.phase }], guard := none }) rfl (fun K hK => ?_) AllReadyH.nil
      refine step_store_row rfl 69 (.tmp 5) (.tmp 18) rfl E (fPi fq).toArray rfl rfl 69 _ hZ.out (piSize _) rfl (pi_all _) ?_
      have hEge : Hid (w.heap.size ≤ E ∧ E ≠ w.heap.size) := hEg
      have hB9 := hide (below_setRow hB.out hEge.out.1 (fPi fq).toArray)
      have hZ9 := hide (setRow_heap v6 E _ (fPi fq).toArray 69 _ hZ.out)
      have hS9 : Hid ((v6.setRow E (fPi fq).toArray).heap[w.heap.size]? = some (.cells R 47 (0, 0))) := (Go.setRow_other v6 E w.heap.size (fPi fq).toArray (fun e => hEge.out.2 e.symm)).trans hS.out
      clear hB hS hZ hEg
      refine hK.out _ _ hS9.out (fun hHeld => ?_)
      clear hK K
      try simp only [Act.put]
      generalize v6.setRow E (fPi fq).toArray = wz at *
      refine wpAnyH_take (i := 11) (oi := { dst := some 6, op := Op.assign (Operand.tmp 19), type := 4, pos := "gate.go:54", after := #[{ on := 8, ground := Ground.data }, { on := 10, ground := Ground.chain }, { on := 0, ground := Ground.phase }, { on := 1, ground := Ground.phase }, { on := 2, ground := Ground.phase }, { on := 3, ground := Ground.phase }, { on := 4, ground := Ground.phase }, { on := 5, ground := Ground.phase }, { on := 6, ground := Ground.phase }, { on := 7, ground := Ground.phase }, { on := 8, ground := Ground.phase }, { on := 9, ground := Ground.phase }, { on := 10, ground := Ground.phase }], guard := none }) (v := ?v13) rfl (by kernel_rfl) (by kernel_rfl) (by kernel_rfl) (fun _ _ _ h => h) (Or.inl ⟨by rfl, ?y13⟩) (by assumption) ?r13
      case y13 => (intro w hSw; (try dsimp only at hSw); (try (go_split_ands)); go_simp; try with_reducible rfl)
      try simp only [Act.put, List.setIfInBounds_toArray, List.set_cons_zero, List.set_cons_succ]
      refine wpAnyH_done (by kernel_rfl) ?_ _
      refine NoPanic.normal ?_
      clear hHeld hS9
      have c2 : wz.cell? ⟨E, 2, none⟩ = some (.int .i64 fq.op) := (cell_of_row _ _ _ _ _ _ hZ9.out).trans rfl
      clear hZ9
      generalize fq.op = fo at *
      go_wp2
      go_ret
      exact ⟨ret_i64 (by rw [hV.out]), hB9.out⟩
  · go_simp
    have hZn := hide (heap_alloc_new w2 (.cells (fPi Pi.zero).toArray 69))
    have hSn : Hid ((w2.alloc (.cells (fPi Pi.zero).toArray 69)).heap[w.heap.size]? = some (.cells R 47 (0, 0))) := heap_kept (below1 _ _) hS.out
    have hBn := hide (hB.out.later ((below1 w2 (.cells (fPi Pi.zero).toArray 69)).mono (Nat.le_refl _)))
    have hEg : Hid (w.heap.size ≤ w2.heap.size ∧ w2.heap.size ≠ w.heap.size) := ⟨hB.out.size, by have := hgt.out; omega⟩
    have hgn : Hid (w.heap.size < (w2.alloc (.cells (fPi Pi.zero).toArray 69)).heap.size) := Nat.lt_of_lt_of_le hgt.out (below1 w2 _).size
    refine hK.out _ _ hSn.out (fun hHeld => ?_)
    clear hK K
    try simp only [Act.put]
    clear hB hS hgt
    have hB := hBn
    have hS := hSn
    have hZ := hZn
    have hgt := hgn
    clear hBn hSn hZn hgn hHeld
    generalize w2.alloc (.cells (fPi Pi.zero).toArray 69) = wa at *
    generalize w2.heap.size = E at *
    refine wpAnyH_ready (rs := [3]) (by kernel_rfl) (by simp) ?_
    refine AllReadyH.cons (o := { dst := some 15, op := Op.call { callee := Callee.value (Operand.func 38), args := #[Operand.tmp 13, Operand.tmp 14], argTypes := #[47, 2] }, type := 2, pos := "gate.go:54", after := #[{ on := 1, ground := Ground.data }, { on := 2, ground := Ground.data }], guard := none }) rfl (fun K hK => ?_) AllReadyH.nil
    go_simp
    refine (hin.out _).mono ?_
    rintro _ v7 ⟨rfl, hbx⟩
    have hBn := hide (hB.out.trans (hbx.mono hB.out.size))
    have hSn := hide (heap_kept hbx hS.out)
    have hgn : Hid (w.heap.size < v7.heap.size) := Nat.lt_of_lt_of_le hgt.out hbx.size
    have hZn := hide (heap_kept hbx hZ.out)
    clear hZ
    have hZ := hZn
    clear hZn
    clear hB hS hgt hbx
    have hB := hBn
    have hS := hSn
    have hgt := hgn
    clear hBn hSn hgn
    go_wp2_with fail
    refine hK.out _ _ ?_ (fun hHeld3 => ?_)
    · exact hS.out
    clear hK K
    try simp only [Act.put, List.setIfInBounds_toArray, List.set_cons_zero, List.set_cons_succ]
    clear hHeld3
    refine wpAnyH_ready (rs := [4]) (by kernel_rfl) (by simp) ?_
    refine AllReadyH.cons (o := { dst := some 16, op := Op.call { callee := Callee.value (Operand.func 37), args := #[Operand.tmp 15], argTypes := #[2] }, type := 72, pos := "gate.go:54", after := #[{ on := 3, ground := Ground.data }, { on := 3, ground := Ground.chain }], guard := none }) rfl (fun K hK => ?_) AllReadyH.nil
    go_simp
    refine (goesOn_any at0 _).mono ?_
    rintro _ v8 ⟨c, rfl, hcx, hbx⟩
    have hBn := hide (hB.out.trans (hbx.mono hB.out.size))
    have hSn := hide (heap_kept hbx hS.out)
    have hgn : Hid (w.heap.size < v8.heap.size) := Nat.lt_of_lt_of_le hgt.out hbx.size
    have cc := hide hcx
    clear hcx
    have hZn := hide (heap_kept hbx hZ.out)
    clear hZ
    have hZ := hZn
    clear hZn
    clear hB hS hgt hbx
    have hB := hBn
    have hS := hSn
    have hgt := hgn
    clear hBn hSn hgn
    go_wp2_with fail
    refine hK.out _ _ ?_ (fun hHeld4 => ?_)
    · exact hS.out
    clear hK K
    try simp only [Act.put, List.setIfInBounds_toArray, List.set_cons_zero, List.set_cons_succ]
    clear hHeld4
    refine wpAnyH_ready (rs := [5]) (by kernel_rfl) (by simp) ?_
    refine AllReadyH.cons (o := { dst := some 17, op := Op.call { callee := Callee.value (Operand.func 36), args := #[Operand.tmp 12, Operand.tmp 16], argTypes := #[47, 72] }, type := 70, pos := "gate.go:54", after := #[{ on := 0, ground := Ground.data }, { on := 4, ground := Ground.data }, { on := 4, ground := Ground.chain }], guard := none }) rfl (fun K hK => ?_) AllReadyH.nil
    go_simp
    refine (hfi.out v8 hB.out c cc.out).mono ?_
    rintro _ v9 ⟨rfl, hbx⟩
    have hBn := hide (hB.out.trans (hbx.mono hB.out.size))
    have hSn := hide (heap_kept hbx hS.out)
    have hgn : Hid (w.heap.size < v9.heap.size) := Nat.lt_of_lt_of_le hgt.out hbx.size
    have hZn := hide (heap_kept hbx hZ.out)
    clear hZ
    have hZ := hZn
    clear hZn
    clear cc
    clear hB hS hgt hbx
    have hB := hBn
    have hS := hSn
    have hgt := hgn
    clear hBn hSn hgn
    go_wp2_with fail
    refine hK.out _ _ ?_ (fun hHeld5 => ?_)
    · exact hS.out
    clear hK K
    try simp only [Act.put, List.setIfInBounds_toArray, List.set_cons_zero, List.set_cons_succ]
    clear hHeld5
    refine wpAnyH_take (i := 6) (oi := { dst := some 11, op := Op.move (Operand.tmp 17), type := 70, pos := "gate.go:54", after := #[{ on := 5, ground := Ground.data }], guard := none }) (v := ?v14) rfl (by kernel_rfl) (by kernel_rfl) (by kernel_rfl) (fun _ _ _ h => h) (Or.inl ⟨by rfl, ?y14⟩) (by assumption) ?r14
    case y14 => (intro w hSw; (try dsimp only at hSw); (try (go_split_ands)); go_simp; try with_reducible rfl)
    try simp only [Act.put, List.setIfInBounds_toArray, List.set_cons_zero, List.set_cons_succ]
    refine wpAnyH_take (i := 7) (oi := { dst := some 18, op := Op.extract (Operand.tmp 11) 0, type := 69, pos := "gate.go:54", after := #[{ on := 6, ground := Ground.data }], guard := none }) (v := ?v15) rfl (by kernel_rfl) (by kernel_rfl) (by kernel_rfl) (fun _ _ _ h => h) (Or.inl ⟨by rfl, ?y15⟩) (by assumption) ?r15
    case y15 => (intro w hSw; (try dsimp only at hSw); (try (go_split_ands)); go_simp; try with_reducible rfl)
    try simp only [Act.put, List.setIfInBounds_toArray, List.set_cons_zero, List.set_cons_succ]
    refine wpAnyH_take (i := 8) (oi := { dst := some 19, op := Op.extract (Operand.tmp 11) 1, type := 4, pos := "gate.go:54", after := #[{ on := 6, ground := Ground.data }, { on := 10, ground := Ground.gcOnly Departure.lateStores }], guard := none }) (v := ?v16) rfl (by kernel_rfl) (by kernel_rfl) (by kernel_rfl) (fun _ _ _ h => h) (Or.inl ⟨by rfl, ?y16⟩) (by assumption) ?r16
    case y16 => (intro w hSw; (try dsimp only at hSw); (try (go_split_ands)); go_simp; try with_reducible rfl)
    try simp only [Act.put, List.setIfInBounds_toArray, List.set_cons_zero, List.set_cons_succ]
    refine wpAnyH_ready (rs := [10]) (by kernel_rfl) (by simp) ?_
    refine AllReadyH.cons (o := { dst := none, op := Op.store 69 (Operand.tmp 5) (Operand.tmp 18), type := 0, pos := "gate.go:54", after := #[{ on := 9, ground := Ground.data }, { on := 7, ground := Ground.data }, { on := 5, ground := Ground.chain }, { on := 0, ground := Ground.phase }, { on := 1, ground := Ground.phase }, { on := 2, ground := Ground.phase }, { on := 3, ground := Ground.phase }, { on := 4, ground := Ground.phase }, { on := 5, ground := Ground.phase }, { on := 6, ground := Ground.phase }, { on := 7, ground := Ground.phase }, { on := 8, ground := Ground.textOnly Departure.lateStores }, { on := 9, ground := Ground.phase }], guard := none }) rfl (fun K hK => ?_) AllReadyH.nil
    refine step_store_row rfl 69 (.tmp 5) (.tmp 18) rfl E (fPi fq).toArray rfl rfl 69 _ hZ.out (piSize _) rfl (pi_all _) ?_
    have hEge : Hid (w.heap.size ≤ E ∧ E ≠ w.heap.size) := hEg
    have hB9 := hide (below_setRow hB.out hEge.out.1 (fPi fq).toArray)
    have hZ9 := hide (setRow_heap v9 E _ (fPi fq).toArray 69 _ hZ.out)
    have hS9 : Hid ((v9.setRow E (fPi fq).toArray).heap[w.heap.size]? = some (.cells R 47 (0, 0))) := (Go.setRow_other v9 E w.heap.size (fPi fq).toArray (fun e => hEge.out.2 e.symm)).trans hS.out
    clear hB hS hZ hEg
    refine hK.out _ _ hS9.out (fun hHeld => ?_)
    clear hK K
    try simp only [Act.put]
    generalize v9.setRow E (fPi fq).toArray = wz at *
    refine wpAnyH_take (i := 11) (oi := { dst := some 6, op := Op.assign (Operand.tmp 19), type := 4, pos := "gate.go:54", after := #[{ on := 8, ground := Ground.data }, { on := 10, ground := Ground.chain }, { on := 0, ground := Ground.phase }, { on := 1, ground := Ground.phase }, { on := 2, ground := Ground.phase }, { on := 3, ground := Ground.phase }, { on := 4, ground := Ground.phase }, { on := 5, ground := Ground.phase }, { on := 6, ground := Ground.phase }, { on := 7, ground := Ground.phase }, { on := 8, ground := Ground.phase }, { on := 9, ground := Ground.phase }, { on := 10, ground := Ground.phase }], guard := none }) (v := ?v17) rfl (by kernel_rfl) (by kernel_rfl) (by kernel_rfl) (fun _ _ _ h => h) (Or.inl ⟨by rfl, ?y17⟩) (by assumption) ?r17
    case y17 => (intro w hSw; (try dsimp only at hSw); (try (go_split_ands)); go_simp; try with_reducible rfl)
    try simp only [Act.put, List.setIfInBounds_toArray, List.set_cons_zero, List.set_cons_succ]
    refine wpAnyH_done (by kernel_rfl) ?_ _
    refine NoPanic.normal ?_
    clear hHeld hS9
    have c2 : wz.cell? ⟨E, 2, none⟩ = some (.int .i64 fq.op) := (cell_of_row _ _ _ _ _ _ hZ9.out).trans rfl
    clear hZ9
    generalize fq.op = fo at *
    go_wp2
    go_ret
    exact ⟨ret_i64 (by rw [hV.out]), hB9.out⟩
end Go.Proofs.Ytmacdghkbmjdmaa
