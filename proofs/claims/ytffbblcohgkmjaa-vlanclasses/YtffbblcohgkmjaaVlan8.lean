/-
  'of' of layer 11's statements: the table beside the statement's own lists and maps. Conditions: those that each theorem names.
-/
import Derived.Test.YtffbblcohgkmjaaVlan7b
import Derived.BigQuiet
import Derived.Deep.QuietTactic
namespace Go.Proofs.Ytffbblcohgkmjaa
open Go.RowKit Go.Maps
set_option linter.unusedVariables false
set_option maxRecDepth 20000


set_option maxHeartbeats 16000000 in
theorem of_any (m : Int) (b : Option Addr) (L cap : Nat) (xs : List Va) (w : World) (hX : Hid (Vas w b L xs)) (hL : L ≤ 150) :
    Calls Try.prog 13 #[.int .i64 m, .slice b L cap] w fun r w' => ∃ K0 g pb mb a s m1 m2, r = .returned (.tuple #[.pointer (some ⟨g, 0, none⟩), .agg #[.slice (some ⟨s, 0, none⟩) (portsN m) (portsN m), .map (some m1), .map (some m2)], .bool true]) ∧ Ks K0 w w' g pb mb a s m1 m2 (portsN m) L := by
  obtain ⟨M, hM⟩ : ∃ M : Int, M = max m 0 := ⟨_, rfl⟩
  have hmx : ∀ (ts : Array TypeId) (t : TypeId) (w : World), (Builtin.max_ ts t #[.int .i64 m, .int .i64 0]).run Try.prog w = .ok (.int .i64 M) w := fun ts t w => by rw [hM, Go.Lib.run_max_ints]
  have hmn : ∀ (ts : Array TypeId) (t : TypeId) (w : World), (Builtin.min_ ts t #[.int .i64 M, .int .i64 16]).run Try.prog w = .ok (.int .i64 (portsN m : Int)) w := fun ts t w => by
    rw [Go.Lib.run_min_ints, ← show (min M 16) = ((portsN m : Nat) : Int) by unfold portsN; rw [hM]; omega]
  have hn16 : portsN m ≤ 16 := by unfold portsN; omega
  have hNew := hide (fun w => VNew_any m w)
  clear hM
  generalize portsN m = n at *
  have hB1 := hide (below1 w (.cells mdZero 28))
  have hRN := hide (heap_alloc_new w (.cells mdZero 28))
  go_enter Try.func13, Try.ntmps13
  go_wp2_with fail
  refine (hNew.out _).mono ?_
  rintro e w2 ⟨g, pb, mb, rfl, hV, hb2, hl1, hl2, hl3⟩
  clear hNew hmx hmn
  have hRN2 := hide (heap_kept hb2 hRN.out)
  have hl : Hid (w.heap.size ≤ g ∧ w.heap.size ≤ pb ∧ w.heap.size ≤ mb) := ⟨Nat.le_trans hB1.out.size hl1, Nat.le_trans hB1.out.size hl2, Nat.le_trans hB1.out.size hl3⟩
  have hb02 := hide (hB1.out.later hb2)
  have hW1 : w.heap.size < (w.alloc (.cells mdZero 28)).heap.size := by rw [World.size_alloc]; omega
  have hmbW : Hid (w.heap.size < mb ∧ w.heap.size < pb ∧ w.heap.size < g) := ⟨Nat.lt_of_lt_of_le hW1 hl3, Nat.lt_of_lt_of_le hW1 hl2, Nat.lt_of_lt_of_le hW1 hl1⟩
  clear hW1
  replace hV := hide hV
  clear hb2 hl1 hl2 hl3 hB1 hRN
  have hxw : IntKind.i64.wrap (IntKind.i64.wrap (2 ^ n) - 1) = allN n := by rw [IntWalk.i64_left, IntWalk.i64_left]; exact allN_wrap hn16
  have hx64 : Hid (I64 (allN n)) := by have := allN_pos hn16; exact ⟨by omega, by omega⟩
  go_wp2_with fail
  refine wp_region_noPanic ?_
  refine wp_region_held_drew (S := fun _ => True) (by kernel_rfl) trivial (fun hHeld => ?_)
  refine wpAnyH_take (i := 0) (oi := { dst := some 23, op := Op.move (Operand.tmp 7), type := 3, pos := "law.go:38", after := #[], guard := none }) (v := ?v1) rfl (by kernel_rfl) (by kernel_rfl) (by kernel_rfl) (fun _ _ _ h => h) (Or.inl ⟨by rfl, ?y1⟩) trivial ?r1
  case y1 => (intro w hSw; (try dsimp only at hSw); (try (go_split_ands)); go_simp; try with_reducible rfl)
  try simp only [Act.put, List.setIfInBounds_toArray, List.set_cons_zero, List.set_cons_succ]
  refine wpAnyH_take (i := 3) (oi := { dst := some 26, op := Op.move (Operand.tmp 7), type := 3, pos := "law.go:38", after := #[], guard := none }) (v := ?v2) rfl (by kernel_rfl) (by kernel_rfl) (by kernel_rfl) (fun _ _ _ h => h) (Or.inl ⟨by rfl, ?y2⟩) trivial ?r2
  case y2 => (intro w hSw; (try dsimp only at hSw); (try (go_split_ands)); go_simp; try with_reducible rfl)
  try simp only [Act.put, List.setIfInBounds_toArray, List.set_cons_zero, List.set_cons_succ]
  refine wpAnyH_take (i := 4) (oi := { dst := some 27, op := Op.binOp BinOp.shl 3 (Operand.const (Value.int IntKind.i64 1)) (Operand.tmp 26) 3, type := 3, pos := "law.go:38", after := #[{ on := 3, ground := Ground.data }], guard := none }) (v := ?v3) rfl (by kernel_rfl) (by kernel_rfl) (by kernel_rfl) (fun _ _ _ h => h) (Or.inl ⟨by rfl, ?y3⟩) trivial ?r3
  case y3 => (intro w hSw; (try dsimp only at hSw); (try (go_split_ands)); go_simp; try with_reducible rfl)
  try simp only [Act.put, List.setIfInBounds_toArray, List.set_cons_zero, List.set_cons_succ]
  refine wpAnyH_take (i := 5) (oi := { dst := some 28, op := Op.binOp BinOp.sub 3 (Operand.tmp 27) (Operand.const (Value.int IntKind.i64 1)) 3, type := 3, pos := "law.go:38", after := #[{ on := 4, ground := Ground.data }], guard := none }) (v := ?v4) rfl (by kernel_rfl) (by kernel_rfl) (by kernel_rfl) (fun _ _ _ h => h) (Or.inl ⟨by rfl, ?y4⟩) trivial ?r4
  case y4 => (intro w hSw; (try dsimp only at hSw); (try (go_split_ands)); go_simp; try with_reducible rfl)
  try simp only [Act.put, List.setIfInBounds_toArray, List.set_cons_zero, List.set_cons_succ]
  refine wpAnyH_take (i := 9) (oi := { dst := some 31, op := Op.move (Operand.tmp 7), type := 3, pos := "law.go:38", after := #[], guard := none }) (v := ?v5) rfl (by kernel_rfl) (by kernel_rfl) (by kernel_rfl) (fun _ _ _ h => h) (Or.inl ⟨by rfl, ?y5⟩) trivial ?r5
  case y5 => (intro w hSw; (try dsimp only at hSw); (try (go_split_ands)); go_simp; try with_reducible rfl)
  try simp only [Act.put, List.setIfInBounds_toArray, List.set_cons_zero, List.set_cons_succ]
  refine wpAnyH_take (i := 10) (oi := { dst := some 32, op := Op.binOp BinOp.shl 3 (Operand.const (Value.int IntKind.i64 1)) (Operand.tmp 31) 3, type := 3, pos := "law.go:38", after := #[{ on := 9, ground := Ground.data }], guard := none }) (v := ?v6) rfl (by kernel_rfl) (by kernel_rfl) (by kernel_rfl) (fun _ _ _ h => h) (Or.inl ⟨by rfl, ?y6⟩) trivial ?r6
  case y6 => (intro w hSw; (try dsimp only at hSw); (try (go_split_ands)); go_simp; try with_reducible rfl)
  try simp only [Act.put, List.setIfInBounds_toArray, List.set_cons_zero, List.set_cons_succ]
  refine wpAnyH_take (i := 11) (oi := { dst := some 33, op := Op.binOp BinOp.sub 3 (Operand.tmp 32) (Operand.const (Value.int IntKind.i64 1)) 3, type := 3, pos := "law.go:38", after := #[{ on := 10, ground := Ground.data }], guard := none }) (v := ?v7) rfl (by kernel_rfl) (by kernel_rfl) (by kernel_rfl) (fun _ _ _ h => h) (Or.inl ⟨by rfl, ?y7⟩) trivial ?r7
  case y7 => (intro w hSw; (try dsimp only at hSw); (try (go_split_ands)); go_simp; try with_reducible rfl)
  try simp only [Act.put, List.setIfInBounds_toArray, List.set_cons_zero, List.set_cons_succ]
  clear hxw

  refine (fun (k0_1_2_3_4_5 : Hid (?Tk0_1_2_3_4_5 : Prop)) => ?mk0_1_2_3_4_5) ?pk0_1_2_3_4_5
  rotate_left
  refine (fun (k0_1_2_3_4 : Hid (?Tk0_1_2_3_4 : Prop)) => ?mk0_1_2_3_4) ?pk0_1_2_3_4
  rotate_left
  refine (fun (k0_1_2_3_5 : Hid (?Tk0_1_2_3_5 : Prop)) => ?mk0_1_2_3_5) ?pk0_1_2_3_5
  rotate_left
  refine (fun (k0_1_3_4_5 : Hid (?Tk0_1_3_4_5 : Prop)) => ?mk0_1_3_4_5) ?pk0_1_3_4_5
  rotate_left
  refine (fun (k1_2_3_4_5 : Hid (?Tk1_2_3_4_5 : Prop)) => ?mk1_2_3_4_5) ?pk1_2_3_4_5
  rotate_left
  refine (fun (k0_1_2_3 : Hid (?Tk0_1_2_3 : Prop)) => ?mk0_1_2_3) ?pk0_1_2_3
  rotate_left
  refine (fun (k0_1_2_5 : Hid (?Tk0_1_2_5 : Prop)) => ?mk0_1_2_5) ?pk0_1_2_5
  rotate_left
  refine (fun (k0_1_3_4 : Hid (?Tk0_1_3_4 : Prop)) => ?mk0_1_3_4) ?pk0_1_3_4
  rotate_left
  refine (fun (k0_1_3_5 : Hid (?Tk0_1_3_5 : Prop)) => ?mk0_1_3_5) ?pk0_1_3_5
  rotate_left
  refine (fun (k0_3_4_5 : Hid (?Tk0_3_4_5 : Prop)) => ?mk0_3_4_5) ?pk0_3_4_5
  rotate_left
  refine (fun (k1_2_3_4 : Hid (?Tk1_2_3_4 : Prop)) => ?mk1_2_3_4) ?pk1_2_3_4
  rotate_left
  refine (fun (k1_2_3_5 : Hid (?Tk1_2_3_5 : Prop)) => ?mk1_2_3_5) ?pk1_2_3_5
  rotate_left
  refine (fun (k1_3_4_5 : Hid (?Tk1_3_4_5 : Prop)) => ?mk1_3_4_5) ?pk1_3_4_5
  rotate_left
  refine (fun (k0_1_2 : Hid (?Tk0_1_2 : Prop)) => ?mk0_1_2) ?pk0_1_2
  rotate_left
  refine (fun (k0_1_3 : Hid (?Tk0_1_3 : Prop)) => ?mk0_1_3) ?pk0_1_3
  rotate_left
  refine (fun (k0_1_5 : Hid (?Tk0_1_5 : Prop)) => ?mk0_1_5) ?pk0_1_5
  rotate_left
  refine (fun (k0_3_4 : Hid (?Tk0_3_4 : Prop)) => ?mk0_3_4) ?pk0_3_4
  rotate_left
  refine (fun (k0_3_5 : Hid (?Tk0_3_5 : Prop)) => ?mk0_3_5) ?pk0_3_5
  rotate_left
  refine (fun (k1_2_3 : Hid (?Tk1_2_3 : Prop)) => ?mk1_2_3) ?pk1_2_3
  rotate_left
  refine (fun (k1_2_5 : Hid (?Tk1_2_5 : Prop)) => ?mk1_2_5) ?pk1_2_5
  rotate_left
  refine (fun (k1_3_4 : Hid (?Tk1_3_4 : Prop)) => ?mk1_3_4) ?pk1_3_4
  rotate_left
  refine (fun (k1_3_5 : Hid (?Tk1_3_5 : Prop)) => ?mk1_3_5) ?pk1_3_5
  rotate_left
  refine (fun (k3_4_5 : Hid (?Tk3_4_5 : Prop)) => ?mk3_4_5) ?pk3_4_5
  rotate_left
  refine (fun (k0_1 : Hid (?Tk0_1 : Prop)) => ?mk0_1) ?pk0_1
  rotate_left
  refine (fun (k0_3 : Hid (?Tk0_3 : Prop)) => ?mk0_3) ?pk0_3
  rotate_left
  refine (fun (k0_5 : Hid (?Tk0_5 : Prop)) => ?mk0_5) ?pk0_5
  rotate_left
  refine (fun (k1_2 : Hid (?Tk1_2 : Prop)) => ?mk1_2) ?pk1_2
  rotate_left
  refine (fun (k1_3 : Hid (?Tk1_3 : Prop)) => ?mk1_3) ?pk1_3
  rotate_left
  refine (fun (k1_5 : Hid (?Tk1_5 : Prop)) => ?mk1_5) ?pk1_5
  rotate_left
  refine (fun (k3_4 : Hid (?Tk3_4 : Prop)) => ?mk3_4) ?pk3_4
  rotate_left
  refine (fun (k3_5 : Hid (?Tk3_5 : Prop)) => ?mk3_5) ?pk3_5
  rotate_left
  refine (fun (k0 : Hid (?Tk0 : Prop)) => ?mk0) ?pk0
  rotate_left
  refine (fun (k1 : Hid (?Tk1 : Prop)) => ?mk1) ?pk1
  rotate_left
  refine (fun (k3 : Hid (?Tk3 : Prop)) => ?mk3) ?pk3
  rotate_left
  refine (fun (k5 : Hid (?Tk5 : Prop)) => ?mk5) ?pk5
  rotate_left
  case mk5 =>
    have hI := hide (Ini.start w2 n (allN n))
    generalize w2.drew = wc at *
    refine wpAnyH_ready (rs := [1, 2, 8, 15]) (by kernel_rfl) (by simp) ?_
    refine AllReadyH.cons (o := { dst := some 24, op := Op.makeSlice 25 (Operand.tmp 23) (Operand.tmp 23), type := 25, pos := "law.go:38", after := #[{ on := 0, ground := Ground.data }, { on := 0, ground := Ground.data }], guard := none }) rfl (fun K hK => ?_) (AllReadyH.cons (o := { dst := some 25, op := Op.makeMap 26 none, type := 26, pos := "law.go:38", after := #[], guard := none }) rfl (fun K hK => ?_) (AllReadyH.cons (o := { dst := some 30, op := Op.makeMap 26 none, type := 26, pos := "law.go:38", after := #[], guard := none }) rfl (fun K hK => ?_) (AllReadyH.cons (o := { dst := some 9, op := Op.alloc 28, type := 0, pos := "law.go:38", after := #[], guard := none }) rfl (fun K hK => ?_) (AllReadyH.nil))))
    ·
      refine step_make rfl 25 (.tmp 23) (.tmp 23) rfl n _ rfl rfl (make_Pv _ n hn16) ?_
      have hI2 := hI.out.mkS
      refine hK.out _ _ trivial (fun hHeldE => ?_)
      clear hK K
      try simp only [Act.put, List.setIfInBounds_toArray, List.set_cons_zero, List.set_cons_succ]
      clear hHeldE hI
      generalize wc.alloc (.cells (flat fPv (List.replicate n Pv.zero)).toArray 44) = wn at *
      generalize wc.heap.size = s at *
      replace hI2 := hide hI2
      revert hI2
      revert wn
      revert s
      exact k0.out
    ·
      refine step_makeMap rfl 26 rfl ?_
      have hI2 := hI.out.mk1
      refine hK.out _ _ trivial (fun hHeldE => ?_)
      clear hK K
      try simp only [Act.put, List.setIfInBounds_toArray, List.set_cons_zero, List.set_cons_succ]
      clear hHeldE hI
      generalize wc.alloc (.map #[] 0) = wn at *
      generalize wc.heap.size = m1 at *
      replace hI2 := hide hI2
      revert hI2
      revert wn
      revert m1
      exact k1.out
    ·
      refine step_makeMap rfl 26 rfl ?_
      have hI2 := hI.out.mk2
      refine hK.out _ _ trivial (fun hHeldE => ?_)
      clear hK K
      try simp only [Act.put, List.setIfInBounds_toArray, List.set_cons_zero, List.set_cons_succ]
      clear hHeldE hI
      generalize wc.alloc (.map #[] 0) = wn at *
      generalize wc.heap.size = m2 at *
      replace hI2 := hide hI2
      revert hI2
      revert wn
      revert m2
      exact k3.out
    ·
      refine step_alloc rfl 28 rfl _ (alloc_Md _) ?_
      have hI2 := hI.out.mkA
      refine hK.out _ _ trivial (fun hHeldE => ?_)
      clear hK K
      try simp only [Act.put, List.setIfInBounds_toArray, List.set_cons_zero, List.set_cons_succ]
      clear hHeldE hI
      generalize wc.alloc (.cells mdZero 28) = wn at *
      generalize wc.heap.size = a at *
      replace hI2 := hide hI2
      revert hI2
      revert wn
      revert a
      exact k5.out
  case pk5 =>
    refine hide ?_
    intro a
    intro wc hI
    refine wpAnyH_ready (rs := [1, 2, 8]) (by kernel_rfl) (by simp) ?_
    refine AllReadyH.cons (o := { dst := some 24, op := Op.makeSlice 25 (Operand.tmp 23) (Operand.tmp 23), type := 25, pos := "law.go:38", after := #[{ on := 0, ground := Ground.data }, { on := 0, ground := Ground.data }], guard := none }) rfl (fun K hK => ?_) (AllReadyH.cons (o := { dst := some 25, op := Op.makeMap 26 none, type := 26, pos := "law.go:38", after := #[], guard := none }) rfl (fun K hK => ?_) (AllReadyH.cons (o := { dst := some 30, op := Op.makeMap 26 none, type := 26, pos := "law.go:38", after := #[], guard := none }) rfl (fun K hK => ?_) (AllReadyH.nil)))
    ·
      refine step_make rfl 25 (.tmp 23) (.tmp 23) rfl n _ rfl rfl (make_Pv _ n hn16) ?_
      have hI2 := hI.out.mkS
      refine hK.out _ _ trivial (fun hHeldE => ?_)
      clear hK K
      try simp only [Act.put, List.setIfInBounds_toArray, List.set_cons_zero, List.set_cons_succ]
      clear hHeldE hI
      generalize wc.alloc (.cells (flat fPv (List.replicate n Pv.zero)).toArray 44) = wn at *
      generalize wc.heap.size = s at *
      replace hI2 := hide hI2
      revert hI2
      revert wn
      revert a
      revert s
      exact k0_5.out
    ·
      refine step_makeMap rfl 26 rfl ?_
      have hI2 := hI.out.mk1
      refine hK.out _ _ trivial (fun hHeldE => ?_)
      clear hK K
      try simp only [Act.put, List.setIfInBounds_toArray, List.set_cons_zero, List.set_cons_succ]
      clear hHeldE hI
      generalize wc.alloc (.map #[] 0) = wn at *
      generalize wc.heap.size = m1 at *
      replace hI2 := hide hI2
      revert hI2
      revert wn
      revert a
      revert m1
      exact k1_5.out
    ·
      refine step_makeMap rfl 26 rfl ?_
      have hI2 := hI.out.mk2
      refine hK.out _ _ trivial (fun hHeldE => ?_)
      clear hK K
      try simp only [Act.put, List.setIfInBounds_toArray, List.set_cons_zero, List.set_cons_succ]
      clear hHeldE hI
      generalize wc.alloc (.map #[] 0) = wn at *
      generalize wc.heap.size = m2 at *
      replace hI2 := hide hI2
      revert hI2
      revert wn
      revert a
      revert m2
      exact k3_5.out
  case pk3 =>
    refine hide ?_
    intro m2
    intro wc hI
    refine wpAnyH_ready (rs := [1, 2, 12, 15]) (by kernel_rfl) (by simp) ?_
    refine AllReadyH.cons (o := { dst := some 24, op := Op.makeSlice 25 (Operand.tmp 23) (Operand.tmp 23), type := 25, pos := "law.go:38", after := #[{ on := 0, ground := Ground.data }, { on := 0, ground := Ground.data }], guard := none }) rfl (fun K hK => ?_) (AllReadyH.cons (o := { dst := some 25, op := Op.makeMap 26 none, type := 26, pos := "law.go:38", after := #[], guard := none }) rfl (fun K hK => ?_) (AllReadyH.cons (o := { dst := none, op := Op.insert 26 (Operand.tmp 30) (Operand.const (Value.int IntKind.i64 1)) (Operand.tmp 33), type := 0, pos := "law.go:38", after := #[{ on := 8, ground := Ground.data }, { on := 11, ground := Ground.data }], guard := none }) rfl (fun K hK => ?_) (AllReadyH.cons (o := { dst := some 9, op := Op.alloc 28, type := 0, pos := "law.go:38", after := #[], guard := none }) rfl (fun K hK => ?_) (AllReadyH.nil))))
    ·
      refine step_make rfl 25 (.tmp 23) (.tmp 23) rfl n _ rfl rfl (make_Pv _ n hn16) ?_
      have hI2 := hI.out.mkS
      refine hK.out _ _ trivial (fun hHeldE => ?_)
      clear hK K
      try simp only [Act.put, List.setIfInBounds_toArray, List.set_cons_zero, List.set_cons_succ]
      clear hHeldE hI
      generalize wc.alloc (.cells (flat fPv (List.replicate n Pv.zero)).toArray 44) = wn at *
      generalize wc.heap.size = s at *
      replace hI2 := hide hI2
      revert hI2
      revert wn
      revert m2
      revert s
      exact k0_3.out
    ·
      refine step_makeMap rfl 26 rfl ?_
      have hI2 := hI.out.mk1
      refine hK.out _ _ trivial (fun hHeldE => ?_)
      clear hK K
      try simp only [Act.put, List.setIfInBounds_toArray, List.set_cons_zero, List.set_cons_succ]
      clear hHeldE hI
      generalize wc.alloc (.map #[] 0) = wn at *
      generalize wc.heap.size = m1 at *
      replace hI2 := hide hI2
      revert hI2
      revert wn
      revert m2
      revert m1
      exact k1_3.out
    ·
      obtain ⟨wn, hr, hI2⟩ := hI.out.put2 hx64.out
      refine step_insert rfl 26 (.tmp 30) (.const (.int .i64 1)) (.tmp 33) rfl _ _ _ rfl rfl rfl hr ?_
      refine hK.out _ _ trivial (fun hHeldE => ?_)
      clear hK K
      try simp only [Act.put]
      clear hHeldE hI
      clear hr
      replace hI2 := hide hI2
      refine wpAnyH_take (i := 13) (oi := { dst := some 34, op := Op.move (Operand.tmp 30), type := 26, pos := "law.go:38", after := #[{ on := 8, ground := Ground.data }, { on := 9, ground := Ground.data }, { on := 10, ground := Ground.data }, { on := 11, ground := Ground.data }, { on := 12, ground := Ground.data }], guard := none }) (v := ?v8) rfl (by kernel_rfl) (by kernel_rfl) (by kernel_rfl) (fun _ _ _ h => h) (Or.inl ⟨by rfl, ?y8⟩) trivial ?r8
      case y8 => (intro w hSw; (try dsimp only at hSw); (try (go_split_ands)); go_simp; try with_reducible rfl)
      try simp only [Act.put, List.setIfInBounds_toArray, List.set_cons_zero, List.set_cons_succ]
      revert hI2
      revert wn
      revert m2
      exact k3_4.out
    ·
      refine step_alloc rfl 28 rfl _ (alloc_Md _) ?_
      have hI2 := hI.out.mkA
      refine hK.out _ _ trivial (fun hHeldE => ?_)
      clear hK K
      try simp only [Act.put, List.setIfInBounds_toArray, List.set_cons_zero, List.set_cons_succ]
      clear hHeldE hI
      generalize wc.alloc (.cells mdZero 28) = wn at *
      generalize wc.heap.size = a at *
      replace hI2 := hide hI2
      revert hI2
      revert wn
      revert a
      revert m2
      exact k3_5.out
  case pk1 =>
    refine hide ?_
    intro m1
    intro wc hI
    refine wpAnyH_ready (rs := [1, 6, 8, 15]) (by kernel_rfl) (by simp) ?_
    refine AllReadyH.cons (o := { dst := some 24, op := Op.makeSlice 25 (Operand.tmp 23) (Operand.tmp 23), type := 25, pos := "law.go:38", after := #[{ on := 0, ground := Ground.data }, { on := 0, ground := Ground.data }], guard := none }) rfl (fun K hK => ?_) (AllReadyH.cons (o := { dst := none, op := Op.insert 26 (Operand.tmp 25) (Operand.const (Value.int IntKind.i64 1)) (Operand.tmp 28), type := 0, pos := "law.go:38", after := #[{ on := 2, ground := Ground.data }, { on := 5, ground := Ground.data }], guard := none }) rfl (fun K hK => ?_) (AllReadyH.cons (o := { dst := some 30, op := Op.makeMap 26 none, type := 26, pos := "law.go:38", after := #[], guard := none }) rfl (fun K hK => ?_) (AllReadyH.cons (o := { dst := some 9, op := Op.alloc 28, type := 0, pos := "law.go:38", after := #[], guard := none }) rfl (fun K hK => ?_) (AllReadyH.nil))))
    ·
      refine step_make rfl 25 (.tmp 23) (.tmp 23) rfl n _ rfl rfl (make_Pv _ n hn16) ?_
      have hI2 := hI.out.mkS
      refine hK.out _ _ trivial (fun hHeldE => ?_)
      clear hK K
      try simp only [Act.put, List.setIfInBounds_toArray, List.set_cons_zero, List.set_cons_succ]
      clear hHeldE hI
      generalize wc.alloc (.cells (flat fPv (List.replicate n Pv.zero)).toArray 44) = wn at *
      generalize wc.heap.size = s at *
      replace hI2 := hide hI2
      revert hI2
      revert wn
      revert m1
      revert s
      exact k0_1.out
    ·
      obtain ⟨wn, hr, hI2⟩ := hI.out.put1 hx64.out
      refine step_insert rfl 26 (.tmp 25) (.const (.int .i64 1)) (.tmp 28) rfl _ _ _ rfl rfl rfl hr ?_
      refine hK.out _ _ trivial (fun hHeldE => ?_)
      clear hK K
      try simp only [Act.put]
      clear hHeldE hI
      clear hr
      replace hI2 := hide hI2
      refine wpAnyH_take (i := 7) (oi := { dst := some 29, op := Op.move (Operand.tmp 25), type := 26, pos := "law.go:38", after := #[{ on := 2, ground := Ground.data }, { on := 3, ground := Ground.data }, { on := 4, ground := Ground.data }, { on := 5, ground := Ground.data }, { on := 6, ground := Ground.data }], guard := none }) (v := ?v9) rfl (by kernel_rfl) (by kernel_rfl) (by kernel_rfl) (fun _ _ _ h => h) (Or.inl ⟨by rfl, ?y9⟩) trivial ?r9
      case y9 => (intro w hSw; (try dsimp only at hSw); (try (go_split_ands)); go_simp; try with_reducible rfl)
      try simp only [Act.put, List.setIfInBounds_toArray, List.set_cons_zero, List.set_cons_succ]
      revert hI2
      revert wn
      revert m1
      exact k1_2.out
    ·
      refine step_makeMap rfl 26 rfl ?_
      have hI2 := hI.out.mk2
      refine hK.out _ _ trivial (fun hHeldE => ?_)
      clear hK K
      try simp only [Act.put, List.setIfInBounds_toArray, List.set_cons_zero, List.set_cons_succ]
      clear hHeldE hI
      generalize wc.alloc (.map #[] 0) = wn at *
      generalize wc.heap.size = m2 at *
      replace hI2 := hide hI2
      revert hI2
      revert wn
      revert m2
      revert m1
      exact k1_3.out
    ·
      refine step_alloc rfl 28 rfl _ (alloc_Md _) ?_
      have hI2 := hI.out.mkA
      refine hK.out _ _ trivial (fun hHeldE => ?_)
      clear hK K
      try simp only [Act.put, List.setIfInBounds_toArray, List.set_cons_zero, List.set_cons_succ]
      clear hHeldE hI
      generalize wc.alloc (.cells mdZero 28) = wn at *
      generalize wc.heap.size = a at *
      replace hI2 := hide hI2
      revert hI2
      revert wn
      revert a
      revert m1
      exact k1_5.out
  case pk0 =>
    refine hide ?_
    intro s
    intro wc hI
    refine wpAnyH_ready (rs := [2, 8, 15]) (by kernel_rfl) (by simp) ?_
    refine AllReadyH.cons (o := { dst := some 25, op := Op.makeMap 26 none, type := 26, pos := "law.go:38", after := #[], guard := none }) rfl (fun K hK => ?_) (AllReadyH.cons (o := { dst := some 30, op := Op.makeMap 26 none, type := 26, pos := "law.go:38", after := #[], guard := none }) rfl (fun K hK => ?_) (AllReadyH.cons (o := { dst := some 9, op := Op.alloc 28, type := 0, pos := "law.go:38", after := #[], guard := none }) rfl (fun K hK => ?_) (AllReadyH.nil)))
    ·
      refine step_makeMap rfl 26 rfl ?_
      have hI2 := hI.out.mk1
      refine hK.out _ _ trivial (fun hHeldE => ?_)
      clear hK K
      try simp only [Act.put, List.setIfInBounds_toArray, List.set_cons_zero, List.set_cons_succ]
      clear hHeldE hI
      generalize wc.alloc (.map #[] 0) = wn at *
      generalize wc.heap.size = m1 at *
      replace hI2 := hide hI2
      revert hI2
      revert wn
      revert m1
      revert s
      exact k0_1.out
    ·
      refine step_makeMap rfl 26 rfl ?_
      have hI2 := hI.out.mk2
      refine hK.out _ _ trivial (fun hHeldE => ?_)
      clear hK K
      try simp only [Act.put, List.setIfInBounds_toArray, List.set_cons_zero, List.set_cons_succ]
      clear hHeldE hI
      generalize wc.alloc (.map #[] 0) = wn at *
      generalize wc.heap.size = m2 at *
      replace hI2 := hide hI2
      revert hI2
      revert wn
      revert m2
      revert s
      exact k0_3.out
    ·
      refine step_alloc rfl 28 rfl _ (alloc_Md _) ?_
      have hI2 := hI.out.mkA
      refine hK.out _ _ trivial (fun hHeldE => ?_)
      clear hK K
      try simp only [Act.put, List.setIfInBounds_toArray, List.set_cons_zero, List.set_cons_succ]
      clear hHeldE hI
      generalize wc.alloc (.cells mdZero 28) = wn at *
      generalize wc.heap.size = a at *
      replace hI2 := hide hI2
      revert hI2
      revert wn
      revert a
      revert s
      exact k0_5.out
  case pk3_5 =>
    refine hide ?_
    intro m2
    intro a
    intro wc hI
    refine wpAnyH_ready (rs := [1, 2, 12]) (by kernel_rfl) (by simp) ?_
    refine AllReadyH.cons (o := { dst := some 24, op := Op.makeSlice 25 (Operand.tmp 23) (Operand.tmp 23), type := 25, pos := "law.go:38", after := #[{ on := 0, ground := Ground.data }, { on := 0, ground := Ground.data }], guard := none }) rfl (fun K hK => ?_) (AllReadyH.cons (o := { dst := some 25, op := Op.makeMap 26 none, type := 26, pos := "law.go:38", after := #[], guard := none }) rfl (fun K hK => ?_) (AllReadyH.cons (o := { dst := none, op := Op.insert 26 (Operand.tmp 30) (Operand.const (Value.int IntKind.i64 1)) (Operand.tmp 33), type := 0, pos := "law.go:38", after := #[{ on := 8, ground := Ground.data }, { on := 11, ground := Ground.data }], guard := none }) rfl (fun K hK => ?_) (AllReadyH.nil)))
    ·
      refine step_make rfl 25 (.tmp 23) (.tmp 23) rfl n _ rfl rfl (make_Pv _ n hn16) ?_
      have hI2 := hI.out.mkS
      refine hK.out _ _ trivial (fun hHeldE => ?_)
      clear hK K
      try simp only [Act.put, List.setIfInBounds_toArray, List.set_cons_zero, List.set_cons_succ]
      clear hHeldE hI
      generalize wc.alloc (.cells (flat fPv (List.replicate n Pv.zero)).toArray 44) = wn at *
      generalize wc.heap.size = s at *
      replace hI2 := hide hI2
      revert hI2
      revert wn
      revert a
      revert m2
      revert s
      exact k0_3_5.out
    ·
      refine step_makeMap rfl 26 rfl ?_
      have hI2 := hI.out.mk1
      refine hK.out _ _ trivial (fun hHeldE => ?_)
      clear hK K
      try simp only [Act.put, List.setIfInBounds_toArray, List.set_cons_zero, List.set_cons_succ]
      clear hHeldE hI
      generalize wc.alloc (.map #[] 0) = wn at *
      generalize wc.heap.size = m1 at *
      replace hI2 := hide hI2
      revert hI2
      revert wn
      revert a
      revert m2
      revert m1
      exact k1_3_5.out
    ·
      obtain ⟨wn, hr, hI2⟩ := hI.out.put2 hx64.out
      refine step_insert rfl 26 (.tmp 30) (.const (.int .i64 1)) (.tmp 33) rfl _ _ _ rfl rfl rfl hr ?_
      refine hK.out _ _ trivial (fun hHeldE => ?_)
      clear hK K
      try simp only [Act.put]
      clear hHeldE hI
      clear hr
      replace hI2 := hide hI2
      refine wpAnyH_take (i := 13) (oi := { dst := some 34, op := Op.move (Operand.tmp 30), type := 26, pos := "law.go:38", after := #[{ on := 8, ground := Ground.data }, { on := 9, ground := Ground.data }, { on := 10, ground := Ground.data }, { on := 11, ground := Ground.data }, { on := 12, ground := Ground.data }], guard := none }) (v := ?v10) rfl (by kernel_rfl) (by kernel_rfl) (by kernel_rfl) (fun _ _ _ h => h) (Or.inl ⟨by rfl, ?y10⟩) trivial ?r10
      case y10 => (intro w hSw; (try dsimp only at hSw); (try (go_split_ands)); go_simp; try with_reducible rfl)
      try simp only [Act.put, List.setIfInBounds_toArray, List.set_cons_zero, List.set_cons_succ]
      revert hI2
      revert wn
      revert a
      revert m2
      exact k3_4_5.out
  case pk3_4 =>
    refine hide ?_
    intro m2
    intro wc hI
    refine wpAnyH_ready (rs := [1, 2, 15]) (by kernel_rfl) (by simp) ?_
    refine AllReadyH.cons (o := { dst := some 24, op := Op.makeSlice 25 (Operand.tmp 23) (Operand.tmp 23), type := 25, pos := "law.go:38", after := #[{ on := 0, ground := Ground.data }, { on := 0, ground := Ground.data }], guard := none }) rfl (fun K hK => ?_) (AllReadyH.cons (o := { dst := some 25, op := Op.makeMap 26 none, type := 26, pos := "law.go:38", after := #[], guard := none }) rfl (fun K hK => ?_) (AllReadyH.cons (o := { dst := some 9, op := Op.alloc 28, type := 0, pos := "law.go:38", after := #[], guard := none }) rfl (fun K hK => ?_) (AllReadyH.nil)))
    ·
      refine step_make rfl 25 (.tmp 23) (.tmp 23) rfl n _ rfl rfl (make_Pv _ n hn16) ?_
      have hI2 := hI.out.mkS
      refine hK.out _ _ trivial (fun hHeldE => ?_)
      clear hK K
      try simp only [Act.put, List.setIfInBounds_toArray, List.set_cons_zero, List.set_cons_succ]
      clear hHeldE hI
      generalize wc.alloc (.cells (flat fPv (List.replicate n Pv.zero)).toArray 44) = wn at *
      generalize wc.heap.size = s at *
      replace hI2 := hide hI2
      revert hI2
      revert wn
      revert m2
      revert s
      exact k0_3_4.out
    ·
      refine step_makeMap rfl 26 rfl ?_
      have hI2 := hI.out.mk1
      refine hK.out _ _ trivial (fun hHeldE => ?_)
      clear hK K
      try simp only [Act.put, List.setIfInBounds_toArray, List.set_cons_zero, List.set_cons_succ]
      clear hHeldE hI
      generalize wc.alloc (.map #[] 0) = wn at *
      generalize wc.heap.size = m1 at *
      replace hI2 := hide hI2
      revert hI2
      revert wn
      revert m2
      revert m1
      exact k1_3_4.out
    ·
      refine step_alloc rfl 28 rfl _ (alloc_Md _) ?_
      have hI2 := hI.out.mkA
      refine hK.out _ _ trivial (fun hHeldE => ?_)
      clear hK K
      try simp only [Act.put, List.setIfInBounds_toArray, List.set_cons_zero, List.set_cons_succ]
      clear hHeldE hI
      generalize wc.alloc (.cells mdZero 28) = wn at *
      generalize wc.heap.size = a at *
      replace hI2 := hide hI2
      revert hI2
      revert wn
      revert a
      revert m2
      exact k3_4_5.out
  case pk1_5 =>
    refine hide ?_
    intro m1
    intro a
    intro wc hI
    refine wpAnyH_ready (rs := [1, 6, 8]) (by kernel_rfl) (by simp) ?_
    refine AllReadyH.cons (o := { dst := some 24, op := Op.makeSlice 25 (Operand.tmp 23) (Operand.tmp 23), type := 25, pos := "law.go:38", after := #[{ on := 0, ground := Ground.data }, { on := 0, ground := Ground.data }], guard := none }) rfl (fun K hK => ?_) (AllReadyH.cons (o := { dst := none, op := Op.insert 26 (Operand.tmp 25) (Operand.const (Value.int IntKind.i64 1)) (Operand.tmp 28), type := 0, pos := "law.go:38", after := #[{ on := 2, ground := Ground.data }, { on := 5, ground := Ground.data }], guard := none }) rfl (fun K hK => ?_) (AllReadyH.cons (o := { dst := some 30, op := Op.makeMap 26 none, type := 26, pos := "law.go:38", after := #[], guard := none }) rfl (fun K hK => ?_) (AllReadyH.nil)))
    ·
      refine step_make rfl 25 (.tmp 23) (.tmp 23) rfl n _ rfl rfl (make_Pv _ n hn16) ?_
      have hI2 := hI.out.mkS
      refine hK.out _ _ trivial (fun hHeldE => ?_)
      clear hK K
      try simp only [Act.put, List.setIfInBounds_toArray, List.set_cons_zero, List.set_cons_succ]
      clear hHeldE hI
      generalize wc.alloc (.cells (flat fPv (List.replicate n Pv.zero)).toArray 44) = wn at *
      generalize wc.heap.size = s at *
      replace hI2 := hide hI2
      revert hI2
      revert wn
      revert a
      revert m1
      revert s
      exact k0_1_5.out
    ·
      obtain ⟨wn, hr, hI2⟩ := hI.out.put1 hx64.out
      refine step_insert rfl 26 (.tmp 25) (.const (.int .i64 1)) (.tmp 28) rfl _ _ _ rfl rfl rfl hr ?_
      refine hK.out _ _ trivial (fun hHeldE => ?_)
      clear hK K
      try simp only [Act.put]
      clear hHeldE hI
      clear hr
      replace hI2 := hide hI2
      refine wpAnyH_take (i := 7) (oi := { dst := some 29, op := Op.move (Operand.tmp 25), type := 26, pos := "law.go:38", after := #[{ on := 2, ground := Ground.data }, { on := 3, ground := Ground.data }, { on := 4, ground := Ground.data }, { on := 5, ground := Ground.data }, { on := 6, ground := Ground.data }], guard := none }) (v := ?v11) rfl (by kernel_rfl) (by kernel_rfl) (by kernel_rfl) (fun _ _ _ h => h) (Or.inl ⟨by rfl, ?y11⟩) trivial ?r11
      case y11 => (intro w hSw; (try dsimp only at hSw); (try (go_split_ands)); go_simp; try with_reducible rfl)
      try simp only [Act.put, List.setIfInBounds_toArray, List.set_cons_zero, List.set_cons_succ]
      revert hI2
      revert wn
      revert a
      revert m1
      exact k1_2_5.out
    ·
      refine step_makeMap rfl 26 rfl ?_
      have hI2 := hI.out.mk2
      refine hK.out _ _ trivial (fun hHeldE => ?_)
      clear hK K
      try simp only [Act.put, List.setIfInBounds_toArray, List.set_cons_zero, List.set_cons_succ]
      clear hHeldE hI
      generalize wc.alloc (.map #[] 0) = wn at *
      generalize wc.heap.size = m2 at *
      replace hI2 := hide hI2
      revert hI2
      revert wn
      revert a
      revert m2
      revert m1
      exact k1_3_5.out
  case pk1_3 =>
    refine hide ?_
    intro m1
    intro m2
    intro wc hI
    refine wpAnyH_ready (rs := [1, 6, 12, 15]) (by kernel_rfl) (by simp) ?_
    refine AllReadyH.cons (o := { dst := some 24, op := Op.makeSlice 25 (Operand.tmp 23) (Operand.tmp 23), type := 25, pos := "law.go:38", after := #[{ on := 0, ground := Ground.data }, { on := 0, ground := Ground.data }], guard := none }) rfl (fun K hK => ?_) (AllReadyH.cons (o := { dst := none, op := Op.insert 26 (Operand.tmp 25) (Operand.const (Value.int IntKind.i64 1)) (Operand.tmp 28), type := 0, pos := "law.go:38", after := #[{ on := 2, ground := Ground.data }, { on := 5, ground := Ground.data }], guard := none }) rfl (fun K hK => ?_) (AllReadyH.cons (o := { dst := none, op := Op.insert 26 (Operand.tmp 30) (Operand.const (Value.int IntKind.i64 1)) (Operand.tmp 33), type := 0, pos := "law.go:38", after := #[{ on := 8, ground := Ground.data }, { on := 11, ground := Ground.data }], guard := none }) rfl (fun K hK => ?_) (AllReadyH.cons (o := { dst := some 9, op := Op.alloc 28, type := 0, pos := "law.go:38", after := #[], guard := none }) rfl (fun K hK => ?_) (AllReadyH.nil))))
    ·
      refine step_make rfl 25 (.tmp 23) (.tmp 23) rfl n _ rfl rfl (make_Pv _ n hn16) ?_
      have hI2 := hI.out.mkS
      refine hK.out _ _ trivial (fun hHeldE => ?_)
      clear hK K
      try simp only [Act.put, List.setIfInBounds_toArray, List.set_cons_zero, List.set_cons_succ]
      clear hHeldE hI
      generalize wc.alloc (.cells (flat fPv (List.replicate n Pv.zero)).toArray 44) = wn at *
      generalize wc.heap.size = s at *
      replace hI2 := hide hI2
      revert hI2
      revert wn
      revert m2
      revert m1
      revert s
      exact k0_1_3.out
    ·
      obtain ⟨wn, hr, hI2⟩ := hI.out.put1 hx64.out
      refine step_insert rfl 26 (.tmp 25) (.const (.int .i64 1)) (.tmp 28) rfl _ _ _ rfl rfl rfl hr ?_
      refine hK.out _ _ trivial (fun hHeldE => ?_)
      clear hK K
      try simp only [Act.put]
      clear hHeldE hI
      clear hr
      replace hI2 := hide hI2
      refine wpAnyH_take (i := 7) (oi := { dst := some 29, op := Op.move (Operand.tmp 25), type := 26, pos := "law.go:38", after := #[{ on := 2, ground := Ground.data }, { on := 3, ground := Ground.data }, { on := 4, ground := Ground.data }, { on := 5, ground := Ground.data }, { on := 6, ground := Ground.data }], guard := none }) (v := ?v12) rfl (by kernel_rfl) (by kernel_rfl) (by kernel_rfl) (fun _ _ _ h => h) (Or.inl ⟨by rfl, ?y12⟩) trivial ?r12
      case y12 => (intro w hSw; (try dsimp only at hSw); (try (go_split_ands)); go_simp; try with_reducible rfl)
      try simp only [Act.put, List.setIfInBounds_toArray, List.set_cons_zero, List.set_cons_succ]
      revert hI2
      revert wn
      revert m2
      revert m1
      exact k1_2_3.out
    ·
      obtain ⟨wn, hr, hI2⟩ := hI.out.put2 hx64.out
      refine step_insert rfl 26 (.tmp 30) (.const (.int .i64 1)) (.tmp 33) rfl _ _ _ rfl rfl rfl hr ?_
      refine hK.out _ _ trivial (fun hHeldE => ?_)
      clear hK K
      try simp only [Act.put]
      clear hHeldE hI
      clear hr
      replace hI2 := hide hI2
      refine wpAnyH_take (i := 13) (oi := { dst := some 34, op := Op.move (Operand.tmp 30), type := 26, pos := "law.go:38", after := #[{ on := 8, ground := Ground.data }, { on := 9, ground := Ground.data }, { on := 10, ground := Ground.data }, { on := 11, ground := Ground.data }, { on := 12, ground := Ground.data }], guard := none }) (v := ?v13) rfl (by kernel_rfl) (by kernel_rfl) (by kernel_rfl) (fun _ _ _ h => h) (Or.inl ⟨by rfl, ?y13⟩) trivial ?r13
      case y13 => (intro w hSw; (try dsimp only at hSw); (try (go_split_ands)); go_simp; try with_reducible rfl)
      try simp only [Act.put, List.setIfInBounds_toArray, List.set_cons_zero, List.set_cons_succ]
      revert hI2
      revert wn
      revert m2
      revert m1
      exact k1_3_4.out
    ·
      refine step_alloc rfl 28 rfl _ (alloc_Md _) ?_
      have hI2 := hI.out.mkA
      refine hK.out _ _ trivial (fun hHeldE => ?_)
      clear hK K
      try simp only [Act.put, List.setIfInBounds_toArray, List.set_cons_zero, List.set_cons_succ]
      clear hHeldE hI
      generalize wc.alloc (.cells mdZero 28) = wn at *
      generalize wc.heap.size = a at *
      replace hI2 := hide hI2
      revert hI2
      revert wn
      revert a
      revert m2
      revert m1
      exact k1_3_5.out
  case pk1_2 =>
    refine hide ?_
    intro m1
    intro wc hI
    refine wpAnyH_ready (rs := [1, 8, 15]) (by kernel_rfl) (by simp) ?_
    refine AllReadyH.cons (o := { dst := some 24, op := Op.makeSlice 25 (Operand.tmp 23) (Operand.tmp 23), type := 25, pos := "law.go:38", after := #[{ on := 0, ground := Ground.data }, { on := 0, ground := Ground.data }], guard := none }) rfl (fun K hK => ?_) (AllReadyH.cons (o := { dst := some 30, op := Op.makeMap 26 none, type := 26, pos := "law.go:38", after := #[], guard := none }) rfl (fun K hK => ?_) (AllReadyH.cons (o := { dst := some 9, op := Op.alloc 28, type := 0, pos := "law.go:38", after := #[], guard := none }) rfl (fun K hK => ?_) (AllReadyH.nil)))
    ·
      refine step_make rfl 25 (.tmp 23) (.tmp 23) rfl n _ rfl rfl (make_Pv _ n hn16) ?_
      have hI2 := hI.out.mkS
      refine hK.out _ _ trivial (fun hHeldE => ?_)
      clear hK K
      try simp only [Act.put, List.setIfInBounds_toArray, List.set_cons_zero, List.set_cons_succ]
      clear hHeldE hI
      generalize wc.alloc (.cells (flat fPv (List.replicate n Pv.zero)).toArray 44) = wn at *
      generalize wc.heap.size = s at *
      replace hI2 := hide hI2
      revert hI2
      revert wn
      revert m1
      revert s
      exact k0_1_2.out
    ·
      refine step_makeMap rfl 26 rfl ?_
      have hI2 := hI.out.mk2
      refine hK.out _ _ trivial (fun hHeldE => ?_)
      clear hK K
      try simp only [Act.put, List.setIfInBounds_toArray, List.set_cons_zero, List.set_cons_succ]
      clear hHeldE hI
      generalize wc.alloc (.map #[] 0) = wn at *
      generalize wc.heap.size = m2 at *
      replace hI2 := hide hI2
      revert hI2
      revert wn
      revert m2
      revert m1
      exact k1_2_3.out
    ·
      refine step_alloc rfl 28 rfl _ (alloc_Md _) ?_
      have hI2 := hI.out.mkA
      refine hK.out _ _ trivial (fun hHeldE => ?_)
      clear hK K
      try simp only [Act.put, List.setIfInBounds_toArray, List.set_cons_zero, List.set_cons_succ]
      clear hHeldE hI
      generalize wc.alloc (.cells mdZero 28) = wn at *
      generalize wc.heap.size = a at *
      replace hI2 := hide hI2
      revert hI2
      revert wn
      revert a
      revert m1
      exact k1_2_5.out
  case pk0_5 =>
    refine hide ?_
    intro s
    intro a
    intro wc hI
    refine wpAnyH_ready (rs := [2, 8]) (by kernel_rfl) (by simp) ?_
    refine AllReadyH.cons (o := { dst := some 25, op := Op.makeMap 26 none, type := 26, pos := "law.go:38", after := #[], guard := none }) rfl (fun K hK => ?_) (AllReadyH.cons (o := { dst := some 30, op := Op.makeMap 26 none, type := 26, pos := "law.go:38", after := #[], guard := none }) rfl (fun K hK => ?_) (AllReadyH.nil))
    ·
      refine step_makeMap rfl 26 rfl ?_
      have hI2 := hI.out.mk1
      refine hK.out _ _ trivial (fun hHeldE => ?_)
      clear hK K
      try simp only [Act.put, List.setIfInBounds_toArray, List.set_cons_zero, List.set_cons_succ]
      clear hHeldE hI
      generalize wc.alloc (.map #[] 0) = wn at *
      generalize wc.heap.size = m1 at *
      replace hI2 := hide hI2
      revert hI2
      revert wn
      revert a
      revert m1
      revert s
      exact k0_1_5.out
    ·
      refine step_makeMap rfl 26 rfl ?_
      have hI2 := hI.out.mk2
      refine hK.out _ _ trivial (fun hHeldE => ?_)
      clear hK K
      try simp only [Act.put, List.setIfInBounds_toArray, List.set_cons_zero, List.set_cons_succ]
      clear hHeldE hI
      generalize wc.alloc (.map #[] 0) = wn at *
      generalize wc.heap.size = m2 at *
      replace hI2 := hide hI2
      revert hI2
      revert wn
      revert a
      revert m2
      revert s
      exact k0_3_5.out
  case pk0_3 =>
    refine hide ?_
    intro s
    intro m2
    intro wc hI
    refine wpAnyH_ready (rs := [2, 12, 15]) (by kernel_rfl) (by simp) ?_
    refine AllReadyH.cons (o := { dst := some 25, op := Op.makeMap 26 none, type := 26, pos := "law.go:38", after := #[], guard := none }) rfl (fun K hK => ?_) (AllReadyH.cons (o := { dst := none, op := Op.insert 26 (Operand.tmp 30) (Operand.const (Value.int IntKind.i64 1)) (Operand.tmp 33), type := 0, pos := "law.go:38", after := #[{ on := 8, ground := Ground.data }, { on := 11, ground := Ground.data }], guard := none }) rfl (fun K hK => ?_) (AllReadyH.cons (o := { dst := some 9, op := Op.alloc 28, type := 0, pos := "law.go:38", after := #[], guard := none }) rfl (fun K hK => ?_) (AllReadyH.nil)))
    ·
      refine step_makeMap rfl 26 rfl ?_
      have hI2 := hI.out.mk1
      refine hK.out _ _ trivial (fun hHeldE => ?_)
      clear hK K
      try simp only [Act.put, List.setIfInBounds_toArray, List.set_cons_zero, List.set_cons_succ]
      clear hHeldE hI
      generalize wc.alloc (.map #[] 0) = wn at *
      generalize wc.heap.size = m1 at *
      replace hI2 := hide hI2
      revert hI2
      revert wn
      revert m2
      revert m1
      revert s
      exact k0_1_3.out
    ·
      obtain ⟨wn, hr, hI2⟩ := hI.out.put2 hx64.out
      refine step_insert rfl 26 (.tmp 30) (.const (.int .i64 1)) (.tmp 33) rfl _ _ _ rfl rfl rfl hr ?_
      refine hK.out _ _ trivial (fun hHeldE => ?_)
      clear hK K
      try simp only [Act.put]
      clear hHeldE hI
      clear hr
      replace hI2 := hide hI2
      refine wpAnyH_take (i := 13) (oi := { dst := some 34, op := Op.move (Operand.tmp 30), type := 26, pos := "law.go:38", after := #[{ on := 8, ground := Ground.data }, { on := 9, ground := Ground.data }, { on := 10, ground := Ground.data }, { on := 11, ground := Ground.data }, { on := 12, ground := Ground.data }], guard := none }) (v := ?v14) rfl (by kernel_rfl) (by kernel_rfl) (by kernel_rfl) (fun _ _ _ h => h) (Or.inl ⟨by rfl, ?y14⟩) trivial ?r14
      case y14 => (intro w hSw; (try dsimp only at hSw); (try (go_split_ands)); go_simp; try with_reducible rfl)
      try simp only [Act.put, List.setIfInBounds_toArray, List.set_cons_zero, List.set_cons_succ]
      revert hI2
      revert wn
      revert m2
      revert s
      exact k0_3_4.out
    ·
      refine step_alloc rfl 28 rfl _ (alloc_Md _) ?_
      have hI2 := hI.out.mkA
      refine hK.out _ _ trivial (fun hHeldE => ?_)
      clear hK K
      try simp only [Act.put, List.setIfInBounds_toArray, List.set_cons_zero, List.set_cons_succ]
      clear hHeldE hI
      generalize wc.alloc (.cells mdZero 28) = wn at *
      generalize wc.heap.size = a at *
      replace hI2 := hide hI2
      revert hI2
      revert wn
      revert a
      revert m2
      revert s
      exact k0_3_5.out
  case pk0_1 =>
    refine hide ?_
    intro s
    intro m1
    intro wc hI
    refine wpAnyH_ready (rs := [6, 8, 15]) (by kernel_rfl) (by simp) ?_
    refine AllReadyH.cons (o := { dst := none, op := Op.insert 26 (Operand.tmp 25) (Operand.const (Value.int IntKind.i64 1)) (Operand.tmp 28), type := 0, pos := "law.go:38", after := #[{ on := 2, ground := Ground.data }, { on := 5, ground := Ground.data }], guard := none }) rfl (fun K hK => ?_) (AllReadyH.cons (o := { dst := some 30, op := Op.makeMap 26 none, type := 26, pos := "law.go:38", after := #[], guard := none }) rfl (fun K hK => ?_) (AllReadyH.cons (o := { dst := some 9, op := Op.alloc 28, type := 0, pos := "law.go:38", after := #[], guard := none }) rfl (fun K hK => ?_) (AllReadyH.nil)))
    ·
      obtain ⟨wn, hr, hI2⟩ := hI.out.put1 hx64.out
      refine step_insert rfl 26 (.tmp 25) (.const (.int .i64 1)) (.tmp 28) rfl _ _ _ rfl rfl rfl hr ?_
      refine hK.out _ _ trivial (fun hHeldE => ?_)
      clear hK K
      try simp only [Act.put]
      clear hHeldE hI
      clear hr
      replace hI2 := hide hI2
      refine wpAnyH_take (i := 7) (oi := { dst := some 29, op := Op.move (Operand.tmp 25), type := 26, pos := "law.go:38", after := #[{ on := 2, ground := Ground.data }, { on := 3, ground := Ground.data }, { on := 4, ground := Ground.data }, { on := 5, ground := Ground.data }, { on := 6, ground := Ground.data }], guard := none }) (v := ?v15) rfl (by kernel_rfl) (by kernel_rfl) (by kernel_rfl) (fun _ _ _ h => h) (Or.inl ⟨by rfl, ?y15⟩) trivial ?r15
      case y15 => (intro w hSw; (try dsimp only at hSw); (try (go_split_ands)); go_simp; try with_reducible rfl)
      try simp only [Act.put, List.setIfInBounds_toArray, List.set_cons_zero, List.set_cons_succ]
      revert hI2
      revert wn
      revert m1
      revert s
      exact k0_1_2.out
    ·
      refine step_makeMap rfl 26 rfl ?_
      have hI2 := hI.out.mk2
      refine hK.out _ _ trivial (fun hHeldE => ?_)
      clear hK K
      try simp only [Act.put, List.setIfInBounds_toArray, List.set_cons_zero, List.set_cons_succ]
      clear hHeldE hI
      generalize wc.alloc (.map #[] 0) = wn at *
      generalize wc.heap.size = m2 at *
      replace hI2 := hide hI2
      revert hI2
      revert wn
      revert m2
      revert m1
      revert s
      exact k0_1_3.out
    ·
      refine step_alloc rfl 28 rfl _ (alloc_Md _) ?_
      have hI2 := hI.out.mkA
      refine hK.out _ _ trivial (fun hHeldE => ?_)
      clear hK K
      try simp only [Act.put, List.setIfInBounds_toArray, List.set_cons_zero, List.set_cons_succ]
      clear hHeldE hI
      generalize wc.alloc (.cells mdZero 28) = wn at *
      generalize wc.heap.size = a at *
      replace hI2 := hide hI2
      revert hI2
      revert wn
      revert a
      revert m1
      revert s
      exact k0_1_5.out
  case pk3_4_5 =>
    refine hide ?_
    intro m2
    intro a
    intro wc hI
    refine wpAnyH_ready (rs := [1, 2]) (by kernel_rfl) (by simp) ?_
    refine AllReadyH.cons (o := { dst := some 24, op := Op.makeSlice 25 (Operand.tmp 23) (Operand.tmp 23), type := 25, pos := "law.go:38", after := #[{ on := 0, ground := Ground.data }, { on := 0, ground := Ground.data }], guard := none }) rfl (fun K hK => ?_) (AllReadyH.cons (o := { dst := some 25, op := Op.makeMap 26 none, type := 26, pos := "law.go:38", after := #[], guard := none }) rfl (fun K hK => ?_) (AllReadyH.nil))
    ·
      refine step_make rfl 25 (.tmp 23) (.tmp 23) rfl n _ rfl rfl (make_Pv _ n hn16) ?_
      have hI2 := hI.out.mkS
      refine hK.out _ _ trivial (fun hHeldE => ?_)
      clear hK K
      try simp only [Act.put, List.setIfInBounds_toArray, List.set_cons_zero, List.set_cons_succ]
      clear hHeldE hI
      generalize wc.alloc (.cells (flat fPv (List.replicate n Pv.zero)).toArray 44) = wn at *
      generalize wc.heap.size = s at *
      replace hI2 := hide hI2
      revert hI2
      revert wn
      revert a
      revert m2
      revert s
      exact k0_3_4_5.out
    ·
      refine step_makeMap rfl 26 rfl ?_
      have hI2 := hI.out.mk1
      refine hK.out _ _ trivial (fun hHeldE => ?_)
      clear hK K
      try simp only [Act.put, List.setIfInBounds_toArray, List.set_cons_zero, List.set_cons_succ]
      clear hHeldE hI
      generalize wc.alloc (.map #[] 0) = wn at *
      generalize wc.heap.size = m1 at *
      replace hI2 := hide hI2
      revert hI2
      revert wn
      revert a
      revert m2
      revert m1
      exact k1_3_4_5.out
  case pk1_3_5 =>
    refine hide ?_
    intro m1
    intro m2
    intro a
    intro wc hI
    refine wpAnyH_ready (rs := [1, 6, 12]) (by kernel_rfl) (by simp) ?_
    refine AllReadyH.cons (o := { dst := some 24, op := Op.makeSlice 25 (Operand.tmp 23) (Operand.tmp 23), type := 25, pos := "law.go:38", after := #[{ on := 0, ground := Ground.data }, { on := 0, ground := Ground.data }], guard := none }) rfl (fun K hK => ?_) (AllReadyH.cons (o := { dst := none, op := Op.insert 26 (Operand.tmp 25) (Operand.const (Value.int IntKind.i64 1)) (Operand.tmp 28), type := 0, pos := "law.go:38", after := #[{ on := 2, ground := Ground.data }, { on := 5, ground := Ground.data }], guard := none }) rfl (fun K hK => ?_) (AllReadyH.cons (o := { dst := none, op := Op.insert 26 (Operand.tmp 30) (Operand.const (Value.int IntKind.i64 1)) (Operand.tmp 33), type := 0, pos := "law.go:38", after := #[{ on := 8, ground := Ground.data }, { on := 11, ground := Ground.data }], guard := none }) rfl (fun K hK => ?_) (AllReadyH.nil)))
    ·
      refine step_make rfl 25 (.tmp 23) (.tmp 23) rfl n _ rfl rfl (make_Pv _ n hn16) ?_
      have hI2 := hI.out.mkS
      refine hK.out _ _ trivial (fun hHeldE => ?_)
      clear hK K
      try simp only [Act.put, List.setIfInBounds_toArray, List.set_cons_zero, List.set_cons_succ]
      clear hHeldE hI
      generalize wc.alloc (.cells (flat fPv (List.replicate n Pv.zero)).toArray 44) = wn at *
      generalize wc.heap.size = s at *
      replace hI2 := hide hI2
      revert hI2
      revert wn
      revert a
      revert m2
      revert m1
      revert s
      exact k0_1_3_5.out
    ·
      obtain ⟨wn, hr, hI2⟩ := hI.out.put1 hx64.out
      refine step_insert rfl 26 (.tmp 25) (.const (.int .i64 1)) (.tmp 28) rfl _ _ _ rfl rfl rfl hr ?_
      refine hK.out _ _ trivial (fun hHeldE => ?_)
      clear hK K
      try simp only [Act.put]
      clear hHeldE hI
      clear hr
      replace hI2 := hide hI2
      refine wpAnyH_take (i := 7) (oi := { dst := some 29, op := Op.move (Operand.tmp 25), type := 26, pos := "law.go:38", after := #[{ on := 2, ground := Ground.data }, { on := 3, ground := Ground.data }, { on := 4, ground := Ground.data }, { on := 5, ground := Ground.data }, { on := 6, ground := Ground.data }], guard := none }) (v := ?v16) rfl (by kernel_rfl) (by kernel_rfl) (by kernel_rfl) (fun _ _ _ h => h) (Or.inl ⟨by rfl, ?y16⟩) trivial ?r16
      case y16 => (intro w hSw; (try dsimp only at hSw); (try (go_split_ands)); go_simp; try with_reducible rfl)
      try simp only [Act.put, List.setIfInBounds_toArray, List.set_cons_zero, List.set_cons_succ]
      revert hI2
      revert wn
      revert a
      revert m2
      revert m1
      exact k1_2_3_5.out
    ·
      obtain ⟨wn, hr, hI2⟩ := hI.out.put2 hx64.out
      refine step_insert rfl 26 (.tmp 30) (.const (.int .i64 1)) (.tmp 33) rfl _ _ _ rfl rfl rfl hr ?_
      refine hK.out _ _ trivial (fun hHeldE => ?_)
      clear hK K
      try simp only [Act.put]
      clear hHeldE hI
      clear hr
      replace hI2 := hide hI2
      refine wpAnyH_take (i := 13) (oi := { dst := some 34, op := Op.move (Operand.tmp 30), type := 26, pos := "law.go:38", after := #[{ on := 8, ground := Ground.data }, { on := 9, ground := Ground.data }, { on := 10, ground := Ground.data }, { on := 11, ground := Ground.data }, { on := 12, ground := Ground.data }], guard := none }) (v := ?v17) rfl (by kernel_rfl) (by kernel_rfl) (by kernel_rfl) (fun _ _ _ h => h) (Or.inl ⟨by rfl, ?y17⟩) trivial ?r17
      case y17 => (intro w hSw; (try dsimp only at hSw); (try (go_split_ands)); go_simp; try with_reducible rfl)
      try simp only [Act.put, List.setIfInBounds_toArray, List.set_cons_zero, List.set_cons_succ]
      revert hI2
      revert wn
      revert a
      revert m2
      revert m1
      exact k1_3_4_5.out
  case pk1_3_4 =>
    refine hide ?_
    intro m1
    intro m2
    intro wc hI
    refine wpAnyH_ready (rs := [1, 6, 15]) (by kernel_rfl) (by simp) ?_
    refine AllReadyH.cons (o := { dst := some 24, op := Op.makeSlice 25 (Operand.tmp 23) (Operand.tmp 23), type := 25, pos := "law.go:38", after := #[{ on := 0, ground := Ground.data }, { on := 0, ground := Ground.data }], guard := none }) rfl (fun K hK => ?_) (AllReadyH.cons (o := { dst := none, op := Op.insert 26 (Operand.tmp 25) (Operand.const (Value.int IntKind.i64 1)) (Operand.tmp 28), type := 0, pos := "law.go:38", after := #[{ on := 2, ground := Ground.data }, { on := 5, ground := Ground.data }], guard := none }) rfl (fun K hK => ?_) (AllReadyH.cons (o := { dst := some 9, op := Op.alloc 28, type := 0, pos := "law.go:38", after := #[], guard := none }) rfl (fun K hK => ?_) (AllReadyH.nil)))
    ·
      refine step_make rfl 25 (.tmp 23) (.tmp 23) rfl n _ rfl rfl (make_Pv _ n hn16) ?_
      have hI2 := hI.out.mkS
      refine hK.out _ _ trivial (fun hHeldE => ?_)
      clear hK K
      try simp only [Act.put, List.setIfInBounds_toArray, List.set_cons_zero, List.set_cons_succ]
      clear hHeldE hI
      generalize wc.alloc (.cells (flat fPv (List.replicate n Pv.zero)).toArray 44) = wn at *
      generalize wc.heap.size = s at *
      replace hI2 := hide hI2
      revert hI2
      revert wn
      revert m2
      revert m1
      revert s
      exact k0_1_3_4.out
    ·
      obtain ⟨wn, hr, hI2⟩ := hI.out.put1 hx64.out
      refine step_insert rfl 26 (.tmp 25) (.const (.int .i64 1)) (.tmp 28) rfl _ _ _ rfl rfl rfl hr ?_
      refine hK.out _ _ trivial (fun hHeldE => ?_)
      clear hK K
      try simp only [Act.put]
      clear hHeldE hI
      clear hr
      replace hI2 := hide hI2
      refine wpAnyH_take (i := 7) (oi := { dst := some 29, op := Op.move (Operand.tmp 25), type := 26, pos := "law.go:38", after := #[{ on := 2, ground := Ground.data }, { on := 3, ground := Ground.data }, { on := 4, ground := Ground.data }, { on := 5, ground := Ground.data }, { on := 6, ground := Ground.data }], guard := none }) (v := ?v18) rfl (by kernel_rfl) (by kernel_rfl) (by kernel_rfl) (fun _ _ _ h => h) (Or.inl ⟨by rfl, ?y18⟩) trivial ?r18
      case y18 => (intro w hSw; (try dsimp only at hSw); (try (go_split_ands)); go_simp; try with_reducible rfl)
      try simp only [Act.put, List.setIfInBounds_toArray, List.set_cons_zero, List.set_cons_succ]
      revert hI2
      revert wn
      revert m2
      revert m1
      exact k1_2_3_4.out
    ·
      refine step_alloc rfl 28 rfl _ (alloc_Md _) ?_
      have hI2 := hI.out.mkA
      refine hK.out _ _ trivial (fun hHeldE => ?_)
      clear hK K
      try simp only [Act.put, List.setIfInBounds_toArray, List.set_cons_zero, List.set_cons_succ]
      clear hHeldE hI
      generalize wc.alloc (.cells mdZero 28) = wn at *
      generalize wc.heap.size = a at *
      replace hI2 := hide hI2
      revert hI2
      revert wn
      revert a
      revert m2
      revert m1
      exact k1_3_4_5.out
  case pk1_2_5 =>
    refine hide ?_
    intro m1
    intro a
    intro wc hI
    refine wpAnyH_ready (rs := [1, 8]) (by kernel_rfl) (by simp) ?_
    refine AllReadyH.cons (o := { dst := some 24, op := Op.makeSlice 25 (Operand.tmp 23) (Operand.tmp 23), type := 25, pos := "law.go:38", after := #[{ on := 0, ground := Ground.data }, { on := 0, ground := Ground.data }], guard := none }) rfl (fun K hK => ?_) (AllReadyH.cons (o := { dst := some 30, op := Op.makeMap 26 none, type := 26, pos := "law.go:38", after := #[], guard := none }) rfl (fun K hK => ?_) (AllReadyH.nil))
    ·
      refine step_make rfl 25 (.tmp 23) (.tmp 23) rfl n _ rfl rfl (make_Pv _ n hn16) ?_
      have hI2 := hI.out.mkS
      refine hK.out _ _ trivial (fun hHeldE => ?_)
      clear hK K
      try simp only [Act.put, List.setIfInBounds_toArray, List.set_cons_zero, List.set_cons_succ]
      clear hHeldE hI
      generalize wc.alloc (.cells (flat fPv (List.replicate n Pv.zero)).toArray 44) = wn at *
      generalize wc.heap.size = s at *
      replace hI2 := hide hI2
      revert hI2
      revert wn
      revert a
      revert m1
      revert s
      exact k0_1_2_5.out
    ·
      refine step_makeMap rfl 26 rfl ?_
      have hI2 := hI.out.mk2
      refine hK.out _ _ trivial (fun hHeldE => ?_)
      clear hK K
      try simp only [Act.put, List.setIfInBounds_toArray, List.set_cons_zero, List.set_cons_succ]
      clear hHeldE hI
      generalize wc.alloc (.map #[] 0) = wn at *
      generalize wc.heap.size = m2 at *
      replace hI2 := hide hI2
      revert hI2
      revert wn
      revert a
      revert m2
      revert m1
      exact k1_2_3_5.out
  case pk1_2_3 =>
    refine hide ?_
    intro m1
    intro m2
    intro wc hI
    refine wpAnyH_ready (rs := [1, 12, 15]) (by kernel_rfl) (by simp) ?_
    refine AllReadyH.cons (o := { dst := some 24, op := Op.makeSlice 25 (Operand.tmp 23) (Operand.tmp 23), type := 25, pos := "law.go:38", after := #[{ on := 0, ground := Ground.data }, { on := 0, ground := Ground.data }], guard := none }) rfl (fun K hK => ?_) (AllReadyH.cons (o := { dst := none, op := Op.insert 26 (Operand.tmp 30) (Operand.const (Value.int IntKind.i64 1)) (Operand.tmp 33), type := 0, pos := "law.go:38", after := #[{ on := 8, ground := Ground.data }, { on := 11, ground := Ground.data }], guard := none }) rfl (fun K hK => ?_) (AllReadyH.cons (o := { dst := some 9, op := Op.alloc 28, type := 0, pos := "law.go:38", after := #[], guard := none }) rfl (fun K hK => ?_) (AllReadyH.nil)))
    ·
      refine step_make rfl 25 (.tmp 23) (.tmp 23) rfl n _ rfl rfl (make_Pv _ n hn16) ?_
      have hI2 := hI.out.mkS
      refine hK.out _ _ trivial (fun hHeldE => ?_)
      clear hK K
      try simp only [Act.put, List.setIfInBounds_toArray, List.set_cons_zero, List.set_cons_succ]
      clear hHeldE hI
      generalize wc.alloc (.cells (flat fPv (List.replicate n Pv.zero)).toArray 44) = wn at *
      generalize wc.heap.size = s at *
      replace hI2 := hide hI2
      revert hI2
      revert wn
      revert m2
      revert m1
      revert s
      exact k0_1_2_3.out
    ·
      obtain ⟨wn, hr, hI2⟩ := hI.out.put2 hx64.out
      refine step_insert rfl 26 (.tmp 30) (.const (.int .i64 1)) (.tmp 33) rfl _ _ _ rfl rfl rfl hr ?_
      refine hK.out _ _ trivial (fun hHeldE => ?_)
      clear hK K
      try simp only [Act.put]
      clear hHeldE hI
      clear hr
      replace hI2 := hide hI2
      refine wpAnyH_take (i := 13) (oi := { dst := some 34, op := Op.move (Operand.tmp 30), type := 26, pos := "law.go:38", after := #[{ on := 8, ground := Ground.data }, { on := 9, ground := Ground.data }, { on := 10, ground := Ground.data }, { on := 11, ground := Ground.data }, { on := 12, ground := Ground.data }], guard := none }) (v := ?v19) rfl (by kernel_rfl) (by kernel_rfl) (by kernel_rfl) (fun _ _ _ h => h) (Or.inl ⟨by rfl, ?y19⟩) trivial ?r19
      case y19 => (intro w hSw; (try dsimp only at hSw); (try (go_split_ands)); go_simp; try with_reducible rfl)
      try simp only [Act.put, List.setIfInBounds_toArray, List.set_cons_zero, List.set_cons_succ]
      revert hI2
      revert wn
      revert m2
      revert m1
      exact k1_2_3_4.out
    ·
      refine step_alloc rfl 28 rfl _ (alloc_Md _) ?_
      have hI2 := hI.out.mkA
      refine hK.out _ _ trivial (fun hHeldE => ?_)
      clear hK K
      try simp only [Act.put, List.setIfInBounds_toArray, List.set_cons_zero, List.set_cons_succ]
      clear hHeldE hI
      generalize wc.alloc (.cells mdZero 28) = wn at *
      generalize wc.heap.size = a at *
      replace hI2 := hide hI2
      revert hI2
      revert wn
      revert a
      revert m2
      revert m1
      exact k1_2_3_5.out
  case pk0_3_5 =>
    refine hide ?_
    intro s
    intro m2
    intro a
    intro wc hI
    refine wpAnyH_ready (rs := [2, 12]) (by kernel_rfl) (by simp) ?_
    refine AllReadyH.cons (o := { dst := some 25, op := Op.makeMap 26 none, type := 26, pos := "law.go:38", after := #[], guard := none }) rfl (fun K hK => ?_) (AllReadyH.cons (o := { dst := none, op := Op.insert 26 (Operand.tmp 30) (Operand.const (Value.int IntKind.i64 1)) (Operand.tmp 33), type := 0, pos := "law.go:38", after := #[{ on := 8, ground := Ground.data }, { on := 11, ground := Ground.data }], guard := none }) rfl (fun K hK => ?_) (AllReadyH.nil))
    ·
      refine step_makeMap rfl 26 rfl ?_
      have hI2 := hI.out.mk1
      refine hK.out _ _ trivial (fun hHeldE => ?_)
      clear hK K
      try simp only [Act.put, List.setIfInBounds_toArray, List.set_cons_zero, List.set_cons_succ]
      clear hHeldE hI
      generalize wc.alloc (.map #[] 0) = wn at *
      generalize wc.heap.size = m1 at *
      replace hI2 := hide hI2
      revert hI2
      revert wn
      revert a
      revert m2
      revert m1
      revert s
      exact k0_1_3_5.out
    ·
      obtain ⟨wn, hr, hI2⟩ := hI.out.put2 hx64.out
      refine step_insert rfl 26 (.tmp 30) (.const (.int .i64 1)) (.tmp 33) rfl _ _ _ rfl rfl rfl hr ?_
      refine hK.out _ _ trivial (fun hHeldE => ?_)
      clear hK K
      try simp only [Act.put]
      clear hHeldE hI
      clear hr
      replace hI2 := hide hI2
      refine wpAnyH_take (i := 13) (oi := { dst := some 34, op := Op.move (Operand.tmp 30), type := 26, pos := "law.go:38", after := #[{ on := 8, ground := Ground.data }, { on := 9, ground := Ground.data }, { on := 10, ground := Ground.data }, { on := 11, ground := Ground.data }, { on := 12, ground := Ground.data }], guard := none }) (v := ?v20) rfl (by kernel_rfl) (by kernel_rfl) (by kernel_rfl) (fun _ _ _ h => h) (Or.inl ⟨by rfl, ?y20⟩) trivial ?r20
      case y20 => (intro w hSw; (try dsimp only at hSw); (try (go_split_ands)); go_simp; try with_reducible rfl)
      try simp only [Act.put, List.setIfInBounds_toArray, List.set_cons_zero, List.set_cons_succ]
      revert hI2
      revert wn
      revert a
      revert m2
      revert s
      exact k0_3_4_5.out
  case pk0_3_4 =>
    refine hide ?_
    intro s
    intro m2
    intro wc hI
    refine wpAnyH_ready (rs := [2, 15]) (by kernel_rfl) (by simp) ?_
    refine AllReadyH.cons (o := { dst := some 25, op := Op.makeMap 26 none, type := 26, pos := "law.go:38", after := #[], guard := none }) rfl (fun K hK => ?_) (AllReadyH.cons (o := { dst := some 9, op := Op.alloc 28, type := 0, pos := "law.go:38", after := #[], guard := none }) rfl (fun K hK => ?_) (AllReadyH.nil))
    ·
      refine step_makeMap rfl 26 rfl ?_
      have hI2 := hI.out.mk1
      refine hK.out _ _ trivial (fun hHeldE => ?_)
      clear hK K
      try simp only [Act.put, List.setIfInBounds_toArray, List.set_cons_zero, List.set_cons_succ]
      clear hHeldE hI
      generalize wc.alloc (.map #[] 0) = wn at *
      generalize wc.heap.size = m1 at *
      replace hI2 := hide hI2
      revert hI2
      revert wn
      revert m2
      revert m1
      revert s
      exact k0_1_3_4.out
    ·
      refine step_alloc rfl 28 rfl _ (alloc_Md _) ?_
      have hI2 := hI.out.mkA
      refine hK.out _ _ trivial (fun hHeldE => ?_)
      clear hK K
      try simp only [Act.put, List.setIfInBounds_toArray, List.set_cons_zero, List.set_cons_succ]
      clear hHeldE hI
      generalize wc.alloc (.cells mdZero 28) = wn at *
      generalize wc.heap.size = a at *
      replace hI2 := hide hI2
      revert hI2
      revert wn
      revert a
      revert m2
      revert s
      exact k0_3_4_5.out
  case pk0_1_5 =>
    refine hide ?_
    intro s
    intro m1
    intro a
    intro wc hI
    refine wpAnyH_ready (rs := [6, 8]) (by kernel_rfl) (by simp) ?_
    refine AllReadyH.cons (o := { dst := none, op := Op.insert 26 (Operand.tmp 25) (Operand.const (Value.int IntKind.i64 1)) (Operand.tmp 28), type := 0, pos := "law.go:38", after := #[{ on := 2, ground := Ground.data }, { on := 5, ground := Ground.data }], guard := none }) rfl (fun K hK => ?_) (AllReadyH.cons (o := { dst := some 30, op := Op.makeMap 26 none, type := 26, pos := "law.go:38", after := #[], guard := none }) rfl (fun K hK => ?_) (AllReadyH.nil))
    ·
      obtain ⟨wn, hr, hI2⟩ := hI.out.put1 hx64.out
      refine step_insert rfl 26 (.tmp 25) (.const (.int .i64 1)) (.tmp 28) rfl _ _ _ rfl rfl rfl hr ?_
      refine hK.out _ _ trivial (fun hHeldE => ?_)
      clear hK K
      try simp only [Act.put]
      clear hHeldE hI
      clear hr
      replace hI2 := hide hI2
      refine wpAnyH_take (i := 7) (oi := { dst := some 29, op := Op.move (Operand.tmp 25), type := 26, pos := "law.go:38", after := #[{ on := 2, ground := Ground.data }, { on := 3, ground := Ground.data }, { on := 4, ground := Ground.data }, { on := 5, ground := Ground.data }, { on := 6, ground := Ground.data }], guard := none }) (v := ?v21) rfl (by kernel_rfl) (by kernel_rfl) (by kernel_rfl) (fun _ _ _ h => h) (Or.inl ⟨by rfl, ?y21⟩) trivial ?r21
      case y21 => (intro w hSw; (try dsimp only at hSw); (try (go_split_ands)); go_simp; try with_reducible rfl)
      try simp only [Act.put, List.setIfInBounds_toArray, List.set_cons_zero, List.set_cons_succ]
      revert hI2
      revert wn
      revert a
      revert m1
      revert s
      exact k0_1_2_5.out
    ·
      refine step_makeMap rfl 26 rfl ?_
      have hI2 := hI.out.mk2
      refine hK.out _ _ trivial (fun hHeldE => ?_)
      clear hK K
      try simp only [Act.put, List.setIfInBounds_toArray, List.set_cons_zero, List.set_cons_succ]
      clear hHeldE hI
      generalize wc.alloc (.map #[] 0) = wn at *
      generalize wc.heap.size = m2 at *
      replace hI2 := hide hI2
      revert hI2
      revert wn
      revert a
      revert m2
      revert m1
      revert s
      exact k0_1_3_5.out
  case pk0_1_3 =>
    refine hide ?_
    intro s
    intro m1
    intro m2
    intro wc hI
    refine wpAnyH_ready (rs := [6, 12, 15]) (by kernel_rfl) (by simp) ?_
    refine AllReadyH.cons (o := { dst := none, op := Op.insert 26 (Operand.tmp 25) (Operand.const (Value.int IntKind.i64 1)) (Operand.tmp 28), type := 0, pos := "law.go:38", after := #[{ on := 2, ground := Ground.data }, { on := 5, ground := Ground.data }], guard := none }) rfl (fun K hK => ?_) (AllReadyH.cons (o := { dst := none, op := Op.insert 26 (Operand.tmp 30) (Operand.const (Value.int IntKind.i64 1)) (Operand.tmp 33), type := 0, pos := "law.go:38", after := #[{ on := 8, ground := Ground.data }, { on := 11, ground := Ground.data }], guard := none }) rfl (fun K hK => ?_) (AllReadyH.cons (o := { dst := some 9, op := Op.alloc 28, type := 0, pos := "law.go:38", after := #[], guard := none }) rfl (fun K hK => ?_) (AllReadyH.nil)))
    ·
      obtain ⟨wn, hr, hI2⟩ := hI.out.put1 hx64.out
      refine step_insert rfl 26 (.tmp 25) (.const (.int .i64 1)) (.tmp 28) rfl _ _ _ rfl rfl rfl hr ?_
      refine hK.out _ _ trivial (fun hHeldE => ?_)
      clear hK K
      try simp only [Act.put]
      clear hHeldE hI
      clear hr
      replace hI2 := hide hI2
      refine wpAnyH_take (i := 7) (oi := { dst := some 29, op := Op.move (Operand.tmp 25), type := 26, pos := "law.go:38", after := #[{ on := 2, ground := Ground.data }, { on := 3, ground := Ground.data }, { on := 4, ground := Ground.data }, { on := 5, ground := Ground.data }, { on := 6, ground := Ground.data }], guard := none }) (v := ?v22) rfl (by kernel_rfl) (by kernel_rfl) (by kernel_rfl) (fun _ _ _ h => h) (Or.inl ⟨by rfl, ?y22⟩) trivial ?r22
      case y22 => (intro w hSw; (try dsimp only at hSw); (try (go_split_ands)); go_simp; try with_reducible rfl)
      try simp only [Act.put, List.setIfInBounds_toArray, List.set_cons_zero, List.set_cons_succ]
      revert hI2
      revert wn
      revert m2
      revert m1
      revert s
      exact k0_1_2_3.out
    ·
      obtain ⟨wn, hr, hI2⟩ := hI.out.put2 hx64.out
      refine step_insert rfl 26 (.tmp 30) (.const (.int .i64 1)) (.tmp 33) rfl _ _ _ rfl rfl rfl hr ?_
      refine hK.out _ _ trivial (fun hHeldE => ?_)
      clear hK K
      try simp only [Act.put]
      clear hHeldE hI
      clear hr
      replace hI2 := hide hI2
      refine wpAnyH_take (i := 13) (oi := { dst := some 34, op := Op.move (Operand.tmp 30), type := 26, pos := "law.go:38", after := #[{ on := 8, ground := Ground.data }, { on := 9, ground := Ground.data }, { on := 10, ground := Ground.data }, { on := 11, ground := Ground.data }, { on := 12, ground := Ground.data }], guard := none }) (v := ?v23) rfl (by kernel_rfl) (by kernel_rfl) (by kernel_rfl) (fun _ _ _ h => h) (Or.inl ⟨by rfl, ?y23⟩) trivial ?r23
      case y23 => (intro w hSw; (try dsimp only at hSw); (try (go_split_ands)); go_simp; try with_reducible rfl)
      try simp only [Act.put, List.setIfInBounds_toArray, List.set_cons_zero, List.set_cons_succ]
      revert hI2
      revert wn
      revert m2
      revert m1
      revert s
      exact k0_1_3_4.out
    ·
      refine step_alloc rfl 28 rfl _ (alloc_Md _) ?_
      have hI2 := hI.out.mkA
      refine hK.out _ _ trivial (fun hHeldE => ?_)
      clear hK K
      try simp only [Act.put, List.setIfInBounds_toArray, List.set_cons_zero, List.set_cons_succ]
      clear hHeldE hI
      generalize wc.alloc (.cells mdZero 28) = wn at *
      generalize wc.heap.size = a at *
      replace hI2 := hide hI2
      revert hI2
      revert wn
      revert a
      revert m2
      revert m1
      revert s
      exact k0_1_3_5.out
  case pk0_1_2 =>
    refine hide ?_
    intro s
    intro m1
    intro wc hI
    refine wpAnyH_ready (rs := [8, 15]) (by kernel_rfl) (by simp) ?_
    refine AllReadyH.cons (o := { dst := some 30, op := Op.makeMap 26 none, type := 26, pos := "law.go:38", after := #[], guard := none }) rfl (fun K hK => ?_) (AllReadyH.cons (o := { dst := some 9, op := Op.alloc 28, type := 0, pos := "law.go:38", after := #[], guard := none }) rfl (fun K hK => ?_) (AllReadyH.nil))
    ·
      refine step_makeMap rfl 26 rfl ?_
      have hI2 := hI.out.mk2
      refine hK.out _ _ trivial (fun hHeldE => ?_)
      clear hK K
      try simp only [Act.put, List.setIfInBounds_toArray, List.set_cons_zero, List.set_cons_succ]
      clear hHeldE hI
      generalize wc.alloc (.map #[] 0) = wn at *
      generalize wc.heap.size = m2 at *
      replace hI2 := hide hI2
      revert hI2
      revert wn
      revert m2
      revert m1
      revert s
      exact k0_1_2_3.out
    ·
      refine step_alloc rfl 28 rfl _ (alloc_Md _) ?_
      have hI2 := hI.out.mkA
      refine hK.out _ _ trivial (fun hHeldE => ?_)
      clear hK K
      try simp only [Act.put, List.setIfInBounds_toArray, List.set_cons_zero, List.set_cons_succ]
      clear hHeldE hI
      generalize wc.alloc (.cells mdZero 28) = wn at *
      generalize wc.heap.size = a at *
      replace hI2 := hide hI2
      revert hI2
      revert wn
      revert a
      revert m1
      revert s
      exact k0_1_2_5.out
  case pk1_3_4_5 =>
    refine hide ?_
    intro m1
    intro m2
    intro a
    intro wc hI
    refine wpAnyH_ready (rs := [1, 6]) (by kernel_rfl) (by simp) ?_
    refine AllReadyH.cons (o := { dst := some 24, op := Op.makeSlice 25 (Operand.tmp 23) (Operand.tmp 23), type := 25, pos := "law.go:38", after := #[{ on := 0, ground := Ground.data }, { on := 0, ground := Ground.data }], guard := none }) rfl (fun K hK => ?_) (AllReadyH.cons (o := { dst := none, op := Op.insert 26 (Operand.tmp 25) (Operand.const (Value.int IntKind.i64 1)) (Operand.tmp 28), type := 0, pos := "law.go:38", after := #[{ on := 2, ground := Ground.data }, { on := 5, ground := Ground.data }], guard := none }) rfl (fun K hK => ?_) (AllReadyH.nil))
    ·
      refine step_make rfl 25 (.tmp 23) (.tmp 23) rfl n _ rfl rfl (make_Pv _ n hn16) ?_
      have hI2 := hI.out.mkS
      refine hK.out _ _ trivial (fun hHeldE => ?_)
      clear hK K
      try simp only [Act.put, List.setIfInBounds_toArray, List.set_cons_zero, List.set_cons_succ]
      clear hHeldE hI
      generalize wc.alloc (.cells (flat fPv (List.replicate n Pv.zero)).toArray 44) = wn at *
      generalize wc.heap.size = s at *
      replace hI2 := hide hI2
      revert hI2
      revert wn
      revert a
      revert m2
      revert m1
      revert s
      exact k0_1_3_4_5.out
    ·
      obtain ⟨wn, hr, hI2⟩ := hI.out.put1 hx64.out
      refine step_insert rfl 26 (.tmp 25) (.const (.int .i64 1)) (.tmp 28) rfl _ _ _ rfl rfl rfl hr ?_
      refine hK.out _ _ trivial (fun hHeldE => ?_)
      clear hK K
      try simp only [Act.put]
      clear hHeldE hI
      clear hr
      replace hI2 := hide hI2
      refine wpAnyH_take (i := 7) (oi := { dst := some 29, op := Op.move (Operand.tmp 25), type := 26, pos := "law.go:38", after := #[{ on := 2, ground := Ground.data }, { on := 3, ground := Ground.data }, { on := 4, ground := Ground.data }, { on := 5, ground := Ground.data }, { on := 6, ground := Ground.data }], guard := none }) (v := ?v24) rfl (by kernel_rfl) (by kernel_rfl) (by kernel_rfl) (fun _ _ _ h => h) (Or.inl ⟨by rfl, ?y24⟩) trivial ?r24
      case y24 => (intro w hSw; (try dsimp only at hSw); (try (go_split_ands)); go_simp; try with_reducible rfl)
      try simp only [Act.put, List.setIfInBounds_toArray, List.set_cons_zero, List.set_cons_succ]
      revert hI2
      revert wn
      revert a
      revert m2
      revert m1
      exact k1_2_3_4_5.out
  case pk1_2_3_5 =>
    refine hide ?_
    intro m1
    intro m2
    intro a
    intro wc hI
    refine wpAnyH_ready (rs := [1, 12]) (by kernel_rfl) (by simp) ?_
    refine AllReadyH.cons (o := { dst := some 24, op := Op.makeSlice 25 (Operand.tmp 23) (Operand.tmp 23), type := 25, pos := "law.go:38", after := #[{ on := 0, ground := Ground.data }, { on := 0, ground := Ground.data }], guard := none }) rfl (fun K hK => ?_) (AllReadyH.cons (o := { dst := none, op := Op.insert 26 (Operand.tmp 30) (Operand.const (Value.int IntKind.i64 1)) (Operand.tmp 33), type := 0, pos := "law.go:38", after := #[{ on := 8, ground := Ground.data }, { on := 11, ground := Ground.data }], guard := none }) rfl (fun K hK => ?_) (AllReadyH.nil))
    ·
      refine step_make rfl 25 (.tmp 23) (.tmp 23) rfl n _ rfl rfl (make_Pv _ n hn16) ?_
      have hI2 := hI.out.mkS
      refine hK.out _ _ trivial (fun hHeldE => ?_)
      clear hK K
      try simp only [Act.put, List.setIfInBounds_toArray, List.set_cons_zero, List.set_cons_succ]
      clear hHeldE hI
      generalize wc.alloc (.cells (flat fPv (List.replicate n Pv.zero)).toArray 44) = wn at *
      generalize wc.heap.size = s at *
      replace hI2 := hide hI2
      revert hI2
      revert wn
      revert a
      revert m2
      revert m1
      revert s
      exact k0_1_2_3_5.out
    ·
      obtain ⟨wn, hr, hI2⟩ := hI.out.put2 hx64.out
      refine step_insert rfl 26 (.tmp 30) (.const (.int .i64 1)) (.tmp 33) rfl _ _ _ rfl rfl rfl hr ?_
      refine hK.out _ _ trivial (fun hHeldE => ?_)
      clear hK K
      try simp only [Act.put]
      clear hHeldE hI
      clear hr
      replace hI2 := hide hI2
      refine wpAnyH_take (i := 13) (oi := { dst := some 34, op := Op.move (Operand.tmp 30), type := 26, pos := "law.go:38", after := #[{ on := 8, ground := Ground.data }, { on := 9, ground := Ground.data }, { on := 10, ground := Ground.data }, { on := 11, ground := Ground.data }, { on := 12, ground := Ground.data }], guard := none }) (v := ?v25) rfl (by kernel_rfl) (by kernel_rfl) (by kernel_rfl) (fun _ _ _ h => h) (Or.inl ⟨by rfl, ?y25⟩) trivial ?r25
      case y25 => (intro w hSw; (try dsimp only at hSw); (try (go_split_ands)); go_simp; try with_reducible rfl)
      try simp only [Act.put, List.setIfInBounds_toArray, List.set_cons_zero, List.set_cons_succ]
      revert hI2
      revert wn
      revert a
      revert m2
      revert m1
      exact k1_2_3_4_5.out
  case pk1_2_3_4 =>
    refine hide ?_
    intro m1
    intro m2
    intro wc hI
    refine wpAnyH_ready (rs := [1, 15]) (by kernel_rfl) (by simp) ?_
    refine AllReadyH.cons (o := { dst := some 24, op := Op.makeSlice 25 (Operand.tmp 23) (Operand.tmp 23), type := 25, pos := "law.go:38", after := #[{ on := 0, ground := Ground.data }, { on := 0, ground := Ground.data }], guard := none }) rfl (fun K hK => ?_) (AllReadyH.cons (o := { dst := some 9, op := Op.alloc 28, type := 0, pos := "law.go:38", after := #[], guard := none }) rfl (fun K hK => ?_) (AllReadyH.nil))
    ·
      refine step_make rfl 25 (.tmp 23) (.tmp 23) rfl n _ rfl rfl (make_Pv _ n hn16) ?_
      have hI2 := hI.out.mkS
      refine hK.out _ _ trivial (fun hHeldE => ?_)
      clear hK K
      try simp only [Act.put, List.setIfInBounds_toArray, List.set_cons_zero, List.set_cons_succ]
      clear hHeldE hI
      generalize wc.alloc (.cells (flat fPv (List.replicate n Pv.zero)).toArray 44) = wn at *
      generalize wc.heap.size = s at *
      replace hI2 := hide hI2
      refine wpAnyH_take (i := 14) (oi := { dst := some 35, op := Op.build 28 #[(0, Operand.tmp 24), (1, Operand.tmp 29), (2, Operand.tmp 34)], type := 28, pos := "law.go:38", after := #[{ on := 1, ground := Ground.data }, { on := 7, ground := Ground.data }, { on := 13, ground := Ground.data }], guard := none }) (v := ?v26) rfl (by kernel_rfl) (by kernel_rfl) (by kernel_rfl) (fun _ _ _ h => h) (Or.inl ⟨by rfl, ?y26⟩) trivial ?r26
      case y26 => (intro w hSw; (try dsimp only at hSw); (try (go_split_ands)); go_simp; try with_reducible rfl)
      try simp only [Act.put, List.setIfInBounds_toArray, List.set_cons_zero, List.set_cons_succ]
      revert hI2
      revert wn
      revert m2
      revert m1
      revert s
      exact k0_1_2_3_4.out
    ·
      refine step_alloc rfl 28 rfl _ (alloc_Md _) ?_
      have hI2 := hI.out.mkA
      refine hK.out _ _ trivial (fun hHeldE => ?_)
      clear hK K
      try simp only [Act.put, List.setIfInBounds_toArray, List.set_cons_zero, List.set_cons_succ]
      clear hHeldE hI
      generalize wc.alloc (.cells mdZero 28) = wn at *
      generalize wc.heap.size = a at *
      replace hI2 := hide hI2
      revert hI2
      revert wn
      revert a
      revert m2
      revert m1
      exact k1_2_3_4_5.out
  case pk0_3_4_5 =>
    refine hide ?_
    intro s
    intro m2
    intro a
    intro wc hI
    refine wpAnyH_ready (rs := [2]) (by kernel_rfl) (by simp) ?_
    refine AllReadyH.cons (o := { dst := some 25, op := Op.makeMap 26 none, type := 26, pos := "law.go:38", after := #[], guard := none }) rfl (fun K hK => ?_) AllReadyH.nil
    refine step_makeMap rfl 26 rfl ?_
    have hI2 := hI.out.mk1
    refine hK.out _ _ trivial (fun hHeldE => ?_)
    clear hK K
    try simp only [Act.put, List.setIfInBounds_toArray, List.set_cons_zero, List.set_cons_succ]
    clear hHeldE hI
    generalize wc.alloc (.map #[] 0) = wn at *
    generalize wc.heap.size = m1 at *
    replace hI2 := hide hI2
    revert hI2
    revert wn
    revert a
    revert m2
    revert m1
    revert s
    exact k0_1_3_4_5.out
  case pk0_1_3_5 =>
    refine hide ?_
    intro s
    intro m1
    intro m2
    intro a
    intro wc hI
    refine wpAnyH_ready (rs := [6, 12]) (by kernel_rfl) (by simp) ?_
    refine AllReadyH.cons (o := { dst := none, op := Op.insert 26 (Operand.tmp 25) (Operand.const (Value.int IntKind.i64 1)) (Operand.tmp 28), type := 0, pos := "law.go:38", after := #[{ on := 2, ground := Ground.data }, { on := 5, ground := Ground.data }], guard := none }) rfl (fun K hK => ?_) (AllReadyH.cons (o := { dst := none, op := Op.insert 26 (Operand.tmp 30) (Operand.const (Value.int IntKind.i64 1)) (Operand.tmp 33), type := 0, pos := "law.go:38", after := #[{ on := 8, ground := Ground.data }, { on := 11, ground := Ground.data }], guard := none }) rfl (fun K hK => ?_) (AllReadyH.nil))
    ·
      obtain ⟨wn, hr, hI2⟩ := hI.out.put1 hx64.out
      refine step_insert rfl 26 (.tmp 25) (.const (.int .i64 1)) (.tmp 28) rfl _ _ _ rfl rfl rfl hr ?_
      refine hK.out _ _ trivial (fun hHeldE => ?_)
      clear hK K
      try simp only [Act.put]
      clear hHeldE hI
      clear hr
      replace hI2 := hide hI2
      refine wpAnyH_take (i := 7) (oi := { dst := some 29, op := Op.move (Operand.tmp 25), type := 26, pos := "law.go:38", after := #[{ on := 2, ground := Ground.data }, { on := 3, ground := Ground.data }, { on := 4, ground := Ground.data }, { on := 5, ground := Ground.data }, { on := 6, ground := Ground.data }], guard := none }) (v := ?v27) rfl (by kernel_rfl) (by kernel_rfl) (by kernel_rfl) (fun _ _ _ h => h) (Or.inl ⟨by rfl, ?y27⟩) trivial ?r27
      case y27 => (intro w hSw; (try dsimp only at hSw); (try (go_split_ands)); go_simp; try with_reducible rfl)
      try simp only [Act.put, List.setIfInBounds_toArray, List.set_cons_zero, List.set_cons_succ]
      revert hI2
      revert wn
      revert a
      revert m2
      revert m1
      revert s
      exact k0_1_2_3_5.out
    ·
      obtain ⟨wn, hr, hI2⟩ := hI.out.put2 hx64.out
      refine step_insert rfl 26 (.tmp 30) (.const (.int .i64 1)) (.tmp 33) rfl _ _ _ rfl rfl rfl hr ?_
      refine hK.out _ _ trivial (fun hHeldE => ?_)
      clear hK K
      try simp only [Act.put]
      clear hHeldE hI
      clear hr
      replace hI2 := hide hI2
      refine wpAnyH_take (i := 13) (oi := { dst := some 34, op := Op.move (Operand.tmp 30), type := 26, pos := "law.go:38", after := #[{ on := 8, ground := Ground.data }, { on := 9, ground := Ground.data }, { on := 10, ground := Ground.data }, { on := 11, ground := Ground.data }, { on := 12, ground := Ground.data }], guard := none }) (v := ?v28) rfl (by kernel_rfl) (by kernel_rfl) (by kernel_rfl) (fun _ _ _ h => h) (Or.inl ⟨by rfl, ?y28⟩) trivial ?r28
      case y28 => (intro w hSw; (try dsimp only at hSw); (try (go_split_ands)); go_simp; try with_reducible rfl)
      try simp only [Act.put, List.setIfInBounds_toArray, List.set_cons_zero, List.set_cons_succ]
      revert hI2
      revert wn
      revert a
      revert m2
      revert m1
      revert s
      exact k0_1_3_4_5.out
  case pk0_1_3_4 =>
    refine hide ?_
    intro s
    intro m1
    intro m2
    intro wc hI
    refine wpAnyH_ready (rs := [6, 15]) (by kernel_rfl) (by simp) ?_
    refine AllReadyH.cons (o := { dst := none, op := Op.insert 26 (Operand.tmp 25) (Operand.const (Value.int IntKind.i64 1)) (Operand.tmp 28), type := 0, pos := "law.go:38", after := #[{ on := 2, ground := Ground.data }, { on := 5, ground := Ground.data }], guard := none }) rfl (fun K hK => ?_) (AllReadyH.cons (o := { dst := some 9, op := Op.alloc 28, type := 0, pos := "law.go:38", after := #[], guard := none }) rfl (fun K hK => ?_) (AllReadyH.nil))
    ·
      obtain ⟨wn, hr, hI2⟩ := hI.out.put1 hx64.out
      refine step_insert rfl 26 (.tmp 25) (.const (.int .i64 1)) (.tmp 28) rfl _ _ _ rfl rfl rfl hr ?_
      refine hK.out _ _ trivial (fun hHeldE => ?_)
      clear hK K
      try simp only [Act.put]
      clear hHeldE hI
      clear hr
      replace hI2 := hide hI2
      refine wpAnyH_take (i := 7) (oi := { dst := some 29, op := Op.move (Operand.tmp 25), type := 26, pos := "law.go:38", after := #[{ on := 2, ground := Ground.data }, { on := 3, ground := Ground.data }, { on := 4, ground := Ground.data }, { on := 5, ground := Ground.data }, { on := 6, ground := Ground.data }], guard := none }) (v := ?v29) rfl (by kernel_rfl) (by kernel_rfl) (by kernel_rfl) (fun _ _ _ h => h) (Or.inl ⟨by rfl, ?y29⟩) trivial ?r29
      case y29 => (intro w hSw; (try dsimp only at hSw); (try (go_split_ands)); go_simp; try with_reducible rfl)
      try simp only [Act.put, List.setIfInBounds_toArray, List.set_cons_zero, List.set_cons_succ]
      refine wpAnyH_take (i := 14) (oi := { dst := some 35, op := Op.build 28 #[(0, Operand.tmp 24), (1, Operand.tmp 29), (2, Operand.tmp 34)], type := 28, pos := "law.go:38", after := #[{ on := 1, ground := Ground.data }, { on := 7, ground := Ground.data }, { on := 13, ground := Ground.data }], guard := none }) (v := ?v30) rfl (by kernel_rfl) (by kernel_rfl) (by kernel_rfl) (fun _ _ _ h => h) (Or.inl ⟨by rfl, ?y30⟩) trivial ?r30
      case y30 => (intro w hSw; (try dsimp only at hSw); (try (go_split_ands)); go_simp; try with_reducible rfl)
      try simp only [Act.put, List.setIfInBounds_toArray, List.set_cons_zero, List.set_cons_succ]
      revert hI2
      revert wn
      revert m2
      revert m1
      revert s
      exact k0_1_2_3_4.out
    ·
      refine step_alloc rfl 28 rfl _ (alloc_Md _) ?_
      have hI2 := hI.out.mkA
      refine hK.out _ _ trivial (fun hHeldE => ?_)
      clear hK K
      try simp only [Act.put, List.setIfInBounds_toArray, List.set_cons_zero, List.set_cons_succ]
      clear hHeldE hI
      generalize wc.alloc (.cells mdZero 28) = wn at *
      generalize wc.heap.size = a at *
      replace hI2 := hide hI2
      revert hI2
      revert wn
      revert a
      revert m2
      revert m1
      revert s
      exact k0_1_3_4_5.out
  case pk0_1_2_5 =>
    refine hide ?_
    intro s
    intro m1
    intro a
    intro wc hI
    refine wpAnyH_ready (rs := [8]) (by kernel_rfl) (by simp) ?_
    refine AllReadyH.cons (o := { dst := some 30, op := Op.makeMap 26 none, type := 26, pos := "law.go:38", after := #[], guard := none }) rfl (fun K hK => ?_) AllReadyH.nil
    refine step_makeMap rfl 26 rfl ?_
    have hI2 := hI.out.mk2
    refine hK.out _ _ trivial (fun hHeldE => ?_)
    clear hK K
    try simp only [Act.put, List.setIfInBounds_toArray, List.set_cons_zero, List.set_cons_succ]
    clear hHeldE hI
    generalize wc.alloc (.map #[] 0) = wn at *
    generalize wc.heap.size = m2 at *
    replace hI2 := hide hI2
    revert hI2
    revert wn
    revert a
    revert m2
    revert m1
    revert s
    exact k0_1_2_3_5.out
  case pk0_1_2_3 =>
    refine hide ?_
    intro s
    intro m1
    intro m2
    intro wc hI
    refine wpAnyH_ready (rs := [12, 15]) (by kernel_rfl) (by simp) ?_
    refine AllReadyH.cons (o := { dst := none, op := Op.insert 26 (Operand.tmp 30) (Operand.const (Value.int IntKind.i64 1)) (Operand.tmp 33), type := 0, pos := "law.go:38", after := #[{ on := 8, ground := Ground.data }, { on := 11, ground := Ground.data }], guard := none }) rfl (fun K hK => ?_) (AllReadyH.cons (o := { dst := some 9, op := Op.alloc 28, type := 0, pos := "law.go:38", after := #[], guard := none }) rfl (fun K hK => ?_) (AllReadyH.nil))
    ·
      obtain ⟨wn, hr, hI2⟩ := hI.out.put2 hx64.out
      refine step_insert rfl 26 (.tmp 30) (.const (.int .i64 1)) (.tmp 33) rfl _ _ _ rfl rfl rfl hr ?_
      refine hK.out _ _ trivial (fun hHeldE => ?_)
      clear hK K
      try simp only [Act.put]
      clear hHeldE hI
      clear hr
      replace hI2 := hide hI2
      refine wpAnyH_take (i := 13) (oi := { dst := some 34, op := Op.move (Operand.tmp 30), type := 26, pos := "law.go:38", after := #[{ on := 8, ground := Ground.data }, { on := 9, ground := Ground.data }, { on := 10, ground := Ground.data }, { on := 11, ground := Ground.data }, { on := 12, ground := Ground.data }], guard := none }) (v := ?v31) rfl (by kernel_rfl) (by kernel_rfl) (by kernel_rfl) (fun _ _ _ h => h) (Or.inl ⟨by rfl, ?y31⟩) trivial ?r31
      case y31 => (intro w hSw; (try dsimp only at hSw); (try (go_split_ands)); go_simp; try with_reducible rfl)
      try simp only [Act.put, List.setIfInBounds_toArray, List.set_cons_zero, List.set_cons_succ]
      refine wpAnyH_take (i := 14) (oi := { dst := some 35, op := Op.build 28 #[(0, Operand.tmp 24), (1, Operand.tmp 29), (2, Operand.tmp 34)], type := 28, pos := "law.go:38", after := #[{ on := 1, ground := Ground.data }, { on := 7, ground := Ground.data }, { on := 13, ground := Ground.data }], guard := none }) (v := ?v32) rfl (by kernel_rfl) (by kernel_rfl) (by kernel_rfl) (fun _ _ _ h => h) (Or.inl ⟨by rfl, ?y32⟩) trivial ?r32
      case y32 => (intro w hSw; (try dsimp only at hSw); (try (go_split_ands)); go_simp; try with_reducible rfl)
      try simp only [Act.put, List.setIfInBounds_toArray, List.set_cons_zero, List.set_cons_succ]
      revert hI2
      revert wn
      revert m2
      revert m1
      revert s
      exact k0_1_2_3_4.out
    ·
      refine step_alloc rfl 28 rfl _ (alloc_Md _) ?_
      have hI2 := hI.out.mkA
      refine hK.out _ _ trivial (fun hHeldE => ?_)
      clear hK K
      try simp only [Act.put, List.setIfInBounds_toArray, List.set_cons_zero, List.set_cons_succ]
      clear hHeldE hI
      generalize wc.alloc (.cells mdZero 28) = wn at *
      generalize wc.heap.size = a at *
      replace hI2 := hide hI2
      revert hI2
      revert wn
      revert a
      revert m2
      revert m1
      revert s
      exact k0_1_2_3_5.out
  case pk1_2_3_4_5 =>
    refine hide ?_
    intro m1
    intro m2
    intro a
    intro wc hI
    refine wpAnyH_ready (rs := [1]) (by kernel_rfl) (by simp) ?_
    refine AllReadyH.cons (o := { dst := some 24, op := Op.makeSlice 25 (Operand.tmp 23) (Operand.tmp 23), type := 25, pos := "law.go:38", after := #[{ on := 0, ground := Ground.data }, { on := 0, ground := Ground.data }], guard := none }) rfl (fun K hK => ?_) AllReadyH.nil
    refine step_make rfl 25 (.tmp 23) (.tmp 23) rfl n _ rfl rfl (make_Pv _ n hn16) ?_
    have hI2 := hI.out.mkS
    refine hK.out _ _ trivial (fun hHeldE => ?_)
    clear hK K
    try simp only [Act.put, List.setIfInBounds_toArray, List.set_cons_zero, List.set_cons_succ]
    clear hHeldE hI
    generalize wc.alloc (.cells (flat fPv (List.replicate n Pv.zero)).toArray 44) = wn at *
    generalize wc.heap.size = s at *
    replace hI2 := hide hI2
    refine wpAnyH_take (i := 14) (oi := { dst := some 35, op := Op.build 28 #[(0, Operand.tmp 24), (1, Operand.tmp 29), (2, Operand.tmp 34)], type := 28, pos := "law.go:38", after := #[{ on := 1, ground := Ground.data }, { on := 7, ground := Ground.data }, { on := 13, ground := Ground.data }], guard := none }) (v := ?v33) rfl (by kernel_rfl) (by kernel_rfl) (by kernel_rfl) (fun _ _ _ h => h) (Or.inl ⟨by rfl, ?y33⟩) trivial ?r33
    case y33 => (intro w hSw; (try dsimp only at hSw); (try (go_split_ands)); go_simp; try with_reducible rfl)
    try simp only [Act.put, List.setIfInBounds_toArray, List.set_cons_zero, List.set_cons_succ]
    revert hI2
    revert wn
    revert a
    revert m2
    revert m1
    revert s
    exact k0_1_2_3_4_5.out
  case pk0_1_3_4_5 =>
    refine hide ?_
    intro s
    intro m1
    intro m2
    intro a
    intro wc hI
    refine wpAnyH_ready (rs := [6]) (by kernel_rfl) (by simp) ?_
    refine AllReadyH.cons (o := { dst := none, op := Op.insert 26 (Operand.tmp 25) (Operand.const (Value.int IntKind.i64 1)) (Operand.tmp 28), type := 0, pos := "law.go:38", after := #[{ on := 2, ground := Ground.data }, { on := 5, ground := Ground.data }], guard := none }) rfl (fun K hK => ?_) AllReadyH.nil
    obtain ⟨wn, hr, hI2⟩ := hI.out.put1 hx64.out
    refine step_insert rfl 26 (.tmp 25) (.const (.int .i64 1)) (.tmp 28) rfl _ _ _ rfl rfl rfl hr ?_
    refine hK.out _ _ trivial (fun hHeldE => ?_)
    clear hK K
    try simp only [Act.put]
    clear hHeldE hI
    clear hr
    replace hI2 := hide hI2
    refine wpAnyH_take (i := 7) (oi := { dst := some 29, op := Op.move (Operand.tmp 25), type := 26, pos := "law.go:38", after := #[{ on := 2, ground := Ground.data }, { on := 3, ground := Ground.data }, { on := 4, ground := Ground.data }, { on := 5, ground := Ground.data }, { on := 6, ground := Ground.data }], guard := none }) (v := ?v34) rfl (by kernel_rfl) (by kernel_rfl) (by kernel_rfl) (fun _ _ _ h => h) (Or.inl ⟨by rfl, ?y34⟩) trivial ?r34
    case y34 => (intro w hSw; (try dsimp only at hSw); (try (go_split_ands)); go_simp; try with_reducible rfl)
    try simp only [Act.put, List.setIfInBounds_toArray, List.set_cons_zero, List.set_cons_succ]
    refine wpAnyH_take (i := 14) (oi := { dst := some 35, op := Op.build 28 #[(0, Operand.tmp 24), (1, Operand.tmp 29), (2, Operand.tmp 34)], type := 28, pos := "law.go:38", after := #[{ on := 1, ground := Ground.data }, { on := 7, ground := Ground.data }, { on := 13, ground := Ground.data }], guard := none }) (v := ?v35) rfl (by kernel_rfl) (by kernel_rfl) (by kernel_rfl) (fun _ _ _ h => h) (Or.inl ⟨by rfl, ?y35⟩) trivial ?r35
    case y35 => (intro w hSw; (try dsimp only at hSw); (try (go_split_ands)); go_simp; try with_reducible rfl)
    try simp only [Act.put, List.setIfInBounds_toArray, List.set_cons_zero, List.set_cons_succ]
    revert hI2
    revert wn
    revert a
    revert m2
    revert m1
    revert s
    exact k0_1_2_3_4_5.out
  case pk0_1_2_3_5 =>
    refine hide ?_
    intro s
    intro m1
    intro m2
    intro a
    intro wc hI
    refine wpAnyH_ready (rs := [12]) (by kernel_rfl) (by simp) ?_
    refine AllReadyH.cons (o := { dst := none, op := Op.insert 26 (Operand.tmp 30) (Operand.const (Value.int IntKind.i64 1)) (Operand.tmp 33), type := 0, pos := "law.go:38", after := #[{ on := 8, ground := Ground.data }, { on := 11, ground := Ground.data }], guard := none }) rfl (fun K hK => ?_) AllReadyH.nil
    obtain ⟨wn, hr, hI2⟩ := hI.out.put2 hx64.out
    refine step_insert rfl 26 (.tmp 30) (.const (.int .i64 1)) (.tmp 33) rfl _ _ _ rfl rfl rfl hr ?_
    refine hK.out _ _ trivial (fun hHeldE => ?_)
    clear hK K
    try simp only [Act.put]
    clear hHeldE hI
    clear hr
    replace hI2 := hide hI2
    refine wpAnyH_take (i := 13) (oi := { dst := some 34, op := Op.move (Operand.tmp 30), type := 26, pos := "law.go:38", after := #[{ on := 8, ground := Ground.data }, { on := 9, ground := Ground.data }, { on := 10, ground := Ground.data }, { on := 11, ground := Ground.data }, { on := 12, ground := Ground.data }], guard := none }) (v := ?v36) rfl (by kernel_rfl) (by kernel_rfl) (by kernel_rfl) (fun _ _ _ h => h) (Or.inl ⟨by rfl, ?y36⟩) trivial ?r36
    case y36 => (intro w hSw; (try dsimp only at hSw); (try (go_split_ands)); go_simp; try with_reducible rfl)
    try simp only [Act.put, List.setIfInBounds_toArray, List.set_cons_zero, List.set_cons_succ]
    refine wpAnyH_take (i := 14) (oi := { dst := some 35, op := Op.build 28 #[(0, Operand.tmp 24), (1, Operand.tmp 29), (2, Operand.tmp 34)], type := 28, pos := "law.go:38", after := #[{ on := 1, ground := Ground.data }, { on := 7, ground := Ground.data }, { on := 13, ground := Ground.data }], guard := none }) (v := ?v37) rfl (by kernel_rfl) (by kernel_rfl) (by kernel_rfl) (fun _ _ _ h => h) (Or.inl ⟨by rfl, ?y37⟩) trivial ?r37
    case y37 => (intro w hSw; (try dsimp only at hSw); (try (go_split_ands)); go_simp; try with_reducible rfl)
    try simp only [Act.put, List.setIfInBounds_toArray, List.set_cons_zero, List.set_cons_succ]
    revert hI2
    revert wn
    revert a
    revert m2
    revert m1
    revert s
    exact k0_1_2_3_4_5.out
  case pk0_1_2_3_4 =>
    refine hide ?_
    intro s
    intro m1
    intro m2
    intro wc hI
    refine wpAnyH_ready (rs := [15]) (by kernel_rfl) (by simp) ?_
    refine AllReadyH.cons (o := { dst := some 9, op := Op.alloc 28, type := 0, pos := "law.go:38", after := #[], guard := none }) rfl (fun K hK => ?_) AllReadyH.nil
    refine step_alloc rfl 28 rfl _ (alloc_Md _) ?_
    have hI2 := hI.out.mkA
    refine hK.out _ _ trivial (fun hHeldE => ?_)
    clear hK K
    try simp only [Act.put, List.setIfInBounds_toArray, List.set_cons_zero, List.set_cons_succ]
    clear hHeldE hI
    generalize wc.alloc (.cells mdZero 28) = wn at *
    generalize wc.heap.size = a at *
    replace hI2 := hide hI2
    revert hI2
    revert wn
    revert a
    revert m2
    revert m1
    revert s
    exact k0_1_2_3_4_5.out
  case pk0_1_2_3_4_5 =>
    refine hide ?_
    intro s
    intro m1
    intro m2
    intro a
    intro wc hI
    have hA := hI.out.ha a rfl
    have hVs := hide (Vs.start (W := w) hn16 hV.out hb02.out hl.out hI.out)
    refine wpAnyH_ready (rs := [16]) (by kernel_rfl) (by simp) ?_
    refine AllReadyH.cons (o := { dst := none, op := Op.store 28 (Operand.tmp 9) (Operand.tmp 35), type := 0, pos := "law.go:38", after := #[{ on := 15, ground := Ground.data }, { on := 14, ground := Ground.data }, { on := 0, ground := Ground.phase }, { on := 1, ground := Ground.phase }, { on := 2, ground := Ground.phase }, { on := 3, ground := Ground.phase }, { on := 4, ground := Ground.phase }, { on := 5, ground := Ground.phase }, { on := 6, ground := Ground.phase }, { on := 7, ground := Ground.phase }, { on := 8, ground := Ground.phase }, { on := 9, ground := Ground.phase }, { on := 10, ground := Ground.phase }, { on := 11, ground := Ground.phase }, { on := 12, ground := Ground.phase }, { on := 13, ground := Ground.phase }, { on := 14, ground := Ground.phase }, { on := 15, ground := Ground.phase }], guard := none }) rfl (fun K hK => ?_) AllReadyH.nil
    refine step_store_row rfl 28 (.tmp 9) (.tmp 35) rfl a #[.slice (some ⟨s, 0, none⟩) n n, .map (some m1), .map (some m2)] rfl rfl 28 _ hA.2 (mdSize _ _ _ _) rfl (by simp [Value.oneCell']) ?_
    have hRN3 : Hid ((wc.setRow a #[.slice (some ⟨s, 0, none⟩) n n, .map (some m1), .map (some m2)]).heap[w.heap.size]? = some (.cells mdZero 28 (0, 0))) := by
      have h1 := heap_kept hI.out.below hRN2.out
      exact (Go.setRow_other wc a w.heap.size _ (by have := (Array.getElem?_eq_some_iff.1 hRN2.out).1; have := hA.1; omega)).trans h1
    have hWK : Hid (w.heap.size < w2.heap.size) := (Array.getElem?_eq_some_iff.1 hRN2.out).1
    refine hK.out _ _ trivial (fun hHeldZ => ?_)
    clear hK K
    try simp only [Act.put]
    refine wpAnyH_done (by kernel_rfl) ?_ _
    refine NoPanic.normal ?_
    clear hA hI hHeldZ hHeld hV hRN2 hb02 hl hx64 
    generalize wc.setRow a #[.slice (some ⟨s, 0, none⟩) n n, .map (some m1), .map (some m2)] = w4 at *
    generalize w2.heap.size = K0 at *
    clear wc w2
    have hz0 : halfL n 0 = List.replicate n Pv.zero := by simp [halfL]
    rw [← hz0] at hVs
    clear hz0
    have ha0 := hVs.out.a0
    rw [List.length_replicate] at ha0
    go_wp2_with fail
    clear ha0
    go_loopw [39] (fun i wr => ∃ j : Nat, j ≤ n ∧ i = .int .i64 j ∧ Hid (Vs K0 w wr g pb mb a s m1 m2 (List.replicate n pvOne) (halfL n j) (newF n) (newC n) (updK (fun _ => none) 1 (some (allN n))) (updK (fun _ => none) 1 (some (allN n))) 1 1) ∧ Hid (wr.heap[w.heap.size]? = some (.cells mdZero 28 (0, 0)))) (fun i _ => n - (intOf i).toNat)
    case atStart => exact ⟨0, Nat.zero_le _, rfl, hVs, hRN3⟩
    case round =>
      obtain ⟨j, hj, rfl, hV, hR⟩ := hrel
      clear hVs hRN3
      by_cases hlt : j < n
      · have hl := halfL_len hj
        have ha0 := hV.out.a0
        rw [List.length_replicate] at ha0
        have hc := hV.out.fl.cell wide_Pv Pv.zero j 1 (by rw [hl]; exact hlt) (by omega)
        have hg : (halfL n j).getD j Pv.zero = Pv.zero := by
          simp only [halfL, List.getD_eq_getElem?_getD, List.getElem?_append, List.length_replicate, Nat.lt_irrefl, if_false, Nat.sub_self, List.getElem?_replicate]
          split <;> rfl
        rw [hg] at hc
        have hz := hV.out.fl.frozen (j * 4 + 1)
        have hF := hV.out.fl.set wide_Pv Pv.zero j 1 (.int .i64 1) pvOne (by rw [hl]; exact hlt) (by omega) (by rw [hg]; rfl)
        rw [halfL_set hlt] at hF
        have hS := hide (hV.out.port (Ch.setCells s (j * 4 + 1) wr [.int .i64 1]) hF (by rw [halfL_len (by omega), List.length_replicate]))
        have hR1 : Hid ((wr.setCell ⟨s, j * 4 + 1, none⟩ (.int .i64 1)).heap[w.heap.size]? = some (.cells mdZero 28 (0, 0))) := (heap_setCell_other wr ⟨s, j * 4 + 1, none⟩ w.heap.size _ (by have := hV.out.ne; have := hWK.out; dsimp only; omega)).trans hR.out
        clear hV hF hR hg hl
        go_wp2
        go_roundw
        case rel => exact ⟨j + 1, by omega, by go_num, hS, hR1⟩
        case measure => simp [intOf]; omega
      · obtain rfl : n = j := by omega
        have hz : halfL n n = List.replicate n pvOne := by simp [halfL]
        rw [hz] at hV
        have hK0 : Hid (Ks K0 w wr g pb mb a s m1 m2 n 0) := ⟨_, _, _, _, _, _, _, hV.out, Tie.new n hn16, List.length_replicate, ⟨by omega, by omega, by unfold newC; split <;> omega⟩, pvOne_wf n⟩
        have ha0 := hV.out.a0
        rw [List.length_replicate] at ha0
        clear hV hz
        go_wp2_with fail
        clear ha0
        generalize wr = w5 at *
        have hxs : IntKind.i64.wrap (2 ^ n) = 2 ^ n := by rw [IntWalk.i64_left]; have := allN_pos hn16; unfold allN at this; exact IntWalk.wrap64_in _ (by omega)
        have hxs' : wrap64 (2 ^ n) = 2 ^ n := by have := allN_pos hn16; unfold allN at this; exact IntWalk.wrap64_in _ (by omega)
        simp only [hxs]
        go_loopw [50] (fun i wr => ∃ k : Nat, k ≤ L ∧ i = .int .i64 k ∧ Hid (Ks K0 w wr g pb mb a s m1 m2 n k) ∧ Hid (wr.heap[w.heap.size]? = some (.cells mdZero 28 (0, 0)))) (fun i _ => L - (intOf i).toNat)
        case atStart => exact ⟨0, Nat.zero_le _, rfl, hK0, hR⟩
        case round =>
          obtain ⟨k, hk, rfl, hKs, hR⟩ := hrel
          clear hK0
          by_cases hlt2 : k < L
          · obtain ⟨ps, f, c, fm, fp, cm, cp, hV, hT, hps, hbig, hpv⟩ := hKs.out
            obtain ⟨b0, off, rfl, hrg⟩ := (hX.out.below hV.below).1.at_i k hlt2
            have hwf := (hX.out).2 k hlt2
            generalize xs.getD k Va.zero = X at *
            obtain ⟨kd, v, m', p', ⟨ac, pv, pc, fl⟩, at'⟩ := X
            obtain ⟨wk, wv, wm, wp, wac, wpv, wpc, wat⟩ := hwf
            dsimp only at wk wv wm wp wac wpv wpc wat
            have hrg' := hide hrg
            clear hrg
            have hps' := hide hps
            replace hV := hide hV
            replace hT := hide hT
            replace hbig := hide hbig
            replace hpv := hide hpv
            replace wk := hide wk
            replace wv := hide wv
            replace wm := hide wm
            replace wp := hide wp
            replace wac := hide wac
            replace wpv := hide wpv
            replace wpc := hide wpc
            replace wat := hide wat
            clear hps hKs
            go_wp2_with (first | ((with_reducible change wpList _ _ _ _ _ _); refine wpList_load_mid rfl 82 (.tmp 52) rfl b0 (off + k * 9) rfl (fVa ⟨kd, v, m', p', ⟨ac, pv, pc, fl⟩, at'⟩) _ hrg'.out Try.underlying82 rfl (vaLen _) ?_) | ((with_reducible change wpList _ _ _ _ _ _); refine stop_storeB 82 (.tmp 12) (.tmp 53) rfl ?_))
            refine hide (wpList_store_fresh rfl 82 (.tmp 12) (.tmp 53) rfl (fVa ⟨kd, v, m', p', ⟨ac, pv, pc, fl⟩, at'⟩).toArray (fVa Va.zero).toArray rfl rfl 82 (vaSize _) rfl (va_all _) ?_)
            intro w6 h6 hb6
            have x0 : w6.cell? ⟨wr.heap.size, 0, none⟩ = some (.int .i64 kd) := (cell_of_row _ _ _ _ _ _ h6).trans rfl
            have x1 : w6.cell? ⟨wr.heap.size, 1, none⟩ = some (.int .i64 v) := (cell_of_row _ _ _ _ _ _ h6).trans rfl
            have x2 : w6.cell? ⟨wr.heap.size, 2, none⟩ = some (.int .i64 m') := (cell_of_row _ _ _ _ _ _ h6).trans rfl
            have x3 : w6.cell? ⟨wr.heap.size, 3, none⟩ = some (.int .i64 p') := (cell_of_row _ _ _ _ _ _ h6).trans rfl
            have x8 : w6.cell? ⟨wr.heap.size, 8, none⟩ = some (.int .i64 at') := (cell_of_row _ _ _ _ _ _ h6).trans rfl
            have hV6 := hide (hV.out.later hb6)
            have hR6 := hide (heap_kept hb6 hR.out)
            have hB6 : Hid (wr.heap.size < w6.heap.size ∧ K0 ≤ wr.heap.size ∧ a < wr.heap.size ∧ s < wr.heap.size ∧ m1 < wr.heap.size ∧ m2 < wr.heap.size) := by
              have h1 := (Array.getElem?_eq_some_iff.1 h6).1
              have h2 := hV.out.ne
              have h3 := hV.out.lta
              exact ⟨h1, by omega, h3, hV.out.fl.lt, hV.out.mm.lt, hV.out.mp.lt⟩
            replace h6 := hide h6
            clear hV hR hrg' hb6
            generalize wr.heap.size = D at *
            clear wr
            by_cases e0 : kd = 0
            · subst e0
              as_aux_lemma =>
                have hS := hide (Set_all hV6.out.tbl v m' p' (by have := hbig.out; omega))
                go_wp2_with fail
                refine hS.out.mono ?_
                rintro _ w7 ⟨e, f', c', rfl, hT7, hC7, hD7⟩
                have hxa : Hid (∀ k x, w6.cell? ⟨D, k, none⟩ = some x → w7.cell? ⟨D, k, none⟩ = some x) := fun k x hx => (World.cell?_of_block (a := ⟨D, k, none⟩) (hC7.block D hB6.out.1 (by have := hB6.out; have := hV6.out.ne; omega))).trans hx
                replace x1 := hxa.out 1 _ x1
                replace x2 := hxa.out 2 _ x2
                replace x3 := hxa.out 3 _ x3
                have hRf : Hid (w7.drew.heap[w.heap.size]? = some (.cells mdZero 28 (0, 0))) := (hC7.block w.heap.size (Array.getElem?_eq_some_iff.1 hR6.out).1 (by have := hmbW.out; omega)).trans hR6.out
                have hV7 := hide (hV6.out.tab hC7 (fun k e => .inr e) hT7 rfl)
                rw [hps'.out] at hD7
                have hLk : (Instr.lookup 26 (.map (some m1)) (.int .i64 v) true).run Try.prog w7 = .ok (.tuple #[.int .i64 ((fm v).getD 0), .bool (fm v).isSome]) w7 := hV7.out.mm.lookok iT_good v wv.out
                have ca1 := hV7.out.a1
                have ca2 := hV7.out.a2
                replace hD7 := hide hD7
                clear hS hxa hV6 hC7 hT7 x0 x8 h6 hR6 wac wpv wpc wat
                generalize hgv : (fm v).getD 0 = gv at *
                generalize hgb : (fm v).isSome = gb at *
                replace hgb := hide hgb
                clear hgv
                go_wp2_with fail
                obtain ⟨c1, hc1⟩ : ∃ x : Bool, Hid (x = decide (v < 1)) := ⟨_, rfl⟩
                obtain ⟨c2, hc2⟩ : ∃ x : Bool, Hid (x = decide (4094 < v)) := ⟨_, rfl⟩
                obtain ⟨c3, hc3⟩ : ∃ x : Bool, Hid (x = decide (m' < 0)) := ⟨_, rfl⟩
                obtain ⟨c4, hc4⟩ : ∃ x : Bool, Hid (x = decide ((2 : Int) ^ n ≤ m')) := ⟨_, rfl⟩
                obtain ⟨c5, hc5⟩ : ∃ x : Bool, Hid (x = decide (p' < 0)) := ⟨_, rfl⟩
                obtain ⟨c6, hc6⟩ : ∃ x : Bool, Hid (x = (bits .and .i64 p' m' != p')) := ⟨_, rfl⟩
                obtain ⟨d2, hd2⟩ : ∃ x : Bool, Hid (x = (c1 || c2)) := ⟨_, rfl⟩
                obtain ⟨d3, hd3⟩ : ∃ x : Bool, Hid (x = (d2 || c3)) := ⟨_, rfl⟩
                obtain ⟨d4, hd4⟩ : ∃ x : Bool, Hid (x = (d3 || c4)) := ⟨_, rfl⟩
                obtain ⟨d5, hd5⟩ : ∃ x : Bool, Hid (x = (d4 || c5)) := ⟨_, rfl⟩
                obtain ⟨d6, hd6⟩ : ∃ x : Bool, Hid (x = (d5 || c6)) := ⟨_, rfl⟩
                refine wp_region_noPanic ?_
                refine wp_region_held_drew (S := fun W => W.cell? ⟨D, 1, none⟩ = some (.int .i64 v) ∧ W.cell? ⟨D, 2, none⟩ = some (.int .i64 m') ∧ W.cell? ⟨D, 3, none⟩ = some (.int .i64 p')) (by kernel_rfl) ⟨x1, x2, x3⟩ (fun hHeld19 => ?_)
                refine wpAnyH_take (i := 0) (oi := { dst := some 91, op := Op.fieldAddr 82 (Operand.tmp 12) 1, type := 0, pos := "law.go:48", after := #[], guard := none }) (v := ?v38) rfl (by kernel_rfl) (by kernel_rfl) (by kernel_rfl) (fun _ _ _ h => h) (Or.inl ⟨by rfl, ?y38⟩) (by assumption) ?r38
                case y38 => (intro w hSw; (try dsimp only at hSw); (try (go_split_ands)); go_simp; try with_reducible rfl)
                try simp only [Act.put, List.setIfInBounds_toArray, List.set_cons_zero, List.set_cons_succ]
                refine wpAnyH_take (i := 1) (oi := { dst := some 92, op := Op.load 3 (Operand.tmp 91), type := 3, pos := "law.go:48", after := #[{ on := 0, ground := Ground.data }], guard := none }) (v := ?v39) rfl (by kernel_rfl) (by kernel_rfl) (by kernel_rfl) (fun _ _ _ h => h) (Or.inl ⟨by rfl, ?y39⟩) (by assumption) ?r39
                case y39 => (intro w hSw; (try dsimp only at hSw); (try (go_split_ands)); go_simp; try with_reducible rfl)
                try simp only [Act.put, List.setIfInBounds_toArray, List.set_cons_zero, List.set_cons_succ]
                refine wpAnyH_take (i := 2) (oi := { dst := some 93, op := Op.binOp BinOp.lss 3 (Operand.tmp 92) (Operand.const (Value.int IntKind.i64 1)) 3, type := 4, pos := "law.go:48", after := #[{ on := 1, ground := Ground.data }], guard := none }) (v := .bool c1) rfl (by kernel_rfl) (by kernel_rfl) (by kernel_rfl) (fun _ _ _ h => h) (Or.inl ⟨rfl, fun W hSw => by (try dsimp only at hSw); go_split_ands; rw [hc1.out]; go_simp; try with_reducible rfl⟩) (by assumption) ?_
                try simp only [Act.put, List.setIfInBounds_toArray, List.set_cons_zero, List.set_cons_succ]
                refine wpAnyH_take (i := 3) (oi := { dst := some 94, op := Op.move (Operand.tmp 93), type := 4, pos := "law.go:48", after := #[{ on := 2, ground := Ground.data }], guard := none }) (v := ?v40) rfl (by kernel_rfl) (by kernel_rfl) (by kernel_rfl) (fun _ _ _ h => h) (Or.inl ⟨by rfl, ?y40⟩) (by assumption) ?r40
                case y40 => (intro w hSw; (try dsimp only at hSw); (try (go_split_ands)); go_simp; try with_reducible rfl)
                try simp only [Act.put, List.setIfInBounds_toArray, List.set_cons_zero, List.set_cons_succ]
                refine wpAnyH_take (i := 4) (oi := { dst := some 95, op := Op.fieldAddr 82 (Operand.tmp 12) 1, type := 0, pos := "law.go:48", after := #[{ on := 3, ground := Ground.guard }], guard := some (3, false) }) (v := bif c1 then undef else .pointer (some ⟨D, 1, none⟩)) rfl (by kernel_rfl) (by kernel_rfl) (by kernel_rfl) (fun _ _ _ h => h) (by cases c1; (exact Or.inl ⟨rfl, fun W hSw => by (try dsimp only at hSw); go_split_ands; go_simp; try with_reducible rfl⟩); (exact Or.inr ⟨rfl, rfl⟩)) (by assumption) ?_
                try simp only [Act.put, List.setIfInBounds_toArray, List.set_cons_zero, List.set_cons_succ]
                refine wpAnyH_take (i := 5) (oi := { dst := some 96, op := Op.load 3 (Operand.tmp 95), type := 3, pos := "law.go:48", after := #[{ on := 4, ground := Ground.data }, { on := 3, ground := Ground.guard }], guard := some (3, false) }) (v := bif c1 then undef else .int .i64 v) rfl (by kernel_rfl) (by kernel_rfl) (by kernel_rfl) (fun _ _ _ h => h) (by cases c1; (exact Or.inl ⟨rfl, fun W hSw => by (try dsimp only at hSw); go_split_ands; go_simp; try with_reducible rfl⟩); (exact Or.inr ⟨rfl, rfl⟩)) (by assumption) ?_
                try simp only [Act.put, List.setIfInBounds_toArray, List.set_cons_zero, List.set_cons_succ]
                refine wpAnyH_take (i := 6) (oi := { dst := some 97, op := Op.binOp BinOp.gtr 3 (Operand.tmp 96) (Operand.const (Value.int IntKind.i64 4094)) 3, type := 4, pos := "law.go:48", after := #[{ on := 5, ground := Ground.data }, { on := 3, ground := Ground.guard }], guard := some (3, false) }) (v := bif c1 then undef else .bool c2) rfl (by kernel_rfl) (by kernel_rfl) (by kernel_rfl) (fun _ _ _ h => h) (by cases c1; (exact Or.inl ⟨rfl, fun W hSw => by (try dsimp only at hSw); go_split_ands; rw [hc2.out]; go_simp; try with_reducible rfl⟩); (exact Or.inr ⟨rfl, rfl⟩)) (by assumption) ?_
                try simp only [Act.put, List.setIfInBounds_toArray, List.set_cons_zero, List.set_cons_succ]
                refine wpAnyH_take (i := 7) (oi := { dst := some 98, op := Op.pick (Operand.tmp 94) (Operand.const (Value.bool true)) (Operand.tmp 97), type := 4, pos := "law.go:48", after := #[{ on := 3, ground := Ground.data }, { on := 6, ground := Ground.data }], guard := none }) (v := .bool d2) rfl (by kernel_rfl) (by kernel_rfl) (by kernel_rfl) (fun _ _ _ h => h) (Or.inl ⟨rfl, by intro W hSw; rw [hd2.out]; cases c1 <;> rfl⟩) (by assumption) ?_
                try simp only [Act.put, List.setIfInBounds_toArray, List.set_cons_zero, List.set_cons_succ]
                refine wpAnyH_take (i := 8) (oi := { dst := some 99, op := Op.move (Operand.tmp 98), type := 4, pos := "law.go:48", after := #[{ on := 7, ground := Ground.data }, { on := 3, ground := Ground.chain }], guard := none }) (v := ?v41) rfl (by kernel_rfl) (by kernel_rfl) (by kernel_rfl) (fun _ _ _ h => h) (Or.inl ⟨by rfl, ?y41⟩) (by assumption) ?r41
                case y41 => (intro w hSw; (try dsimp only at hSw); (try (go_split_ands)); go_simp; try with_reducible rfl)
                try simp only [Act.put, List.setIfInBounds_toArray, List.set_cons_zero, List.set_cons_succ]
                refine wpAnyH_take (i := 9) (oi := { dst := some 100, op := Op.fieldAddr 82 (Operand.tmp 12) 2, type := 0, pos := "law.go:48", after := #[{ on := 8, ground := Ground.guard }], guard := some (8, false) }) (v := bif d2 then undef else .pointer (some ⟨D, 2, none⟩)) rfl (by kernel_rfl) (by kernel_rfl) (by kernel_rfl) (fun _ _ _ h => h) (by cases d2; (exact Or.inl ⟨rfl, fun W hSw => by (try dsimp only at hSw); go_split_ands; go_simp; try with_reducible rfl⟩); (exact Or.inr ⟨rfl, rfl⟩)) (by assumption) ?_
                try simp only [Act.put, List.setIfInBounds_toArray, List.set_cons_zero, List.set_cons_succ]
                refine wpAnyH_take (i := 10) (oi := { dst := some 101, op := Op.load 3 (Operand.tmp 100), type := 3, pos := "law.go:48", after := #[{ on := 9, ground := Ground.data }, { on := 8, ground := Ground.guard }], guard := some (8, false) }) (v := bif d2 then undef else .int .i64 m') rfl (by kernel_rfl) (by kernel_rfl) (by kernel_rfl) (fun _ _ _ h => h) (by cases d2; (exact Or.inl ⟨rfl, fun W hSw => by (try dsimp only at hSw); go_split_ands; go_simp; try with_reducible rfl⟩); (exact Or.inr ⟨rfl, rfl⟩)) (by assumption) ?_
                try simp only [Act.put, List.setIfInBounds_toArray, List.set_cons_zero, List.set_cons_succ]
                refine wpAnyH_take (i := 11) (oi := { dst := some 102, op := Op.binOp BinOp.lss 3 (Operand.tmp 101) (Operand.const (Value.int IntKind.i64 0)) 3, type := 4, pos := "law.go:48", after := #[{ on := 10, ground := Ground.data }, { on := 8, ground := Ground.guard }], guard := some (8, false) }) (v := bif d2 then undef else .bool c3) rfl (by kernel_rfl) (by kernel_rfl) (by kernel_rfl) (fun _ _ _ h => h) (by cases d2; (exact Or.inl ⟨rfl, fun W hSw => by (try dsimp only at hSw); go_split_ands; rw [hc3.out]; go_simp; try with_reducible rfl⟩); (exact Or.inr ⟨rfl, rfl⟩)) (by assumption) ?_
                try simp only [Act.put, List.setIfInBounds_toArray, List.set_cons_zero, List.set_cons_succ]
                refine wpAnyH_take (i := 12) (oi := { dst := some 103, op := Op.pick (Operand.tmp 99) (Operand.const (Value.bool true)) (Operand.tmp 102), type := 4, pos := "law.go:48", after := #[{ on := 8, ground := Ground.data }, { on := 11, ground := Ground.data }], guard := none }) (v := .bool d3) rfl (by kernel_rfl) (by kernel_rfl) (by kernel_rfl) (fun _ _ _ h => h) (Or.inl ⟨rfl, by intro W hSw; rw [hd3.out]; cases d2 <;> rfl⟩) (by assumption) ?_
                try simp only [Act.put, List.setIfInBounds_toArray, List.set_cons_zero, List.set_cons_succ]
                refine wpAnyH_take (i := 13) (oi := { dst := some 104, op := Op.move (Operand.tmp 103), type := 4, pos := "law.go:48", after := #[{ on := 12, ground := Ground.data }, { on := 8, ground := Ground.chain }], guard := none }) (v := ?v42) rfl (by kernel_rfl) (by kernel_rfl) (by kernel_rfl) (fun _ _ _ h => h) (Or.inl ⟨by rfl, ?y42⟩) (by assumption) ?r42
                case y42 => (intro w hSw; (try dsimp only at hSw); (try (go_split_ands)); go_simp; try with_reducible rfl)
                try simp only [Act.put, List.setIfInBounds_toArray, List.set_cons_zero, List.set_cons_succ]
                refine wpAnyH_take (i := 14) (oi := { dst := some 105, op := Op.fieldAddr 82 (Operand.tmp 12) 2, type := 0, pos := "law.go:48", after := #[{ on := 13, ground := Ground.guard }], guard := some (13, false) }) (v := bif d3 then undef else .pointer (some ⟨D, 2, none⟩)) rfl (by kernel_rfl) (by kernel_rfl) (by kernel_rfl) (fun _ _ _ h => h) (by cases d3; (exact Or.inl ⟨rfl, fun W hSw => by (try dsimp only at hSw); go_split_ands; go_simp; try with_reducible rfl⟩); (exact Or.inr ⟨rfl, rfl⟩)) (by assumption) ?_
                try simp only [Act.put, List.setIfInBounds_toArray, List.set_cons_zero, List.set_cons_succ]
                refine wpAnyH_take (i := 15) (oi := { dst := some 106, op := Op.load 3 (Operand.tmp 105), type := 3, pos := "law.go:48", after := #[{ on := 14, ground := Ground.data }, { on := 13, ground := Ground.guard }], guard := some (13, false) }) (v := bif d3 then undef else .int .i64 m') rfl (by kernel_rfl) (by kernel_rfl) (by kernel_rfl) (fun _ _ _ h => h) (by cases d3; (exact Or.inl ⟨rfl, fun W hSw => by (try dsimp only at hSw); go_split_ands; go_simp; try with_reducible rfl⟩); (exact Or.inr ⟨rfl, rfl⟩)) (by assumption) ?_
                try simp only [Act.put, List.setIfInBounds_toArray, List.set_cons_zero, List.set_cons_succ]
                refine wpAnyH_take (i := 16) (oi := { dst := some 107, op := Op.move (Operand.tmp 7), type := 3, pos := "law.go:48", after := #[{ on := 13, ground := Ground.guard }], guard := some (13, false) }) (v := bif d3 then undef else .int .i64 n) rfl (by kernel_rfl) (by kernel_rfl) (by kernel_rfl) (fun _ _ _ h => h) (by cases d3; (exact Or.inl ⟨rfl, fun W hSw => by (try dsimp only at hSw); go_split_ands; go_simp; try with_reducible rfl⟩); (exact Or.inr ⟨rfl, rfl⟩)) (by assumption) ?_
                try simp only [Act.put, List.setIfInBounds_toArray, List.set_cons_zero, List.set_cons_succ]
                refine wpAnyH_take (i := 17) (oi := { dst := some 108, op := Op.binOp BinOp.shl 3 (Operand.const (Value.int IntKind.i64 1)) (Operand.tmp 107) 3, type := 3, pos := "law.go:48", after := #[{ on := 16, ground := Ground.data }, { on := 13, ground := Ground.guard }], guard := some (13, false) }) (v := bif d3 then undef else .int .i64 (2 ^ n)) rfl (by kernel_rfl) (by kernel_rfl) (by kernel_rfl) (fun _ _ _ h => h) (by cases d3; (exact Or.inl ⟨rfl, fun W hSw => by (try dsimp only at hSw); go_split_ands; go_simp; try with_reducible rfl⟩); (exact Or.inr ⟨rfl, rfl⟩)) (by assumption) ?_
                try simp only [Act.put, List.setIfInBounds_toArray, List.set_cons_zero, List.set_cons_succ]
                refine wpAnyH_take (i := 18) (oi := { dst := some 109, op := Op.binOp BinOp.geq 3 (Operand.tmp 106) (Operand.tmp 108) 3, type := 4, pos := "law.go:48", after := #[{ on := 15, ground := Ground.data }, { on := 17, ground := Ground.data }, { on := 13, ground := Ground.guard }], guard := some (13, false) }) (v := bif d3 then undef else .bool c4) rfl (by kernel_rfl) (by kernel_rfl) (by kernel_rfl) (fun _ _ _ h => h) (by cases d3; (exact Or.inl ⟨rfl, fun W hSw => by (try dsimp only at hSw); go_split_ands; rw [hc4.out]; go_simp; try with_reducible rfl⟩); (exact Or.inr ⟨rfl, rfl⟩)) (by assumption) ?_
                try simp only [Act.put, List.setIfInBounds_toArray, List.set_cons_zero, List.set_cons_succ]
                refine wpAnyH_take (i := 19) (oi := { dst := some 110, op := Op.pick (Operand.tmp 104) (Operand.const (Value.bool true)) (Operand.tmp 109), type := 4, pos := "law.go:48", after := #[{ on := 13, ground := Ground.data }, { on := 18, ground := Ground.data }], guard := none }) (v := .bool d4) rfl (by kernel_rfl) (by kernel_rfl) (by kernel_rfl) (fun _ _ _ h => h) (Or.inl ⟨rfl, by intro W hSw; rw [hd4.out]; cases d3 <;> rfl⟩) (by assumption) ?_
                try simp only [Act.put, List.setIfInBounds_toArray, List.set_cons_zero, List.set_cons_succ]
                refine wpAnyH_take (i := 20) (oi := { dst := some 111, op := Op.move (Operand.tmp 110), type := 4, pos := "law.go:48", after := #[{ on := 19, ground := Ground.data }, { on := 13, ground := Ground.chain }], guard := none }) (v := ?v43) rfl (by kernel_rfl) (by kernel_rfl) (by kernel_rfl) (fun _ _ _ h => h) (Or.inl ⟨by rfl, ?y43⟩) (by assumption) ?r43
                case y43 => (intro w hSw; (try dsimp only at hSw); (try (go_split_ands)); go_simp; try with_reducible rfl)
                try simp only [Act.put, List.setIfInBounds_toArray, List.set_cons_zero, List.set_cons_succ]
                refine wpAnyH_take (i := 21) (oi := { dst := some 112, op := Op.fieldAddr 82 (Operand.tmp 12) 3, type := 0, pos := "law.go:48", after := #[{ on := 20, ground := Ground.guard }], guard := some (20, false) }) (v := bif d4 then undef else .pointer (some ⟨D, 3, none⟩)) rfl (by kernel_rfl) (by kernel_rfl) (by kernel_rfl) (fun _ _ _ h => h) (by cases d4; (exact Or.inl ⟨rfl, fun W hSw => by (try dsimp only at hSw); go_split_ands; go_simp; try with_reducible rfl⟩); (exact Or.inr ⟨rfl, rfl⟩)) (by assumption) ?_
                try simp only [Act.put, List.setIfInBounds_toArray, List.set_cons_zero, List.set_cons_succ]
                refine wpAnyH_take (i := 22) (oi := { dst := some 113, op := Op.load 3 (Operand.tmp 112), type := 3, pos := "law.go:48", after := #[{ on := 21, ground := Ground.data }, { on := 20, ground := Ground.guard }], guard := some (20, false) }) (v := bif d4 then undef else .int .i64 p') rfl (by kernel_rfl) (by kernel_rfl) (by kernel_rfl) (fun _ _ _ h => h) (by cases d4; (exact Or.inl ⟨rfl, fun W hSw => by (try dsimp only at hSw); go_split_ands; go_simp; try with_reducible rfl⟩); (exact Or.inr ⟨rfl, rfl⟩)) (by assumption) ?_
                try simp only [Act.put, List.setIfInBounds_toArray, List.set_cons_zero, List.set_cons_succ]
                refine wpAnyH_take (i := 23) (oi := { dst := some 114, op := Op.binOp BinOp.lss 3 (Operand.tmp 113) (Operand.const (Value.int IntKind.i64 0)) 3, type := 4, pos := "law.go:48", after := #[{ on := 22, ground := Ground.data }, { on := 20, ground := Ground.guard }], guard := some (20, false) }) (v := bif d4 then undef else .bool c5) rfl (by kernel_rfl) (by kernel_rfl) (by kernel_rfl) (fun _ _ _ h => h) (by cases d4; (exact Or.inl ⟨rfl, fun W hSw => by (try dsimp only at hSw); go_split_ands; rw [hc5.out]; go_simp; try with_reducible rfl⟩); (exact Or.inr ⟨rfl, rfl⟩)) (by assumption) ?_
                try simp only [Act.put, List.setIfInBounds_toArray, List.set_cons_zero, List.set_cons_succ]
                refine wpAnyH_take (i := 24) (oi := { dst := some 115, op := Op.pick (Operand.tmp 111) (Operand.const (Value.bool true)) (Operand.tmp 114), type := 4, pos := "law.go:48", after := #[{ on := 20, ground := Ground.data }, { on := 23, ground := Ground.data }], guard := none }) (v := .bool d5) rfl (by kernel_rfl) (by kernel_rfl) (by kernel_rfl) (fun _ _ _ h => h) (Or.inl ⟨rfl, by intro W hSw; rw [hd5.out]; cases d4 <;> rfl⟩) (by assumption) ?_
                try simp only [Act.put, List.setIfInBounds_toArray, List.set_cons_zero, List.set_cons_succ]
                refine wpAnyH_take (i := 25) (oi := { dst := some 116, op := Op.move (Operand.tmp 115), type := 4, pos := "law.go:48", after := #[{ on := 24, ground := Ground.data }, { on := 20, ground := Ground.chain }], guard := none }) (v := ?v44) rfl (by kernel_rfl) (by kernel_rfl) (by kernel_rfl) (fun _ _ _ h => h) (Or.inl ⟨by rfl, ?y44⟩) (by assumption) ?r44
                case y44 => (intro w hSw; (try dsimp only at hSw); (try (go_split_ands)); go_simp; try with_reducible rfl)
                try simp only [Act.put, List.setIfInBounds_toArray, List.set_cons_zero, List.set_cons_succ]
                refine wpAnyH_take (i := 26) (oi := { dst := some 117, op := Op.fieldAddr 82 (Operand.tmp 12) 3, type := 0, pos := "law.go:48", after := #[{ on := 25, ground := Ground.guard }], guard := some (25, false) }) (v := bif d5 then undef else .pointer (some ⟨D, 3, none⟩)) rfl (by kernel_rfl) (by kernel_rfl) (by kernel_rfl) (fun _ _ _ h => h) (by cases d5; (exact Or.inl ⟨rfl, fun W hSw => by (try dsimp only at hSw); go_split_ands; go_simp; try with_reducible rfl⟩); (exact Or.inr ⟨rfl, rfl⟩)) (by assumption) ?_
                try simp only [Act.put, List.setIfInBounds_toArray, List.set_cons_zero, List.set_cons_succ]
                refine wpAnyH_take (i := 27) (oi := { dst := some 118, op := Op.load 3 (Operand.tmp 117), type := 3, pos := "law.go:48", after := #[{ on := 26, ground := Ground.data }, { on := 25, ground := Ground.guard }], guard := some (25, false) }) (v := bif d5 then undef else .int .i64 p') rfl (by kernel_rfl) (by kernel_rfl) (by kernel_rfl) (fun _ _ _ h => h) (by cases d5; (exact Or.inl ⟨rfl, fun W hSw => by (try dsimp only at hSw); go_split_ands; go_simp; try with_reducible rfl⟩); (exact Or.inr ⟨rfl, rfl⟩)) (by assumption) ?_
                try simp only [Act.put, List.setIfInBounds_toArray, List.set_cons_zero, List.set_cons_succ]
                refine wpAnyH_take (i := 28) (oi := { dst := some 119, op := Op.fieldAddr 82 (Operand.tmp 12) 2, type := 0, pos := "law.go:48", after := #[{ on := 25, ground := Ground.guard }], guard := some (25, false) }) (v := bif d5 then undef else .pointer (some ⟨D, 2, none⟩)) rfl (by kernel_rfl) (by kernel_rfl) (by kernel_rfl) (fun _ _ _ h => h) (by cases d5; (exact Or.inl ⟨rfl, fun W hSw => by (try dsimp only at hSw); go_split_ands; go_simp; try with_reducible rfl⟩); (exact Or.inr ⟨rfl, rfl⟩)) (by assumption) ?_
                try simp only [Act.put, List.setIfInBounds_toArray, List.set_cons_zero, List.set_cons_succ]
                refine wpAnyH_take (i := 29) (oi := { dst := some 120, op := Op.load 3 (Operand.tmp 119), type := 3, pos := "law.go:48", after := #[{ on := 28, ground := Ground.data }, { on := 25, ground := Ground.guard }], guard := some (25, false) }) (v := bif d5 then undef else .int .i64 m') rfl (by kernel_rfl) (by kernel_rfl) (by kernel_rfl) (fun _ _ _ h => h) (by cases d5; (exact Or.inl ⟨rfl, fun W hSw => by (try dsimp only at hSw); go_split_ands; go_simp; try with_reducible rfl⟩); (exact Or.inr ⟨rfl, rfl⟩)) (by assumption) ?_
                try simp only [Act.put, List.setIfInBounds_toArray, List.set_cons_zero, List.set_cons_succ]
                refine wpAnyH_take (i := 30) (oi := { dst := some 121, op := Op.binOp BinOp.and 3 (Operand.tmp 118) (Operand.tmp 120) 3, type := 3, pos := "law.go:48", after := #[{ on := 27, ground := Ground.data }, { on := 29, ground := Ground.data }, { on := 25, ground := Ground.guard }], guard := some (25, false) }) (v := bif d5 then undef else .int .i64 (bits .and .i64 p' m')) rfl (by kernel_rfl) (by kernel_rfl) (by kernel_rfl) (fun _ _ _ h => h) (by cases d5; (exact Or.inl ⟨rfl, fun W hSw => by (try dsimp only at hSw); go_split_ands; go_simp; try with_reducible rfl⟩); (exact Or.inr ⟨rfl, rfl⟩)) (by assumption) ?_
                try simp only [Act.put, List.setIfInBounds_toArray, List.set_cons_zero, List.set_cons_succ]
                refine wpAnyH_take (i := 31) (oi := { dst := some 122, op := Op.fieldAddr 82 (Operand.tmp 12) 3, type := 0, pos := "law.go:48", after := #[{ on := 25, ground := Ground.guard }], guard := some (25, false) }) (v := bif d5 then undef else .pointer (some ⟨D, 3, none⟩)) rfl (by kernel_rfl) (by kernel_rfl) (by kernel_rfl) (fun _ _ _ h => h) (by cases d5; (exact Or.inl ⟨rfl, fun W hSw => by (try dsimp only at hSw); go_split_ands; go_simp; try with_reducible rfl⟩); (exact Or.inr ⟨rfl, rfl⟩)) (by assumption) ?_
                try simp only [Act.put, List.setIfInBounds_toArray, List.set_cons_zero, List.set_cons_succ]
                refine wpAnyH_take (i := 32) (oi := { dst := some 123, op := Op.load 3 (Operand.tmp 122), type := 3, pos := "law.go:48", after := #[{ on := 31, ground := Ground.data }, { on := 25, ground := Ground.guard }], guard := some (25, false) }) (v := bif d5 then undef else .int .i64 p') rfl (by kernel_rfl) (by kernel_rfl) (by kernel_rfl) (fun _ _ _ h => h) (by cases d5; (exact Or.inl ⟨rfl, fun W hSw => by (try dsimp only at hSw); go_split_ands; go_simp; try with_reducible rfl⟩); (exact Or.inr ⟨rfl, rfl⟩)) (by assumption) ?_
                try simp only [Act.put, List.setIfInBounds_toArray, List.set_cons_zero, List.set_cons_succ]
                refine wpAnyH_take (i := 33) (oi := { dst := some 124, op := Op.binOp BinOp.neq 3 (Operand.tmp 121) (Operand.tmp 123) 3, type := 4, pos := "law.go:48", after := #[{ on := 30, ground := Ground.data }, { on := 32, ground := Ground.data }, { on := 25, ground := Ground.guard }], guard := some (25, false) }) (v := bif d5 then undef else .bool c6) rfl (by kernel_rfl) (by kernel_rfl) (by kernel_rfl) (fun _ _ _ h => h) (by cases d5; (exact Or.inl ⟨rfl, fun W hSw => by (try dsimp only at hSw); go_split_ands; rw [hc6.out]; go_simp; try with_reducible rfl⟩); (exact Or.inr ⟨rfl, rfl⟩)) (by assumption) ?_
                try simp only [Act.put, List.setIfInBounds_toArray, List.set_cons_zero, List.set_cons_succ]
                refine wpAnyH_take (i := 34) (oi := { dst := some 125, op := Op.pick (Operand.tmp 116) (Operand.const (Value.bool true)) (Operand.tmp 124), type := 4, pos := "law.go:48", after := #[{ on := 25, ground := Ground.data }, { on := 33, ground := Ground.data }], guard := none }) (v := .bool d6) rfl (by kernel_rfl) (by kernel_rfl) (by kernel_rfl) (fun _ _ _ h => h) (Or.inl ⟨rfl, by intro W hSw; rw [hd6.out]; cases d5 <;> rfl⟩) (by assumption) ?_
                try simp only [Act.put, List.setIfInBounds_toArray, List.set_cons_zero, List.set_cons_succ]
                refine wpAnyH_take (i := 35) (oi := { dst := some 90, op := Op.assign (Operand.tmp 125), type := 4, pos := "law.go:48", after := #[{ on := 34, ground := Ground.data }, { on := 25, ground := Ground.chain }], guard := none }) (v := ?v45) rfl (by kernel_rfl) (by kernel_rfl) (by kernel_rfl) (fun _ _ _ h => h) (Or.inl ⟨by rfl, ?y45⟩) (by assumption) ?r45
                case y45 => (intro w hSw; (try dsimp only at hSw); (try (go_split_ands)); go_simp; try with_reducible rfl)
                try simp only [Act.put, List.setIfInBounds_toArray, List.set_cons_zero, List.set_cons_succ]
                refine wpAnyH_done (by kernel_rfl) ?_ _
                refine NoPanic.normal ?_
                have hD6 : d6 = !setB n v m' p' := by
                  rw [hd6.out, hd5.out, hd4.out, hd3.out, hd2.out, hc1.out, hc2.out, hc3.out, hc4.out, hc5.out, hc6.out]
                  exact tests19 hn16 v m' p' wm.out wp.out
                replace hD6 := hide hD6
                clear hHeld19 hd2 hd3 hd4 hd5 hd6 hc1 hc2 hc3 hc4 hc5 hc6
                have hV8 := hide (hV7.out.later (below_drew (Below.refl _ _)))
                have y1 : w7.drew.cell? ⟨D, 1, none⟩ = some (.int .i64 v) := x1
                have y2 : w7.drew.cell? ⟨D, 2, none⟩ = some (.int .i64 m') := x2
                have y3 : w7.drew.cell? ⟨D, 3, none⟩ = some (.int .i64 p') := x3
                have cA1 : w7.drew.cell? ⟨a, 1, none⟩ = some (.map (some m1)) := ca1
                have cA2 : w7.drew.cell? ⟨a, 2, none⟩ = some (.map (some m2)) := ca2
                clear x1 x2 x3 ca1 ca2 hLk hV7
                generalize w7.drew = w8 at *
                have hD8 : Hid (D < w8.heap.size) := block_lt_of_cell y1
                have hSt : Hid (∀ (w' : World) (mm : Nat), w8.grownBy w' (some mm) → mm = m1 ∨ mm = m2 → w'.cell? ⟨D, 1, none⟩ = some (.int .i64 v) ∧ w'.cell? ⟨D, 2, none⟩ = some (.int .i64 m') ∧ w'.cell? ⟨D, 3, none⟩ = some (.int .i64 p') ∧ w'.heap[w.heap.size]? = some (.cells mdZero 28 (0, 0))) := by
                  intro w' mm hg hm
                  have hne : D ≠ mm := by have := hB6.out; rcases hm with rfl | rfl <;> omega
                  have hnw : w.heap.size ≠ mm := by have := hB6.out; have := hWK.out; have := hV8.out.ne; rcases hm with rfl | rfl <;> omega
                  have hk := hg.block D hD8.out (by simpa using hne)
                  exact ⟨(World.cell?_of_block (a := ⟨D, 1, none⟩) hk).trans y1, (World.cell?_of_block (a := ⟨D, 2, none⟩) hk).trans y2, (World.cell?_of_block (a := ⟨D, 3, none⟩) hk).trans y3, (hg.block w.heap.size (Array.getElem?_eq_some_iff.1 hRf.out).1 (by simpa using hnw)).trans hRf.out⟩
                have hd := hD6.out
                clear hD6
                rcases hD7.out with ⟨q1, rfl, rfl, rfl⟩ | ⟨q1, rfl, rfl, rfl, rfl⟩ | ⟨q1, q2, q3, q4, rfl, rfl, rfl⟩ | ⟨q1, q2, q3, rfl, rfl, rfl⟩
                · rw [q1] at hd
                  simp only [Bool.not_false] at hd
                  subst hd
                  have hfin : Hid (Ks K0 w w8 g pb mb a s m1 m2 n (k + 1)) := ⟨ps, f', c', fm, fp, cm, cp, hV8.out, hT.out, hps'.out, by have := hbig.out; omega, hpv.out⟩
                  clear hV8 hT hbig hpv hD7 hSt
                  go_wp2
                  go_roundw
                  case rel => exact ⟨k + 1, by omega, by go_num, hfin, hRf⟩
                  case measure => simp [intOf]; omega
                · rw [q1] at hd
                  simp only [Bool.not_true] at hd
                  subst hd
                  as_aux_lemma =>
                    obtain ⟨w9, r1, r2, r3⟩ := hV8.out.mm.del iT_good v wv.out 0
                    have r1' : (Builtin.delete_ #[26, 3] 0 #[.map (some m1), .int .i64 v]).run Try.prog w8 = .ok (.tuple #[]) w9 := r1
                    have hV9 := hV8.out.map1 r3 r2
                    have z9 := hSt.out w9 m1 r3 (.inl rfl)
                    have z1 := z9.1
                    have cB2 := hV9.a2
                    obtain ⟨w10, s1, s2, s3⟩ := hV9.mp.del iT_good v wv.out 0
                    have s1' : (Builtin.delete_ #[26, 3] 0 #[.map (some m2), .int .i64 v]).run Try.prog w9 = .ok (.tuple #[]) w10 := s1
                    have hV10 := hV9.map2 s3 s2
                    have hRg : Hid (w10.heap[w.heap.size]? = some (.cells mdZero 28 (0, 0))) := (s3.block w.heap.size (Array.getElem?_eq_some_iff.1 z9.2.2.2).1 (by have := hWK.out; have := hV8.out.ne; simp; omega)).trans z9.2.2.2
                    have hfin : Hid (Ks K0 w w10 g pb mb a s m1 m2 n (k + 1)) := ⟨ps, _, _, _, _, _, _, hV10, hT.out.del v, hps'.out, by have := hbig.out; refine ⟨?_, ?_, ?_⟩ <;> split <;> omega, hpv.out⟩
                    clear hV8 hT hbig hpv hD7 hSt hV9 hV10 r1 r2 r3 s1 s2 s3 z9
                    go_wp2
                    go_roundw
                    case rel => exact ⟨k + 1, by omega, by go_num, hfin, hRg⟩
                    case measure => simp [intOf]; omega
                · rw [q1] at hd
                  simp only [Bool.not_true] at hd
                  subst hd
                  have hn0 : 0 < n := by
                    have := (setB_iff hn16 v m' p' wm.out wp.out).1 q1
                    rcases Nat.eq_zero_or_pos n with h0 | h0
                    · rw [h0] at this; simp at this; omega
                    · exact h0
                  have hg0 : gb = false := by rw [← hgb.out, hT.out.there hn0 v]; exact q3
                  subst hg0
                  have hcm := (hT.out.pos hn0).1
                  as_aux_lemma =>
                    have q5 : decide ((64 : Int) ≤ (cm : Int)) = true := decide_eq_true (by omega)
                    have hN : (Builtin.len_ #[26] 3 #[.map (some m1)]).run Try.prog w8 = .ok (.int .i64 cm) w8 := hV8.out.mm.len iT_good _
                    have qm : (m' == 0) = false := beq_eq_false_iff_ne.2 q2
                    have hfin : Hid (Ks K0 w w8 g pb mb a s m1 m2 n (k + 1)) := ⟨ps, f', c', fm, fp, cm, cp, hV8.out, hT.out, hps'.out, by have := hbig.out; omega, hpv.out⟩
                    clear hV8 hT hbig hpv hD7 hSt q2 q3 q4 hcm
                    go_wp2
                    go_roundw
                    case rel => exact ⟨k + 1, by omega, by go_num, hfin, hRf⟩
                    case measure => simp [intOf]; omega
                · rw [q1] at hd
                  simp only [Bool.not_true] at hd
                  subst hd
                  have hn0 : 0 < n := by
                    have := (setB_iff hn16 v m' p' wm.out wp.out).1 q1
                    rcases Nat.eq_zero_or_pos n with h0 | h0
                    · rw [h0] at this; simp at this; omega
                    · exact h0
                  have hcm := (hT.out.pos hn0).1
                  have hg0 : gb = true ∨ cm < 64 := by rw [← hgb.out, hT.out.there hn0 v, hcm]; exact q3
                  have hN : (Builtin.len_ #[26] 3 #[.map (some m1)]).run Try.prog w8 = .ok (.int .i64 cm) w8 := hV8.out.mm.len iT_good _
                  have qm : (m' == 0) = false := beq_eq_false_iff_ne.2 q2
                  as_aux_lemma =>
                    have hVd := hV8.out.later (below_drew (Below.refl w8.heap.size w8))
                    obtain ⟨w9, r1, r2, r3⟩ := hVd.mm.put iT_good v wv.out m' wm.out (by have := hbig.out; simp [maxLen]; omega)
                    have r1' : (Instr.mapUpdate 26 (.map (some m1)) (.int .i64 v) (.int .i64 m')).run Try.prog w8.drew = .ok () w9 := r1
                    have hV9 := hVd.map1 r3 r2
                    have z9 := hSt.out w9 m1 ⟨r3.os, r3.tape, r3.output, r3.size, r3.block⟩ (.inl rfl)
                    obtain ⟨w10, s1, s2, s3⟩ := hV9.mp.put iT_good v wv.out p' wp.out (by have := hbig.out; simp [maxLen]; omega)
                    have s1' : (Instr.mapUpdate 26 (.map (some m2)) (.int .i64 v) (.int .i64 p')).run Try.prog w9 = .ok () w10 := s1
                    have hV10 := hV9.map2 s3 s2
                    have hDne : D ≠ m2 := by have := hB6.out; omega
                    have hk9 := s3.block D (by have := r3.size; have := hD8.out; have h1 : w8.drew.heap.size = w8.heap.size := rfl; omega) (by simpa using hDne)
                    have hS9 : Hid (w9.cell? ⟨a, 1, none⟩ = some (.map (some m1)) ∧ w9.cell? ⟨a, 2, none⟩ = some (.map (some m2)) ∧ w9.cell? ⟨D, 1, none⟩ = some (.int .i64 v) ∧ w9.cell? ⟨D, 2, none⟩ = some (.int .i64 m') ∧ w9.cell? ⟨D, 3, none⟩ = some (.int .i64 p')) := ⟨hV9.a1, hV9.a2, z9.1, z9.2.1, z9.2.2.1⟩
                    have hS10 : Hid (w10.cell? ⟨a, 1, none⟩ = some (.map (some m1)) ∧ w10.cell? ⟨a, 2, none⟩ = some (.map (some m2)) ∧ w10.cell? ⟨D, 1, none⟩ = some (.int .i64 v) ∧ w10.cell? ⟨D, 2, none⟩ = some (.int .i64 m') ∧ w10.cell? ⟨D, 3, none⟩ = some (.int .i64 p')) := ⟨hV10.a1, hV10.a2, (World.cell?_of_block (a := ⟨D, 1, none⟩) hk9).trans z9.1, (World.cell?_of_block (a := ⟨D, 2, none⟩) hk9).trans z9.2.1, (World.cell?_of_block (a := ⟨D, 3, none⟩) hk9).trans z9.2.2.1⟩
                    have hRg : Hid (w10.heap[w.heap.size]? = some (.cells mdZero 28 (0, 0))) := (s3.block w.heap.size (Array.getElem?_eq_some_iff.1 z9.2.2.2).1 (by have := hWK.out; have := hV8.out.ne; simp; omega)).trans z9.2.2.2
                    have hfin : Hid (Ks K0 w w10 g pb mb a s m1 m2 n (k + 1)) := ⟨ps, _, _, _, _, _, _, hV10, hT.out.put hn0 v m' p' ((setB_iff hn16 v m' p' wm.out wp.out).1 q1).2.1, hps'.out, by have := hbig.out; refine ⟨?_, ?_, ?_⟩ <;> split <;> omega, hpv.out⟩
                    have hr1 := hide r1'
                    have hs1 := hide s1'
                    clear hV8 hT hbig hpv hD7 hSt hV9 hV10 r1 r2 r3 s1 s2 s3 z9 r1' s1' hVd hk9 q2 q3 hcm
                    have hgo : Hid (gb = true ∨ decide ((64 : Int) ≤ (cm : Int)) = false) := hg0.imp id (fun h => decide_eq_false (by omega))
                    clear hg0
                    rcases hgo.out with rfl | q5
                    · go_wp2_with fail
                      refine wp_region_noPanic ?_
                      refine wp_region_held_drew (S := fun W => W.cell? ⟨a, 1, none⟩ = some (.map (some m1)) ∧ W.cell? ⟨a, 2, none⟩ = some (.map (some m2)) ∧ W.cell? ⟨D, 1, none⟩ = some (.int .i64 v) ∧ W.cell? ⟨D, 2, none⟩ = some (.int .i64 m') ∧ W.cell? ⟨D, 3, none⟩ = some (.int .i64 p')) (by kernel_rfl) ⟨cA1, cA2, y1, y2, y3⟩ (fun hHeld16 => ?_)
                      refine wpAnyH_take (i := 0) (oi := { dst := some 74, op := Op.fieldAddr 28 (Operand.tmp 9) 1, type := 0, pos := "law.go:63", after := #[], guard := none }) (v := ?v46) rfl (by kernel_rfl) (by kernel_rfl) (by kernel_rfl) (fun _ _ _ h => h) (Or.inl ⟨by rfl, ?y46⟩) (by assumption) ?r46
                      case y46 => (intro w hSw; (try dsimp only at hSw); (try (go_split_ands)); go_simp; try with_reducible rfl)
                      try simp only [Act.put, List.setIfInBounds_toArray, List.set_cons_zero, List.set_cons_succ]
                      refine wpAnyH_take (i := 1) (oi := { dst := some 75, op := Op.load 26 (Operand.tmp 74), type := 26, pos := "law.go:63", after := #[{ on := 0, ground := Ground.data }], guard := none }) (v := ?v47) rfl (by kernel_rfl) (by kernel_rfl) (by kernel_rfl) (fun _ _ _ h => h) (Or.inl ⟨by rfl, ?y47⟩) (by assumption) ?r47
                      case y47 => (intro w hSw; (try dsimp only at hSw); (try (go_split_ands)); go_simp; try with_reducible rfl)
                      try simp only [Act.put, List.setIfInBounds_toArray, List.set_cons_zero, List.set_cons_succ]
                      refine wpAnyH_take (i := 2) (oi := { dst := some 76, op := Op.fieldAddr 82 (Operand.tmp 12) 1, type := 0, pos := "law.go:63", after := #[], guard := none }) (v := ?v48) rfl (by kernel_rfl) (by kernel_rfl) (by kernel_rfl) (fun _ _ _ h => h) (Or.inl ⟨by rfl, ?y48⟩) (by assumption) ?r48
                      case y48 => (intro w hSw; (try dsimp only at hSw); (try (go_split_ands)); go_simp; try with_reducible rfl)
                      try simp only [Act.put, List.setIfInBounds_toArray, List.set_cons_zero, List.set_cons_succ]
                      refine wpAnyH_take (i := 3) (oi := { dst := some 77, op := Op.load 3 (Operand.tmp 76), type := 3, pos := "law.go:63", after := #[{ on := 2, ground := Ground.data }], guard := none }) (v := ?v49) rfl (by kernel_rfl) (by kernel_rfl) (by kernel_rfl) (fun _ _ _ h => h) (Or.inl ⟨by rfl, ?y49⟩) (by assumption) ?r49
                      case y49 => (intro w hSw; (try dsimp only at hSw); (try (go_split_ands)); go_simp; try with_reducible rfl)
                      try simp only [Act.put, List.setIfInBounds_toArray, List.set_cons_zero, List.set_cons_succ]
                      refine wpAnyH_take (i := 4) (oi := { dst := some 78, op := Op.fieldAddr 28 (Operand.tmp 9) 2, type := 0, pos := "law.go:63", after := #[{ on := 12, ground := Ground.gcOnly Departure.lateStores }], guard := none }) (v := ?v50) rfl (by kernel_rfl) (by kernel_rfl) (by kernel_rfl) (fun _ _ _ h => h) (Or.inl ⟨by rfl, ?y50⟩) (by assumption) ?r50
                      case y50 => (intro w hSw; (try dsimp only at hSw); (try (go_split_ands)); go_simp; try with_reducible rfl)
                      try simp only [Act.put, List.setIfInBounds_toArray, List.set_cons_zero, List.set_cons_succ]
                      refine wpAnyH_take (i := 5) (oi := { dst := some 79, op := Op.load 26 (Operand.tmp 78), type := 26, pos := "law.go:63", after := #[{ on := 4, ground := Ground.data }, { on := 12, ground := Ground.gcOnly Departure.lateStores }], guard := none }) (v := ?v51) rfl (by kernel_rfl) (by kernel_rfl) (by kernel_rfl) (fun _ _ _ h => h) (Or.inl ⟨by rfl, ?y51⟩) (by assumption) ?r51
                      case y51 => (intro w hSw; (try dsimp only at hSw); (try (go_split_ands)); go_simp; try with_reducible rfl)
                      try simp only [Act.put, List.setIfInBounds_toArray, List.set_cons_zero, List.set_cons_succ]
                      refine wpAnyH_take (i := 6) (oi := { dst := some 80, op := Op.fieldAddr 82 (Operand.tmp 12) 1, type := 0, pos := "law.go:63", after := #[{ on := 12, ground := Ground.gcOnly Departure.lateStores }], guard := none }) (v := ?v52) rfl (by kernel_rfl) (by kernel_rfl) (by kernel_rfl) (fun _ _ _ h => h) (Or.inl ⟨by rfl, ?y52⟩) (by assumption) ?r52
                      case y52 => (intro w hSw; (try dsimp only at hSw); (try (go_split_ands)); go_simp; try with_reducible rfl)
                      try simp only [Act.put, List.setIfInBounds_toArray, List.set_cons_zero, List.set_cons_succ]
                      refine wpAnyH_take (i := 7) (oi := { dst := some 81, op := Op.load 3 (Operand.tmp 80), type := 3, pos := "law.go:63", after := #[{ on := 6, ground := Ground.data }, { on := 12, ground := Ground.gcOnly Departure.lateStores }], guard := none }) (v := ?v53) rfl (by kernel_rfl) (by kernel_rfl) (by kernel_rfl) (fun _ _ _ h => h) (Or.inl ⟨by rfl, ?y53⟩) (by assumption) ?r53
                      case y53 => (intro w hSw; (try dsimp only at hSw); (try (go_split_ands)); go_simp; try with_reducible rfl)
                      try simp only [Act.put, List.setIfInBounds_toArray, List.set_cons_zero, List.set_cons_succ]
                      refine wpAnyH_take (i := 8) (oi := { dst := some 82, op := Op.fieldAddr 82 (Operand.tmp 12) 2, type := 0, pos := "law.go:63", after := #[], guard := none }) (v := ?v54) rfl (by kernel_rfl) (by kernel_rfl) (by kernel_rfl) (fun _ _ _ h => h) (Or.inl ⟨by rfl, ?y54⟩) (by assumption) ?r54
                      case y54 => (intro w hSw; (try dsimp only at hSw); (try (go_split_ands)); go_simp; try with_reducible rfl)
                      try simp only [Act.put, List.setIfInBounds_toArray, List.set_cons_zero, List.set_cons_succ]
                      refine wpAnyH_take (i := 9) (oi := { dst := some 83, op := Op.load 3 (Operand.tmp 82), type := 3, pos := "law.go:63", after := #[{ on := 8, ground := Ground.data }], guard := none }) (v := ?v55) rfl (by kernel_rfl) (by kernel_rfl) (by kernel_rfl) (fun _ _ _ h => h) (Or.inl ⟨by rfl, ?y55⟩) (by assumption) ?r55
                      case y55 => (intro w hSw; (try dsimp only at hSw); (try (go_split_ands)); go_simp; try with_reducible rfl)
                      try simp only [Act.put, List.setIfInBounds_toArray, List.set_cons_zero, List.set_cons_succ]
                      refine wpAnyH_take (i := 10) (oi := { dst := some 84, op := Op.fieldAddr 82 (Operand.tmp 12) 3, type := 0, pos := "law.go:63", after := #[{ on := 12, ground := Ground.gcOnly Departure.lateStores }], guard := none }) (v := ?v56) rfl (by kernel_rfl) (by kernel_rfl) (by kernel_rfl) (fun _ _ _ h => h) (Or.inl ⟨by rfl, ?y56⟩) (by assumption) ?r56
                      case y56 => (intro w hSw; (try dsimp only at hSw); (try (go_split_ands)); go_simp; try with_reducible rfl)
                      try simp only [Act.put, List.setIfInBounds_toArray, List.set_cons_zero, List.set_cons_succ]
                      refine wpAnyH_take (i := 11) (oi := { dst := some 85, op := Op.load 3 (Operand.tmp 84), type := 3, pos := "law.go:63", after := #[{ on := 10, ground := Ground.data }, { on := 12, ground := Ground.gcOnly Departure.lateStores }], guard := none }) (v := ?v57) rfl (by kernel_rfl) (by kernel_rfl) (by kernel_rfl) (fun _ _ _ h => h) (Or.inl ⟨by rfl, ?y57⟩) (by assumption) ?r57
                      case y57 => (intro w hSw; (try dsimp only at hSw); (try (go_split_ands)); go_simp; try with_reducible rfl)
                      try simp only [Act.put, List.setIfInBounds_toArray, List.set_cons_zero, List.set_cons_succ]
                      refine wpAnyH_ready (rs := [12]) (by kernel_rfl) (by simp) ?_
                      refine AllReadyH.cons (o := { dst := none, op := Op.mapUpdate 26 (Operand.tmp 75) (Operand.tmp 77) (Operand.tmp 83), type := 0, pos := "law.go:63", after := #[{ on := 1, ground := Ground.data }, { on := 3, ground := Ground.data }, { on := 9, ground := Ground.data }, { on := 0, ground := Ground.phase }, { on := 1, ground := Ground.phase }, { on := 2, ground := Ground.phase }, { on := 3, ground := Ground.phase }, { on := 4, ground := Ground.textOnly Departure.lateStores }, { on := 5, ground := Ground.textOnly Departure.lateStores }, { on := 6, ground := Ground.textOnly Departure.lateStores }, { on := 7, ground := Ground.textOnly Departure.lateStores }, { on := 8, ground := Ground.phase }, { on := 9, ground := Ground.phase }, { on := 10, ground := Ground.textOnly Departure.lateStores }, { on := 11, ground := Ground.textOnly Departure.lateStores }], guard := none }) rfl (fun K hK => ?_) AllReadyH.nil
                      refine step_mapUpdate rfl 26 (.tmp 75) (.tmp 77) (.tmp 83) rfl _ _ _ rfl rfl rfl hr1.out ?_
                      refine hK.out _ _ hS9.out (fun hHeld12 => ?_)
                      clear hK K
                      try simp only [Act.put]
                      refine wpAnyH_ready (rs := [13]) (by kernel_rfl) (by simp) ?_
                      refine AllReadyH.cons (o := { dst := none, op := Op.mapUpdate 26 (Operand.tmp 79) (Operand.tmp 81) (Operand.tmp 85), type := 0, pos := "law.go:63", after := #[{ on := 5, ground := Ground.data }, { on := 7, ground := Ground.data }, { on := 11, ground := Ground.data }, { on := 12, ground := Ground.chain }, { on := 0, ground := Ground.phase }, { on := 1, ground := Ground.phase }, { on := 2, ground := Ground.phase }, { on := 3, ground := Ground.phase }, { on := 4, ground := Ground.phase }, { on := 5, ground := Ground.phase }, { on := 6, ground := Ground.phase }, { on := 7, ground := Ground.phase }, { on := 8, ground := Ground.phase }, { on := 9, ground := Ground.phase }, { on := 10, ground := Ground.phase }, { on := 11, ground := Ground.phase }, { on := 12, ground := Ground.phase }], guard := none }) rfl (fun K hK => ?_) AllReadyH.nil
                      refine step_mapUpdate rfl 26 (.tmp 79) (.tmp 81) (.tmp 85) rfl _ _ _ rfl rfl rfl hs1.out ?_
                      refine hK.out _ _ hS10.out (fun hHeld13 => ?_)
                      clear hK K
                      try simp only [Act.put]
                      refine wpAnyH_done (by kernel_rfl) ?_ _
                      refine NoPanic.normal ?_
                      clear hHeld16 hHeld12 hHeld13 hS9 hS10 hr1 hs1
                      go_wp2
                      go_roundw
                      case rel => exact ⟨k + 1, by omega, by go_num, hfin, hRg⟩
                      case measure => simp [intOf]; omega
                    · cases gb
                      · go_wp2_with fail
                        refine wp_region_noPanic ?_
                        refine wp_region_held_drew (S := fun W => W.cell? ⟨a, 1, none⟩ = some (.map (some m1)) ∧ W.cell? ⟨a, 2, none⟩ = some (.map (some m2)) ∧ W.cell? ⟨D, 1, none⟩ = some (.int .i64 v) ∧ W.cell? ⟨D, 2, none⟩ = some (.int .i64 m') ∧ W.cell? ⟨D, 3, none⟩ = some (.int .i64 p')) (by kernel_rfl) ⟨cA1, cA2, y1, y2, y3⟩ (fun hHeld16 => ?_)
                        refine wpAnyH_take (i := 0) (oi := { dst := some 74, op := Op.fieldAddr 28 (Operand.tmp 9) 1, type := 0, pos := "law.go:63", after := #[], guard := none }) (v := ?v58) rfl (by kernel_rfl) (by kernel_rfl) (by kernel_rfl) (fun _ _ _ h => h) (Or.inl ⟨by rfl, ?y58⟩) (by assumption) ?r58
                        case y58 => (intro w hSw; (try dsimp only at hSw); (try (go_split_ands)); go_simp; try with_reducible rfl)
                        try simp only [Act.put, List.setIfInBounds_toArray, List.set_cons_zero, List.set_cons_succ]
                        refine wpAnyH_take (i := 1) (oi := { dst := some 75, op := Op.load 26 (Operand.tmp 74), type := 26, pos := "law.go:63", after := #[{ on := 0, ground := Ground.data }], guard := none }) (v := ?v59) rfl (by kernel_rfl) (by kernel_rfl) (by kernel_rfl) (fun _ _ _ h => h) (Or.inl ⟨by rfl, ?y59⟩) (by assumption) ?r59
                        case y59 => (intro w hSw; (try dsimp only at hSw); (try (go_split_ands)); go_simp; try with_reducible rfl)
                        try simp only [Act.put, List.setIfInBounds_toArray, List.set_cons_zero, List.set_cons_succ]
                        refine wpAnyH_take (i := 2) (oi := { dst := some 76, op := Op.fieldAddr 82 (Operand.tmp 12) 1, type := 0, pos := "law.go:63", after := #[], guard := none }) (v := ?v60) rfl (by kernel_rfl) (by kernel_rfl) (by kernel_rfl) (fun _ _ _ h => h) (Or.inl ⟨by rfl, ?y60⟩) (by assumption) ?r60
                        case y60 => (intro w hSw; (try dsimp only at hSw); (try (go_split_ands)); go_simp; try with_reducible rfl)
                        try simp only [Act.put, List.setIfInBounds_toArray, List.set_cons_zero, List.set_cons_succ]
                        refine wpAnyH_take (i := 3) (oi := { dst := some 77, op := Op.load 3 (Operand.tmp 76), type := 3, pos := "law.go:63", after := #[{ on := 2, ground := Ground.data }], guard := none }) (v := ?v61) rfl (by kernel_rfl) (by kernel_rfl) (by kernel_rfl) (fun _ _ _ h => h) (Or.inl ⟨by rfl, ?y61⟩) (by assumption) ?r61
                        case y61 => (intro w hSw; (try dsimp only at hSw); (try (go_split_ands)); go_simp; try with_reducible rfl)
                        try simp only [Act.put, List.setIfInBounds_toArray, List.set_cons_zero, List.set_cons_succ]
                        refine wpAnyH_take (i := 4) (oi := { dst := some 78, op := Op.fieldAddr 28 (Operand.tmp 9) 2, type := 0, pos := "law.go:63", after := #[{ on := 12, ground := Ground.gcOnly Departure.lateStores }], guard := none }) (v := ?v62) rfl (by kernel_rfl) (by kernel_rfl) (by kernel_rfl) (fun _ _ _ h => h) (Or.inl ⟨by rfl, ?y62⟩) (by assumption) ?r62
                        case y62 => (intro w hSw; (try dsimp only at hSw); (try (go_split_ands)); go_simp; try with_reducible rfl)
                        try simp only [Act.put, List.setIfInBounds_toArray, List.set_cons_zero, List.set_cons_succ]
                        refine wpAnyH_take (i := 5) (oi := { dst := some 79, op := Op.load 26 (Operand.tmp 78), type := 26, pos := "law.go:63", after := #[{ on := 4, ground := Ground.data }, { on := 12, ground := Ground.gcOnly Departure.lateStores }], guard := none }) (v := ?v63) rfl (by kernel_rfl) (by kernel_rfl) (by kernel_rfl) (fun _ _ _ h => h) (Or.inl ⟨by rfl, ?y63⟩) (by assumption) ?r63
                        case y63 => (intro w hSw; (try dsimp only at hSw); (try (go_split_ands)); go_simp; try with_reducible rfl)
                        try simp only [Act.put, List.setIfInBounds_toArray, List.set_cons_zero, List.set_cons_succ]
                        refine wpAnyH_take (i := 6) (oi := { dst := some 80, op := Op.fieldAddr 82 (Operand.tmp 12) 1, type := 0, pos := "law.go:63", after := #[{ on := 12, ground := Ground.gcOnly Departure.lateStores }], guard := none }) (v := ?v64) rfl (by kernel_rfl) (by kernel_rfl) (by kernel_rfl) (fun _ _ _ h => h) (Or.inl ⟨by rfl, ?y64⟩) (by assumption) ?r64
                        case y64 => (intro w hSw; (try dsimp only at hSw); (try (go_split_ands)); go_simp; try with_reducible rfl)
                        try simp only [Act.put, List.setIfInBounds_toArray, List.set_cons_zero, List.set_cons_succ]
                        refine wpAnyH_take (i := 7) (oi := { dst := some 81, op := Op.load 3 (Operand.tmp 80), type := 3, pos := "law.go:63", after := #[{ on := 6, ground := Ground.data }, { on := 12, ground := Ground.gcOnly Departure.lateStores }], guard := none }) (v := ?v65) rfl (by kernel_rfl) (by kernel_rfl) (by kernel_rfl) (fun _ _ _ h => h) (Or.inl ⟨by rfl, ?y65⟩) (by assumption) ?r65
                        case y65 => (intro w hSw; (try dsimp only at hSw); (try (go_split_ands)); go_simp; try with_reducible rfl)
                        try simp only [Act.put, List.setIfInBounds_toArray, List.set_cons_zero, List.set_cons_succ]
                        refine wpAnyH_take (i := 8) (oi := { dst := some 82, op := Op.fieldAddr 82 (Operand.tmp 12) 2, type := 0, pos := "law.go:63", after := #[], guard := none }) (v := ?v66) rfl (by kernel_rfl) (by kernel_rfl) (by kernel_rfl) (fun _ _ _ h => h) (Or.inl ⟨by rfl, ?y66⟩) (by assumption) ?r66
                        case y66 => (intro w hSw; (try dsimp only at hSw); (try (go_split_ands)); go_simp; try with_reducible rfl)
                        try simp only [Act.put, List.setIfInBounds_toArray, List.set_cons_zero, List.set_cons_succ]
                        refine wpAnyH_take (i := 9) (oi := { dst := some 83, op := Op.load 3 (Operand.tmp 82), type := 3, pos := "law.go:63", after := #[{ on := 8, ground := Ground.data }], guard := none }) (v := ?v67) rfl (by kernel_rfl) (by kernel_rfl) (by kernel_rfl) (fun _ _ _ h => h) (Or.inl ⟨by rfl, ?y67⟩) (by assumption) ?r67
                        case y67 => (intro w hSw; (try dsimp only at hSw); (try (go_split_ands)); go_simp; try with_reducible rfl)
                        try simp only [Act.put, List.setIfInBounds_toArray, List.set_cons_zero, List.set_cons_succ]
                        refine wpAnyH_take (i := 10) (oi := { dst := some 84, op := Op.fieldAddr 82 (Operand.tmp 12) 3, type := 0, pos := "law.go:63", after := #[{ on := 12, ground := Ground.gcOnly Departure.lateStores }], guard := none }) (v := ?v68) rfl (by kernel_rfl) (by kernel_rfl) (by kernel_rfl) (fun _ _ _ h => h) (Or.inl ⟨by rfl, ?y68⟩) (by assumption) ?r68
                        case y68 => (intro w hSw; (try dsimp only at hSw); (try (go_split_ands)); go_simp; try with_reducible rfl)
                        try simp only [Act.put, List.setIfInBounds_toArray, List.set_cons_zero, List.set_cons_succ]
                        refine wpAnyH_take (i := 11) (oi := { dst := some 85, op := Op.load 3 (Operand.tmp 84), type := 3, pos := "law.go:63", after := #[{ on := 10, ground := Ground.data }, { on := 12, ground := Ground.gcOnly Departure.lateStores }], guard := none }) (v := ?v69) rfl (by kernel_rfl) (by kernel_rfl) (by kernel_rfl) (fun _ _ _ h => h) (Or.inl ⟨by rfl, ?y69⟩) (by assumption) ?r69
                        case y69 => (intro w hSw; (try dsimp only at hSw); (try (go_split_ands)); go_simp; try with_reducible rfl)
                        try simp only [Act.put, List.setIfInBounds_toArray, List.set_cons_zero, List.set_cons_succ]
                        refine wpAnyH_ready (rs := [12]) (by kernel_rfl) (by simp) ?_
                        refine AllReadyH.cons (o := { dst := none, op := Op.mapUpdate 26 (Operand.tmp 75) (Operand.tmp 77) (Operand.tmp 83), type := 0, pos := "law.go:63", after := #[{ on := 1, ground := Ground.data }, { on := 3, ground := Ground.data }, { on := 9, ground := Ground.data }, { on := 0, ground := Ground.phase }, { on := 1, ground := Ground.phase }, { on := 2, ground := Ground.phase }, { on := 3, ground := Ground.phase }, { on := 4, ground := Ground.textOnly Departure.lateStores }, { on := 5, ground := Ground.textOnly Departure.lateStores }, { on := 6, ground := Ground.textOnly Departure.lateStores }, { on := 7, ground := Ground.textOnly Departure.lateStores }, { on := 8, ground := Ground.phase }, { on := 9, ground := Ground.phase }, { on := 10, ground := Ground.textOnly Departure.lateStores }, { on := 11, ground := Ground.textOnly Departure.lateStores }], guard := none }) rfl (fun K hK => ?_) AllReadyH.nil
                        refine step_mapUpdate rfl 26 (.tmp 75) (.tmp 77) (.tmp 83) rfl _ _ _ rfl rfl rfl hr1.out ?_
                        refine hK.out _ _ hS9.out (fun hHeld12 => ?_)
                        clear hK K
                        try simp only [Act.put]
                        refine wpAnyH_ready (rs := [13]) (by kernel_rfl) (by simp) ?_
                        refine AllReadyH.cons (o := { dst := none, op := Op.mapUpdate 26 (Operand.tmp 79) (Operand.tmp 81) (Operand.tmp 85), type := 0, pos := "law.go:63", after := #[{ on := 5, ground := Ground.data }, { on := 7, ground := Ground.data }, { on := 11, ground := Ground.data }, { on := 12, ground := Ground.chain }, { on := 0, ground := Ground.phase }, { on := 1, ground := Ground.phase }, { on := 2, ground := Ground.phase }, { on := 3, ground := Ground.phase }, { on := 4, ground := Ground.phase }, { on := 5, ground := Ground.phase }, { on := 6, ground := Ground.phase }, { on := 7, ground := Ground.phase }, { on := 8, ground := Ground.phase }, { on := 9, ground := Ground.phase }, { on := 10, ground := Ground.phase }, { on := 11, ground := Ground.phase }, { on := 12, ground := Ground.phase }], guard := none }) rfl (fun K hK => ?_) AllReadyH.nil
                        refine step_mapUpdate rfl 26 (.tmp 79) (.tmp 81) (.tmp 85) rfl _ _ _ rfl rfl rfl hs1.out ?_
                        refine hK.out _ _ hS10.out (fun hHeld13 => ?_)
                        clear hK K
                        try simp only [Act.put]
                        refine wpAnyH_done (by kernel_rfl) ?_ _
                        refine NoPanic.normal ?_
                        clear hHeld16 hHeld12 hHeld13 hS9 hS10 hr1 hs1
                        go_wp2
                        go_roundw
                        case rel => exact ⟨k + 1, by omega, by go_num, hfin, hRg⟩
                        case measure => simp [intOf]; omega
                      · go_wp2_with fail
                        refine wp_region_noPanic ?_
                        refine wp_region_held_drew (S := fun W => W.cell? ⟨a, 1, none⟩ = some (.map (some m1)) ∧ W.cell? ⟨a, 2, none⟩ = some (.map (some m2)) ∧ W.cell? ⟨D, 1, none⟩ = some (.int .i64 v) ∧ W.cell? ⟨D, 2, none⟩ = some (.int .i64 m') ∧ W.cell? ⟨D, 3, none⟩ = some (.int .i64 p')) (by kernel_rfl) ⟨cA1, cA2, y1, y2, y3⟩ (fun hHeld16 => ?_)
                        refine wpAnyH_take (i := 0) (oi := { dst := some 74, op := Op.fieldAddr 28 (Operand.tmp 9) 1, type := 0, pos := "law.go:63", after := #[], guard := none }) (v := ?v70) rfl (by kernel_rfl) (by kernel_rfl) (by kernel_rfl) (fun _ _ _ h => h) (Or.inl ⟨by rfl, ?y70⟩) (by assumption) ?r70
                        case y70 => (intro w hSw; (try dsimp only at hSw); (try (go_split_ands)); go_simp; try with_reducible rfl)
                        try simp only [Act.put, List.setIfInBounds_toArray, List.set_cons_zero, List.set_cons_succ]
                        refine wpAnyH_take (i := 1) (oi := { dst := some 75, op := Op.load 26 (Operand.tmp 74), type := 26, pos := "law.go:63", after := #[{ on := 0, ground := Ground.data }], guard := none }) (v := ?v71) rfl (by kernel_rfl) (by kernel_rfl) (by kernel_rfl) (fun _ _ _ h => h) (Or.inl ⟨by rfl, ?y71⟩) (by assumption) ?r71
                        case y71 => (intro w hSw; (try dsimp only at hSw); (try (go_split_ands)); go_simp; try with_reducible rfl)
                        try simp only [Act.put, List.setIfInBounds_toArray, List.set_cons_zero, List.set_cons_succ]
                        refine wpAnyH_take (i := 2) (oi := { dst := some 76, op := Op.fieldAddr 82 (Operand.tmp 12) 1, type := 0, pos := "law.go:63", after := #[], guard := none }) (v := ?v72) rfl (by kernel_rfl) (by kernel_rfl) (by kernel_rfl) (fun _ _ _ h => h) (Or.inl ⟨by rfl, ?y72⟩) (by assumption) ?r72
                        case y72 => (intro w hSw; (try dsimp only at hSw); (try (go_split_ands)); go_simp; try with_reducible rfl)
                        try simp only [Act.put, List.setIfInBounds_toArray, List.set_cons_zero, List.set_cons_succ]
                        refine wpAnyH_take (i := 3) (oi := { dst := some 77, op := Op.load 3 (Operand.tmp 76), type := 3, pos := "law.go:63", after := #[{ on := 2, ground := Ground.data }], guard := none }) (v := ?v73) rfl (by kernel_rfl) (by kernel_rfl) (by kernel_rfl) (fun _ _ _ h => h) (Or.inl ⟨by rfl, ?y73⟩) (by assumption) ?r73
                        case y73 => (intro w hSw; (try dsimp only at hSw); (try (go_split_ands)); go_simp; try with_reducible rfl)
                        try simp only [Act.put, List.setIfInBounds_toArray, List.set_cons_zero, List.set_cons_succ]
                        refine wpAnyH_take (i := 4) (oi := { dst := some 78, op := Op.fieldAddr 28 (Operand.tmp 9) 2, type := 0, pos := "law.go:63", after := #[{ on := 12, ground := Ground.gcOnly Departure.lateStores }], guard := none }) (v := ?v74) rfl (by kernel_rfl) (by kernel_rfl) (by kernel_rfl) (fun _ _ _ h => h) (Or.inl ⟨by rfl, ?y74⟩) (by assumption) ?r74
                        case y74 => (intro w hSw; (try dsimp only at hSw); (try (go_split_ands)); go_simp; try with_reducible rfl)
                        try simp only [Act.put, List.setIfInBounds_toArray, List.set_cons_zero, List.set_cons_succ]
                        refine wpAnyH_take (i := 5) (oi := { dst := some 79, op := Op.load 26 (Operand.tmp 78), type := 26, pos := "law.go:63", after := #[{ on := 4, ground := Ground.data }, { on := 12, ground := Ground.gcOnly Departure.lateStores }], guard := none }) (v := ?v75) rfl (by kernel_rfl) (by kernel_rfl) (by kernel_rfl) (fun _ _ _ h => h) (Or.inl ⟨by rfl, ?y75⟩) (by assumption) ?r75
                        case y75 => (intro w hSw; (try dsimp only at hSw); (try (go_split_ands)); go_simp; try with_reducible rfl)
                        try simp only [Act.put, List.setIfInBounds_toArray, List.set_cons_zero, List.set_cons_succ]
                        refine wpAnyH_take (i := 6) (oi := { dst := some 80, op := Op.fieldAddr 82 (Operand.tmp 12) 1, type := 0, pos := "law.go:63", after := #[{ on := 12, ground := Ground.gcOnly Departure.lateStores }], guard := none }) (v := ?v76) rfl (by kernel_rfl) (by kernel_rfl) (by kernel_rfl) (fun _ _ _ h => h) (Or.inl ⟨by rfl, ?y76⟩) (by assumption) ?r76
                        case y76 => (intro w hSw; (try dsimp only at hSw); (try (go_split_ands)); go_simp; try with_reducible rfl)
                        try simp only [Act.put, List.setIfInBounds_toArray, List.set_cons_zero, List.set_cons_succ]
                        refine wpAnyH_take (i := 7) (oi := { dst := some 81, op := Op.load 3 (Operand.tmp 80), type := 3, pos := "law.go:63", after := #[{ on := 6, ground := Ground.data }, { on := 12, ground := Ground.gcOnly Departure.lateStores }], guard := none }) (v := ?v77) rfl (by kernel_rfl) (by kernel_rfl) (by kernel_rfl) (fun _ _ _ h => h) (Or.inl ⟨by rfl, ?y77⟩) (by assumption) ?r77
                        case y77 => (intro w hSw; (try dsimp only at hSw); (try (go_split_ands)); go_simp; try with_reducible rfl)
                        try simp only [Act.put, List.setIfInBounds_toArray, List.set_cons_zero, List.set_cons_succ]
                        refine wpAnyH_take (i := 8) (oi := { dst := some 82, op := Op.fieldAddr 82 (Operand.tmp 12) 2, type := 0, pos := "law.go:63", after := #[], guard := none }) (v := ?v78) rfl (by kernel_rfl) (by kernel_rfl) (by kernel_rfl) (fun _ _ _ h => h) (Or.inl ⟨by rfl, ?y78⟩) (by assumption) ?r78
                        case y78 => (intro w hSw; (try dsimp only at hSw); (try (go_split_ands)); go_simp; try with_reducible rfl)
                        try simp only [Act.put, List.setIfInBounds_toArray, List.set_cons_zero, List.set_cons_succ]
                        refine wpAnyH_take (i := 9) (oi := { dst := some 83, op := Op.load 3 (Operand.tmp 82), type := 3, pos := "law.go:63", after := #[{ on := 8, ground := Ground.data }], guard := none }) (v := ?v79) rfl (by kernel_rfl) (by kernel_rfl) (by kernel_rfl) (fun _ _ _ h => h) (Or.inl ⟨by rfl, ?y79⟩) (by assumption) ?r79
                        case y79 => (intro w hSw; (try dsimp only at hSw); (try (go_split_ands)); go_simp; try with_reducible rfl)
                        try simp only [Act.put, List.setIfInBounds_toArray, List.set_cons_zero, List.set_cons_succ]
                        refine wpAnyH_take (i := 10) (oi := { dst := some 84, op := Op.fieldAddr 82 (Operand.tmp 12) 3, type := 0, pos := "law.go:63", after := #[{ on := 12, ground := Ground.gcOnly Departure.lateStores }], guard := none }) (v := ?v80) rfl (by kernel_rfl) (by kernel_rfl) (by kernel_rfl) (fun _ _ _ h => h) (Or.inl ⟨by rfl, ?y80⟩) (by assumption) ?r80
                        case y80 => (intro w hSw; (try dsimp only at hSw); (try (go_split_ands)); go_simp; try with_reducible rfl)
                        try simp only [Act.put, List.setIfInBounds_toArray, List.set_cons_zero, List.set_cons_succ]
                        refine wpAnyH_take (i := 11) (oi := { dst := some 85, op := Op.load 3 (Operand.tmp 84), type := 3, pos := "law.go:63", after := #[{ on := 10, ground := Ground.data }, { on := 12, ground := Ground.gcOnly Departure.lateStores }], guard := none }) (v := ?v81) rfl (by kernel_rfl) (by kernel_rfl) (by kernel_rfl) (fun _ _ _ h => h) (Or.inl ⟨by rfl, ?y81⟩) (by assumption) ?r81
                        case y81 => (intro w hSw; (try dsimp only at hSw); (try (go_split_ands)); go_simp; try with_reducible rfl)
                        try simp only [Act.put, List.setIfInBounds_toArray, List.set_cons_zero, List.set_cons_succ]
                        refine wpAnyH_ready (rs := [12]) (by kernel_rfl) (by simp) ?_
                        refine AllReadyH.cons (o := { dst := none, op := Op.mapUpdate 26 (Operand.tmp 75) (Operand.tmp 77) (Operand.tmp 83), type := 0, pos := "law.go:63", after := #[{ on := 1, ground := Ground.data }, { on := 3, ground := Ground.data }, { on := 9, ground := Ground.data }, { on := 0, ground := Ground.phase }, { on := 1, ground := Ground.phase }, { on := 2, ground := Ground.phase }, { on := 3, ground := Ground.phase }, { on := 4, ground := Ground.textOnly Departure.lateStores }, { on := 5, ground := Ground.textOnly Departure.lateStores }, { on := 6, ground := Ground.textOnly Departure.lateStores }, { on := 7, ground := Ground.textOnly Departure.lateStores }, { on := 8, ground := Ground.phase }, { on := 9, ground := Ground.phase }, { on := 10, ground := Ground.textOnly Departure.lateStores }, { on := 11, ground := Ground.textOnly Departure.lateStores }], guard := none }) rfl (fun K hK => ?_) AllReadyH.nil
                        refine step_mapUpdate rfl 26 (.tmp 75) (.tmp 77) (.tmp 83) rfl _ _ _ rfl rfl rfl hr1.out ?_
                        refine hK.out _ _ hS9.out (fun hHeld12 => ?_)
                        clear hK K
                        try simp only [Act.put]
                        refine wpAnyH_ready (rs := [13]) (by kernel_rfl) (by simp) ?_
                        refine AllReadyH.cons (o := { dst := none, op := Op.mapUpdate 26 (Operand.tmp 79) (Operand.tmp 81) (Operand.tmp 85), type := 0, pos := "law.go:63", after := #[{ on := 5, ground := Ground.data }, { on := 7, ground := Ground.data }, { on := 11, ground := Ground.data }, { on := 12, ground := Ground.chain }, { on := 0, ground := Ground.phase }, { on := 1, ground := Ground.phase }, { on := 2, ground := Ground.phase }, { on := 3, ground := Ground.phase }, { on := 4, ground := Ground.phase }, { on := 5, ground := Ground.phase }, { on := 6, ground := Ground.phase }, { on := 7, ground := Ground.phase }, { on := 8, ground := Ground.phase }, { on := 9, ground := Ground.phase }, { on := 10, ground := Ground.phase }, { on := 11, ground := Ground.phase }, { on := 12, ground := Ground.phase }], guard := none }) rfl (fun K hK => ?_) AllReadyH.nil
                        refine step_mapUpdate rfl 26 (.tmp 79) (.tmp 81) (.tmp 85) rfl _ _ _ rfl rfl rfl hs1.out ?_
                        refine hK.out _ _ hS10.out (fun hHeld13 => ?_)
                        clear hK K
                        try simp only [Act.put]
                        refine wpAnyH_done (by kernel_rfl) ?_ _
                        refine NoPanic.normal ?_
                        clear hHeld16 hHeld12 hHeld13 hS9 hS10 hr1 hs1
                        go_wp2
                        go_roundw
                        case rel => exact ⟨k + 1, by omega, by go_num, hfin, hRg⟩
                        case measure => simp [intOf]; omega
            · by_cases e1 : kd = 1
              · subst e1
                as_aux_lemma =>
                  have hrgP : w6.rangeAt D 4 (fPv ⟨ac, pv, pc, fl⟩) := World.rangeAt_of_block h6.out 4 4
                  have hrgP' := hide hrgP
                  have hS := hide (SetPort_all hV6.out.tbl at' ⟨ac, pv, pc, fl⟩)
                  clear hrgP x1 x2 x3 wk wv wm wp
                  go_wp2_with ((with_reducible change wpList _ _ _ _ _ _); refine wpList_load_mid rfl 44 (.tmp 164) rfl D 4 rfl (fPv ⟨ac, pv, pc, fl⟩) _ hrgP'.out Try.underlying44 rfl (pvLen _) ?_)
                  refine hS.out.mono ?_
                  rintro _ w7 ⟨e, ps', rfl, hT7, hC7, hD7⟩
                  have hDp : D ≠ pb := by have := hB6.out; have := hV6.out.ne; omega
                  have hkD := hC7.block D hB6.out.1 hDp
                  have hrg7 : Hid (w7.rangeAt D 4 (fPv ⟨ac, pv, pc, fl⟩)) := fun j u hj => (World.cell?_of_block (a := ⟨D, 4 + j, none⟩) hkD).trans (hrgP'.out j u hj)
                  replace x8 : w7.cell? ⟨D, 8, none⟩ = some (.int .i64 at') := (World.cell?_of_block (a := ⟨D, 8, none⟩) hkD).trans x8
                  have hR7 : Hid (w7.heap[w.heap.size]? = some (.cells mdZero 28 (0, 0))) := (hC7.block w.heap.size (Array.getElem?_eq_some_iff.1 hR6.out).1 (by have := hmbW.out; omega)).trans hR6.out
                  have hl' : ps'.length = ps.length := by rcases hD7 with ⟨_, _, rfl⟩ | ⟨_, _, rfl⟩ <;> simp
                  have hV7 := hide (hV6.out.tab hC7 (fun k e => .inl e) hT7 hl')
                  rw [hps'.out] at hD7
                  replace hD7 := hide hD7
                  have hB7 : Hid (D < w7.heap.size) := block_lt_of_cell x8
                  clear hS hrgP' hC7 hT7 hV6 hR6 h6 hkD hDp x0
                  go_wp2_with (first | ((with_reducible change wpList _ _ _ _ _ _); refine wpList_load_mid rfl 44 (.tmp 167) rfl D 4 rfl (fPv ⟨ac, pv, pc, fl⟩) _ hrg7.out Try.underlying44 rfl (pvLen _) ?_) | ((with_reducible change wpList _ _ _ _ _ _); refine stop_storeB 44 (.tmp 17) (.tmp 168) rfl ?_))
                  refine hide (wpList_store_fresh rfl 44 (.tmp 17) (.tmp 168) rfl (fPv ⟨ac, pv, pc, fl⟩).toArray (fPv Pv.zero).toArray rfl rfl 44 (pvSize _) rfl (pv_all _) ?_)
                  intro w8 h8 hb8
                  have z0 : w8.cell? ⟨w7.heap.size, 0, none⟩ = some (.int .i64 ac) := (cell_of_row _ _ _ _ _ _ h8).trans rfl
                  have z1 : w8.cell? ⟨w7.heap.size, 1, none⟩ = some (.int .i64 pv) := (cell_of_row _ _ _ _ _ _ h8).trans rfl
                  have z2 : w8.cell? ⟨w7.heap.size, 2, none⟩ = some (.int .i64 pc) := (cell_of_row _ _ _ _ _ _ h8).trans rfl
                  replace x8 : w8.cell? ⟨D, 8, none⟩ = some (.int .i64 at') := (bcell' hb8 hB7.out 8).trans x8
                  have hV8 := hide (hV7.out.later hb8)
                  have hRf := hide (heap_kept hb8 hR7.out)
                  have hs8 : Hid (s < w7.heap.size) := hV7.out.fl.lt
                  have ha8 : Hid (a < w7.heap.size) := hV7.out.lta
                  have hE8 : Hid (w7.heap.size < w8.heap.size) := (Array.getElem?_eq_some_iff.1 h8).1
                  have hKE : Hid (K0 ≤ w7.heap.size) := by have := hV7.out.fl.lt; have := hV7.out.ne; show _ ≤ _; omega
                  replace h8 := hide h8
                  clear hV7 hR7 hrg7 hb8
                  generalize w7.heap.size = E at *
                  rcases hD7.out with ⟨q1, rfl, rfl⟩ | ⟨q1, rfl, rfl⟩
                  · have hfin : Hid (Ks K0 w w8 g pb mb a s m1 m2 n (k + 1)) := ⟨ps', f, c, fm, fp, cm, cp, hV8.out, hT.out, hps'.out, by have := hbig.out; omega, hpv.out⟩
                    have hno : Hid (¬ ((0 ≤ at' ∧ at' < n) ∧ (0 ≤ ac ∧ ac ≤ 2) ∧ (1 ≤ pv ∧ pv ≤ 4094) ∧ 0 ≤ pc ∧ pc ≤ 7)) := fun h => by rw [(spE_iff at' ⟨ac, pv, pc, fl⟩).2 h] at q1; cases q1
                    clear hV8 hT hbig hpv hD7 h8
                    by_cases t0 : at' < 0
                    · as_aux_lemma =>
                        go_wp2
                        go_roundw
                        case rel => exact ⟨k + 1, by omega, by go_num, hfin, hRf⟩
                        case measure => simp [intOf]; omega
                    by_cases t1 : (n : Int) ≤ at'
                    · as_aux_lemma =>
                        go_wp2
                        go_roundw
                        case rel => exact ⟨k + 1, by omega, by go_num, hfin, hRf⟩
                        case measure => simp [intOf]; omega
                    by_cases t2 : ac < 0
                    · as_aux_lemma =>
                        go_wp2
                        go_roundw
                        case rel => exact ⟨k + 1, by omega, by go_num, hfin, hRf⟩
                        case measure => simp [intOf]; omega
                    by_cases t3 : 2 < ac
                    · as_aux_lemma =>
                        go_wp2
                        go_roundw
                        case rel => exact ⟨k + 1, by omega, by go_num, hfin, hRf⟩
                        case measure => simp [intOf]; omega
                    by_cases t4 : pv < 1
                    · as_aux_lemma =>
                        go_wp2
                        go_roundw
                        case rel => exact ⟨k + 1, by omega, by go_num, hfin, hRf⟩
                        case measure => simp [intOf]; omega
                    by_cases t5 : 4094 < pv
                    · as_aux_lemma =>
                        go_wp2
                        go_roundw
                        case rel => exact ⟨k + 1, by omega, by go_num, hfin, hRf⟩
                        case measure => simp [intOf]; omega
                    by_cases t6 : pc < 0
                    · as_aux_lemma =>
                        go_wp2
                        go_roundw
                        case rel => exact ⟨k + 1, by omega, by go_num, hfin, hRf⟩
                        case measure => simp [intOf]; omega
                    by_cases t7 : 7 < pc
                    · as_aux_lemma =>
                        go_wp2
                        go_roundw
                        case rel => exact ⟨k + 1, by omega, by go_num, hfin, hRf⟩
                        case measure => simp [intOf]; omega
                    exact absurd ⟨⟨by omega, by omega⟩, ⟨by omega, by omega⟩, ⟨by omega, by omega⟩, by omega, by omega⟩ hno.out
                  as_aux_lemma =>
                    · have hyes := (spE_iff at' ⟨ac, pv, pc, fl⟩).1 q1
                      dsimp only at hyes
                      obtain ⟨⟨u1, u2⟩, ⟨u3, u4⟩, ⟨u5, u6⟩, u7, u8⟩ := hyes
                      obtain ⟨i', rfl⟩ := Int.eq_ofNat_of_zero_le u1
                      rw [Int.toNat_natCast] at hV8
                      have hi' : i' < ps.length := by have := hps'.out; omega
                      have ca0 := hV8.out.a0
                      rw [List.length_set, hps'.out] at ca0
                      have hTh := hide (hV8.out.fl.there wide_Pv Pv.zero i' 0 4 hi' (by omega))
                      have hF := hV8.out.fl.setn wide_Pv Pv.zero i' 0 (fPv ⟨ac, pv, pc, fl⟩) ⟨ac, pv, pc, fl⟩ hi' (by simp) rfl
                      have hVf := hV8.out.port (Ch.setCells s (i' * 4) w8 (fPv ⟨ac, pv, pc, fl⟩)) hF (by simp)
                      have hRg : Hid ((w8.setCells s (i' * 4) (fPv ⟨ac, pv, pc, fl⟩)).heap[w.heap.size]? = some (.cells mdZero 28 (0, 0))) := (heap_setCells_other s _ _ _ w.heap.size (by have := hWK.out; have := hV8.out.ne; omega)).trans hRf.out
                      have hfin : Hid (Ks K0 w (w8.setCells s (i' * 4) (fPv ⟨ac, pv, pc, fl⟩)) g pb mb a s m1 m2 n (k + 1)) := ⟨ps.set i' ⟨ac, pv, pc, fl⟩, f, c, fm, fp, cm, cp, hVf, hT.out, by rw [List.length_set]; exact hps'.out, by have := hbig.out; omega, fun p hp => by
                        rcases List.mem_or_eq_of_mem_set hp with h | h
                        · exact hpv.out p h
                        · rw [h]; exact ⟨by dsimp only; omega, by dsimp only; omega⟩⟩
                      clear hV8 hT hbig hpv hD7 hF hVf q1 hl'
                      go_wp2_with (first | ((with_reducible change wpList _ _ _ _ _ _); refine wpList_load_row rfl 44 (.tmp 17) rfl E rfl 44 _ _ _ h8.out Try.underlying44 rfl (pvSize _) ?_) | ((with_reducible change wpList _ _ _ _ _ _); refine stop_storeB 44 (.tmp 217) (.tmp 216) rfl ?_))
                      refine hide (wpList_store_mid rfl 44 (.tmp 217) (.tmp 216) rfl s (i' * 4) (fPv ⟨ac, pv, pc, fl⟩).toArray rfl rfl hTh.out (pvSize _) (pv_all _) ?_)
                      have hfin' := hfin.out
                      clear hTh h8 ca0
                      generalize w8.setCells s (i' * 4) (fPv ⟨ac, pv, pc, fl⟩) = w9 at *
                      replace hfin' := hide hfin'
                      go_wp2
                      go_roundw
                      case rel => exact ⟨k + 1, by omega, by go_num, hfin', hRg⟩
                      case measure => simp [intOf]; omega
              as_aux_lemma =>
                · have e0' : (kd == 0) = false := beq_eq_false_iff_ne.2 e0
                  have e1' : (kd == 1) = false := beq_eq_false_iff_ne.2 e1
                  have hfin : Hid (Ks K0 w w6 g pb mb a s m1 m2 n (k + 1)) := ⟨ps, f, c, fm, fp, cm, cp, hV6.out, hT.out, hps'.out, by have := hbig.out; omega, hpv.out⟩
                  clear hV6 hT hbig hpv h6
                  go_wp2
                  go_roundw
                  case rel => exact ⟨k + 1, by omega, by go_num, hfin, hR6⟩
                  case measure => simp [intOf]; omega
          · obtain rfl : L = k := by omega
            go_wp2_with fail
            as_aux_lemma =>
              obtain ⟨ps, f, c, fm, fp, cm, cp, hV, hT, hps, hbig, hpv⟩ := hKs.out
              have hrowA : wr.heap[a]? = some (.cells #[.slice (some ⟨s, 0, none⟩) n n, .map (some m1), .map (some m2)] 28 (0, 0)) := by have := hV.row; rw [hps] at this; exact this
              have hd1 := hV.later (below_drew (Below.refl wr.heap.size wr))
              have hne : w.heap.size ≠ a := by have := hV.ne; have := hWK.out; omega
              have hVf := hd1.other (x := w.heap.size) (w' := wr.drew.setRow w.heap.size #[.slice (some ⟨s, 0, none⟩) n n, .map (some m1), .map (some m2)]) ⟨rfl, rfl, rfl, by simp [World.setRow], fun k _ hk => Go.setRow_other _ _ _ _ hk⟩ (Nat.le_refl _) (by have := hmbW.out; have := hWK.out; omega)
              have hRz : Hid ((wr.drew.setRow w.heap.size #[.slice (some ⟨s, 0, none⟩) n n, .map (some m1), .map (some m2)]).heap[w.heap.size]? = some (.cells #[.slice (some ⟨s, 0, none⟩) n n, .map (some m1), .map (some m2)] 28 (0, 0))) := setRow_heap _ _ _ _ _ _ hR.out
              have hAz : Hid ((wr.drew.setRow w.heap.size #[.slice (some ⟨s, 0, none⟩) n n, .map (some m1), .map (some m2)]).heap[a]? = some (.cells #[.slice (some ⟨s, 0, none⟩) n n, .map (some m1), .map (some m2)] 28 (0, 0))) := (Go.setRow_other _ _ _ _ (Ne.symm hne)).trans hrowA
              have hfin : Hid (Ks K0 w (wr.drew.setRow w.heap.size #[.slice (some ⟨s, 0, none⟩) n n, .map (some m1), .map (some m2)]) g pb mb a s m1 m2 n L) := ⟨ps, f, c, fm, fp, cm, cp, hVf, hT, hps, hbig, hpv⟩
              clear hV hT hps hbig hpv hd1 hVf hKs
              refine wp_region_noPanic ?_
              refine wp_region_held_drew (S := fun W => W.heap[a]? = some (.cells #[.slice (some ⟨s, 0, none⟩) n n, .map (some m1), .map (some m2)] 28 (0, 0))) (by kernel_rfl) hrowA (fun hHeld40 => ?_)
              refine wpAnyH_take (i := 0) (oi := { dst := some 223, op := Op.move (Operand.tmp 8), type := 24, pos := "law.go:83", after := #[], guard := none }) (v := ?v82) rfl (by kernel_rfl) (by kernel_rfl) (by kernel_rfl) (fun _ _ _ h => h) (Or.inl ⟨by rfl, ?y82⟩) (by assumption) ?r82
              case y82 => (intro w hSw; (try dsimp only at hSw); (try (go_split_ands)); go_simp; try with_reducible rfl)
              try simp only [Act.put, List.setIfInBounds_toArray, List.set_cons_zero, List.set_cons_succ]
              refine wpAnyH_take (i := 1) (oi := { dst := some 224, op := Op.load 28 (Operand.tmp 9), type := 28, pos := "law.go:83", after := #[{ on := 2, ground := Ground.gcOnly Departure.lateStores }], guard := none }) (v := _) rfl (by kernel_rfl) (by kernel_rfl) (by kernel_rfl) (fun _ _ _ h => h) (yieldsIf_load_row (by rfl) 28 (.tmp 9) rfl a rfl 28 _ (0, 0) _ (fun W hW => hW) Try.underlying28 rfl (mdSize _ _ _ _)) (by assumption) ?_
              try simp only [Act.put, List.setIfInBounds_toArray, List.set_cons_zero, List.set_cons_succ]
              refine wpAnyH_take (i := 2) (oi := { dst := some 4, op := Op.assign (Operand.tmp 223), type := 24, pos := "law.go:83", after := #[{ on := 0, ground := Ground.data }, { on := 0, ground := Ground.phase }, { on := 1, ground := Ground.textOnly Departure.lateStores }], guard := none }) (v := ?v83) rfl (by kernel_rfl) (by kernel_rfl) (by kernel_rfl) (fun _ _ _ h => h) (Or.inl ⟨by rfl, ?y83⟩) (by assumption) ?r83
              case y83 => (intro w hSw; (try dsimp only at hSw); (try (go_split_ands)); go_simp; try with_reducible rfl)
              try simp only [Act.put, List.setIfInBounds_toArray, List.set_cons_zero, List.set_cons_succ]
              refine wpAnyH_ready (rs := [3]) (by kernel_rfl) (by simp) ?_
              refine AllReadyH.cons (o := { dst := none, op := Op.store 28 (Operand.tmp 5) (Operand.tmp 224), type := 0, pos := "law.go:83", after := #[{ on := 1, ground := Ground.data }, { on := 2, ground := Ground.chain }, { on := 0, ground := Ground.phase }, { on := 1, ground := Ground.phase }, { on := 2, ground := Ground.phase }], guard := none }) rfl (fun K hK => ?_) AllReadyH.nil
              refine step_store_row rfl 28 (.tmp 5) (.tmp 224) rfl w.heap.size #[.slice (some ⟨s, 0, none⟩) n n, .map (some m1), .map (some m2)] rfl rfl 28 _ hR.out (mdSize _ _ _ _) rfl (by simp [Value.oneCell']) ?_
              refine hK.out _ _ hAz.out (fun hHeld3 => ?_)
              clear hK K
              try simp only [Act.put]
              refine wpAnyH_take (i := 4) (oi := { dst := some 6, op := Op.assign (Operand.const (Value.bool true)), type := 4, pos := "law.go:83", after := #[{ on := 3, ground := Ground.chain }, { on := 0, ground := Ground.phase }, { on := 1, ground := Ground.phase }, { on := 2, ground := Ground.phase }, { on := 3, ground := Ground.phase }], guard := none }) (v := ?v84) rfl (by kernel_rfl) (by kernel_rfl) (by kernel_rfl) (fun _ _ _ h => h) (Or.inl ⟨by rfl, ?y84⟩) (by assumption) ?r84
              case y84 => (intro w hSw; (try dsimp only at hSw); (try (go_split_ands)); go_simp; try with_reducible rfl)
              try simp only [Act.put, List.setIfInBounds_toArray, List.set_cons_zero, List.set_cons_succ]
              refine wpAnyH_done (by kernel_rfl) ?_ _
              refine NoPanic.normal ?_
              clear hHeld40 hHeld3 hAz hrowA
              generalize wr.drew.setRow w.heap.size #[.slice (some ⟨s, 0, none⟩) n n, .map (some m1), .map (some m2)] = wz at *
              go_wp2
              (try simp only [Exit.inBlock, Exit.then])
              exact bodyPost_ret (results_tct rfl _ _ w.heap.size _ rfl (run_loadVar_row _ _ _ _ _ _ _ hRz.out Try.underlying28 rfl (mdSize _ _ _ _))) rfl ⟨K0, g, pb, mb, a, s, m1, m2, rfl, hfin.out⟩
end Go.Proofs.Ytffbblcohgkmjaa
