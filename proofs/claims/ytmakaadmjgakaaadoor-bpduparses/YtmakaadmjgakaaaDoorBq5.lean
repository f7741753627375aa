/-
  A contract of bpdu.Frame. Conditions: the table lies as the program's text lays it ('Tab'); numbers within their kinds.
-/
import Derived.Test.YtmakaadmjgakaaaDoorBq4
import Derived.Test.YtmakaadmjgakaaaDoorMacG
namespace Go.Proofs.YtmakaadmjgakaaaDoor
open Go.RowKit
set_option linter.unusedVariables false

/-- A load's fact, as an operation of a region that draws its order. -/
theorem yieldsIf_load {P : Program} {ops : Array Oper} {S : World → Prop} {op : Oper} {a : Act} (hw : Region.wanted op (yielded ops a.tmps) = true) (ty : TypeId) (x : Operand) (ho : op.op = .load ty x) (u v : Value) (hx : a.eval x = u)
    (hl : ∀ w, S w → (Instr.loadAt ty u).run P w = .ok v w) : YieldsIf P ops S op v a :=
  .inl ⟨hw, fun w h => by
    unfold execOp
    simp only [ho, hx, Sem.run_bind, hl w h, Result.andThen_ok, Sem.run_pure]⟩
theorem Bs.lenB {w : World} {a : Option Addr} {n c : Nat} {l : List Int} (h : Bs w (.slice a n c) l) : n = l.length := by
  obtain ⟨_, _, _, e, _⟩ := h
  simp only [Value.slice.injEq] at e
  exact e.2.1
theorem nsL_head (v c : Int) : (nsL (headP v c)).length = 7 := by simp [nsL, headP, digs_length]
theorem nsL_told (b : Bp) : (nsL (toldP b)).length = 31 := by simp [nsL, toldP, digs_length]
theorem bbuildL_length (b : Bp) : (bbuildL b).length = if b.kind = 2 then 7 else if b.kind = 1 then 39 else 38 := by
  unfold bbuildL
  by_cases h2 : b.kind = 2
  · rw [if_pos h2, if_pos h2, nsL_head]
  · rw [if_neg h2, if_neg h2]
    by_cases h1 : b.kind = 1
    · rw [if_pos h1, if_pos h1]; simp [nsL_head, nsL_told]
    · rw [if_neg h1, if_neg h1]; simp [nsL_head, nsL_told]
theorem bbuildL_le (b : Bp) : (bbuildL b).length ≤ 39 := by rw [bbuildL_length]; split <;> (try split) <;> omega
/-- The header of a message's frame. -/
@[reducible] def frameH (a b c d e f n : Int) : Hd := ⟨1, 128, 194, 0, 0, 0, a, b, c, d, e, f, false, 0, false, 0, n, true⟩
theorem frameH_bytes (a b c d e f n : Int) (h : Byte [a, b, c, d, e, f]) : (frameH a b c d e f n).bytes := ⟨by intro z hz; simp [Hd.dst] at hz; omega, h⟩
theorem frameH_check (a b c d e f : Int) (n : Nat) (hn : n ≤ 1500) : checkE (frameH a b c d e f n) n = if a % 2 = 1 then 4 else 0 := by
  unfold checkE
  rw [if_neg (by omega), if_neg (by simp [tagFitsB])]
  by_cases h : a % 2 = 1
  · rw [if_pos (.inl h), if_pos h]
  · rw [if_neg, if_neg h]
    simp [typeFitsB, h]
theorem mac_range {W : World} {g : Nat} {t : TypeId} {fr : Nat × Nat} {a b c d e f : Int} (hk : W.heap[g]? = some (.cells (mac6 a b c d e f) t fr)) : (Instr.loadAt 23 (.pointer (some ⟨g, 0, none⟩))).run Tryd.prog W = .ok (.agg (mac6 a b c d e f)) W := by
  simp only [Instr.loadAt, Instr.sureAddr, Sem.run_bind, Sem.run_pure, Result.andThen_ok, run_loadVar_row W g t _ _ fr _ hk Tryd.underlying23 rfl macSize]
set_option maxRecDepth 20000 in
theorem BFrame_bad (b : Bp) (s0 s1 s2 s3 s4 s5 : Int) (w : World) (hW : b.wf) (hE : bcheckE b ≠ 0) :
    Calls Tryd.prog 40 #[.agg b.row, .agg (mac6 s0 s1 s2 s3 s4 s5)] w fun e w' => e = .returned (.tuple #[.slice none 0 0, .int .i64 (bcheckE b)]) ∧ Below w.heap.size w w' := by
  have hB := hide (fun w => BBuild_bad b w hW hE)
  have hE' : (bcheckE b != 0) = true := by simpa using hE
  generalize bcheckE b = E at *
  have hk := heap_kept (below1 (w.alloc (.cells b.row 41)) (.cells (mac6 s0 s1 s2 s3 s4 s5) 23)) (heap_alloc_new w (.cells b.row 41))
  have hb0 := (below1 w (.cells b.row 41)).later (below1 (w.alloc (.cells b.row 41)) (.cells (mac6 s0 s1 s2 s3 s4 s5) 23))
  clear hE hW
  go_enter Tryd.func40, Tryd.ntmps40
  go_wp2_with (((with_reducible change wpList _ _ _ _ _ _); refine wpList_load_row rfl 41 (.tmp 2) rfl w.heap.size rfl 41 _ _ _ hk Tryd.underlying41 rfl (bpSize _) ?_))
  refine (hB.out _).mono ?_
  rintro e w1 ⟨rfl, hb1⟩
  have hW1 := hide (hb0.later hb1)
  clear hb1 hb0 hk hB
  go_wp2
  go_ret2
  exact ⟨rfl, hW1.out⟩
set_option maxRecDepth 20000 in
set_option maxHeartbeats 1000000 in
theorem BFrame_ok (b : Bp) (s0 s1 s2 s3 s4 s5 : Int) (w : World) (hT : Tab w) (hW : b.wf) (hE : bcheckE b = 0) (hs : Byte [s0, s1, s2, s3, s4, s5]) (ho : ¬ s0 % 2 = 1) :
    Calls Tryd.prog 40 #[.agg b.row, .agg (mac6 s0 s1 s2 s3 s4 s5)] w fun e w' => ∃ g n, e = .returned (.tuple #[.slice (some ⟨g, 0, none⟩) n n, .int .i64 0]) ∧ n = (buildL (frameH s0 s1 s2 s3 s4 s5 (bbuildL b).length) (bbuildL b)).length ∧ Bs w' (.slice (some ⟨g, 0, none⟩) n n) (buildL (frameH s0 s1 s2 s3 s4 s5 (bbuildL b).length) (bbuildL b)) ∧ Below w.heap.size w w' := by
  have hB := hide (fun w => BBuild_ok b w hW hE)
  have hch := hide (frameH_check s0 s1 s2 s3 s4 s5 (bbuildL b).length (by have := bbuildL_le b; omega))
  have hk := heap_kept (below1 (w.alloc (.cells b.row 41)) (.cells (mac6 s0 s1 s2 s3 s4 s5) 23)) (heap_alloc_new w (.cells b.row 41))
  have hm := heap_alloc_new (w.alloc (.cells b.row 41)) (.cells (mac6 s0 s1 s2 s3 s4 s5) 23)
  rw [World.size_alloc] at hm
  have hb0 := (below1 w (.cells b.row 41)).later (below1 (w.alloc (.cells b.row 41)) (.cells (mac6 s0 s1 s2 s3 s4 s5) 23))
  have HT := hide hT
  have HS := hide hs
  have HO := hide ho
  clear hE hW hT hs ho
  generalize bbuildL b = D at *
  go_enter Tryd.func40, Tryd.ntmps40
  go_wp2_with (((with_reducible change wpList _ _ _ _ _ _); refine wpList_load_row rfl 41 (.tmp 2) rfl w.heap.size rfl 41 _ _ _ hk Tryd.underlying41 rfl (bpSize _) ?_))
  refine (hB.out _).mono ?_
  rintro e w1 ⟨va, n, vk, rfl, hB1, hb1⟩
  have hn := hB1.lenB
  have hm1 := heap_kept hb1 hm
  have HB1 := hide hB1
  have hW1 := hide (hb0.later hb1)
  have Hn := hide hn
  clear hb1 hb0 hk hB hm hB1 hn
  go_wp2_with fail
  refine wp_region_noPanic ?_
  refine wp_region_held_drew (S := fun W => Below w1.heap.size w1 W) (by kernel_rfl) (below_drewN (Below.refl _ _) 1) (fun hHeld => ?_)
  refine wpAnyH_take (i := 1) (oi := { dst := some 17, op := Op.load 23 (Operand.tmp 3), type := 23, pos := "bpdu.go:271", after := #[], guard := none }) (v := _) rfl (by kernel_rfl) (by kernel_rfl) (by kernel_rfl) (fun _ _ _ h => h) (yieldsIf_load rfl 23 (.tmp 3) rfl (.pointer (some ⟨w.heap.size + 1, 0, none⟩)) (.agg (mac6 s0 s1 s2 s3 s4 s5)) rfl (fun W h => mac_range (heap_kept h hm1))) (by assumption) ?_
  try simp only [Act.put, List.setIfInBounds_toArray, List.set_cons_zero, List.set_cons_succ]
  refine wpAnyH_take (i := 2) (oi := { dst := some 18, op := Op.move (Operand.tmp 6), type := 26, pos := "bpdu.go:271", after := #[], guard := none }) (v := ?v1) rfl (by kernel_rfl) (by kernel_rfl) (by kernel_rfl) (fun _ _ _ h => h) (Or.inl ⟨by rfl, ?y1⟩) (by assumption) ?r1
  case y1 => (intro w hSw; (try dsimp only at hSw); (try (go_split_ands)); go_simp; try with_reducible rfl)
  try simp only [Act.put, List.setIfInBounds_toArray, List.set_cons_zero, List.set_cons_succ]
  refine wpAnyH_take (i := 3) (oi := { dst := some 19, op := Op.call { callee := Callee.builtin Builtin.len, args := #[Operand.tmp 18], argTypes := #[26] }, type := 3, pos := "bpdu.go:271", after := #[{ on := 2, ground := Ground.data }], guard := none }) (v := ?v2) rfl (by kernel_rfl) (by kernel_rfl) (by kernel_rfl) (fun _ _ _ h => h) (Or.inl ⟨by rfl, ?y2⟩) (by assumption) ?r2
  case y2 => (intro w hSw; (try dsimp only at hSw); (try (go_split_ands)); go_simp; try with_reducible rfl)
  try simp only [Act.put, List.setIfInBounds_toArray, List.set_cons_zero, List.set_cons_succ]
  refine wpAnyH_take (i := 5) (oi := { dst := some 21, op := Op.move (Operand.tmp 6), type := 26, pos := "bpdu.go:271", after := #[], guard := none }) (v := ?v3) rfl (by kernel_rfl) (by kernel_rfl) (by kernel_rfl) (fun _ _ _ h => h) (Or.inl ⟨by rfl, ?y3⟩) (by assumption) ?r3
  case y3 => (intro w hSw; (try dsimp only at hSw); (try (go_split_ands)); go_simp; try with_reducible rfl)
  try simp only [Act.put, List.setIfInBounds_toArray, List.set_cons_zero, List.set_cons_succ]
  refine wpAnyH_ready (rs := [0]) (by kernel_rfl) (by simp) ?_
  refine AllReadyH.cons (o := { dst := some 16, op := Op.call { callee := Callee.value (Operand.func 41), args := #[], argTypes := #[] }, type := 23, pos := "bpdu.go:271", after := #[], guard := none }) rfl (fun K hK => ?_) AllReadyH.nil
  go_simp
  refine (BGroup_any _).mono ?_
  rintro e w2 ⟨rfl, hb2⟩
  have hd1 : Below w1.heap.size w1 w1.drew := below_drewN (Below.refl _ _) 1
  have hg2 := hide (hd1.later hb2)
  clear hb2 hd1
  go_wp2_with fail
  refine hK.out _ _ ?_ (fun hHeld0 => ?_)
  · exact hg2.out
  clear hK K
  try simp only [Act.put, List.setIfInBounds_toArray, List.set_cons_zero, List.set_cons_succ]
  refine wpAnyH_take (i := 4) (oi := { dst := some 20, op := Op.build 25 #[(0, Operand.tmp 16), (1, Operand.tmp 17), (6, Operand.tmp 19), (7, Operand.const (Value.bool true))], type := 25, pos := "bpdu.go:271", after := #[{ on := 0, ground := Ground.data }, { on := 1, ground := Ground.data }, { on := 3, ground := Ground.data }], guard := none }) (v := ?v4) rfl (by kernel_rfl) (by kernel_rfl) (by kernel_rfl) (fun _ _ _ h => h) (Or.inl ⟨by rfl, ?y4⟩) (by assumption) ?r4
  case y4 => (intro w hSw; (try dsimp only at hSw); (try (go_split_ands)); go_simp; try with_reducible rfl)
  try simp only [Act.put, List.setIfInBounds_toArray, List.set_cons_zero, List.set_cons_succ]
  refine wpAnyH_ready (rs := [6]) (by kernel_rfl) (by simp) ?_
  refine AllReadyH.cons (o := { dst := some 22, op := Op.call { callee := Callee.value (Operand.func 9), args := #[Operand.tmp 20, Operand.tmp 21], argTypes := #[25, 26] }, type := 31, pos := "bpdu.go:271", after := #[{ on := 4, ground := Ground.data }, { on := 5, ground := Ground.data }, { on := 0, ground := Ground.chain }], guard := none }) rfl (fun K hK => ?_) AllReadyH.nil
  go_simp
  have hq := Build_ok (frameH s0 s1 s2 s3 s4 s5 n) w2 (frameH_bytes _ _ _ _ _ _ _ HS.out) (HT.out.later (hW1.out.later hg2.out)) (HB1.out.below hg2.out) (by rw [Hn.out, hch.out, if_neg HO.out])
  refine hq.mono ?_
  rintro e w3 ⟨g3, n3, rfl, hn3, _, hB3, hb3⟩
  have HB3 := hide hB3
  have Hn3 := hide hn3
  have hg3 := hide (hg2.out.later hb3)
  clear hq hB3 hb3 hg2 hn3
  go_wp2_with fail
  refine hK.out _ _ ?_ (fun hHeld6 => ?_)
  · exact hg3.out
  clear hK K
  try simp only [Act.put, List.setIfInBounds_toArray, List.set_cons_zero, List.set_cons_succ]
  refine wpAnyH_take (i := 7) (oi := { dst := some 23, op := Op.extract (Operand.tmp 22) 0, type := 26, pos := "bpdu.go:271", after := #[{ on := 6, ground := Ground.data }], guard := none }) (v := ?v5) rfl (by kernel_rfl) (by kernel_rfl) (by kernel_rfl) (fun _ _ _ h => h) (Or.inl ⟨by rfl, ?y5⟩) (by assumption) ?r5
  case y5 => (intro w hSw; (try dsimp only at hSw); (try (go_split_ands)); go_simp; try with_reducible rfl)
  try simp only [Act.put, List.setIfInBounds_toArray, List.set_cons_zero, List.set_cons_succ]
  refine wpAnyH_take (i := 8) (oi := { dst := some 24, op := Op.extract (Operand.tmp 22) 1, type := 29, pos := "bpdu.go:271", after := #[{ on := 6, ground := Ground.data }], guard := none }) (v := ?v6) rfl (by kernel_rfl) (by kernel_rfl) (by kernel_rfl) (fun _ _ _ h => h) (Or.inl ⟨by rfl, ?y6⟩) (by assumption) ?r6
  case y6 => (intro w hSw; (try dsimp only at hSw); (try (go_split_ands)); go_simp; try with_reducible rfl)
  try simp only [Act.put, List.setIfInBounds_toArray, List.set_cons_zero, List.set_cons_succ]
  refine wpAnyH_take (i := 9) (oi := { dst := some 4, op := Op.assign (Operand.tmp 23), type := 26, pos := "bpdu.go:271", after := #[{ on := 7, ground := Ground.data }, { on := 6, ground := Ground.chain }, { on := 0, ground := Ground.phase }, { on := 1, ground := Ground.phase }, { on := 2, ground := Ground.phase }, { on := 3, ground := Ground.phase }, { on := 4, ground := Ground.phase }, { on := 5, ground := Ground.phase }, { on := 6, ground := Ground.phase }, { on := 7, ground := Ground.phase }, { on := 8, ground := Ground.phase }], guard := none }) (v := ?v7) rfl (by kernel_rfl) (by kernel_rfl) (by kernel_rfl) (fun _ _ _ h => h) (Or.inl ⟨by rfl, ?y7⟩) (by assumption) ?r7
  case y7 => (intro w hSw; (try dsimp only at hSw); (try (go_split_ands)); go_simp; try with_reducible rfl)
  try simp only [Act.put, List.setIfInBounds_toArray, List.set_cons_zero, List.set_cons_succ]
  refine wpAnyH_take (i := 10) (oi := { dst := some 5, op := Op.assign (Operand.tmp 24), type := 29, pos := "bpdu.go:271", after := #[{ on := 8, ground := Ground.data }, { on := 9, ground := Ground.chain }, { on := 0, ground := Ground.phase }, { on := 1, ground := Ground.phase }, { on := 2, ground := Ground.phase }, { on := 3, ground := Ground.phase }, { on := 4, ground := Ground.phase }, { on := 5, ground := Ground.phase }, { on := 6, ground := Ground.phase }, { on := 7, ground := Ground.phase }, { on := 8, ground := Ground.phase }, { on := 9, ground := Ground.phase }], guard := none }) (v := ?v8) rfl (by kernel_rfl) (by kernel_rfl) (by kernel_rfl) (fun _ _ _ h => h) (Or.inl ⟨by rfl, ?y8⟩) (by assumption) ?r8
  case y8 => (intro w hSw; (try dsimp only at hSw); (try (go_split_ands)); go_simp; try with_reducible rfl)
  try simp only [Act.put, List.setIfInBounds_toArray, List.set_cons_zero, List.set_cons_succ]
  refine wpAnyH_done (by kernel_rfl) ?_ _
  refine NoPanic.normal ?_
  go_wp2
  go_ret2
  refine ⟨g3, n3, rfl, ?_, ?_, hW1.out.later hg3.out⟩
  · rw [Hn3.out, Hn.out]
  · have := HB3.out; rw [Hn.out] at this; exact this
set_option maxRecDepth 20000 in
set_option maxHeartbeats 1000000 in
theorem BFrame_group (b : Bp) (s0 s1 s2 s3 s4 s5 : Int) (w : World) (hT : Tab w) (hW : b.wf) (hE : bcheckE b = 0) (hs : Byte [s0, s1, s2, s3, s4, s5]) (ho : s0 % 2 = 1) :
    Calls Tryd.prog 40 #[.agg b.row, .agg (mac6 s0 s1 s2 s3 s4 s5)] w fun e w' => e = .returned (.tuple #[.slice none 0 0, .int .i64 4]) ∧ Below w.heap.size w w' := by
  have hB := hide (fun w => BBuild_ok b w hW hE)
  have hch := hide (frameH_check s0 s1 s2 s3 s4 s5 (bbuildL b).length (by have := bbuildL_le b; omega))
  have hk := heap_kept (below1 (w.alloc (.cells b.row 41)) (.cells (mac6 s0 s1 s2 s3 s4 s5) 23)) (heap_alloc_new w (.cells b.row 41))
  have hm := heap_alloc_new (w.alloc (.cells b.row 41)) (.cells (mac6 s0 s1 s2 s3 s4 s5) 23)
  rw [World.size_alloc] at hm
  have hb0 := (below1 w (.cells b.row 41)).later (below1 (w.alloc (.cells b.row 41)) (.cells (mac6 s0 s1 s2 s3 s4 s5) 23))
  have HT := hide hT
  have HS := hide hs
  have HO := hide ho
  clear hE hW hT hs ho
  generalize bbuildL b = D at *
  go_enter Tryd.func40, Tryd.ntmps40
  go_wp2_with (((with_reducible change wpList _ _ _ _ _ _); refine wpList_load_row rfl 41 (.tmp 2) rfl w.heap.size rfl 41 _ _ _ hk Tryd.underlying41 rfl (bpSize _) ?_))
  refine (hB.out _).mono ?_
  rintro e w1 ⟨va, n, vk, rfl, hB1, hb1⟩
  have hn := hB1.lenB
  have hm1 := heap_kept hb1 hm
  have HB1 := hide hB1
  have hW1 := hide (hb0.later hb1)
  have Hn := hide hn
  clear hb1 hb0 hk hB hm hB1 hn
  go_wp2_with fail
  refine wp_region_noPanic ?_
  refine wp_region_held_drew (S := fun W => Below w1.heap.size w1 W) (by kernel_rfl) (below_drewN (Below.refl _ _) 1) (fun hHeld => ?_)
  refine wpAnyH_take (i := 1) (oi := { dst := some 17, op := Op.load 23 (Operand.tmp 3), type := 23, pos := "bpdu.go:271", after := #[], guard := none }) (v := _) rfl (by kernel_rfl) (by kernel_rfl) (by kernel_rfl) (fun _ _ _ h => h) (yieldsIf_load rfl 23 (.tmp 3) rfl (.pointer (some ⟨w.heap.size + 1, 0, none⟩)) (.agg (mac6 s0 s1 s2 s3 s4 s5)) rfl (fun W h => mac_range (heap_kept h hm1))) (by assumption) ?_
  try simp only [Act.put, List.setIfInBounds_toArray, List.set_cons_zero, List.set_cons_succ]
  refine wpAnyH_take (i := 2) (oi := { dst := some 18, op := Op.move (Operand.tmp 6), type := 26, pos := "bpdu.go:271", after := #[], guard := none }) (v := ?v9) rfl (by kernel_rfl) (by kernel_rfl) (by kernel_rfl) (fun _ _ _ h => h) (Or.inl ⟨by rfl, ?y9⟩) (by assumption) ?r9
  case y9 => (intro w hSw; (try dsimp only at hSw); (try (go_split_ands)); go_simp; try with_reducible rfl)
  try simp only [Act.put, List.setIfInBounds_toArray, List.set_cons_zero, List.set_cons_succ]
  refine wpAnyH_take (i := 3) (oi := { dst := some 19, op := Op.call { callee := Callee.builtin Builtin.len, args := #[Operand.tmp 18], argTypes := #[26] }, type := 3, pos := "bpdu.go:271", after := #[{ on := 2, ground := Ground.data }], guard := none }) (v := ?v10) rfl (by kernel_rfl) (by kernel_rfl) (by kernel_rfl) (fun _ _ _ h => h) (Or.inl ⟨by rfl, ?y10⟩) (by assumption) ?r10
  case y10 => (intro w hSw; (try dsimp only at hSw); (try (go_split_ands)); go_simp; try with_reducible rfl)
  try simp only [Act.put, List.setIfInBounds_toArray, List.set_cons_zero, List.set_cons_succ]
  refine wpAnyH_take (i := 5) (oi := { dst := some 21, op := Op.move (Operand.tmp 6), type := 26, pos := "bpdu.go:271", after := #[], guard := none }) (v := ?v11) rfl (by kernel_rfl) (by kernel_rfl) (by kernel_rfl) (fun _ _ _ h => h) (Or.inl ⟨by rfl, ?y11⟩) (by assumption) ?r11
  case y11 => (intro w hSw; (try dsimp only at hSw); (try (go_split_ands)); go_simp; try with_reducible rfl)
  try simp only [Act.put, List.setIfInBounds_toArray, List.set_cons_zero, List.set_cons_succ]
  refine wpAnyH_ready (rs := [0]) (by kernel_rfl) (by simp) ?_
  refine AllReadyH.cons (o := { dst := some 16, op := Op.call { callee := Callee.value (Operand.func 41), args := #[], argTypes := #[] }, type := 23, pos := "bpdu.go:271", after := #[], guard := none }) rfl (fun K hK => ?_) AllReadyH.nil
  go_simp
  refine (BGroup_any _).mono ?_
  rintro e w2 ⟨rfl, hb2⟩
  have hd1 : Below w1.heap.size w1 w1.drew := below_drewN (Below.refl _ _) 1
  have hg2 := hide (hd1.later hb2)
  clear hb2 hd1
  go_wp2_with fail
  refine hK.out _ _ ?_ (fun hHeld0 => ?_)
  · exact hg2.out
  clear hK K
  try simp only [Act.put, List.setIfInBounds_toArray, List.set_cons_zero, List.set_cons_succ]
  refine wpAnyH_take (i := 4) (oi := { dst := some 20, op := Op.build 25 #[(0, Operand.tmp 16), (1, Operand.tmp 17), (6, Operand.tmp 19), (7, Operand.const (Value.bool true))], type := 25, pos := "bpdu.go:271", after := #[{ on := 0, ground := Ground.data }, { on := 1, ground := Ground.data }, { on := 3, ground := Ground.data }], guard := none }) (v := ?v12) rfl (by kernel_rfl) (by kernel_rfl) (by kernel_rfl) (fun _ _ _ h => h) (Or.inl ⟨by rfl, ?y12⟩) (by assumption) ?r12
  case y12 => (intro w hSw; (try dsimp only at hSw); (try (go_split_ands)); go_simp; try with_reducible rfl)
  try simp only [Act.put, List.setIfInBounds_toArray, List.set_cons_zero, List.set_cons_succ]
  refine wpAnyH_ready (rs := [6]) (by kernel_rfl) (by simp) ?_
  refine AllReadyH.cons (o := { dst := some 22, op := Op.call { callee := Callee.value (Operand.func 9), args := #[Operand.tmp 20, Operand.tmp 21], argTypes := #[25, 26] }, type := 31, pos := "bpdu.go:271", after := #[{ on := 4, ground := Ground.data }, { on := 5, ground := Ground.data }, { on := 0, ground := Ground.chain }], guard := none }) rfl (fun K hK => ?_) AllReadyH.nil
  go_simp
  have hq := Build_bad (frameH s0 s1 s2 s3 s4 s5 n) w2 (frameH_bytes _ _ _ _ _ _ _ HS.out) (HB1.out.below hg2.out) (by rw [Hn.out, hch.out, if_pos HO.out]; decide)
  rw [Hn.out, hch.out, if_pos HO.out] at hq
  rw [Hn.out]
  refine hq.mono ?_
  rintro e w3 ⟨rfl, hb3⟩
  have hg3 := hide (hg2.out.later hb3)
  clear hq hb3 hg2
  go_wp2_with fail
  refine hK.out _ _ ?_ (fun hHeld6 => ?_)
  · exact hg3.out
  clear hK K
  try simp only [Act.put, List.setIfInBounds_toArray, List.set_cons_zero, List.set_cons_succ]
  refine wpAnyH_take (i := 7) (oi := { dst := some 23, op := Op.extract (Operand.tmp 22) 0, type := 26, pos := "bpdu.go:271", after := #[{ on := 6, ground := Ground.data }], guard := none }) (v := ?v13) rfl (by kernel_rfl) (by kernel_rfl) (by kernel_rfl) (fun _ _ _ h => h) (Or.inl ⟨by rfl, ?y13⟩) (by assumption) ?r13
  case y13 => (intro w hSw; (try dsimp only at hSw); (try (go_split_ands)); go_simp; try with_reducible rfl)
  try simp only [Act.put, List.setIfInBounds_toArray, List.set_cons_zero, List.set_cons_succ]
  refine wpAnyH_take (i := 8) (oi := { dst := some 24, op := Op.extract (Operand.tmp 22) 1, type := 29, pos := "bpdu.go:271", after := #[{ on := 6, ground := Ground.data }], guard := none }) (v := ?v14) rfl (by kernel_rfl) (by kernel_rfl) (by kernel_rfl) (fun _ _ _ h => h) (Or.inl ⟨by rfl, ?y14⟩) (by assumption) ?r14
  case y14 => (intro w hSw; (try dsimp only at hSw); (try (go_split_ands)); go_simp; try with_reducible rfl)
  try simp only [Act.put, List.setIfInBounds_toArray, List.set_cons_zero, List.set_cons_succ]
  refine wpAnyH_take (i := 9) (oi := { dst := some 4, op := Op.assign (Operand.tmp 23), type := 26, pos := "bpdu.go:271", after := #[{ on := 7, ground := Ground.data }, { on := 6, ground := Ground.chain }, { on := 0, ground := Ground.phase }, { on := 1, ground := Ground.phase }, { on := 2, ground := Ground.phase }, { on := 3, ground := Ground.phase }, { on := 4, ground := Ground.phase }, { on := 5, ground := Ground.phase }, { on := 6, ground := Ground.phase }, { on := 7, ground := Ground.phase }, { on := 8, ground := Ground.phase }], guard := none }) (v := ?v15) rfl (by kernel_rfl) (by kernel_rfl) (by kernel_rfl) (fun _ _ _ h => h) (Or.inl ⟨by rfl, ?y15⟩) (by assumption) ?r15
  case y15 => (intro w hSw; (try dsimp only at hSw); (try (go_split_ands)); go_simp; try with_reducible rfl)
  try simp only [Act.put, List.setIfInBounds_toArray, List.set_cons_zero, List.set_cons_succ]
  refine wpAnyH_take (i := 10) (oi := { dst := some 5, op := Op.assign (Operand.tmp 24), type := 29, pos := "bpdu.go:271", after := #[{ on := 8, ground := Ground.data }, { on := 9, ground := Ground.chain }, { on := 0, ground := Ground.phase }, { on := 1, ground := Ground.phase }, { on := 2, ground := Ground.phase }, { on := 3, ground := Ground.phase }, { on := 4, ground := Ground.phase }, { on := 5, ground := Ground.phase }, { on := 6, ground := Ground.phase }, { on := 7, ground := Ground.phase }, { on := 8, ground := Ground.phase }, { on := 9, ground := Ground.phase }], guard := none }) (v := ?v16) rfl (by kernel_rfl) (by kernel_rfl) (by kernel_rfl) (fun _ _ _ h => h) (Or.inl ⟨by rfl, ?y16⟩) (by assumption) ?r16
  case y16 => (intro w hSw; (try dsimp only at hSw); (try (go_split_ands)); go_simp; try with_reducible rfl)
  try simp only [Act.put, List.setIfInBounds_toArray, List.set_cons_zero, List.set_cons_succ]
  refine wpAnyH_done (by kernel_rfl) ?_ _
  refine NoPanic.normal ?_
  go_wp2
  go_ret2
  exact ⟨rfl, hW1.out.later hg3.out⟩
end Go.Proofs.YtmakaadmjgakaaaDoor
