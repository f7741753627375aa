/-
  The document's own Parse of messages (bargateref04): a Config message. Conditions: those that each theorem names.
-/
import Derived.Test.YtmakaadmjgakaaaDoorR41
namespace Go.Proofs.YtmakaadmjgakaaaDoor
open Go.RowKit
set_option linter.unusedVariables false

theorem bitRow_atR (n : Int) (i : Nat) (h : i < 64) : (bitRow n 64)[i]? = some (.int .u64 (n / 2 ^ i % 2)) := by
  rw [List.getElem?_eq_getElem (by rw [bitRow_length]; exact h)]
  simp only [bitRow, List.getElem_map, List.getElem_range]
  rw [if_pos h]
theorem Tryd.size64R : (Tryd.prog.info? 83).map (·.size) = some 64 := by kernel_rfl
theorem bitRow_sizeR (n : Int) : (Tryd.prog.info? 83).map (·.size) = some (bitRow n 64).toArray.size := by rw [List.size_toArray, bitRow_length]; exact Tryd.size64R
theorem bitRow_allR (n : Int) : (bitRow n 64).toArray.all (·.oneCell') = true := by
  rw [Array.all_eq_true_iff_forall_mem]
  intro v hv
  simp only [bitRow, List.mem_toArray, List.mem_map] at hv
  obtain ⟨p, _, rfl⟩ := hv
  split <;> rfl
theorem zeros_sizeR (n : Int) : zeros64.size = (bitRow n 64).toArray.size := by simp [zeros64, bitRow_length]
set_option maxRecDepth 20000 in
theorem num_piece {l : List Int} (hb : Byte l) (lo k : Nat) (hk : k ≤ 8) : 0 ≤ num ((l.drop lo).take k) ∧ num ((l.drop lo).take k) < 256 ^ k := by
  have h1 := num_bound ((l.drop lo).take k) ((hb.drop lo).take k)
  refine ⟨h1.1, Int.lt_of_lt_of_le h1.2 ?_⟩
  exact_mod_cast Nat.pow_le_pow_right (by decide) (by simp; omega)
theorem num_seven (l : List Int) (h : 8 ≤ l.length) : num ((l.drop 7).take 1) = l.getD 7 0 := by
  have : (l.drop 7).take 1 = [l.getD 7 0] := by
    apply List.ext_getElem
    · simp; omega
    · intro i h1 h2
      have : i = 0 := by simpa using h2
      subst this
      simp [List.getD_eq_getElem?_getD, show 7 < l.length by omega]
  rw [this]
  simp [num]
/-- One cell of a row is written. -/
theorem run_storeVar_cell {P : Program} (w : World) (b o : Nat) (ty : TypeId) (v : Value) (h0 : (w.cell? ⟨b, o, none⟩).isSome = true) (hf : w.frozen? ⟨b, o, none⟩ = false) (hi : (P.info? ty).map (·.size) = some 1) (h1 : v.oneCell' = true) :
    (storeVar ty ⟨b, o, none⟩ v).run P w = .ok () (w.setCell ⟨b, o, none⟩ v) := by
  have := run_storeCells_cells (P := P) b o [v] 0 w (fun j hj => by obtain rfl : j = 0 := by simpa using hj
                                                                    simpa using h0) (fun j hj => by obtain rfl : j = 0 := by simpa using hj
                                                                                                    simpa using hf) (fun x hx => by simp at hx; subst hx; exact h1)
  have hc : v.cells = #[v] := by cases v <;> first | rfl | cases h1
  cases hq : P.info? ty with
  | none => simp [hq] at hi
  | some i =>
    have hs : i.size = 1 := by simpa [hq] using hi
    simp only [Nat.add_zero] at this
    simp [storeVar, sizeOf, typeInfo, hq, hc, hs, this, World.setCells]
theorem wpList_store_cell {P : Program} {ops : Array Oper} {rest : List Oper} {op : Oper} {a : Act} {w : World} {Q : Exit → Act → World → Prop} (hgd : op.guard = none) (ty : TypeId) (x y : Operand) (ho : op.op = .store ty x y)
    (g o : Nat) (v : Value) (hx : a.eval x = .pointer (some ⟨g, o, none⟩)) (hy : a.eval y = v) (h1 : v.oneCell' = true) (hi : (P.info? ty).map (·.size) = some 1) (cs : Array Value) (t : TypeId) (hg : w.heap[g]? = some (.cells cs t (0, 0))) (hlt : o < cs.size)
    (h : ∀ w3 : World, w3.heap[g]? = some (.cells (cs.setIfInBounds o v) t (0, 0)) → (∀ k, k ≠ g → w3.heap[k]? = w.heap[k]?) → (∀ B W, Below B W w → B ≤ g → Below B W w3) → wpList P ops Q rest (a.put op.dst undef) w3) : wpList P ops Q (op :: rest) a w :=
  wpList_plain hgd fun _ hK => by
    have hr := run_storeVar_cell (P := P) w g o ty v (by rw [cell_of_row _ _ _ _ _ _ hg, Array.getElem?_eq_getElem hlt]; rfl) (frozen_of_row w g o _ _ hg) hi h1
    unfold Oper.wp execOp
    simp only [ho, hx, hy, Instr.storeAt, Instr.sureAddr, Sem.run_bind, Sem.run_pure, Result.andThen_ok, hr]
    exact hK _ _ (h _ (heap_setCell_same _ _ _ _ _ _ hg) (fun k hk => heap_setCell_other _ _ _ _ hk) (fun B W hB hBg => hB.setCell (p := ⟨g, o, none⟩) hBg v))
theorem step_store_cell {P : Program} {ops : Array Oper} {op : Oper} {a : Act} {w : World} {K : Act → World → Prop} {Q : Exit → Act → World → Prop} {E : Prop} (hw : Region.wanted op (yielded ops a.tmps) = true) (ty : TypeId) (x y : Operand) (ho : op.op = .store ty x y)
    (g o : Nat) (v : Value) (hx : a.eval x = .pointer (some ⟨g, o, none⟩)) (hy : a.eval y = v) (h1 : v.oneCell' = true) (hi : (P.info? ty).map (·.size) = some 1) (cs : Array Value) (t : TypeId) (hg : w.heap[g]? = some (.cells cs t (0, 0))) (hlt : o < cs.size)
    (h : ∀ w3 : World, w3.heap[g]? = some (.cells (cs.setIfInBounds o v) t (0, 0)) → (∀ k, k ≠ g → w3.heap[k]? = w.heap[k]?) → (∀ B W, Below B W w → B ≤ g → Below B W w3) → K (a.put op.dst undef) w3) : if Region.wanted op (yielded ops a.tmps) = true then Oper.wp P op a w K Q else E := by
  rw [if_pos hw]
  have hr := run_storeVar_cell (P := P) w g o ty v (by rw [cell_of_row _ _ _ _ _ _ hg, Array.getElem?_eq_getElem hlt]; rfl) (frozen_of_row w g o _ _ hg) hi h1
  unfold Oper.wp execOp
  simp only [ho, hx, hy, Instr.storeAt, Instr.sureAddr, Sem.run_bind, Sem.run_pure, Result.andThen_ok, hr]
  exact h _ (heap_setCell_same _ _ _ _ _ _ hg) (fun k hk => heap_setCell_other _ _ _ _ hk) (fun B W hB hBg => hB.setCell (p := ⟨g, o, none⟩) hBg v)
theorem intSize : (Tryd.prog.info? 3).map (·.size) = some 1 := by kernel_rfl
theorem boolSize : (Tryd.prog.info? 4).map (·.size) = some 1 := by kernel_rfl
theorem vecSize : (Tryd.prog.info? 39).map (·.size) = some 4 := by kernel_rfl
theorem set4 {w : World} {g : Nat} {b : Bp} {t : TypeId} {v1 v2 v3 v4 : Value} (h : w.heap[g]? = some (.cells b.row t (0, 0))) : (w.setCells g 1 [v1, v2, v3, v4]).heap[g]? = some (.cells #[.int .i64 b.kind, v1, v2, v3, v4, .bool b.change, .bool b.ack, .bool b.proposal, .bool b.agreement, .bool b.learning, .bool b.forwarding, .int .i64 b.role, .int .i64 b.age, .int .i64 b.maxAge, .int .i64 b.hello, .int .i64 b.delay] t (0, 0)) := by
  simp only [World.setCells]
  rw [heap_setCell_same _ _ _ _ _ _ (heap_setCell_same _ _ _ _ _ _ (heap_setCell_same _ _ _ _ _ _ (heap_setCell_same _ _ _ _ _ _ h)))]
  rfl
theorem set4_other (w : World) (g k : Nat) (vs : List Value) {o : Nat} (h : k ≠ g) : (w.setCells g o vs).heap[k]? = w.heap[k]? := by
  induction vs generalizing w o with
  | nil => rfl
  | cons v r ih => rw [World.setCells, ih, heap_setCell_other _ _ _ _ h]
theorem below_set4 {B : Nat} {w w' : World} {g : Nat} {vs : List Value} (h : Below B w w') (hg : B ≤ g) (o : Nat) : Below B w (w'.setCells g o vs) := by
  induction vs generalizing w' o with
  | nil => exact h
  | cons v r ih => exact ih (h.setCell (p := ⟨g, o, none⟩) hg v) (o + 1)
set_option maxRecDepth 20000 in
set_option maxHeartbeats 4000000 in
theorem R4_config {w : World} {a : Option Addr} {n c : Nat} {l : List Int} (hv : Bs w (.slice a n c) l) (h : 38 ≤ l.length) (hm : l.length ≤ 200) (h5 : num (l.take 5) = 284575334400) (h6 : l.getD 6 0 = 0) (RB OB : Bp) (OE : Int) (hRB : RB = (Bp.ofKind 0).rooted (l.drop 7)) (hOB : OB = if RB.maxAge ≤ RB.age then Bp.zero else RB) (hOE : OE = if RB.maxAge ≤ RB.age then 4 else 0) :
    Calls Tryd.prog 14 #[.slice a n c] w fun e w' => e = .returned (.tuple #[.agg OB.row, .int .i64 OE]) ∧ Below w.heap.size w w' := by
  have hn := bs_len hv
  have hd : (38 : Int) ≤ (n : Int) := by omega
  have hA := heap_alloc_new w (.cells Bp.zero.row 41)
  have hW := hide (below1 w (.cells Bp.zero.row 41))
  have hv0 := hv.below hW.out
  obtain ⟨b, off, rfl, hc⟩ := bs_at hv0 (by omega)
  have hN := hide (RNum_lit hv0 0 5 0 5 rfl rfl (by omega) (by omega) (by omega) (by omega))
  rw [List.drop_zero, h5] at hN
  have c5 := hc 5 (by omega)
  have c6 := hc 6 (by omega)
  have c7 := hc 7 (by omega)
  rw [h6] at c6
  have b5 := hv.byte.getD 5
  obtain ⟨b71, b72⟩ := hv.byte.getD 7
  have bd : ∀ lo k, k ≤ 8 → 0 ≤ num ((l.drop lo).take k) ∧ num ((l.drop lo).take k) < 256 ^ k := num_piece hv.byte
  have hNn : Hid (∀ (W : World) (lo k : Nat) (LO K : Int), LO = lo → K = k → 0 < k → k ≤ 8 → lo + k ≤ 38 → Below w.heap.size w W → Calls Tryd.prog 47 #[.slice (some ⟨b, off, none⟩) n c, .int .i64 LO, .int .i64 K] W fun e w' => e = .returned (.int .u64 (num ((l.drop lo).take k))) ∧ w' = W) :=
    fun W lo k LO K h1 h2 h3 h4 h5 hW => RNum_lit (hv.below hW) lo k LO K h1 h2 h3 h4 (by omega) (by omega)
  have hR : RB = ⟨0, num ((l.drop 8).take 8), num ((l.drop 16).take 4), num ((l.drop 20).take 8), num ((l.drop 28).take 2), bitB (l.getD 7 0) 0, bitB (l.getD 7 0) 7, false, false, false, false, 0, num ((l.drop 30).take 2), num ((l.drop 32).take 2), num ((l.drop 34).take 2), num ((l.drop 36).take 2)⟩ := by
    rw [hRB]
    simp only [Bp.rooted, List.drop_drop, num_seven l (show 8 ≤ l.length by omega)]
  obtain ⟨m1, hm1⟩ : ∃ x, x = num ((l.drop 8).take 8) := ⟨_, rfl⟩
  obtain ⟨m2, hm2⟩ : ∃ x, x = num ((l.drop 16).take 4) := ⟨_, rfl⟩
  obtain ⟨m3, hm3⟩ : ∃ x, x = num ((l.drop 20).take 8) := ⟨_, rfl⟩
  obtain ⟨m4, hm4⟩ : ∃ x, x = num ((l.drop 28).take 2) := ⟨_, rfl⟩
  obtain ⟨m5, hm5⟩ : ∃ x, x = num ((l.drop 30).take 2) := ⟨_, rfl⟩
  obtain ⟨m6, hm6⟩ : ∃ x, x = num ((l.drop 32).take 2) := ⟨_, rfl⟩
  obtain ⟨m7, hm7⟩ : ∃ x, x = num ((l.drop 34).take 2) := ⟨_, rfl⟩
  obtain ⟨m8, hm8⟩ : ∃ x, x = num ((l.drop 36).take 2) := ⟨_, rfl⟩
  have e1 := hide (fun W => hNn.out W 8 8 8 8 rfl rfl (by decide) (by decide) (by decide))
  have e2 := hide (fun W => hNn.out W 16 4 16 4 rfl rfl (by decide) (by decide) (by decide))
  have e3 := hide (fun W => hNn.out W 20 8 20 8 rfl rfl (by decide) (by decide) (by decide))
  have e4 := hide (fun W => hNn.out W 28 2 28 2 rfl rfl (by decide) (by decide) (by decide))
  have e5 := hide (fun W => hNn.out W 30 2 30 2 rfl rfl (by decide) (by decide) (by decide))
  have e6 := hide (fun W => hNn.out W 32 2 32 2 rfl rfl (by decide) (by decide) (by decide))
  have e7 := hide (fun W => hNn.out W 34 2 34 2 rfl rfl (by decide) (by decide) (by decide))
  have e8 := hide (fun W => hNn.out W 36 2 36 2 rfl rfl (by decide) (by decide) (by decide))
  obtain ⟨a4, z4⟩ := bd 28 2 (by decide)
  obtain ⟨a5, z5⟩ := bd 30 2 (by decide)
  obtain ⟨a6, z6⟩ := bd 32 2 (by decide)
  obtain ⟨a7, z7⟩ := bd 34 2 (by decide)
  obtain ⟨a8, z8⟩ := bd 36 2 (by decide)
  simp only [show (256 : Int) ^ 2 = 65536 by rfl] at z4 z5 z6 z7 z8
  rw [← hm1] at e1
  rw [← hm2] at e2
  rw [← hm3] at e3
  rw [← hm4] at e4 a4 z4
  rw [← hm5] at e5 a5 z5
  rw [← hm6] at e6 a6 z6
  rw [← hm7] at e7 a7 z7
  rw [← hm8] at e8 a8 z8
  rw [← hm1, ← hm2, ← hm3, ← hm4, ← hm5, ← hm6, ← hm7, ← hm8] at hR
  clear hm1 hm2 hm3 hm4 hm5 hm6 hm7 hm8 bd hNn hRB
  generalize l.getD 5 0 = d5 at *
  obtain ⟨F, hFe⟩ : ∃ F, F = l.getD 7 0 := ⟨_, rfl⟩
  rw [← hFe] at c7 b71 b72 hR
  have HOB := hide hOB
  have HOE := hide hOE
  have HR0 := hide hR
  clear hv hv0 hc h5 h6 hFe hn hm h hOB hOE hR
  go_enter Tryd.func14, Tryd.ntmps14
  go_wp2_with fail
  refine hN.out.mono ?_
  rintro e w1 ⟨rfl, he⟩
  obtain rfl := he.symm
  clear he hN
  go_wp2_with fail
  refine (RBits_any F _ b71 (by omega)).mono ?_
  rintro e w2 ⟨rfl, hb2⟩
  have hA2 := heap_kept hb2 hA
  have hW2 := hide (hW.out.later hb2)
  clear hb2 hA hW c5 c6 c7
  go_wp2_with ((refine wpList_store_fresh rfl 83 _ _ rfl (bitRow F 64).toArray _ rfl rfl 83 (bitRow_sizeR F) (zeros_sizeR F) (bitRow_allR F) ?_); intro w3 hG hb3; refine unhide ?_)
  have f0 : w3.cell? ⟨w2.heap.size, 0, none⟩ = some (.int .u64 (F / 2 ^ 0 % 2)) := by rw [cell_of_row _ _ _ _ _ _ hG, List.getElem?_toArray, bitRow_atR F 0 (by decide)]
  have f7 : w3.cell? ⟨w2.heap.size, 7, none⟩ = some (.int .u64 (F / 2 ^ 7 % 2)) := by rw [cell_of_row _ _ _ _ _ _ hG, List.getElem?_toArray, bitRow_atR F 7 (by decide)]
  have hR := HR0.out
  clear HR0
  simp only [bitB] at hR
  have g0 : 0 ≤ F / 2 ^ 0 % 2 ∧ F / 2 ^ 0 % 2 ≤ 1 := by omega
  generalize F / 2 ^ 0 % 2 = x0 at *
  have g7 : 0 ≤ F / 2 ^ 7 % 2 ∧ F / 2 ^ 7 % 2 ≤ 1 := by omega
  generalize F / 2 ^ 7 % 2 = x7 at *
  have hA3 := heap_kept hb3 hA2
  have hW3 := hide (hW2.out.later hb3)
  have HR := hide hR
  clear hb3 hA2 hW2 hG b71 b72 hR
  refine hide ?_
  go_wp2_with ((with_reducible change wpList _ _ _ _ _ _); refine wpList_store_fresh rfl 41 _ _ rfl (Bp.mk 0 0 0 0 0 (x0 == 1) (x7 == 1) false false false false 0 0 0 0 0).row Bp.zero.row rfl rfl 41 (bpSize _) rfl (Bp.row_all _) ?_; intro w4 hG4 hb4; refine unhide ?_)
  have hlt : w.heap.size < w3.heap.size := (Array.getElem?_eq_some_iff.1 hA3).1
  have hA4 := heap_kept hb4 hA3
  have hW4 := hide (hW3.out.later hb4)
  clear hA3 hW3 hb4 f0 f7
  generalize w3.heap.size = gb at *
  refine hide ?_
  go_wp2_with fail
  refine (e1.out _ hW4.out).mono ?_
  rintro e w5 ⟨rfl, he⟩
  obtain rfl := he.symm
  clear he
  go_wp2_with fail
  refine (e2.out _ hW4.out).mono ?_
  rintro e w5 ⟨rfl, he⟩
  obtain rfl := he.symm
  clear he
  go_wp2_with fail
  refine (e3.out _ hW4.out).mono ?_
  rintro e w5 ⟨rfl, he⟩
  obtain rfl := he.symm
  clear he
  go_wp2_with fail
  refine (e4.out _ hW4.out).mono ?_
  rintro e w5 ⟨rfl, he⟩
  obtain rfl := he.symm
  clear he
  have hth : w4.there gb 1 4 := fun t ht => ⟨by rw [cell_of_row _ _ _ _ _ _ hG4]; match t, ht with
    | 0, _ => rfl
    | 1, _ => rfl
    | 2, _ => rfl
    | 3, _ => rfl, frozen_of_row w4 gb _ _ _ hG4⟩
  have hG5 : (w4.setCells gb 1 [.int .u64 m1, .int .u64 m2, .int .u64 m3, .int .i64 m4]).heap[gb]? = some (.cells (Bp.mk 0 m1 m2 m3 m4 (x0 == 1) (x7 == 1) (false) (false) (false) (false) (0) 0 0 0 0).row 41 (0, 0)) := by
    rw [set4 hG4]
  have hW5 := hide (below_set4 (vs := [.int .u64 m1, .int .u64 m2, .int .u64 m3, .int .i64 m4]) hW4.out (Nat.le_of_lt hlt) 1)
  have hA5 : (w4.setCells gb 1 [.int .u64 m1, .int .u64 m2, .int .u64 m3, .int .i64 m4]).heap[w.heap.size]? = some (.cells Bp.zero.row 41 (0, 0)) := by
    rw [set4_other _ _ _ _ (by omega)]; exact hA4
  go_wp2_with ((with_reducible change wpList _ _ _ _ _ _); refine wpList_store_mid rfl 39 _ _ rfl gb 1 #[.int .u64 m1, .int .u64 m2, .int .u64 m3, .int .i64 m4] rfl rfl hth vecSize (by simp [Value.oneCell']) ?_; refine unhide ?_)
  have hl5 : gb < (w4.setCells gb 1 [.int .u64 m1, .int .u64 m2, .int .u64 m3, .int .i64 m4]).heap.size := (Array.getElem?_eq_some_iff.1 hG5).1
  change Hid (wpList _ _ _ _ _ (w4.setCells gb 1 [.int .u64 m1, .int .u64 m2, .int .u64 m3, .int .i64 m4]))
  generalize w4.setCells gb 1 [.int .u64 m1, .int .u64 m2, .int .u64 m3, .int .i64 m4] = w5 at *
  clear hth hG4 hA4 hW4
  refine hide ?_
  go_wp2_with fail
  refine (e5.out _ hW5.out).mono ?_
  rintro e w6 ⟨rfl, he⟩
  obtain rfl := he.symm
  clear he
  go_wp2_with fail
  refine (e6.out _ hW5.out).mono ?_
  rintro e w6 ⟨rfl, he⟩
  obtain rfl := he.symm
  clear he
  go_wp2_with fail
  refine (e7.out _ hW5.out).mono ?_
  rintro e w6 ⟨rfl, he⟩
  obtain rfl := he.symm
  clear he
  go_wp2_with fail
  refine (e8.out _ hW5.out).mono ?_
  rintro e w6 ⟨rfl, he⟩
  obtain rfl := he.symm
  clear he
  go_wp2_with ((with_reducible change wpList _ _ _ _ _ _); refine wpList_store_cell rfl 3 (.tmp 115) (.tmp 105) rfl gb 12 (.int .i64 m5) rfl rfl rfl intSize _ _ hG5 (show 12 < 16 by decide) ?_; intro w5a hX5a hO5a hV5a; refine unhide ?_)
  have hG5a : w5a.heap[gb]? = some (.cells (Bp.mk 0 m1 m2 m3 m4 (x0 == 1) (x7 == 1) (false) (false) (false) (false) (0) m5 0 0 0).row 41 (0, 0)) := hX5a
  have hA5a : w5a.heap[w.heap.size]? = some (.cells Bp.zero.row 41 (0, 0)) := (hO5a _ (Nat.ne_of_lt hlt)).trans hA5
  have hW5a := hide (hV5a _ _ hW5.out (Nat.le_of_lt hlt))
  clear hX5a hO5a hV5a hG5 hA5 hW5
  refine hide ?_
  go_wp2_with ((with_reducible change wpList _ _ _ _ _ _); refine wpList_store_cell rfl 3 (.tmp 116) (.tmp 108) rfl gb 13 (.int .i64 m6) rfl rfl rfl intSize _ _ hG5a (show 13 < 16 by decide) ?_; intro w5b hX5b hO5b hV5b; refine unhide ?_)
  have hG5b : w5b.heap[gb]? = some (.cells (Bp.mk 0 m1 m2 m3 m4 (x0 == 1) (x7 == 1) (false) (false) (false) (false) (0) m5 m6 0 0).row 41 (0, 0)) := hX5b
  have hA5b : w5b.heap[w.heap.size]? = some (.cells Bp.zero.row 41 (0, 0)) := (hO5b _ (Nat.ne_of_lt hlt)).trans hA5a
  have hW5b := hide (hV5b _ _ hW5a.out (Nat.le_of_lt hlt))
  clear hX5b hO5b hV5b hG5a hA5a hW5a
  refine hide ?_
  go_wp2_with ((with_reducible change wpList _ _ _ _ _ _); refine wpList_store_cell rfl 3 (.tmp 117) (.tmp 111) rfl gb 14 (.int .i64 m7) rfl rfl rfl intSize _ _ hG5b (show 14 < 16 by decide) ?_; intro w5c hX5c hO5c hV5c; refine unhide ?_)
  have hG5c : w5c.heap[gb]? = some (.cells (Bp.mk 0 m1 m2 m3 m4 (x0 == 1) (x7 == 1) (false) (false) (false) (false) (0) m5 m6 m7 0).row 41 (0, 0)) := hX5c
  have hA5c : w5c.heap[w.heap.size]? = some (.cells Bp.zero.row 41 (0, 0)) := (hO5c _ (Nat.ne_of_lt hlt)).trans hA5b
  have hW5c := hide (hV5c _ _ hW5b.out (Nat.le_of_lt hlt))
  clear hX5c hO5c hV5c hG5b hA5b hW5b
  refine hide ?_
  go_wp2_with ((with_reducible change wpList _ _ _ _ _ _); refine wpList_store_cell rfl 3 (.tmp 118) (.tmp 114) rfl gb 15 (.int .i64 m8) rfl rfl rfl intSize _ _ hG5c (show 15 < 16 by decide) ?_; intro w5d hX5d hO5d hV5d; refine unhide ?_)
  have hG5d : w5d.heap[gb]? = some (.cells (Bp.mk 0 m1 m2 m3 m4 (x0 == 1) (x7 == 1) (false) (false) (false) (false) (0) m5 m6 m7 m8).row 41 (0, 0)) := hX5d
  have hA5d : w5d.heap[w.heap.size]? = some (.cells Bp.zero.row 41 (0, 0)) := (hO5d _ (Nat.ne_of_lt hlt)).trans hA5c
  have hW5d := hide (hV5d _ _ hW5c.out (Nat.le_of_lt hlt))
  clear hX5d hO5d hV5d hG5c hA5c hW5c
  refine hide ?_
  have q12 : w5d.cell? ⟨gb, 12, none⟩ = some (.int .i64 m5) := (cell_of_row _ _ _ _ _ _ hG5d).trans rfl
  have q13 : w5d.cell? ⟨gb, 13, none⟩ = some (.int .i64 m6) := (cell_of_row _ _ _ _ _ _ hG5d).trans rfl
  have hOB := HOB.out
  have hOE := HOE.out
  rw [show RB.maxAge = m6 by rw [HR.out], show RB.age = m5 by rw [HR.out]] at hOB hOE
  have hG6 : w5d.heap[gb]? = some (.cells RB.row 41 (0, 0)) := by rw [HR.out]; exact hG5d
  clear hG5d HR HOB HOE
  by_cases hle : m6 ≤ m5
  · rw [if_pos hle] at hOB hOE
    have HOB := hide hOB
    have HOE := hide hOE
    clear hOB hOE hG6
    go_wp2_with ((with_reducible change wpList _ _ _ _ _ _); refine wpList_store_row rfl 41 (.tmp 2) (.tmp 124) rfl w.heap.size Bp.zero.row rfl rfl 41 _ hA5d (bpSize _) rfl (Bp.row_all _) ?_)
    exact bodyPost_ret (results_cell_row2 rfl _ _ w.heap.size 41 _ _ _ rfl (setRow_heap _ _ _ _ _ _ hA5d) Tryd.underlying41 rfl (bpSize Bp.zero)) rfl ⟨ret2i (by rw [HOB.out]) HOE.out.symm, below_setRow hW5d.out (Nat.le_refl _) _⟩
  · rw [if_neg hle] at hOB hOE
    have HOB := hide hOB
    have HOE := hide hOE
    clear hOB hOE
    go_wp2_with ((with_reducible change wpList _ _ _ _ _ _); refine stop_load 41 (.tmp 6) rfl ?_)
    refine hide ?_
    refine wpList_load_row rfl 41 (.tmp 6) rfl gb rfl 41 _ _ _ hG6 Tryd.underlying41 rfl (bpSize _) ?_
    refine wpList_store_row rfl 41 (.tmp 2) (.tmp 125) rfl w.heap.size RB.row rfl rfl 41 _ hA5d (bpSize _) rfl (Bp.row_all _) ?_
    go_wp2_with fail
    exact bodyPost_ret (results_cell_row2 rfl _ _ w.heap.size 41 _ _ _ rfl (setRow_heap _ _ _ _ _ _ hA5d) Tryd.underlying41 rfl (bpSize RB)) rfl ⟨ret2i (by rw [HOB.out]) HOE.out.symm, below_setRow hW5d.out (Nat.le_refl _) _⟩
end Go.Proofs.YtmakaadmjgakaaaDoor
