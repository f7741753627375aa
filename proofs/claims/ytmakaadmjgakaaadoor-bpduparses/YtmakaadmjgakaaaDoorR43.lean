/-
  The document's own Parse of messages (bargateref04): a Rapid message. Conditions: those that each theorem names.
-/
import Derived.Test.YtmakaadmjgakaaaDoorR42
namespace Go.Proofs.YtmakaadmjgakaaaDoor
open Go.RowKit
set_option linter.unusedVariables false

set_option maxRecDepth 20000 in
set_option maxHeartbeats 4000000 in
theorem R4_rapid {w : World} {a : Option Addr} {n c : Nat} {l : List Int} (hv : Bs w (.slice a n c) l) (h : 39 ≤ l.length) (hm : l.length ≤ 200) (h5 : num (l.take 5) = 284575334400) (h6 : l.getD 6 0 = 2) (h52 : 2 ≤ l.getD 5 0) (RB OB : Bp) (OE : Int) (hRB : RB = ((Bp.ofKind 1).ported (l.getD 7 0)).rooted (l.drop 7)) (hOB : OB = if RB.maxAge ≤ RB.age then Bp.zero else RB) (hOE : OE = if RB.maxAge ≤ RB.age then 4 else 0) :
    Calls Tryd.prog 14 #[.slice a n c] w fun e w' => e = .returned (.tuple #[.agg OB.row, .int .i64 OE]) ∧ Below w.heap.size w w' := by
  have hn := bs_len hv
  have hd : (39 : Int) ≤ (n : Int) := by omega
  have hA := heap_alloc_new w (.cells Bp.zero.row 41)
  have hW := hide (below1 w (.cells Bp.zero.row 41))
  have hv0 := hv.below hW.out
  obtain ⟨b, off, rfl, hc⟩ := bs_at hv0 (by omega)
  have hN := hide (RNum_lit hv0 0 5 0 5 rfl rfl (by omega) (by omega) (by omega) (by omega))
  rw [List.drop_zero, h5] at hN
  have c5 := hc 5 (by omega)
  have c6 := hc 6 (by omega)
  have c7 := hc 7 (by omega)
  rw [h6] at c6
  have b5 := hv.byte.getD 5
  obtain ⟨b71, b72⟩ := hv.byte.getD 7
  have bd : ∀ lo k, k ≤ 8 → 0 ≤ num ((l.drop lo).take k) ∧ num ((l.drop lo).take k) < 256 ^ k := num_piece hv.byte
  have hNn : Hid (∀ (W : World) (lo k : Nat) (LO K : Int), LO = lo → K = k → 0 < k → k ≤ 8 → lo + k ≤ 38 → Below w.heap.size w W → Calls Tryd.prog 47 #[.slice (some ⟨b, off, none⟩) n c, .int .i64 LO, .int .i64 K] W fun e w' => e = .returned (.int .u64 (num ((l.drop lo).take k))) ∧ w' = W) :=
    fun W lo k LO K h1 h2 h3 h4 h5 hW => RNum_lit (hv.below hW) lo k LO K h1 h2 h3 h4 (by omega) (by omega)
  have hR : RB = ⟨1, num ((l.drop 8).take 8), num ((l.drop 16).take 4), num ((l.drop 20).take 8), num ((l.drop 28).take 2), bitB (l.getD 7 0) 0, bitB (l.getD 7 0) 7, bitB (l.getD 7 0) 1, bitB (l.getD 7 0) 6, bitB (l.getD 7 0) 4, bitB (l.getD 7 0) 5, l.getD 7 0 / 4 % 4, num ((l.drop 30).take 2), num ((l.drop 32).take 2), num ((l.drop 34).take 2), num ((l.drop 36).take 2)⟩ := by
    rw [hRB]
    simp only [Bp.rooted, List.drop_drop, num_seven l (show 8 ≤ l.length by omega)]
  obtain ⟨m1, hm1⟩ : ∃ x, x = num ((l.drop 8).take 8) := ⟨_, rfl⟩
  obtain ⟨m2, hm2⟩ : ∃ x, x = num ((l.drop 16).take 4) := ⟨_, rfl⟩
  obtain ⟨m3, hm3⟩ : ∃ x, x = num ((l.drop 20).take 8) := ⟨_, rfl⟩
  obtain ⟨m4, hm4⟩ : ∃ x, x = num ((l.drop 28).take 2) := ⟨_, rfl⟩
  obtain ⟨m5, hm5⟩ : ∃ x, x = num ((l.drop 30).take 2) := ⟨_, rfl⟩
  obtain ⟨m6, hm6⟩ : ∃ x, x = num ((l.drop 32).take 2) := ⟨_, rfl⟩
  obtain ⟨m7, hm7⟩ : ∃ x, x = num ((l.drop 34).take 2) := ⟨_, rfl⟩
  obtain ⟨m8, hm8⟩ : ∃ x, x = num ((l.drop 36).take 2) := ⟨_, rfl⟩
  have e1 := hide (fun W => hNn.out W 8 8 8 8 rfl rfl (by decide) (by decide) (by decide))
  have e2 := hide (fun W => hNn.out W 16 4 16 4 rfl rfl (by decide) (by decide) (by decide))
  have e3 := hide (fun W => hNn.out W 20 8 20 8 rfl rfl (by decide) (by decide) (by decide))
  have e4 := hide (fun W => hNn.out W 28 2 28 2 rfl rfl (by decide) (by decide) (by decide))
  have e5 := hide (fun W => hNn.out W 30 2 30 2 rfl rfl (by decide) (by decide) (by decide))
  have e6 := hide (fun W => hNn.out W 32 2 32 2 rfl rfl (by decide) (by decide) (by decide))
  have e7 := hide (fun W => hNn.out W 34 2 34 2 rfl rfl (by decide) (by decide) (by decide))
  have e8 := hide (fun W => hNn.out W 36 2 36 2 rfl rfl (by decide) (by decide) (by decide))
  obtain ⟨a4, z4⟩ := bd 28 2 (by decide)
  obtain ⟨a5, z5⟩ := bd 30 2 (by decide)
  obtain ⟨a6, z6⟩ := bd 32 2 (by decide)
  obtain ⟨a7, z7⟩ := bd 34 2 (by decide)
  obtain ⟨a8, z8⟩ := bd 36 2 (by decide)
  simp only [show (256 : Int) ^ 2 = 65536 by rfl] at z4 z5 z6 z7 z8
  rw [← hm1] at e1
  rw [← hm2] at e2
  rw [← hm3] at e3
  rw [← hm4] at e4 a4 z4
  rw [← hm5] at e5 a5 z5
  rw [← hm6] at e6 a6 z6
  rw [← hm7] at e7 a7 z7
  rw [← hm8] at e8 a8 z8
  rw [← hm1, ← hm2, ← hm3, ← hm4, ← hm5, ← hm6, ← hm7, ← hm8] at hR
  clear hm1 hm2 hm3 hm4 hm5 hm6 hm7 hm8 bd hNn hRB
  generalize l.getD 5 0 = d5 at *
  obtain ⟨F, hFe⟩ : ∃ F, F = l.getD 7 0 := ⟨_, rfl⟩
  rw [← hFe] at c7 b71 b72 hR
  have HOB := hide hOB
  have HOE := hide hOE
  have HR0 := hide hR
  clear hv hv0 hc h5 h6 hFe hn hm h hOB hOE hR
  go_enter Tryd.func14, Tryd.ntmps14
  go_wp2_with fail
  refine hN.out.mono ?_
  rintro e w1 ⟨rfl, he⟩
  obtain rfl := he.symm
  clear he hN
  go_wp2_with fail
  refine (RBits_any F _ b71 (by omega)).mono ?_
  rintro e w2 ⟨rfl, hb2⟩
  have hA2 := heap_kept hb2 hA
  have hW2 := hide (hW.out.later hb2)
  clear hb2 hA hW c5 c6 c7
  go_wp2_with ((refine wpList_store_fresh rfl 83 _ _ rfl (bitRow F 64).toArray _ rfl rfl 83 (bitRow_sizeR F) (zeros_sizeR F) (bitRow_allR F) ?_); intro w3 hG hb3; refine unhide ?_)
  have f0 : w3.cell? ⟨w2.heap.size, 0, none⟩ = some (.int .u64 (F / 2 ^ 0 % 2)) := by rw [cell_of_row _ _ _ _ _ _ hG, List.getElem?_toArray, bitRow_atR F 0 (by decide)]
  have f1 : w3.cell? ⟨w2.heap.size, 1, none⟩ = some (.int .u64 (F / 2 ^ 1 % 2)) := by rw [cell_of_row _ _ _ _ _ _ hG, List.getElem?_toArray, bitRow_atR F 1 (by decide)]
  have f2 : w3.cell? ⟨w2.heap.size, 2, none⟩ = some (.int .u64 (F / 2 ^ 2 % 2)) := by rw [cell_of_row _ _ _ _ _ _ hG, List.getElem?_toArray, bitRow_atR F 2 (by decide)]
  have f3 : w3.cell? ⟨w2.heap.size, 3, none⟩ = some (.int .u64 (F / 2 ^ 3 % 2)) := by rw [cell_of_row _ _ _ _ _ _ hG, List.getElem?_toArray, bitRow_atR F 3 (by decide)]
  have f4 : w3.cell? ⟨w2.heap.size, 4, none⟩ = some (.int .u64 (F / 2 ^ 4 % 2)) := by rw [cell_of_row _ _ _ _ _ _ hG, List.getElem?_toArray, bitRow_atR F 4 (by decide)]
  have f5 : w3.cell? ⟨w2.heap.size, 5, none⟩ = some (.int .u64 (F / 2 ^ 5 % 2)) := by rw [cell_of_row _ _ _ _ _ _ hG, List.getElem?_toArray, bitRow_atR F 5 (by decide)]
  have f6 : w3.cell? ⟨w2.heap.size, 6, none⟩ = some (.int .u64 (F / 2 ^ 6 % 2)) := by rw [cell_of_row _ _ _ _ _ _ hG, List.getElem?_toArray, bitRow_atR F 6 (by decide)]
  have f7 : w3.cell? ⟨w2.heap.size, 7, none⟩ = some (.int .u64 (F / 2 ^ 7 % 2)) := by rw [cell_of_row _ _ _ _ _ _ hG, List.getElem?_toArray, bitRow_atR F 7 (by decide)]
  have hR := HR0.out
  clear HR0
  simp only [bitB] at hR
  have hrole : F / 4 % 4 = F / 2 ^ 2 % 2 + 2 * (F / 2 ^ 3 % 2) := by omega
  rw [hrole] at hR
  clear hrole
  have g0 : 0 ≤ F / 2 ^ 0 % 2 ∧ F / 2 ^ 0 % 2 ≤ 1 := by omega
  generalize F / 2 ^ 0 % 2 = x0 at *
  have g1 : 0 ≤ F / 2 ^ 1 % 2 ∧ F / 2 ^ 1 % 2 ≤ 1 := by omega
  generalize F / 2 ^ 1 % 2 = x1 at *
  have g2 : 0 ≤ F / 2 ^ 2 % 2 ∧ F / 2 ^ 2 % 2 ≤ 1 := by omega
  generalize F / 2 ^ 2 % 2 = x2 at *
  have g3 : 0 ≤ F / 2 ^ 3 % 2 ∧ F / 2 ^ 3 % 2 ≤ 1 := by omega
  generalize F / 2 ^ 3 % 2 = x3 at *
  have g4 : 0 ≤ F / 2 ^ 4 % 2 ∧ F / 2 ^ 4 % 2 ≤ 1 := by omega
  generalize F / 2 ^ 4 % 2 = x4 at *
  have g5 : 0 ≤ F / 2 ^ 5 % 2 ∧ F / 2 ^ 5 % 2 ≤ 1 := by omega
  generalize F / 2 ^ 5 % 2 = x5 at *
  have g6 : 0 ≤ F / 2 ^ 6 % 2 ∧ F / 2 ^ 6 % 2 ≤ 1 := by omega
  generalize F / 2 ^ 6 % 2 = x6 at *
  have g7 : 0 ≤ F / 2 ^ 7 % 2 ∧ F / 2 ^ 7 % 2 ≤ 1 := by omega
  generalize F / 2 ^ 7 % 2 = x7 at *
  have hA3 := heap_kept hb3 hA2
  have hW3 := hide (hW2.out.later hb3)
  have HR := hide hR
  clear hb3 hA2 hW2 hG b71 b72 hR
  refine hide ?_
  go_wp2_with ((with_reducible change wpList _ _ _ _ _ _); refine wpList_store_fresh rfl 41 _ _ rfl (Bp.mk 0 0 0 0 0 (x0 == 1) (x7 == 1) false false false false 0 0 0 0 0).row Bp.zero.row rfl rfl 41 (bpSize _) rfl (Bp.row_all _) ?_; intro w4 hG4 hb4; refine unhide ?_)
  have hlt : w.heap.size < w3.heap.size := (Array.getElem?_eq_some_iff.1 hA3).1
  have hA4 := heap_kept hb4 hA3
  have hW4 := hide (hW3.out.later hb4)
  have f1' : w4.cell? ⟨w2.heap.size, 1, none⟩ = some (.int .u64 x1) := by rw [hb4.cell (p := ⟨w2.heap.size, 1, none⟩) (block_lt_of_cell f1)]; exact f1
  have f2' : w4.cell? ⟨w2.heap.size, 2, none⟩ = some (.int .u64 x2) := by rw [hb4.cell (p := ⟨w2.heap.size, 2, none⟩) (block_lt_of_cell f2)]; exact f2
  have f3' : w4.cell? ⟨w2.heap.size, 3, none⟩ = some (.int .u64 x3) := by rw [hb4.cell (p := ⟨w2.heap.size, 3, none⟩) (block_lt_of_cell f3)]; exact f3
  have f4' : w4.cell? ⟨w2.heap.size, 4, none⟩ = some (.int .u64 x4) := by rw [hb4.cell (p := ⟨w2.heap.size, 4, none⟩) (block_lt_of_cell f4)]; exact f4
  have f5' : w4.cell? ⟨w2.heap.size, 5, none⟩ = some (.int .u64 x5) := by rw [hb4.cell (p := ⟨w2.heap.size, 5, none⟩) (block_lt_of_cell f5)]; exact f5
  have f6' : w4.cell? ⟨w2.heap.size, 6, none⟩ = some (.int .u64 x6) := by rw [hb4.cell (p := ⟨w2.heap.size, 6, none⟩) (block_lt_of_cell f6)]; exact f6
  have hl2 : w2.heap.size ≠ w3.heap.size := Nat.ne_of_lt (block_lt_of_cell f1)
  clear f0 f1 f2 f3 f4 f5 f6 f7
  clear hA3 hW3 hb4
  generalize w3.heap.size = gb at *
  generalize w2.heap.size = gf at *
  refine hide ?_
  go_wp2_with ((with_reducible change wpList _ _ _ _ _ _); refine wpList_store_cell rfl 3 (.tmp 67) (.const (.int .i64 1)) rfl gb 0 (.int .i64 1) rfl rfl rfl intSize _ _ hG4 (show 0 < 16 by decide) ?_; intro w4a hX hO hV; refine unhide ?_)
  have hG4a : w4a.heap[gb]? = some (.cells (Bp.mk 1 0 0 0 0 (x0 == 1) (x7 == 1) false false false false 0 0 0 0 0).row 41 (0, 0)) := hX
  have hA4a : w4a.heap[w.heap.size]? = some (.cells Bp.zero.row 41 (0, 0)) := (hO _ (Nat.ne_of_lt hlt)).trans hA4
  have hW4a := hide (hV _ _ hW4.out (Nat.le_of_lt hlt))
  have k1 : w4a.cell? ⟨gf, 1, none⟩ = some (.int .u64 x1) := (World.cell?_of_block (w := w4) (a := ⟨gf, 1, none⟩) (hO _ hl2)).trans f1'
  have k2 : w4a.cell? ⟨gf, 2, none⟩ = some (.int .u64 x2) := (World.cell?_of_block (w := w4) (a := ⟨gf, 2, none⟩) (hO _ hl2)).trans f2'
  have k3 : w4a.cell? ⟨gf, 3, none⟩ = some (.int .u64 x3) := (World.cell?_of_block (w := w4) (a := ⟨gf, 3, none⟩) (hO _ hl2)).trans f3'
  have k4 : w4a.cell? ⟨gf, 4, none⟩ = some (.int .u64 x4) := (World.cell?_of_block (w := w4) (a := ⟨gf, 4, none⟩) (hO _ hl2)).trans f4'
  have k5 : w4a.cell? ⟨gf, 5, none⟩ = some (.int .u64 x5) := (World.cell?_of_block (w := w4) (a := ⟨gf, 5, none⟩) (hO _ hl2)).trans f5'
  have k6 : w4a.cell? ⟨gf, 6, none⟩ = some (.int .u64 x6) := (World.cell?_of_block (w := w4) (a := ⟨gf, 6, none⟩) (hO _ hl2)).trans f6'
  clear hX hO hV hG4 hA4 hW4 f1' f2' f3' f4' f5' f6'
  refine hide ?_
  go_wp2_with fail
  refine wp_region_noPanic ?_
  refine wp_region_held_drew (S := fun W => W.cell? ⟨gf, 1, none⟩ = some (.int .u64 x1) ∧ W.cell? ⟨gf, 2, none⟩ = some (.int .u64 x2) ∧ W.cell? ⟨gf, 3, none⟩ = some (.int .u64 x3) ∧ W.cell? ⟨gf, 4, none⟩ = some (.int .u64 x4) ∧ W.cell? ⟨gf, 5, none⟩ = some (.int .u64 x5) ∧ W.cell? ⟨gf, 6, none⟩ = some (.int .u64 x6)) (by kernel_rfl) ⟨k1, k2, k3, k4, k5, k6⟩ (fun hHeld => ?_)
  have hG4b : w4a.drew.heap[gb]? = some (.cells (Bp.mk 1 0 0 0 0 (x0 == 1) (x7 == 1) false false false false 0 0 0 0 0).row 41 (0, 0)) := hG4a
  have hA4b : w4a.drew.heap[w.heap.size]? = some (.cells Bp.zero.row 41 (0, 0)) := hA4a
  have hW4b : Hid (Below w.heap.size w w4a.drew) := below_drewN hW4a.out 1
  clear hG4a hA4a hW4a k1 k2 k3 k4 k5 k6
  generalize w4a.drew = w4b at *
  refine wpAnyH_take (i := 0) (oi := { dst := some 68, op := Op.indexAddr 83 (Operand.tmp 5) (Operand.const (Value.int IntKind.i64 1)), type := 0, pos := "ref.go:41", after := #[], guard := none }) (v := ?v1) rfl (by kernel_rfl) (by kernel_rfl) (by kernel_rfl) (fun _ _ _ h => h) (Or.inl ⟨by rfl, ?y1⟩) (by assumption) ?r1
  case y1 => (intro w hSw; (try dsimp only at hSw); (try (go_split_ands)); go_simp; try with_reducible rfl)
  try simp only [Act.put, List.setIfInBounds_toArray, List.set_cons_zero, List.set_cons_succ]
  refine wpAnyH_take (i := 1) (oi := { dst := some 69, op := Op.load 37 (Operand.tmp 68), type := 37, pos := "ref.go:41", after := #[{ on := 0, ground := Ground.data }], guard := none }) (v := ?v2) rfl (by kernel_rfl) (by kernel_rfl) (by kernel_rfl) (fun _ _ _ h => h) (Or.inl ⟨by rfl, ?y2⟩) (by assumption) ?r2
  case y2 => (intro w hSw; (try dsimp only at hSw); (try (go_split_ands)); go_simp; try with_reducible rfl)
  try simp only [Act.put, List.setIfInBounds_toArray, List.set_cons_zero, List.set_cons_succ]
  refine wpAnyH_take (i := 2) (oi := { dst := some 70, op := Op.binOp BinOp.eql 37 (Operand.tmp 69) (Operand.const (Value.int IntKind.u64 1)) 37, type := 4, pos := "ref.go:41", after := #[{ on := 1, ground := Ground.data }], guard := none }) (v := ?v3) rfl (by kernel_rfl) (by kernel_rfl) (by kernel_rfl) (fun _ _ _ h => h) (Or.inl ⟨by rfl, ?y3⟩) (by assumption) ?r3
  case y3 => (intro w hSw; (try dsimp only at hSw); (try (go_split_ands)); go_simp; try with_reducible rfl)
  try simp only [Act.put, List.setIfInBounds_toArray, List.set_cons_zero, List.set_cons_succ]
  refine wpAnyH_take (i := 3) (oi := { dst := some 71, op := Op.indexAddr 83 (Operand.tmp 5) (Operand.const (Value.int IntKind.i64 4)), type := 0, pos := "ref.go:41", after := #[{ on := 13, ground := Ground.gcOnly Departure.lateStores }], guard := none }) (v := ?v4) rfl (by kernel_rfl) (by kernel_rfl) (by kernel_rfl) (fun _ _ _ h => h) (Or.inl ⟨by rfl, ?y4⟩) (by assumption) ?r4
  case y4 => (intro w hSw; (try dsimp only at hSw); (try (go_split_ands)); go_simp; try with_reducible rfl)
  try simp only [Act.put, List.setIfInBounds_toArray, List.set_cons_zero, List.set_cons_succ]
  refine wpAnyH_take (i := 4) (oi := { dst := some 72, op := Op.load 37 (Operand.tmp 71), type := 37, pos := "ref.go:41", after := #[{ on := 3, ground := Ground.data }, { on := 13, ground := Ground.gcOnly Departure.lateStores }], guard := none }) (v := ?v5) rfl (by kernel_rfl) (by kernel_rfl) (by kernel_rfl) (fun _ _ _ h => h) (Or.inl ⟨by rfl, ?y5⟩) (by assumption) ?r5
  case y5 => (intro w hSw; (try dsimp only at hSw); (try (go_split_ands)); go_simp; try with_reducible rfl)
  try simp only [Act.put, List.setIfInBounds_toArray, List.set_cons_zero, List.set_cons_succ]
  refine wpAnyH_take (i := 5) (oi := { dst := some 73, op := Op.binOp BinOp.eql 37 (Operand.tmp 72) (Operand.const (Value.int IntKind.u64 1)) 37, type := 4, pos := "ref.go:41", after := #[{ on := 4, ground := Ground.data }, { on := 13, ground := Ground.gcOnly Departure.lateStores }], guard := none }) (v := ?v6) rfl (by kernel_rfl) (by kernel_rfl) (by kernel_rfl) (fun _ _ _ h => h) (Or.inl ⟨by rfl, ?y6⟩) (by assumption) ?r6
  case y6 => (intro w hSw; (try dsimp only at hSw); (try (go_split_ands)); go_simp; try with_reducible rfl)
  try simp only [Act.put, List.setIfInBounds_toArray, List.set_cons_zero, List.set_cons_succ]
  refine wpAnyH_take (i := 6) (oi := { dst := some 74, op := Op.indexAddr 83 (Operand.tmp 5) (Operand.const (Value.int IntKind.i64 5)), type := 0, pos := "ref.go:41", after := #[{ on := 15, ground := Ground.gcOnly Departure.lateStores }], guard := none }) (v := ?v7) rfl (by kernel_rfl) (by kernel_rfl) (by kernel_rfl) (fun _ _ _ h => h) (Or.inl ⟨by rfl, ?y7⟩) (by assumption) ?r7
  case y7 => (intro w hSw; (try dsimp only at hSw); (try (go_split_ands)); go_simp; try with_reducible rfl)
  try simp only [Act.put, List.setIfInBounds_toArray, List.set_cons_zero, List.set_cons_succ]
  refine wpAnyH_take (i := 7) (oi := { dst := some 75, op := Op.load 37 (Operand.tmp 74), type := 37, pos := "ref.go:41", after := #[{ on := 6, ground := Ground.data }, { on := 15, ground := Ground.gcOnly Departure.lateStores }], guard := none }) (v := ?v8) rfl (by kernel_rfl) (by kernel_rfl) (by kernel_rfl) (fun _ _ _ h => h) (Or.inl ⟨by rfl, ?y8⟩) (by assumption) ?r8
  case y8 => (intro w hSw; (try dsimp only at hSw); (try (go_split_ands)); go_simp; try with_reducible rfl)
  try simp only [Act.put, List.setIfInBounds_toArray, List.set_cons_zero, List.set_cons_succ]
  refine wpAnyH_take (i := 8) (oi := { dst := some 76, op := Op.binOp BinOp.eql 37 (Operand.tmp 75) (Operand.const (Value.int IntKind.u64 1)) 37, type := 4, pos := "ref.go:41", after := #[{ on := 7, ground := Ground.data }, { on := 15, ground := Ground.gcOnly Departure.lateStores }], guard := none }) (v := ?v9) rfl (by kernel_rfl) (by kernel_rfl) (by kernel_rfl) (fun _ _ _ h => h) (Or.inl ⟨by rfl, ?y9⟩) (by assumption) ?r9
  case y9 => (intro w hSw; (try dsimp only at hSw); (try (go_split_ands)); go_simp; try with_reducible rfl)
  try simp only [Act.put, List.setIfInBounds_toArray, List.set_cons_zero, List.set_cons_succ]
  refine wpAnyH_take (i := 9) (oi := { dst := some 77, op := Op.indexAddr 83 (Operand.tmp 5) (Operand.const (Value.int IntKind.i64 6)), type := 0, pos := "ref.go:41", after := #[{ on := 17, ground := Ground.gcOnly Departure.lateStores }], guard := none }) (v := ?v10) rfl (by kernel_rfl) (by kernel_rfl) (by kernel_rfl) (fun _ _ _ h => h) (Or.inl ⟨by rfl, ?y10⟩) (by assumption) ?r10
  case y10 => (intro w hSw; (try dsimp only at hSw); (try (go_split_ands)); go_simp; try with_reducible rfl)
  try simp only [Act.put, List.setIfInBounds_toArray, List.set_cons_zero, List.set_cons_succ]
  refine wpAnyH_take (i := 10) (oi := { dst := some 78, op := Op.load 37 (Operand.tmp 77), type := 37, pos := "ref.go:41", after := #[{ on := 9, ground := Ground.data }, { on := 17, ground := Ground.gcOnly Departure.lateStores }], guard := none }) (v := ?v11) rfl (by kernel_rfl) (by kernel_rfl) (by kernel_rfl) (fun _ _ _ h => h) (Or.inl ⟨by rfl, ?y11⟩) (by assumption) ?r11
  case y11 => (intro w hSw; (try dsimp only at hSw); (try (go_split_ands)); go_simp; try with_reducible rfl)
  try simp only [Act.put, List.setIfInBounds_toArray, List.set_cons_zero, List.set_cons_succ]
  refine wpAnyH_take (i := 11) (oi := { dst := some 79, op := Op.binOp BinOp.eql 37 (Operand.tmp 78) (Operand.const (Value.int IntKind.u64 1)) 37, type := 4, pos := "ref.go:41", after := #[{ on := 10, ground := Ground.data }, { on := 17, ground := Ground.gcOnly Departure.lateStores }], guard := none }) (v := ?v12) rfl (by kernel_rfl) (by kernel_rfl) (by kernel_rfl) (fun _ _ _ h => h) (Or.inl ⟨by rfl, ?y12⟩) (by assumption) ?r12
  case y12 => (intro w hSw; (try dsimp only at hSw); (try (go_split_ands)); go_simp; try with_reducible rfl)
  try simp only [Act.put, List.setIfInBounds_toArray, List.set_cons_zero, List.set_cons_succ]
  refine wpAnyH_take (i := 12) (oi := { dst := some 80, op := Op.fieldAddr 41 (Operand.tmp 6) 4, type := 0, pos := "ref.go:41", after := #[{ on := 0, ground := Ground.phase }, { on := 1, ground := Ground.phase }, { on := 2, ground := Ground.phase }, { on := 3, ground := Ground.textOnly Departure.lateStores }, { on := 4, ground := Ground.textOnly Departure.lateStores }, { on := 5, ground := Ground.textOnly Departure.lateStores }, { on := 6, ground := Ground.textOnly Departure.lateStores }, { on := 7, ground := Ground.textOnly Departure.lateStores }, { on := 8, ground := Ground.textOnly Departure.lateStores }, { on := 9, ground := Ground.textOnly Departure.lateStores }, { on := 10, ground := Ground.textOnly Departure.lateStores }, { on := 11, ground := Ground.textOnly Departure.lateStores }], guard := none }) (v := ?v13) rfl (by kernel_rfl) (by kernel_rfl) (by kernel_rfl) (fun _ _ _ h => h) (Or.inl ⟨by rfl, ?y13⟩) (by assumption) ?r13
  case y13 => (intro w hSw; (try dsimp only at hSw); (try (go_split_ands)); go_simp; try with_reducible rfl)
  try simp only [Act.put, List.setIfInBounds_toArray, List.set_cons_zero, List.set_cons_succ]
  refine wpAnyH_ready (rs := [13]) (by kernel_rfl) (by simp) ?_
  refine AllReadyH.cons (o := { dst := none, op := Op.store 4 (Operand.tmp 80) (Operand.tmp 70), type := 0, pos := "ref.go:41", after := #[{ on := 12, ground := Ground.data }, { on := 2, ground := Ground.data }, { on := 0, ground := Ground.phase }, { on := 1, ground := Ground.phase }, { on := 2, ground := Ground.phase }, { on := 3, ground := Ground.textOnly Departure.lateStores }, { on := 4, ground := Ground.textOnly Departure.lateStores }, { on := 5, ground := Ground.textOnly Departure.lateStores }, { on := 6, ground := Ground.textOnly Departure.lateStores }, { on := 7, ground := Ground.textOnly Departure.lateStores }, { on := 8, ground := Ground.textOnly Departure.lateStores }, { on := 9, ground := Ground.textOnly Departure.lateStores }, { on := 10, ground := Ground.textOnly Departure.lateStores }, { on := 11, ground := Ground.textOnly Departure.lateStores }], guard := none }) rfl (fun K hK => ?_) AllReadyH.nil
  refine step_store_cell rfl 4 (.tmp 80) (.tmp 70) rfl gb 7 (.bool (x1 == 1)) rfl rfl rfl boolSize _ _ hG4b (show 7 < 16 by decide) ?_
  intro w4c hX hO hV
  have hG4c : w4c.heap[gb]? = some (.cells (Bp.mk 1 0 0 0 0 (x0 == 1) (x7 == 1) (x1 == 1) false false false 0 0 0 0 0).row 41 (0, 0)) := hX
  have hA4c : w4c.heap[w.heap.size]? = some (.cells Bp.zero.row 41 (0, 0)) := (hO _ (Nat.ne_of_lt hlt)).trans hA4b
  have hW4c := hide (hV _ _ hW4b.out (Nat.le_of_lt hlt))
  have hSc : w4c.cell? ⟨gf, 1, none⟩ = some (.int .u64 x1) ∧ w4c.cell? ⟨gf, 2, none⟩ = some (.int .u64 x2) ∧ w4c.cell? ⟨gf, 3, none⟩ = some (.int .u64 x3) ∧ w4c.cell? ⟨gf, 4, none⟩ = some (.int .u64 x4) ∧ w4c.cell? ⟨gf, 5, none⟩ = some (.int .u64 x5) ∧ w4c.cell? ⟨gf, 6, none⟩ = some (.int .u64 x6) := ⟨(World.cell?_of_block (w := w4b) (a := ⟨gf, 1, none⟩) (hO _ hl2)).trans hHeld.1, (World.cell?_of_block (w := w4b) (a := ⟨gf, 2, none⟩) (hO _ hl2)).trans hHeld.2.1, (World.cell?_of_block (w := w4b) (a := ⟨gf, 3, none⟩) (hO _ hl2)).trans hHeld.2.2.1, (World.cell?_of_block (w := w4b) (a := ⟨gf, 4, none⟩) (hO _ hl2)).trans hHeld.2.2.2.1, (World.cell?_of_block (w := w4b) (a := ⟨gf, 5, none⟩) (hO _ hl2)).trans hHeld.2.2.2.2.1, (World.cell?_of_block (w := w4b) (a := ⟨gf, 6, none⟩) (hO _ hl2)).trans hHeld.2.2.2.2.2⟩
  clear hX hO hV hG4b hA4b hW4b
  refine hK.out _ _ hSc (fun hHeld13 => ?_)
  clear hK K
  simp only [Act.put]
  refine wpAnyH_take (i := 14) (oi := { dst := some 81, op := Op.fieldAddr 41 (Operand.tmp 6) 6, type := 0, pos := "ref.go:41", after := #[{ on := 0, ground := Ground.phase }, { on := 1, ground := Ground.phase }, { on := 2, ground := Ground.phase }, { on := 3, ground := Ground.phase }, { on := 4, ground := Ground.phase }, { on := 5, ground := Ground.phase }, { on := 6, ground := Ground.textOnly Departure.lateStores }, { on := 7, ground := Ground.textOnly Departure.lateStores }, { on := 8, ground := Ground.textOnly Departure.lateStores }, { on := 9, ground := Ground.textOnly Departure.lateStores }, { on := 10, ground := Ground.textOnly Departure.lateStores }, { on := 11, ground := Ground.textOnly Departure.lateStores }, { on := 12, ground := Ground.phase }, { on := 13, ground := Ground.phase }], guard := none }) (v := ?v14) rfl (by kernel_rfl) (by kernel_rfl) (by kernel_rfl) (fun _ _ _ h => h) (Or.inl ⟨by rfl, ?y14⟩) (by assumption) ?r14
  case y14 => (intro w hSw; (try dsimp only at hSw); (try (go_split_ands)); go_simp; try with_reducible rfl)
  try simp only [Act.put, List.setIfInBounds_toArray, List.set_cons_zero, List.set_cons_succ]
  refine wpAnyH_ready (rs := [15]) (by kernel_rfl) (by simp) ?_
  refine AllReadyH.cons (o := { dst := none, op := Op.store 4 (Operand.tmp 81) (Operand.tmp 73), type := 0, pos := "ref.go:41", after := #[{ on := 14, ground := Ground.data }, { on := 5, ground := Ground.data }, { on := 13, ground := Ground.chain }, { on := 0, ground := Ground.phase }, { on := 1, ground := Ground.phase }, { on := 2, ground := Ground.phase }, { on := 3, ground := Ground.phase }, { on := 4, ground := Ground.phase }, { on := 5, ground := Ground.phase }, { on := 6, ground := Ground.textOnly Departure.lateStores }, { on := 7, ground := Ground.textOnly Departure.lateStores }, { on := 8, ground := Ground.textOnly Departure.lateStores }, { on := 9, ground := Ground.textOnly Departure.lateStores }, { on := 10, ground := Ground.textOnly Departure.lateStores }, { on := 11, ground := Ground.textOnly Departure.lateStores }, { on := 12, ground := Ground.phase }, { on := 13, ground := Ground.phase }], guard := none }) rfl (fun K hK => ?_) AllReadyH.nil
  refine step_store_cell rfl 4 (.tmp 81) (.tmp 73) rfl gb 9 (.bool (x4 == 1)) rfl rfl rfl boolSize _ _ hG4c (show 9 < 16 by decide) ?_
  intro w4d hX hO hV
  have hG4d : w4d.heap[gb]? = some (.cells (Bp.mk 1 0 0 0 0 (x0 == 1) (x7 == 1) (x1 == 1) false (x4 == 1) false 0 0 0 0 0).row 41 (0, 0)) := hX
  have hA4d : w4d.heap[w.heap.size]? = some (.cells Bp.zero.row 41 (0, 0)) := (hO _ (Nat.ne_of_lt hlt)).trans hA4c
  have hW4d := hide (hV _ _ hW4c.out (Nat.le_of_lt hlt))
  have hSd : w4d.cell? ⟨gf, 1, none⟩ = some (.int .u64 x1) ∧ w4d.cell? ⟨gf, 2, none⟩ = some (.int .u64 x2) ∧ w4d.cell? ⟨gf, 3, none⟩ = some (.int .u64 x3) ∧ w4d.cell? ⟨gf, 4, none⟩ = some (.int .u64 x4) ∧ w4d.cell? ⟨gf, 5, none⟩ = some (.int .u64 x5) ∧ w4d.cell? ⟨gf, 6, none⟩ = some (.int .u64 x6) := ⟨(World.cell?_of_block (w := w4c) (a := ⟨gf, 1, none⟩) (hO _ hl2)).trans hSc.1, (World.cell?_of_block (w := w4c) (a := ⟨gf, 2, none⟩) (hO _ hl2)).trans hSc.2.1, (World.cell?_of_block (w := w4c) (a := ⟨gf, 3, none⟩) (hO _ hl2)).trans hSc.2.2.1, (World.cell?_of_block (w := w4c) (a := ⟨gf, 4, none⟩) (hO _ hl2)).trans hSc.2.2.2.1, (World.cell?_of_block (w := w4c) (a := ⟨gf, 5, none⟩) (hO _ hl2)).trans hSc.2.2.2.2.1, (World.cell?_of_block (w := w4c) (a := ⟨gf, 6, none⟩) (hO _ hl2)).trans hSc.2.2.2.2.2⟩
  clear hX hO hV hG4c hA4c hW4c
  refine hK.out _ _ hSd (fun hHeld15 => ?_)
  clear hK K
  simp only [Act.put]
  refine wpAnyH_take (i := 16) (oi := { dst := some 82, op := Op.fieldAddr 41 (Operand.tmp 6) 7, type := 0, pos := "ref.go:41", after := #[{ on := 0, ground := Ground.phase }, { on := 1, ground := Ground.phase }, { on := 2, ground := Ground.phase }, { on := 3, ground := Ground.phase }, { on := 4, ground := Ground.phase }, { on := 5, ground := Ground.phase }, { on := 6, ground := Ground.phase }, { on := 7, ground := Ground.phase }, { on := 8, ground := Ground.phase }, { on := 9, ground := Ground.textOnly Departure.lateStores }, { on := 10, ground := Ground.textOnly Departure.lateStores }, { on := 11, ground := Ground.textOnly Departure.lateStores }, { on := 12, ground := Ground.phase }, { on := 13, ground := Ground.phase }, { on := 14, ground := Ground.phase }, { on := 15, ground := Ground.phase }], guard := none }) (v := ?v15) rfl (by kernel_rfl) (by kernel_rfl) (by kernel_rfl) (fun _ _ _ h => h) (Or.inl ⟨by rfl, ?y15⟩) (by assumption) ?r15
  case y15 => (intro w hSw; (try dsimp only at hSw); (try (go_split_ands)); go_simp; try with_reducible rfl)
  try simp only [Act.put, List.setIfInBounds_toArray, List.set_cons_zero, List.set_cons_succ]
  refine wpAnyH_ready (rs := [17]) (by kernel_rfl) (by simp) ?_
  refine AllReadyH.cons (o := { dst := none, op := Op.store 4 (Operand.tmp 82) (Operand.tmp 76), type := 0, pos := "ref.go:41", after := #[{ on := 16, ground := Ground.data }, { on := 8, ground := Ground.data }, { on := 15, ground := Ground.chain }, { on := 0, ground := Ground.phase }, { on := 1, ground := Ground.phase }, { on := 2, ground := Ground.phase }, { on := 3, ground := Ground.phase }, { on := 4, ground := Ground.phase }, { on := 5, ground := Ground.phase }, { on := 6, ground := Ground.phase }, { on := 7, ground := Ground.phase }, { on := 8, ground := Ground.phase }, { on := 9, ground := Ground.textOnly Departure.lateStores }, { on := 10, ground := Ground.textOnly Departure.lateStores }, { on := 11, ground := Ground.textOnly Departure.lateStores }, { on := 12, ground := Ground.phase }, { on := 13, ground := Ground.phase }, { on := 14, ground := Ground.phase }, { on := 15, ground := Ground.phase }], guard := none }) rfl (fun K hK => ?_) AllReadyH.nil
  refine step_store_cell rfl 4 (.tmp 82) (.tmp 76) rfl gb 10 (.bool (x5 == 1)) rfl rfl rfl boolSize _ _ hG4d (show 10 < 16 by decide) ?_
  intro w4e hX hO hV
  have hG4e : w4e.heap[gb]? = some (.cells (Bp.mk 1 0 0 0 0 (x0 == 1) (x7 == 1) (x1 == 1) false (x4 == 1) (x5 == 1) 0 0 0 0 0).row 41 (0, 0)) := hX
  have hA4e : w4e.heap[w.heap.size]? = some (.cells Bp.zero.row 41 (0, 0)) := (hO _ (Nat.ne_of_lt hlt)).trans hA4d
  have hW4e := hide (hV _ _ hW4d.out (Nat.le_of_lt hlt))
  have hSe : w4e.cell? ⟨gf, 1, none⟩ = some (.int .u64 x1) ∧ w4e.cell? ⟨gf, 2, none⟩ = some (.int .u64 x2) ∧ w4e.cell? ⟨gf, 3, none⟩ = some (.int .u64 x3) ∧ w4e.cell? ⟨gf, 4, none⟩ = some (.int .u64 x4) ∧ w4e.cell? ⟨gf, 5, none⟩ = some (.int .u64 x5) ∧ w4e.cell? ⟨gf, 6, none⟩ = some (.int .u64 x6) := ⟨(World.cell?_of_block (w := w4d) (a := ⟨gf, 1, none⟩) (hO _ hl2)).trans hSd.1, (World.cell?_of_block (w := w4d) (a := ⟨gf, 2, none⟩) (hO _ hl2)).trans hSd.2.1, (World.cell?_of_block (w := w4d) (a := ⟨gf, 3, none⟩) (hO _ hl2)).trans hSd.2.2.1, (World.cell?_of_block (w := w4d) (a := ⟨gf, 4, none⟩) (hO _ hl2)).trans hSd.2.2.2.1, (World.cell?_of_block (w := w4d) (a := ⟨gf, 5, none⟩) (hO _ hl2)).trans hSd.2.2.2.2.1, (World.cell?_of_block (w := w4d) (a := ⟨gf, 6, none⟩) (hO _ hl2)).trans hSd.2.2.2.2.2⟩
  clear hX hO hV hG4d hA4d hW4d
  refine hK.out _ _ hSe (fun hHeld17 => ?_)
  clear hK K
  simp only [Act.put]
  refine wpAnyH_take (i := 18) (oi := { dst := some 83, op := Op.fieldAddr 41 (Operand.tmp 6) 5, type := 0, pos := "ref.go:41", after := #[{ on := 0, ground := Ground.phase }, { on := 1, ground := Ground.phase }, { on := 2, ground := Ground.phase }, { on := 3, ground := Ground.phase }, { on := 4, ground := Ground.phase }, { on := 5, ground := Ground.phase }, { on := 6, ground := Ground.phase }, { on := 7, ground := Ground.phase }, { on := 8, ground := Ground.phase }, { on := 9, ground := Ground.phase }, { on := 10, ground := Ground.phase }, { on := 11, ground := Ground.phase }, { on := 12, ground := Ground.phase }, { on := 13, ground := Ground.phase }, { on := 14, ground := Ground.phase }, { on := 15, ground := Ground.phase }, { on := 16, ground := Ground.phase }, { on := 17, ground := Ground.phase }], guard := none }) (v := ?v16) rfl (by kernel_rfl) (by kernel_rfl) (by kernel_rfl) (fun _ _ _ h => h) (Or.inl ⟨by rfl, ?y16⟩) (by assumption) ?r16
  case y16 => (intro w hSw; (try dsimp only at hSw); (try (go_split_ands)); go_simp; try with_reducible rfl)
  try simp only [Act.put, List.setIfInBounds_toArray, List.set_cons_zero, List.set_cons_succ]
  refine wpAnyH_ready (rs := [19]) (by kernel_rfl) (by simp) ?_
  refine AllReadyH.cons (o := { dst := none, op := Op.store 4 (Operand.tmp 83) (Operand.tmp 79), type := 0, pos := "ref.go:41", after := #[{ on := 18, ground := Ground.data }, { on := 11, ground := Ground.data }, { on := 17, ground := Ground.chain }, { on := 0, ground := Ground.phase }, { on := 1, ground := Ground.phase }, { on := 2, ground := Ground.phase }, { on := 3, ground := Ground.phase }, { on := 4, ground := Ground.phase }, { on := 5, ground := Ground.phase }, { on := 6, ground := Ground.phase }, { on := 7, ground := Ground.phase }, { on := 8, ground := Ground.phase }, { on := 9, ground := Ground.phase }, { on := 10, ground := Ground.phase }, { on := 11, ground := Ground.phase }, { on := 12, ground := Ground.phase }, { on := 13, ground := Ground.phase }, { on := 14, ground := Ground.phase }, { on := 15, ground := Ground.phase }, { on := 16, ground := Ground.phase }, { on := 17, ground := Ground.phase }], guard := none }) rfl (fun K hK => ?_) AllReadyH.nil
  refine step_store_cell rfl 4 (.tmp 83) (.tmp 79) rfl gb 8 (.bool (x6 == 1)) rfl rfl rfl boolSize _ _ hG4e (show 8 < 16 by decide) ?_
  intro w4f hX hO hV
  have hG4f : w4f.heap[gb]? = some (.cells (Bp.mk 1 0 0 0 0 (x0 == 1) (x7 == 1) (x1 == 1) (x6 == 1) (x4 == 1) (x5 == 1) 0 0 0 0 0).row 41 (0, 0)) := hX
  have hA4f : w4f.heap[w.heap.size]? = some (.cells Bp.zero.row 41 (0, 0)) := (hO _ (Nat.ne_of_lt hlt)).trans hA4e
  have hW4f := hide (hV _ _ hW4e.out (Nat.le_of_lt hlt))
  have hSf : w4f.cell? ⟨gf, 1, none⟩ = some (.int .u64 x1) ∧ w4f.cell? ⟨gf, 2, none⟩ = some (.int .u64 x2) ∧ w4f.cell? ⟨gf, 3, none⟩ = some (.int .u64 x3) ∧ w4f.cell? ⟨gf, 4, none⟩ = some (.int .u64 x4) ∧ w4f.cell? ⟨gf, 5, none⟩ = some (.int .u64 x5) ∧ w4f.cell? ⟨gf, 6, none⟩ = some (.int .u64 x6) := ⟨(World.cell?_of_block (w := w4e) (a := ⟨gf, 1, none⟩) (hO _ hl2)).trans hSe.1, (World.cell?_of_block (w := w4e) (a := ⟨gf, 2, none⟩) (hO _ hl2)).trans hSe.2.1, (World.cell?_of_block (w := w4e) (a := ⟨gf, 3, none⟩) (hO _ hl2)).trans hSe.2.2.1, (World.cell?_of_block (w := w4e) (a := ⟨gf, 4, none⟩) (hO _ hl2)).trans hSe.2.2.2.1, (World.cell?_of_block (w := w4e) (a := ⟨gf, 5, none⟩) (hO _ hl2)).trans hSe.2.2.2.2.1, (World.cell?_of_block (w := w4e) (a := ⟨gf, 6, none⟩) (hO _ hl2)).trans hSe.2.2.2.2.2⟩
  clear hX hO hV hG4e hA4e hW4e
  refine hK.out _ _ hSf (fun hHeld19 => ?_)
  clear hK K
  simp only [Act.put]
  refine wpAnyH_done (by kernel_rfl) ?_ _
  refine NoPanic.normal ?_
  have k2 : w4f.cell? ⟨gf, 2, none⟩ = some (.int .u64 x2) := hSf.2.1
  have k3 : w4f.cell? ⟨gf, 3, none⟩ = some (.int .u64 x3) := hSf.2.2.1
  have hrr : 0 ≤ x2 + 2 * x3 ∧ x2 + 2 * x3 ≤ 3 := by omega
  clear hSf
  go_wp2_with ((with_reducible change wpList _ _ _ _ _ _); refine wpList_store_cell rfl 3 (.tmp 91) (.tmp 90) rfl gb 11 (.int .i64 (x2 + 2 * x3)) rfl rfl rfl intSize _ _ hG4f (show 11 < 16 by decide) ?_; intro w4 hX hO hV; refine unhide ?_)
  have hG4 : w4.heap[gb]? = some (.cells (Bp.mk 1 0 0 0 0 (x0 == 1) (x7 == 1) (x1 == 1) (x6 == 1) (x4 == 1) (x5 == 1) (x2 + 2 * x3) 0 0 0 0).row 41 (0, 0)) := hX
  have hA4 : w4.heap[w.heap.size]? = some (.cells Bp.zero.row 41 (0, 0)) := (hO _ (Nat.ne_of_lt hlt)).trans hA4f
  have hW4 := hide (hV _ _ hW4f.out (Nat.le_of_lt hlt))
  clear hX hO hV hG4f hA4f hW4f k2 k3
  refine hide ?_
  go_wp2_with fail
  refine (e1.out _ hW4.out).mono ?_
  rintro e w5 ⟨rfl, he⟩
  obtain rfl := he.symm
  clear he
  go_wp2_with fail
  refine (e2.out _ hW4.out).mono ?_
  rintro e w5 ⟨rfl, he⟩
  obtain rfl := he.symm
  clear he
  go_wp2_with fail
  refine (e3.out _ hW4.out).mono ?_
  rintro e w5 ⟨rfl, he⟩
  obtain rfl := he.symm
  clear he
  go_wp2_with fail
  refine (e4.out _ hW4.out).mono ?_
  rintro e w5 ⟨rfl, he⟩
  obtain rfl := he.symm
  clear he
  have hth : w4.there gb 1 4 := fun t ht => ⟨by rw [cell_of_row _ _ _ _ _ _ hG4]; match t, ht with
    | 0, _ => rfl
    | 1, _ => rfl
    | 2, _ => rfl
    | 3, _ => rfl, frozen_of_row w4 gb _ _ _ hG4⟩
  have hG5 : (w4.setCells gb 1 [.int .u64 m1, .int .u64 m2, .int .u64 m3, .int .i64 m4]).heap[gb]? = some (.cells (Bp.mk 1 m1 m2 m3 m4 (x0 == 1) (x7 == 1) (x1 == 1) (x6 == 1) (x4 == 1) (x5 == 1) (x2 + 2 * x3) 0 0 0 0).row 41 (0, 0)) := by
    rw [set4 hG4]
  have hW5 := hide (below_set4 (vs := [.int .u64 m1, .int .u64 m2, .int .u64 m3, .int .i64 m4]) hW4.out (Nat.le_of_lt hlt) 1)
  have hA5 : (w4.setCells gb 1 [.int .u64 m1, .int .u64 m2, .int .u64 m3, .int .i64 m4]).heap[w.heap.size]? = some (.cells Bp.zero.row 41 (0, 0)) := by
    rw [set4_other _ _ _ _ (by omega)]; exact hA4
  go_wp2_with ((with_reducible change wpList _ _ _ _ _ _); refine wpList_store_mid rfl 39 _ _ rfl gb 1 #[.int .u64 m1, .int .u64 m2, .int .u64 m3, .int .i64 m4] rfl rfl hth vecSize (by simp [Value.oneCell']) ?_; refine unhide ?_)
  have hl5 : gb < (w4.setCells gb 1 [.int .u64 m1, .int .u64 m2, .int .u64 m3, .int .i64 m4]).heap.size := (Array.getElem?_eq_some_iff.1 hG5).1
  change Hid (wpList _ _ _ _ _ (w4.setCells gb 1 [.int .u64 m1, .int .u64 m2, .int .u64 m3, .int .i64 m4]))
  generalize w4.setCells gb 1 [.int .u64 m1, .int .u64 m2, .int .u64 m3, .int .i64 m4] = w5 at *
  clear hth hG4 hA4 hW4
  refine hide ?_
  go_wp2_with fail
  refine (e5.out _ hW5.out).mono ?_
  rintro e w6 ⟨rfl, he⟩
  obtain rfl := he.symm
  clear he
  go_wp2_with fail
  refine (e6.out _ hW5.out).mono ?_
  rintro e w6 ⟨rfl, he⟩
  obtain rfl := he.symm
  clear he
  go_wp2_with fail
  refine (e7.out _ hW5.out).mono ?_
  rintro e w6 ⟨rfl, he⟩
  obtain rfl := he.symm
  clear he
  go_wp2_with fail
  refine (e8.out _ hW5.out).mono ?_
  rintro e w6 ⟨rfl, he⟩
  obtain rfl := he.symm
  clear he
  go_wp2_with ((with_reducible change wpList _ _ _ _ _ _); refine wpList_store_cell rfl 3 (.tmp 115) (.tmp 105) rfl gb 12 (.int .i64 m5) rfl rfl rfl intSize _ _ hG5 (show 12 < 16 by decide) ?_; intro w5a hX5a hO5a hV5a; refine unhide ?_)
  have hG5a : w5a.heap[gb]? = some (.cells (Bp.mk 1 m1 m2 m3 m4 (x0 == 1) (x7 == 1) (x1 == 1) (x6 == 1) (x4 == 1) (x5 == 1) (x2 + 2 * x3) m5 0 0 0).row 41 (0, 0)) := hX5a
  have hA5a : w5a.heap[w.heap.size]? = some (.cells Bp.zero.row 41 (0, 0)) := (hO5a _ (Nat.ne_of_lt hlt)).trans hA5
  have hW5a := hide (hV5a _ _ hW5.out (Nat.le_of_lt hlt))
  clear hX5a hO5a hV5a hG5 hA5 hW5
  refine hide ?_
  go_wp2_with ((with_reducible change wpList _ _ _ _ _ _); refine wpList_store_cell rfl 3 (.tmp 116) (.tmp 108) rfl gb 13 (.int .i64 m6) rfl rfl rfl intSize _ _ hG5a (show 13 < 16 by decide) ?_; intro w5b hX5b hO5b hV5b; refine unhide ?_)
  have hG5b : w5b.heap[gb]? = some (.cells (Bp.mk 1 m1 m2 m3 m4 (x0 == 1) (x7 == 1) (x1 == 1) (x6 == 1) (x4 == 1) (x5 == 1) (x2 + 2 * x3) m5 m6 0 0).row 41 (0, 0)) := hX5b
  have hA5b : w5b.heap[w.heap.size]? = some (.cells Bp.zero.row 41 (0, 0)) := (hO5b _ (Nat.ne_of_lt hlt)).trans hA5a
  have hW5b := hide (hV5b _ _ hW5a.out (Nat.le_of_lt hlt))
  clear hX5b hO5b hV5b hG5a hA5a hW5a
  refine hide ?_
  go_wp2_with ((with_reducible change wpList _ _ _ _ _ _); refine wpList_store_cell rfl 3 (.tmp 117) (.tmp 111) rfl gb 14 (.int .i64 m7) rfl rfl rfl intSize _ _ hG5b (show 14 < 16 by decide) ?_; intro w5c hX5c hO5c hV5c; refine unhide ?_)
  have hG5c : w5c.heap[gb]? = some (.cells (Bp.mk 1 m1 m2 m3 m4 (x0 == 1) (x7 == 1) (x1 == 1) (x6 == 1) (x4 == 1) (x5 == 1) (x2 + 2 * x3) m5 m6 m7 0).row 41 (0, 0)) := hX5c
  have hA5c : w5c.heap[w.heap.size]? = some (.cells Bp.zero.row 41 (0, 0)) := (hO5c _ (Nat.ne_of_lt hlt)).trans hA5b
  have hW5c := hide (hV5c _ _ hW5b.out (Nat.le_of_lt hlt))
  clear hX5c hO5c hV5c hG5b hA5b hW5b
  refine hide ?_
  go_wp2_with ((with_reducible change wpList _ _ _ _ _ _); refine wpList_store_cell rfl 3 (.tmp 118) (.tmp 114) rfl gb 15 (.int .i64 m8) rfl rfl rfl intSize _ _ hG5c (show 15 < 16 by decide) ?_; intro w5d hX5d hO5d hV5d; refine unhide ?_)
  have hG5d : w5d.heap[gb]? = some (.cells (Bp.mk 1 m1 m2 m3 m4 (x0 == 1) (x7 == 1) (x1 == 1) (x6 == 1) (x4 == 1) (x5 == 1) (x2 + 2 * x3) m5 m6 m7 m8).row 41 (0, 0)) := hX5d
  have hA5d : w5d.heap[w.heap.size]? = some (.cells Bp.zero.row 41 (0, 0)) := (hO5d _ (Nat.ne_of_lt hlt)).trans hA5c
  have hW5d := hide (hV5d _ _ hW5c.out (Nat.le_of_lt hlt))
  clear hX5d hO5d hV5d hG5c hA5c hW5c
  refine hide ?_
  have q12 : w5d.cell? ⟨gb, 12, none⟩ = some (.int .i64 m5) := (cell_of_row _ _ _ _ _ _ hG5d).trans rfl
  have q13 : w5d.cell? ⟨gb, 13, none⟩ = some (.int .i64 m6) := (cell_of_row _ _ _ _ _ _ hG5d).trans rfl
  have hOB := HOB.out
  have hOE := HOE.out
  rw [show RB.maxAge = m6 by rw [HR.out], show RB.age = m5 by rw [HR.out]] at hOB hOE
  have hG6 : w5d.heap[gb]? = some (.cells RB.row 41 (0, 0)) := by rw [HR.out]; exact hG5d
  clear hG5d HR HOB HOE
  by_cases hle : m6 ≤ m5
  · rw [if_pos hle] at hOB hOE
    have HOB := hide hOB
    have HOE := hide hOE
    clear hOB hOE hG6
    go_wp2_with ((with_reducible change wpList _ _ _ _ _ _); refine wpList_store_row rfl 41 (.tmp 2) (.tmp 124) rfl w.heap.size Bp.zero.row rfl rfl 41 _ hA5d (bpSize _) rfl (Bp.row_all _) ?_)
    exact bodyPost_ret (results_cell_row2 rfl _ _ w.heap.size 41 _ _ _ rfl (setRow_heap _ _ _ _ _ _ hA5d) Tryd.underlying41 rfl (bpSize Bp.zero)) rfl ⟨ret2i (by rw [HOB.out]) HOE.out.symm, below_setRow hW5d.out (Nat.le_refl _) _⟩
  · rw [if_neg hle] at hOB hOE
    have HOB := hide hOB
    have HOE := hide hOE
    clear hOB hOE
    go_wp2_with ((with_reducible change wpList _ _ _ _ _ _); refine stop_load 41 (.tmp 6) rfl ?_)
    refine hide ?_
    refine wpList_load_row rfl 41 (.tmp 6) rfl gb rfl 41 _ _ _ hG6 Tryd.underlying41 rfl (bpSize _) ?_
    refine wpList_store_row rfl 41 (.tmp 2) (.tmp 125) rfl w.heap.size RB.row rfl rfl 41 _ hA5d (bpSize _) rfl (Bp.row_all _) ?_
    go_wp2_with fail
    exact bodyPost_ret (results_cell_row2 rfl _ _ w.heap.size 41 _ _ _ rfl (setRow_heap _ _ _ _ _ _ hA5d) Tryd.underlying41 rfl (bpSize RB)) rfl ⟨ret2i (by rw [HOB.out]) HOE.out.symm, below_setRow hW5d.out (Nat.le_refl _) _⟩
end Go.Proofs.YtmakaadmjgakaaaDoor
