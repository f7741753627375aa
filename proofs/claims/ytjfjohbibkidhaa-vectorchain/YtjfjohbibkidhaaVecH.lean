/-
  VectorChain, walked. Conditions: those that each theorem names.
-/
import Derived.Test.YtjfjohbibkidhaaVecO
import Derived.OpenShut
namespace Go.Proofs.Ytjfjohbibkidhaa
open Go.RowKit
set_option linter.unusedVariables false

/-- A row of numbers in memory. -/
def Us (w : World) (a : Option Addr) (n : Nat) (zs : List Int) : Prop := ∀ i, i < n → ∃ b off, a = some ⟨b, off, none⟩ ∧ w.cell? ⟨b, off + i, none⟩ = some (.int .u64 (zs.getD i 0))
theorem Us.below {w w' : World} {a : Option Addr} {n : Nat} {zs : List Int} (h : Us w a n zs) (hb : Below w.heap.size w w') : Us w' a n zs := by
  intro i hi
  obtain ⟨b, off, rfl, h1⟩ := h i hi
  exact ⟨b, off, rfl, (hb.cell (p := ⟨b, off + i, none⟩) (block_lt_of_cell h1)).trans h1⟩
theorem range_u64' {zs : List Int} (h : ∀ n ∈ zs, (Lit.int .u64 n).wf = true) (i : Nat) : U64 (zs.getD i 0) := by
  rw [List.getD_eq_getElem?_getD]
  cases h1 : zs[i]? with
  | none => simp [U64]
  | some z => exact bounds_u64 (h z (List.mem_of_getElem? h1))
theorem Us_of_row {w : World} {a : Option Addr} {len cap : Nat} {zs : List Int}
    (h : (a = none ∧ len = 0 ∧ cap = 0 ∧ zs = []) ∨ ∃ x, a = some x ∧ len ≤ cap ∧ cap ≤ maxLen ∧ zs.length = cap ∧ (∀ i, i < zs.length → w.cell? (x.add i) = some (.int .u64 (zs.getD i 0))) ∧ ∀ n ∈ zs, (Lit.int .u64 n).wf = true) :
    Us w a len zs ∧ len ≤ maxLen ∧ ∀ i, U64 (zs.getD i 0) := by
  rcases h with ⟨rfl, rfl, rfl, rfl⟩ | ⟨x, rfl, h1, h2, h3, h4, h5⟩
  · exact ⟨fun i hi => by omega, Nat.zero_le _, fun i => by simp [U64]⟩
  · refine ⟨fun i hi => ?_, by omega, range_u64' h5⟩
    obtain ⟨b, off, rfl, hc⟩ := ints_at h4 (by omega)
    exact ⟨b, off, rfl, hc i (by omega)⟩
def chF (c : Int) (f : Nat → Int) : Nat → Int
  | 0 => c
  | j + 1 => overN (chF c f j) (f j)
def smF (f : Nat → Int) : Nat → Int
  | 0 => 0
  | j + 1 => smF f j + f j
theorem smF_pos (f : Nat → Int) (hf : ∀ i, 0 ≤ f i) : ∀ j, 0 ≤ smF f j
  | 0 => by simp [smF]
  | j + 1 => by have := smF_pos f hf j; have := hf j; simp only [smF]; omega
theorem smF_head (f : Nat → Int) : ∀ n, smF f (n + 1) = f 0 + smF (fun i => f (i + 1)) n
  | 0 => by simp [smF]
  | n + 1 => by
    rw [smF, smF_head f n]
    simp only [smF]
    omega
theorem smF_congr {f g : Nat → Int} : ∀ n, (∀ i, i < n → f i = g i) → smF f n = smF g n
  | 0, _ => rfl
  | n + 1, h => by simp only [smF]; rw [smF_congr n (fun i hi => h i (by omega)), h n (by omega)]
theorem smF_rev (f : Nat → Int) : ∀ n, smF (fun i => f (n - 1 - i)) n = smF f n
  | 0 => rfl
  | n + 1 => by
    rw [smF_head, smF, ← smF_rev f n]
    rw [smF_congr n (f := fun i => f (n + 1 - 1 - (i + 1))) (g := fun i => f (n - 1 - i)) (fun i hi => by show f _ = f _; congr 1; omega)]
    simp only [Nat.add_sub_cancel, Nat.sub_zero]
    omega
theorem chF_is (c : Int) (f : Nat → Int) (hf : ∀ i, 0 ≤ f i) : ∀ j, chF c f j = if j = 0 then c else if c > 4294967295 then 4294967295 else if c + smF f j > 4294967295 then 4294967295 else c + smF f j
  | 0 => by simp [chF]
  | j + 1 => by
    have h1 := smF_pos f hf j
    have h2 := hf j
    rw [chF, chF_is c f hf j, if_neg (Nat.succ_ne_zero j)]
    simp only [smF]
    unfold overN
    by_cases h0 : j = 0
    · subst h0
      simp only [smF, if_true]
      repeat' split
      all_goals omega
    · rw [if_neg h0]
      repeat' split
      all_goals omega
theorem chF_rev (c : Int) (f : Nat → Int) (hf : ∀ i, 0 ≤ f i) (n : Nat) : chF c f n = chF c (fun i => f (n - 1 - i)) n := by
  rw [chF_is c f hf, chF_is c _ (fun i => hf _), smF_rev]
theorem overN_u64 {c d : Int} (hc : U64 c) (hd : U64 d) : U64 (overN c d) := by
  unfold U64 overN at *
  repeat' split
  all_goals omega
theorem chF_u64 {c : Int} {f : Nat → Int} (hc : U64 c) (hf : ∀ i, U64 (f i)) : ∀ j, U64 (chF c f j)
  | 0 => hc
  | j + 1 => overN_u64 (chF_u64 hc hf j) (hf j)
theorem Chain_walk (v : Vc) (a : Option Addr) (n cap : Nat) (zs : List Int) (w : World) (hv : v.wf) (hm : n ≤ maxLen) (hI : Us w a n zs) (hz : ∀ i, U64 (zs.getD i 0)) : Calls Try.prog 12 #[.agg v.row, .slice a n cap] w fun r w' => r = .returned (.bool true) ∧ Below w.heap.size w w' := by
  have hO := hide (fun w => orders_any w)
  have hI := hide hI
  have hz := hide hz
  have hn63 : n ≤ 9223372036854775807 := by simp only [maxLen] at hm; omega
  clear hm
  obtain ⟨a0, a1, a2, a3⟩ := v
  go_enter Try.func12, Try.ntmps12
  go_wp2_with fail
  refine (hO.out _).mono ?_
  rintro e w1 ⟨rfl, hb1⟩
  have hA : Hid (One w1 w.heap.size ⟨a0, a1, a2, a3⟩) := (One.of_heap (heap_alloc_new w (.cells (Vc.row ⟨a0, a1, a2, a3⟩) 45))).below hb1
  have hB := hide ((below1 w _).later hb1)
  clear hb1 hO
  obtain ⟨c0, c1, c2, c3⟩ := hA.out
  dsimp only at *
  by_cases hbig : 100 < n
  · go_wp2
    go_ret
    exact ⟨rfl, hB.out⟩
  · go_wp2_with fail
    refine wp_region_noPanic ?_
    refine wp_region_held_drew (S := fun W => Below w1.heap.size w1 W ∧ W.cell? ⟨w.heap.size, 0, none⟩ = some (.int .u64 a0) ∧ W.cell? ⟨w.heap.size, 1, none⟩ = some (.int .u64 a1) ∧ W.cell? ⟨w.heap.size, 2, none⟩ = some (.int .u64 a2) ∧ W.cell? ⟨w.heap.size, 3, none⟩ = some (.int .i64 a3)) (by kernel_rfl) ⟨below_drewN (Below.refl _ _) 1, c0, c1, c2, c3⟩ (fun hHeld => ?_)
    refine wpAnyH_take (i := 0) (oi := { dst := some 13, op := Op.load 45 (Operand.tmp 2), type := 45, pos := "law.go:149", after := #[], guard := none }) (v := ?v1) rfl (by kernel_rfl) (by kernel_rfl) (by kernel_rfl) (fun _ _ _ h => h) (Or.inl ⟨by rfl, ?y1⟩) (by assumption) ?r1
    case y1 => (intro w hSw; (try dsimp only at hSw); (try (go_split_ands)); go_simp; try with_reducible rfl)
    try simp only [Act.put, List.setIfInBounds_toArray, List.set_cons_zero, List.set_cons_succ]
    refine wpAnyH_take (i := 1) (oi := { dst := some 14, op := Op.load 45 (Operand.tmp 2), type := 45, pos := "law.go:149", after := #[{ on := 4, ground := Ground.gcOnly Departure.lateStores }], guard := none }) (v := ?v2) rfl (by kernel_rfl) (by kernel_rfl) (by kernel_rfl) (fun _ _ _ h => h) (Or.inl ⟨by rfl, ?y2⟩) (by assumption) ?r2
    case y2 => (intro w hSw; (try dsimp only at hSw); (try (go_split_ands)); go_simp; try with_reducible rfl)
    try simp only [Act.put, List.setIfInBounds_toArray, List.set_cons_zero, List.set_cons_succ]
    refine wpAnyH_ready (rs := [2, 3]) (by kernel_rfl) (by simp) ?_
    refine AllReadyH.cons (o := { dst := some 5, op := Op.alloc 45, type := 0, pos := "law.go:149", after := #[], guard := none }) rfl (fun K hK => ?_) (AllReadyH.cons (o := { dst := some 6, op := Op.alloc 45, type := 0, pos := "law.go:149", after := #[], guard := none }) rfl (fun K hK => ?_) AllReadyH.nil)
    · go_simp
      have hb2 : Below w1.heap.size w1 (w1.alloc (.cells #[.int .u64 0, .int .u64 0, .int .u64 0, .int .i64 0] 45)).drew := below_drewN (below1 w1 _) 1
      have hS2 := hA.out.below hb2
      have hN2 : (w1.alloc (.cells #[.int .u64 0, .int .u64 0, .int .u64 0, .int .i64 0] 45)).drew.heap[w1.heap.size]? = some (.cells #[.int .u64 0, .int .u64 0, .int .u64 0, .int .i64 0] 45) := heap_alloc_new w1 _
      have hs2 : (w1.alloc (.cells #[.int .u64 0, .int .u64 0, .int .u64 0, .int .i64 0] 45)).drew.heap.size = w1.heap.size + 1 := World.size_alloc w1 _
      refine hK.out _ _ ⟨hb2, hS2.a0, hS2.a1, hS2.a2, hS2.a3⟩ (fun hHeld2 => ?_)
      clear hK K
      try simp only [Act.put, List.setIfInBounds_toArray, List.set_cons_zero, List.set_cons_succ]
      generalize (w1.alloc (.cells #[.int .u64 0, .int .u64 0, .int .u64 0, .int .i64 0] 45)).drew = w2 at *
      refine wpAnyH_ready (rs := [3]) (by kernel_rfl) (by simp) ?_
      refine AllReadyH.cons (o := { dst := some 6, op := Op.alloc 45, type := 0, pos := "law.go:149", after := #[], guard := none }) rfl (fun K hK => ?_) AllReadyH.nil
      go_simp
      have hb3 : Below w1.heap.size w1 (w2.alloc (.cells #[.int .u64 0, .int .u64 0, .int .u64 0, .int .i64 0] 45)) := hb2.later (below1 w2 _)
      have hS3 := hA.out.below hb3
      have hN3 : (w2.alloc (.cells #[.int .u64 0, .int .u64 0, .int .u64 0, .int .i64 0] 45)).heap[w1.heap.size + 1]? = some (.cells #[.int .u64 0, .int .u64 0, .int .u64 0, .int .i64 0] 45) := by rw [← hs2]; exact heap_alloc_new w2 _
      have hM3 := heap_kept (below1 w2 (.cells #[.int .u64 0, .int .u64 0, .int .u64 0, .int .i64 0] 45)) hN2
      refine hK.out _ _ ⟨hb3, hS3.a0, hS3.a1, hS3.a2, hS3.a3⟩ (fun hHeld3 => ?_)
      clear hK K
      try simp only [Act.put, List.setIfInBounds_toArray, List.set_cons_zero, List.set_cons_succ]
      generalize w2.alloc (.cells #[.int .u64 0, .int .u64 0, .int .u64 0, .int .i64 0] 45) = w3 at *
      clear hN2 hs2 hb2 hS2 hS3
      refine wpAnyH_ready (rs := [4]) (by kernel_rfl) (by simp) ?_
      refine AllReadyH.cons (o := { dst := none, op := Op.store 45 (Operand.tmp 5) (Operand.tmp 13), type := 0, pos := "law.go:149", after := #[{ on := 2, ground := Ground.data }, { on := 0, ground := Ground.data }, { on := 0, ground := Ground.phase }, { on := 1, ground := Ground.textOnly Departure.lateStores }, { on := 2, ground := Ground.phase }, { on := 3, ground := Ground.phase }], guard := none }) rfl (fun K hK => ?_) AllReadyH.nil
      refine step_store_row rfl 45 (.tmp 5) (.tmp 13) rfl w1.heap.size (Vc.row ⟨a0, a1, a2, a3⟩) rfl rfl 45 _ hM3 (vecSize Vc.zero) rfl (Vc.row_all _) ?_
      have hb4 : Below w1.heap.size w1 (w3.setRow w1.heap.size (Vc.row ⟨a0, a1, a2, a3⟩)) := below_setRow hb3 (by omega) _
      have hS4 := hA.out.below hb4
      have hP4 := setRow_heap w3 w1.heap.size _ (Vc.row ⟨a0, a1, a2, a3⟩) 45 _ hM3
      have hQ4 : (w3.setRow w1.heap.size (Vc.row ⟨a0, a1, a2, a3⟩)).heap[(w1.heap.size + 1)]? = some (.cells #[.int .u64 0, .int .u64 0, .int .u64 0, .int .i64 0] 45 (0, 0)) := (Go.setRow_other w3 w1.heap.size (w1.heap.size + 1) (Vc.row ⟨a0, a1, a2, a3⟩) (by omega)).trans hN3
      refine hK.out _ _ ⟨hb4, hS4.a0, hS4.a1, hS4.a2, hS4.a3⟩ (fun hHeld4 => ?_)
      clear hK K
      try simp only [Act.put]
      generalize w3.setRow w1.heap.size (Vc.row ⟨a0, a1, a2, a3⟩) = w4 at *
      clear hS4 hM3 hN3 hb3
      refine wpAnyH_ready (rs := [5]) (by kernel_rfl) (by simp) ?_
      refine AllReadyH.cons (o := { dst := none, op := Op.store 45 (Operand.tmp 6) (Operand.tmp 14), type := 0, pos := "law.go:149", after := #[{ on := 3, ground := Ground.data }, { on := 1, ground := Ground.data }, { on := 4, ground := Ground.chain }, { on := 0, ground := Ground.phase }, { on := 1, ground := Ground.phase }, { on := 2, ground := Ground.phase }, { on := 3, ground := Ground.phase }, { on := 4, ground := Ground.phase }], guard := none }) rfl (fun K hK => ?_) AllReadyH.nil
      refine step_store_row rfl 45 (.tmp 6) (.tmp 14) rfl (w1.heap.size + 1) (Vc.row ⟨a0, a1, a2, a3⟩) rfl rfl 45 _ hQ4 (vecSize Vc.zero) rfl (Vc.row_all _) ?_
      have hb5 : Below w1.heap.size w1 (w4.setRow (w1.heap.size + 1) (Vc.row ⟨a0, a1, a2, a3⟩)) := below_setRow hb4 (by omega) _
      have hS5 := hA.out.below hb5
      have hP5 : (w4.setRow (w1.heap.size + 1) (Vc.row ⟨a0, a1, a2, a3⟩)).heap[w1.heap.size]? = some (.cells (Vc.row ⟨a0, a1, a2, a3⟩) 45 (0, 0)) := (Go.setRow_other w4 (w1.heap.size + 1) w1.heap.size (Vc.row ⟨a0, a1, a2, a3⟩) (by omega)).trans hP4
      have hQ5 := setRow_heap w4 (w1.heap.size + 1) _ (Vc.row ⟨a0, a1, a2, a3⟩) 45 _ hQ4
      refine hK.out _ _ ⟨hb5, hS5.a0, hS5.a1, hS5.a2, hS5.a3⟩ (fun hHeld5 => ?_)
      clear hK K
      try simp only [Act.put]
      generalize w4.setRow (w1.heap.size + 1) (Vc.row ⟨a0, a1, a2, a3⟩) = w5 at *
      refine wpAnyH_done (by kernel_rfl) ?_ _
      refine NoPanic.normal ?_
      have hB5 := hide (hB.out.later hb5)
      have hpq : w1.heap.size ≠ (w1.heap.size + 1) := by omega
      have hpw : Hid (w.heap.size ≤ w1.heap.size) := by have := hB.out.size; show _ ≤ _; omega
      have hqw : Hid (w.heap.size ≤ (w1.heap.size + 1)) := by have := hB.out.size; show _ ≤ _; omega
      have hP := hide hP5
      have hQ := hide hQ5
      clear hP5 hQ5 hP4 hQ4 hS5 hb4 hb5 c0 c1 c2 c3 hHeld hHeld2 hHeld3 hHeld4 hHeld5
      generalize w1.heap.size + 1 = q at *
      generalize w1.heap.size = p at *
      go_wp2
      go_loopw [17] (fun i wr => ∃ j : Nat, j ≤ n ∧ i = .int .i64 j ∧ Hid (Below w.heap.size w wr) ∧ Hid (wr.heap[p]? = some (.cells (Vc.row ⟨a0, chF a1 (fun i => zs.getD i 0) j, a2, a3⟩) 45 (0, 0))) ∧ Hid (wr.heap[q]? = some (.cells (Vc.row ⟨a0, chF a1 (fun i => zs.getD (n - 1 - i) 0) j, a2, a3⟩) 45 (0, 0)))) (fun i _ => n - (intOf i).toNat)
      case atStart => exact ⟨0, Nat.zero_le _, rfl, hB5, hP, hQ⟩
      case round =>
        obtain ⟨j, hj, rfl, hBr, hPr, hQr⟩ := hrel
        by_cases hlt : j < n
        · obtain ⟨b, off, hab, z0⟩ := (hI.out.below hBr.out) j hlt
          obtain ⟨b', off', hab', z1⟩ := (hI.out.below hBr.out) (n - 1 - j) (by omega)
          subst hab
          simp only [Option.some.injEq, Addr.mk.injEq, and_true] at hab'
          obtain ⟨rfl, rfl⟩ := hab'
          have hU1 := chF_u64 (f := fun i => zs.getD i 0) hv.cost (fun i => hz.out i) j
          have hU2 := chF_u64 (f := fun i => zs.getD (n - 1 - i) 0) hv.cost (fun i => hz.out _) j
          have hz1 := hz.out j
          have hz2 := hz.out (n - 1 - j)
          have hA1 : Hid (chF a1 (fun i => zs.getD i 0) (j + 1) = overN (chF a1 (fun i => zs.getD i 0) j) (zs.getD j 0)) := rfl
          have hA2 : Hid (chF a1 (fun i => zs.getD (n - 1 - i) 0) (j + 1) = overN (chF a1 (fun i => zs.getD (n - 1 - i) 0) j) (zs.getD (n - 1 - j) 0)) := rfl
          generalize hX1 : chF a1 (fun i => zs.getD i 0) (j + 1) = X1 at *
          generalize hY1 : chF a1 (fun i => zs.getD (n - 1 - i) 0) (j + 1) = Y1 at *
          replace hX1 := hide hX1
          replace hY1 := hide hY1
          generalize chF a1 (fun i => zs.getD i 0) j = X at *
          generalize chF a1 (fun i => zs.getD (n - 1 - i) 0) j = Y at *
          generalize zs.getD j 0 = z at *
          generalize zs.getD (n - 1 - j) 0 = z' at *
          have hO1 := hide (fun w => Over_any ⟨a0, X, a2, a3⟩ z w hU1 hz1)
          have hO2 := hide (fun w => Over_any ⟨a0, Y, a2, a3⟩ z' w hU2 hz2)
          dsimp only at hO1 hO2
          rw [← hA1.out] at hO1
          rw [← hA2.out] at hO2
          clear hA1 hA2 hU1 hU2 hz1 hz2
          have hlw : b < w.heap.size := by
            obtain ⟨b2, off2, h1, h2⟩ := hI.out j hlt
            cases h1
            exact block_lt_of_cell h2
          have hpl : Hid (w.heap.size ≤ wr.heap.size) := hBr.out.size
          have hx0 : Hid (∀ W : World, W.heap[p]? = some (.cells (Vc.row ⟨a0, X, a2, a3⟩) 45 (0, 0)) → One W p ⟨a0, X, a2, a3⟩) := hide fun W hW => (One.of_heap (a := ⟨a0, X, a2, a3⟩) hW)
          have hy0 : Hid (∀ W : World, W.heap[q]? = some (.cells (Vc.row ⟨a0, Y, a2, a3⟩) 45 (0, 0)) → One W q ⟨a0, Y, a2, a3⟩) := hide fun W hW => (One.of_heap (a := ⟨a0, Y, a2, a3⟩) hW)
          go_wp2_with fail
          refine wp_region_noPanic ?_
          refine wp_region_held_drew (S := fun W => W.cell? ⟨b, off + j, none⟩ = some (.int .u64 z) ∧ W.cell? ⟨b, off + (n - 1 - j), none⟩ = some (.int .u64 z')) (by kernel_rfl) ⟨z0, z1⟩ (fun hHeld => ?_)
          refine wpAnyH_take (i := 1) (oi := { dst := some 21, op := Op.move (Operand.tmp 1), type := 66, pos := "law.go:151", after := #[], guard := none }) (v := ?v3) rfl (by kernel_rfl) (by kernel_rfl) (by kernel_rfl) (fun _ _ _ h => h) (Or.inl ⟨by rfl, ?y3⟩) (by assumption) ?r3
          case y3 => (intro w hSw; (try dsimp only at hSw); (try (go_split_ands)); go_simp; try with_reducible rfl)
          try simp only [Act.put, List.setIfInBounds_toArray, List.set_cons_zero, List.set_cons_succ]
          refine wpAnyH_take (i := 2) (oi := { dst := some 22, op := Op.move (Operand.tmp 7), type := 3, pos := "law.go:151", after := #[], guard := none }) (v := ?v4) rfl (by kernel_rfl) (by kernel_rfl) (by kernel_rfl) (fun _ _ _ h => h) (Or.inl ⟨by rfl, ?y4⟩) (by assumption) ?r4
          case y4 => (intro w hSw; (try dsimp only at hSw); (try (go_split_ands)); go_simp; try with_reducible rfl)
          try simp only [Act.put, List.setIfInBounds_toArray, List.set_cons_zero, List.set_cons_succ]
          refine wpAnyH_take (i := 3) (oi := { dst := some 23, op := Op.indexAddr 66 (Operand.tmp 21) (Operand.tmp 22), type := 0, pos := "law.go:151", after := #[{ on := 1, ground := Ground.data }, { on := 2, ground := Ground.data }], guard := none }) (v := ?v5) rfl (by kernel_rfl) (by kernel_rfl) (by kernel_rfl) (fun _ _ _ h => h) (Or.inl ⟨by rfl, ?y5⟩) (by assumption) ?r5
          case y5 => (intro w hSw; (try dsimp only at hSw); (try (go_split_ands)); go_simp; try with_reducible rfl)
          try simp only [Act.put, List.setIfInBounds_toArray, List.set_cons_zero, List.set_cons_succ]
          refine wpAnyH_take (i := 4) (oi := { dst := some 24, op := Op.load 43 (Operand.tmp 23), type := 43, pos := "law.go:151", after := #[{ on := 3, ground := Ground.data }], guard := none }) (v := ?v6) rfl (by kernel_rfl) (by kernel_rfl) (by kernel_rfl) (fun _ _ _ h => h) (Or.inl ⟨by rfl, ?y6⟩) (by assumption) ?r6
          case y6 => (intro w hSw; (try dsimp only at hSw); (try (go_split_ands)); go_simp; try with_reducible rfl)
          try simp only [Act.put, List.setIfInBounds_toArray, List.set_cons_zero, List.set_cons_succ]
          obtain ⟨x0, x1, x2, x3⟩ := hx0.out wr.drew hPr.out
          dsimp only at x0 x1 x2 x3
          refine wpAnyH_ready (rs := [0]) (by kernel_rfl) (by simp) ?_
          refine AllReadyH.cons (o := { dst := some 20, op := Op.load 45 (Operand.tmp 5), type := 45, pos := "law.go:151", after := #[], guard := none }) rfl (fun K hK => ?_) AllReadyH.nil
          go_simp
          refine hK.out _ _ ⟨z0, z1⟩ (fun hHeld0 => ?_)
          clear hK K
          try simp only [Act.put, List.setIfInBounds_toArray, List.set_cons_zero, List.set_cons_succ]
          refine wpAnyH_ready (rs := [5]) (by kernel_rfl) (by simp) ?_
          refine AllReadyH.cons (o := { dst := some 25, op := Op.call { callee := Callee.value (Operand.func 28), args := #[Operand.tmp 20, Operand.tmp 24], argTypes := #[45, 43] }, type := 45, pos := "law.go:151", after := #[{ on := 0, ground := Ground.data }, { on := 4, ground := Ground.data }], guard := none }) rfl (fun K hK => ?_) AllReadyH.nil
          go_simp
          refine (hO1.out _).mono ?_
          rintro e w6 ⟨rfl, hb6⟩
          replace hb6 : Below wr.heap.size wr w6 := (below_drewN (Below.refl _ _) 1).later hb6
          have hP6 := heap_kept hb6 hPr.out
          have hQ6 := heap_kept hb6 hQr.out
          have hl := Nat.lt_of_lt_of_le hlw hpl.out
          replace z0 := (hb6.cell (p := ⟨b, off + j, none⟩) hl).trans z0
          replace z1 := (hb6.cell (p := ⟨b, off + (n - 1 - j), none⟩) hl).trans z1
          have hB6 := hBr.out.later hb6
          clear x0 x1 x2 x3 hPr hQr hb6 hHeld0
          go_wp2_with fail
          refine hK.out _ _ ?_ (fun hHeld5 => ?_)
          · exact ⟨z0, z1⟩
          clear hK K
          try simp only [Act.put, List.setIfInBounds_toArray, List.set_cons_zero, List.set_cons_succ]
          refine wpAnyH_ready (rs := [6]) (by kernel_rfl) (by simp) ?_
          refine AllReadyH.cons (o := { dst := none, op := Op.store 45 (Operand.tmp 5) (Operand.tmp 25), type := 0, pos := "law.go:151", after := #[{ on := 5, ground := Ground.data }, { on := 5, ground := Ground.chain }, { on := 0, ground := Ground.phase }, { on := 1, ground := Ground.phase }, { on := 2, ground := Ground.phase }, { on := 3, ground := Ground.phase }, { on := 4, ground := Ground.phase }, { on := 5, ground := Ground.phase }], guard := none }) rfl (fun K hK => ?_) AllReadyH.nil
          refine step_store_row rfl 45 (.tmp 5) (.tmp 25) rfl p (Vc.row ⟨a0, X1, a2, a3⟩) rfl rfl 45 _ hP6 (vecSize Vc.zero) rfl (Vc.row_all _) ?_
          have hP7 := setRow_heap w6 p _ (Vc.row ⟨a0, X1, a2, a3⟩) 45 _ hP6
          have hQ7 : (w6.setRow p (Vc.row ⟨a0, X1, a2, a3⟩)).heap[q]? = some (.cells (Vc.row ⟨a0, Y, a2, a3⟩) 45 (0, 0)) := (Go.setRow_other w6 p q _ (Ne.symm hpq)).trans hQ6
          have hB7 : Below w.heap.size w (w6.setRow p (Vc.row ⟨a0, X1, a2, a3⟩)) := below_setRow hB6 hpw.out _
          replace z0 := (World.cell?_of_block (a := ⟨b, off + j, none⟩) (Go.setRow_other w6 p b (Vc.row ⟨a0, X1, a2, a3⟩) (by have := hpw.out; omega))).trans z0
          replace z1 := (World.cell?_of_block (a := ⟨b, off + (n - 1 - j), none⟩) (Go.setRow_other w6 p b (Vc.row ⟨a0, X1, a2, a3⟩) (by have := hpw.out; omega))).trans z1
          refine hK.out _ _ ⟨z0, z1⟩ (fun hHeld6 => ?_)
          clear hK K
          try simp only [Act.put]
          generalize w6.setRow p (Vc.row ⟨a0, X1, a2, a3⟩) = w7 at *
          clear hP6 hQ6 hB6 hl hHeld6 hHeld5
          refine wpAnyH_done (by kernel_rfl) ?_ _
          refine NoPanic.normal ?_
          go_wp2_with fail
          have e62 : (2 : Int) ^ 62 = 4611686018427387904 := by decide
          have hw1 : IntKind.i64.wrap ((n : Int) - 1) = (n : Int) - 1 := wrap_i64_62 _ (by omega) (by omega)
          have hw2 : IntKind.i64.wrap ((n : Int) - 1 - (j : Int)) = ((n - 1 - j : Nat) : Int) := (wrap_i64_62 _ (by omega) (by omega)).trans (by omega)
          have hjn : n - 1 - j < n := by omega
          clear e62
          refine wp_region_noPanic ?_
          refine wp_region_held_drew (S := fun W => W.cell? ⟨b, off + (n - 1 - j), none⟩ = some (.int .u64 z')) (by kernel_rfl) z1 (fun hHeld => ?_)
          refine wpAnyH_take (i := 1) (oi := { dst := some 27, op := Op.move (Operand.tmp 1), type := 66, pos := "law.go:152", after := #[], guard := none }) (v := ?v7) rfl (by kernel_rfl) (by kernel_rfl) (by kernel_rfl) (fun _ _ _ h => h) (Or.inl ⟨by rfl, ?y7⟩) (by assumption) ?r7
          case y7 => (intro w hSw; (try dsimp only at hSw); (try (go_split_ands)); go_simp; try with_reducible rfl)
          try simp only [Act.put, List.setIfInBounds_toArray, List.set_cons_zero, List.set_cons_succ]
          refine wpAnyH_take (i := 2) (oi := { dst := some 28, op := Op.move (Operand.tmp 1), type := 66, pos := "law.go:152", after := #[], guard := none }) (v := ?v8) rfl (by kernel_rfl) (by kernel_rfl) (by kernel_rfl) (fun _ _ _ h => h) (Or.inl ⟨by rfl, ?y8⟩) (by assumption) ?r8
          case y8 => (intro w hSw; (try dsimp only at hSw); (try (go_split_ands)); go_simp; try with_reducible rfl)
          try simp only [Act.put, List.setIfInBounds_toArray, List.set_cons_zero, List.set_cons_succ]
          refine wpAnyH_take (i := 3) (oi := { dst := some 29, op := Op.call { callee := Callee.builtin Builtin.len, args := #[Operand.tmp 28], argTypes := #[66] }, type := 3, pos := "law.go:152", after := #[{ on := 2, ground := Ground.data }], guard := none }) (v := ?v9) rfl (by kernel_rfl) (by kernel_rfl) (by kernel_rfl) (fun _ _ _ h => h) (Or.inl ⟨by rfl, ?y9⟩) (by assumption) ?r9
          case y9 => (intro w hSw; (try dsimp only at hSw); (try (go_split_ands)); go_simp; try with_reducible rfl)
          try simp only [Act.put, List.setIfInBounds_toArray, List.set_cons_zero, List.set_cons_succ]
          refine wpAnyH_take (i := 4) (oi := { dst := some 30, op := Op.binOp BinOp.sub 3 (Operand.tmp 29) (Operand.const (Value.int IntKind.i64 1)) 3, type := 3, pos := "law.go:152", after := #[{ on := 3, ground := Ground.data }], guard := none }) (v := ?v10) rfl (by kernel_rfl) (by kernel_rfl) (by kernel_rfl) (fun _ _ _ h => h) (Or.inl ⟨by rfl, ?y10⟩) (by assumption) ?r10
          case y10 => (intro w hSw; (try dsimp only at hSw); (try (go_split_ands)); go_simp; try with_reducible rfl)
          try simp only [Act.put, List.setIfInBounds_toArray, List.set_cons_zero, List.set_cons_succ]
          refine wpAnyH_take (i := 5) (oi := { dst := some 31, op := Op.move (Operand.tmp 7), type := 3, pos := "law.go:152", after := #[], guard := none }) (v := ?v11) rfl (by kernel_rfl) (by kernel_rfl) (by kernel_rfl) (fun _ _ _ h => h) (Or.inl ⟨by rfl, ?y11⟩) (by assumption) ?r11
          case y11 => (intro w hSw; (try dsimp only at hSw); (try (go_split_ands)); go_simp; try with_reducible rfl)
          try simp only [Act.put, List.setIfInBounds_toArray, List.set_cons_zero, List.set_cons_succ]
          refine wpAnyH_take (i := 6) (oi := { dst := some 32, op := Op.binOp BinOp.sub 3 (Operand.tmp 30) (Operand.tmp 31) 3, type := 3, pos := "law.go:152", after := #[{ on := 4, ground := Ground.data }, { on := 5, ground := Ground.data }], guard := none }) (v := ?v12) rfl (by kernel_rfl) (by kernel_rfl) (by kernel_rfl) (fun _ _ _ h => h) (Or.inl ⟨by rfl, ?y12⟩) (by assumption) ?r12
          case y12 => (intro w hSw; (try dsimp only at hSw); (try (go_split_ands)); go_simp; try with_reducible rfl)
          try simp only [Act.put, List.setIfInBounds_toArray, List.set_cons_zero, List.set_cons_succ]
          refine wpAnyH_take (i := 7) (oi := { dst := some 33, op := Op.indexAddr 66 (Operand.tmp 27) (Operand.tmp 32), type := 0, pos := "law.go:152", after := #[{ on := 1, ground := Ground.data }, { on := 6, ground := Ground.data }], guard := none }) (v := ?v13) rfl (by kernel_rfl) (by kernel_rfl) (by kernel_rfl) (fun _ _ _ h => h) (Or.inl ⟨by rfl, ?y13⟩) (by assumption) ?r13
          case y13 => (intro w hSw; (try dsimp only at hSw); (try (go_split_ands)); go_simp; try with_reducible rfl)
          try simp only [Act.put, List.setIfInBounds_toArray, List.set_cons_zero, List.set_cons_succ]
          refine wpAnyH_take (i := 8) (oi := { dst := some 34, op := Op.load 43 (Operand.tmp 33), type := 43, pos := "law.go:152", after := #[{ on := 7, ground := Ground.data }], guard := none }) (v := ?v14) rfl (by kernel_rfl) (by kernel_rfl) (by kernel_rfl) (fun _ _ _ h => h) (Or.inl ⟨by rfl, ?y14⟩) (by assumption) ?r14
          case y14 => (intro w hSw; (try dsimp only at hSw); (try (go_split_ands)); go_simp; try with_reducible rfl)
          try simp only [Act.put, List.setIfInBounds_toArray, List.set_cons_zero, List.set_cons_succ]
          obtain ⟨x0, x1, x2, x3⟩ := hy0.out w7.drew hQ7
          dsimp only at x0 x1 x2 x3
          refine wpAnyH_ready (rs := [0]) (by kernel_rfl) (by simp) ?_
          refine AllReadyH.cons (o := { dst := some 26, op := Op.load 45 (Operand.tmp 6), type := 45, pos := "law.go:152", after := #[], guard := none }) rfl (fun K hK => ?_) AllReadyH.nil
          go_simp
          refine hK.out _ _ z1 (fun hHeld0 => ?_)
          clear hK K
          try simp only [Act.put, List.setIfInBounds_toArray, List.set_cons_zero, List.set_cons_succ]
          refine wpAnyH_ready (rs := [9]) (by kernel_rfl) (by simp) ?_
          refine AllReadyH.cons (o := { dst := some 35, op := Op.call { callee := Callee.value (Operand.func 28), args := #[Operand.tmp 26, Operand.tmp 34], argTypes := #[45, 43] }, type := 45, pos := "law.go:152", after := #[{ on := 0, ground := Ground.data }, { on := 8, ground := Ground.data }], guard := none }) rfl (fun K hK => ?_) AllReadyH.nil
          go_simp
          refine (hO2.out _).mono ?_
          rintro e w8 ⟨rfl, hb8⟩
          replace hb8 : Below w7.heap.size w7 w8 := (below_drewN (Below.refl _ _) 1).later hb8
          have hP8 := heap_kept hb8 hP7
          have hQ8 := heap_kept hb8 hQ7
          replace z1 := (hb8.cell (p := ⟨b, off + (n - 1 - j), none⟩) (Nat.lt_of_lt_of_le hlw hB7.size)).trans z1
          have hB8 := hB7.later hb8
          clear x0 x1 x2 x3 hb8 hP7 hQ7 hB7 hHeld0
          go_wp2_with fail
          refine hK.out _ _ ?_ (fun hHeld9 => ?_)
          · exact z1
          clear hK K
          try simp only [Act.put, List.setIfInBounds_toArray, List.set_cons_zero, List.set_cons_succ]
          refine wpAnyH_ready (rs := [10]) (by kernel_rfl) (by simp) ?_
          refine AllReadyH.cons (o := { dst := none, op := Op.store 45 (Operand.tmp 6) (Operand.tmp 35), type := 0, pos := "law.go:152", after := #[{ on := 9, ground := Ground.data }, { on := 9, ground := Ground.chain }, { on := 0, ground := Ground.phase }, { on := 1, ground := Ground.phase }, { on := 2, ground := Ground.phase }, { on := 3, ground := Ground.phase }, { on := 4, ground := Ground.phase }, { on := 5, ground := Ground.phase }, { on := 6, ground := Ground.phase }, { on := 7, ground := Ground.phase }, { on := 8, ground := Ground.phase }, { on := 9, ground := Ground.phase }], guard := none }) rfl (fun K hK => ?_) AllReadyH.nil
          refine step_store_row rfl 45 (.tmp 6) (.tmp 35) rfl q (Vc.row ⟨a0, Y1, a2, a3⟩) rfl rfl 45 _ hQ8 (vecSize Vc.zero) rfl (Vc.row_all _) ?_
          have hQ9 := setRow_heap w8 q _ (Vc.row ⟨a0, Y1, a2, a3⟩) 45 _ hQ8
          have hP9 : (w8.setRow q (Vc.row ⟨a0, Y1, a2, a3⟩)).heap[p]? = some (.cells (Vc.row ⟨a0, X1, a2, a3⟩) 45 (0, 0)) := (Go.setRow_other w8 q p _ hpq).trans hP8
          have hB9 : Below w.heap.size w (w8.setRow q (Vc.row ⟨a0, Y1, a2, a3⟩)) := below_setRow hB8 hqw.out _
          replace z1 := (World.cell?_of_block (a := ⟨b, off + (n - 1 - j), none⟩) (Go.setRow_other w8 q b (Vc.row ⟨a0, Y1, a2, a3⟩) (by have := hqw.out; omega))).trans z1
          refine hK.out _ _ z1 (fun hHeld10 => ?_)
          clear hK K
          try simp only [Act.put]
          generalize w8.setRow q (Vc.row ⟨a0, Y1, a2, a3⟩) = w9 at *
          clear hP8 hQ8 hB8 hHeld10 hHeld9 z0 z1 hw1 hw2
          refine wpAnyH_done (by kernel_rfl) ?_ _
          refine NoPanic.normal ?_
          go_wp2
          go_round
          case rel => exact ⟨j + 1, by omega, by go_num, hide hB9, hide (by rw [hX1.out]; exact hP9), hide (by rw [hY1.out]; exact hQ9)⟩
          case measure => simp [intOf]; omega
        · obtain rfl : j = n := by omega
          have hE := chF_rev a1 (fun i => zs.getD i 0) (fun i => (hz.out i).1) j
          have hU1 := chF_u64 (f := fun i => zs.getD i 0) hv.cost (fun i => hz.out i) j
          rw [← hE] at hQr
          clear hE
          generalize chF a1 (fun i => zs.getD i 0) j = X at *
          have x0 : wr.cell? ⟨p, 0, none⟩ = some (.int .u64 a0) := (cell_of_row _ _ _ _ _ _ hPr.out).trans rfl
          have x1 : wr.cell? ⟨p, 1, none⟩ = some (.int .u64 X) := (cell_of_row _ _ _ _ _ _ hPr.out).trans rfl
          have x2 : wr.cell? ⟨p, 2, none⟩ = some (.int .u64 a2) := (cell_of_row _ _ _ _ _ _ hPr.out).trans rfl
          have x3 : wr.cell? ⟨p, 3, none⟩ = some (.int .i64 a3) := (cell_of_row _ _ _ _ _ _ hPr.out).trans rfl
          have y0 : wr.cell? ⟨q, 0, none⟩ = some (.int .u64 a0) := (cell_of_row _ _ _ _ _ _ hQr.out).trans rfl
          have y1 : wr.cell? ⟨q, 1, none⟩ = some (.int .u64 X) := (cell_of_row _ _ _ _ _ _ hQr.out).trans rfl
          have y2 : wr.cell? ⟨q, 2, none⟩ = some (.int .u64 a2) := (cell_of_row _ _ _ _ _ _ hQr.out).trans rfl
          have y3 : wr.cell? ⟨q, 3, none⟩ = some (.int .i64 a3) := (cell_of_row _ _ _ _ _ _ hQr.out).trans rfl
          have heq := vec_eql ⟨a0, X, a2, a3⟩ ⟨a0, X, a2, a3⟩ ⟨hv.root, hU1, hv.bridge, hv.port⟩ ⟨hv.root, hU1, hv.bridge, hv.port⟩
          rw [decide_eq_true rfl] at heq
          have hgd := eqGuard_vec
          go_wp2
          go_ret
          exact ⟨rfl, hBr.out⟩
    · go_simp
      have hb2 : Below w1.heap.size w1 (w1.alloc (.cells #[.int .u64 0, .int .u64 0, .int .u64 0, .int .i64 0] 45)).drew := below_drewN (below1 w1 _) 1
      have hS2 := hA.out.below hb2
      have hN2 : (w1.alloc (.cells #[.int .u64 0, .int .u64 0, .int .u64 0, .int .i64 0] 45)).drew.heap[w1.heap.size]? = some (.cells #[.int .u64 0, .int .u64 0, .int .u64 0, .int .i64 0] 45) := heap_alloc_new w1 _
      have hs2 : (w1.alloc (.cells #[.int .u64 0, .int .u64 0, .int .u64 0, .int .i64 0] 45)).drew.heap.size = w1.heap.size + 1 := World.size_alloc w1 _
      refine hK.out _ _ ⟨hb2, hS2.a0, hS2.a1, hS2.a2, hS2.a3⟩ (fun hHeld2 => ?_)
      clear hK K
      try simp only [Act.put, List.setIfInBounds_toArray, List.set_cons_zero, List.set_cons_succ]
      generalize (w1.alloc (.cells #[.int .u64 0, .int .u64 0, .int .u64 0, .int .i64 0] 45)).drew = w2 at *
      refine wpAnyH_ready (rs := [2]) (by kernel_rfl) (by simp) ?_
      refine AllReadyH.cons (o := { dst := some 5, op := Op.alloc 45, type := 0, pos := "law.go:149", after := #[], guard := none }) rfl (fun K hK => ?_) AllReadyH.nil
      go_simp
      have hb3 : Below w1.heap.size w1 (w2.alloc (.cells #[.int .u64 0, .int .u64 0, .int .u64 0, .int .i64 0] 45)) := hb2.later (below1 w2 _)
      have hS3 := hA.out.below hb3
      have hN3 : (w2.alloc (.cells #[.int .u64 0, .int .u64 0, .int .u64 0, .int .i64 0] 45)).heap[w1.heap.size + 1]? = some (.cells #[.int .u64 0, .int .u64 0, .int .u64 0, .int .i64 0] 45) := by rw [← hs2]; exact heap_alloc_new w2 _
      have hM3 := heap_kept (below1 w2 (.cells #[.int .u64 0, .int .u64 0, .int .u64 0, .int .i64 0] 45)) hN2
      refine hK.out _ _ ⟨hb3, hS3.a0, hS3.a1, hS3.a2, hS3.a3⟩ (fun hHeld3 => ?_)
      clear hK K
      try simp only [Act.put, List.setIfInBounds_toArray, List.set_cons_zero, List.set_cons_succ]
      generalize w2.alloc (.cells #[.int .u64 0, .int .u64 0, .int .u64 0, .int .i64 0] 45) = w3 at *
      clear hN2 hs2 hb2 hS2 hS3
      refine wpAnyH_ready (rs := [4]) (by kernel_rfl) (by simp) ?_
      refine AllReadyH.cons (o := { dst := none, op := Op.store 45 (Operand.tmp 5) (Operand.tmp 13), type := 0, pos := "law.go:149", after := #[{ on := 2, ground := Ground.data }, { on := 0, ground := Ground.data }, { on := 0, ground := Ground.phase }, { on := 1, ground := Ground.textOnly Departure.lateStores }, { on := 2, ground := Ground.phase }, { on := 3, ground := Ground.phase }], guard := none }) rfl (fun K hK => ?_) AllReadyH.nil
      refine step_store_row rfl 45 (.tmp 5) (.tmp 13) rfl (w1.heap.size + 1) (Vc.row ⟨a0, a1, a2, a3⟩) rfl rfl 45 _ hN3 (vecSize Vc.zero) rfl (Vc.row_all _) ?_
      have hb4 : Below w1.heap.size w1 (w3.setRow (w1.heap.size + 1) (Vc.row ⟨a0, a1, a2, a3⟩)) := below_setRow hb3 (by omega) _
      have hS4 := hA.out.below hb4
      have hP4 := setRow_heap w3 (w1.heap.size + 1) _ (Vc.row ⟨a0, a1, a2, a3⟩) 45 _ hN3
      have hQ4 : (w3.setRow (w1.heap.size + 1) (Vc.row ⟨a0, a1, a2, a3⟩)).heap[w1.heap.size]? = some (.cells #[.int .u64 0, .int .u64 0, .int .u64 0, .int .i64 0] 45 (0, 0)) := (Go.setRow_other w3 (w1.heap.size + 1) w1.heap.size (Vc.row ⟨a0, a1, a2, a3⟩) (by omega)).trans hM3
      refine hK.out _ _ ⟨hb4, hS4.a0, hS4.a1, hS4.a2, hS4.a3⟩ (fun hHeld4 => ?_)
      clear hK K
      try simp only [Act.put]
      generalize w3.setRow (w1.heap.size + 1) (Vc.row ⟨a0, a1, a2, a3⟩) = w4 at *
      clear hS4 hM3 hN3 hb3
      refine wpAnyH_ready (rs := [5]) (by kernel_rfl) (by simp) ?_
      refine AllReadyH.cons (o := { dst := none, op := Op.store 45 (Operand.tmp 6) (Operand.tmp 14), type := 0, pos := "law.go:149", after := #[{ on := 3, ground := Ground.data }, { on := 1, ground := Ground.data }, { on := 4, ground := Ground.chain }, { on := 0, ground := Ground.phase }, { on := 1, ground := Ground.phase }, { on := 2, ground := Ground.phase }, { on := 3, ground := Ground.phase }, { on := 4, ground := Ground.phase }], guard := none }) rfl (fun K hK => ?_) AllReadyH.nil
      refine step_store_row rfl 45 (.tmp 6) (.tmp 14) rfl w1.heap.size (Vc.row ⟨a0, a1, a2, a3⟩) rfl rfl 45 _ hQ4 (vecSize Vc.zero) rfl (Vc.row_all _) ?_
      have hb5 : Below w1.heap.size w1 (w4.setRow w1.heap.size (Vc.row ⟨a0, a1, a2, a3⟩)) := below_setRow hb4 (by omega) _
      have hS5 := hA.out.below hb5
      have hP5 : (w4.setRow w1.heap.size (Vc.row ⟨a0, a1, a2, a3⟩)).heap[(w1.heap.size + 1)]? = some (.cells (Vc.row ⟨a0, a1, a2, a3⟩) 45 (0, 0)) := (Go.setRow_other w4 w1.heap.size (w1.heap.size + 1) (Vc.row ⟨a0, a1, a2, a3⟩) (by omega)).trans hP4
      have hQ5 := setRow_heap w4 w1.heap.size _ (Vc.row ⟨a0, a1, a2, a3⟩) 45 _ hQ4
      refine hK.out _ _ ⟨hb5, hS5.a0, hS5.a1, hS5.a2, hS5.a3⟩ (fun hHeld5 => ?_)
      clear hK K
      try simp only [Act.put]
      generalize w4.setRow w1.heap.size (Vc.row ⟨a0, a1, a2, a3⟩) = w5 at *
      refine wpAnyH_done (by kernel_rfl) ?_ _
      refine NoPanic.normal ?_
      have hB5 := hide (hB.out.later hb5)
      have hpq : (w1.heap.size + 1) ≠ w1.heap.size := by omega
      have hpw : Hid (w.heap.size ≤ (w1.heap.size + 1)) := by have := hB.out.size; show _ ≤ _; omega
      have hqw : Hid (w.heap.size ≤ w1.heap.size) := by have := hB.out.size; show _ ≤ _; omega
      have hP := hide hP5
      have hQ := hide hQ5
      clear hP5 hQ5 hP4 hQ4 hS5 hb4 hb5 c0 c1 c2 c3 hHeld hHeld2 hHeld3 hHeld4 hHeld5
      generalize w1.heap.size + 1 = p at *
      generalize w1.heap.size = q at *
      go_wp2
      go_loopw [17] (fun i wr => ∃ j : Nat, j ≤ n ∧ i = .int .i64 j ∧ Hid (Below w.heap.size w wr) ∧ Hid (wr.heap[p]? = some (.cells (Vc.row ⟨a0, chF a1 (fun i => zs.getD i 0) j, a2, a3⟩) 45 (0, 0))) ∧ Hid (wr.heap[q]? = some (.cells (Vc.row ⟨a0, chF a1 (fun i => zs.getD (n - 1 - i) 0) j, a2, a3⟩) 45 (0, 0)))) (fun i _ => n - (intOf i).toNat)
      case atStart => exact ⟨0, Nat.zero_le _, rfl, hB5, hP, hQ⟩
      case round =>
        obtain ⟨j, hj, rfl, hBr, hPr, hQr⟩ := hrel
        by_cases hlt : j < n
        · obtain ⟨b, off, hab, z0⟩ := (hI.out.below hBr.out) j hlt
          obtain ⟨b', off', hab', z1⟩ := (hI.out.below hBr.out) (n - 1 - j) (by omega)
          subst hab
          simp only [Option.some.injEq, Addr.mk.injEq, and_true] at hab'
          obtain ⟨rfl, rfl⟩ := hab'
          have hU1 := chF_u64 (f := fun i => zs.getD i 0) hv.cost (fun i => hz.out i) j
          have hU2 := chF_u64 (f := fun i => zs.getD (n - 1 - i) 0) hv.cost (fun i => hz.out _) j
          have hz1 := hz.out j
          have hz2 := hz.out (n - 1 - j)
          have hA1 : Hid (chF a1 (fun i => zs.getD i 0) (j + 1) = overN (chF a1 (fun i => zs.getD i 0) j) (zs.getD j 0)) := rfl
          have hA2 : Hid (chF a1 (fun i => zs.getD (n - 1 - i) 0) (j + 1) = overN (chF a1 (fun i => zs.getD (n - 1 - i) 0) j) (zs.getD (n - 1 - j) 0)) := rfl
          generalize hX1 : chF a1 (fun i => zs.getD i 0) (j + 1) = X1 at *
          generalize hY1 : chF a1 (fun i => zs.getD (n - 1 - i) 0) (j + 1) = Y1 at *
          replace hX1 := hide hX1
          replace hY1 := hide hY1
          generalize chF a1 (fun i => zs.getD i 0) j = X at *
          generalize chF a1 (fun i => zs.getD (n - 1 - i) 0) j = Y at *
          generalize zs.getD j 0 = z at *
          generalize zs.getD (n - 1 - j) 0 = z' at *
          have hO1 := hide (fun w => Over_any ⟨a0, X, a2, a3⟩ z w hU1 hz1)
          have hO2 := hide (fun w => Over_any ⟨a0, Y, a2, a3⟩ z' w hU2 hz2)
          dsimp only at hO1 hO2
          rw [← hA1.out] at hO1
          rw [← hA2.out] at hO2
          clear hA1 hA2 hU1 hU2 hz1 hz2
          have hlw : b < w.heap.size := by
            obtain ⟨b2, off2, h1, h2⟩ := hI.out j hlt
            cases h1
            exact block_lt_of_cell h2
          have hpl : Hid (w.heap.size ≤ wr.heap.size) := hBr.out.size
          have hx0 : Hid (∀ W : World, W.heap[p]? = some (.cells (Vc.row ⟨a0, X, a2, a3⟩) 45 (0, 0)) → One W p ⟨a0, X, a2, a3⟩) := hide fun W hW => (One.of_heap (a := ⟨a0, X, a2, a3⟩) hW)
          have hy0 : Hid (∀ W : World, W.heap[q]? = some (.cells (Vc.row ⟨a0, Y, a2, a3⟩) 45 (0, 0)) → One W q ⟨a0, Y, a2, a3⟩) := hide fun W hW => (One.of_heap (a := ⟨a0, Y, a2, a3⟩) hW)
          go_wp2_with fail
          refine wp_region_noPanic ?_
          refine wp_region_held_drew (S := fun W => W.cell? ⟨b, off + j, none⟩ = some (.int .u64 z) ∧ W.cell? ⟨b, off + (n - 1 - j), none⟩ = some (.int .u64 z')) (by kernel_rfl) ⟨z0, z1⟩ (fun hHeld => ?_)
          refine wpAnyH_take (i := 1) (oi := { dst := some 21, op := Op.move (Operand.tmp 1), type := 66, pos := "law.go:151", after := #[], guard := none }) (v := ?v15) rfl (by kernel_rfl) (by kernel_rfl) (by kernel_rfl) (fun _ _ _ h => h) (Or.inl ⟨by rfl, ?y15⟩) (by assumption) ?r15
          case y15 => (intro w hSw; (try dsimp only at hSw); (try (go_split_ands)); go_simp; try with_reducible rfl)
          try simp only [Act.put, List.setIfInBounds_toArray, List.set_cons_zero, List.set_cons_succ]
          refine wpAnyH_take (i := 2) (oi := { dst := some 22, op := Op.move (Operand.tmp 7), type := 3, pos := "law.go:151", after := #[], guard := none }) (v := ?v16) rfl (by kernel_rfl) (by kernel_rfl) (by kernel_rfl) (fun _ _ _ h => h) (Or.inl ⟨by rfl, ?y16⟩) (by assumption) ?r16
          case y16 => (intro w hSw; (try dsimp only at hSw); (try (go_split_ands)); go_simp; try with_reducible rfl)
          try simp only [Act.put, List.setIfInBounds_toArray, List.set_cons_zero, List.set_cons_succ]
          refine wpAnyH_take (i := 3) (oi := { dst := some 23, op := Op.indexAddr 66 (Operand.tmp 21) (Operand.tmp 22), type := 0, pos := "law.go:151", after := #[{ on := 1, ground := Ground.data }, { on := 2, ground := Ground.data }], guard := none }) (v := ?v17) rfl (by kernel_rfl) (by kernel_rfl) (by kernel_rfl) (fun _ _ _ h => h) (Or.inl ⟨by rfl, ?y17⟩) (by assumption) ?r17
          case y17 => (intro w hSw; (try dsimp only at hSw); (try (go_split_ands)); go_simp; try with_reducible rfl)
          try simp only [Act.put, List.setIfInBounds_toArray, List.set_cons_zero, List.set_cons_succ]
          refine wpAnyH_take (i := 4) (oi := { dst := some 24, op := Op.load 43 (Operand.tmp 23), type := 43, pos := "law.go:151", after := #[{ on := 3, ground := Ground.data }], guard := none }) (v := ?v18) rfl (by kernel_rfl) (by kernel_rfl) (by kernel_rfl) (fun _ _ _ h => h) (Or.inl ⟨by rfl, ?y18⟩) (by assumption) ?r18
          case y18 => (intro w hSw; (try dsimp only at hSw); (try (go_split_ands)); go_simp; try with_reducible rfl)
          try simp only [Act.put, List.setIfInBounds_toArray, List.set_cons_zero, List.set_cons_succ]
          obtain ⟨x0, x1, x2, x3⟩ := hx0.out wr.drew hPr.out
          dsimp only at x0 x1 x2 x3
          refine wpAnyH_ready (rs := [0]) (by kernel_rfl) (by simp) ?_
          refine AllReadyH.cons (o := { dst := some 20, op := Op.load 45 (Operand.tmp 5), type := 45, pos := "law.go:151", after := #[], guard := none }) rfl (fun K hK => ?_) AllReadyH.nil
          go_simp
          refine hK.out _ _ ⟨z0, z1⟩ (fun hHeld0 => ?_)
          clear hK K
          try simp only [Act.put, List.setIfInBounds_toArray, List.set_cons_zero, List.set_cons_succ]
          refine wpAnyH_ready (rs := [5]) (by kernel_rfl) (by simp) ?_
          refine AllReadyH.cons (o := { dst := some 25, op := Op.call { callee := Callee.value (Operand.func 28), args := #[Operand.tmp 20, Operand.tmp 24], argTypes := #[45, 43] }, type := 45, pos := "law.go:151", after := #[{ on := 0, ground := Ground.data }, { on := 4, ground := Ground.data }], guard := none }) rfl (fun K hK => ?_) AllReadyH.nil
          go_simp
          refine (hO1.out _).mono ?_
          rintro e w6 ⟨rfl, hb6⟩
          replace hb6 : Below wr.heap.size wr w6 := (below_drewN (Below.refl _ _) 1).later hb6
          have hP6 := heap_kept hb6 hPr.out
          have hQ6 := heap_kept hb6 hQr.out
          have hl := Nat.lt_of_lt_of_le hlw hpl.out
          replace z0 := (hb6.cell (p := ⟨b, off + j, none⟩) hl).trans z0
          replace z1 := (hb6.cell (p := ⟨b, off + (n - 1 - j), none⟩) hl).trans z1
          have hB6 := hBr.out.later hb6
          clear x0 x1 x2 x3 hPr hQr hb6 hHeld0
          go_wp2_with fail
          refine hK.out _ _ ?_ (fun hHeld5 => ?_)
          · exact ⟨z0, z1⟩
          clear hK K
          try simp only [Act.put, List.setIfInBounds_toArray, List.set_cons_zero, List.set_cons_succ]
          refine wpAnyH_ready (rs := [6]) (by kernel_rfl) (by simp) ?_
          refine AllReadyH.cons (o := { dst := none, op := Op.store 45 (Operand.tmp 5) (Operand.tmp 25), type := 0, pos := "law.go:151", after := #[{ on := 5, ground := Ground.data }, { on := 5, ground := Ground.chain }, { on := 0, ground := Ground.phase }, { on := 1, ground := Ground.phase }, { on := 2, ground := Ground.phase }, { on := 3, ground := Ground.phase }, { on := 4, ground := Ground.phase }, { on := 5, ground := Ground.phase }], guard := none }) rfl (fun K hK => ?_) AllReadyH.nil
          refine step_store_row rfl 45 (.tmp 5) (.tmp 25) rfl p (Vc.row ⟨a0, X1, a2, a3⟩) rfl rfl 45 _ hP6 (vecSize Vc.zero) rfl (Vc.row_all _) ?_
          have hP7 := setRow_heap w6 p _ (Vc.row ⟨a0, X1, a2, a3⟩) 45 _ hP6
          have hQ7 : (w6.setRow p (Vc.row ⟨a0, X1, a2, a3⟩)).heap[q]? = some (.cells (Vc.row ⟨a0, Y, a2, a3⟩) 45 (0, 0)) := (Go.setRow_other w6 p q _ (Ne.symm hpq)).trans hQ6
          have hB7 : Below w.heap.size w (w6.setRow p (Vc.row ⟨a0, X1, a2, a3⟩)) := below_setRow hB6 hpw.out _
          replace z0 := (World.cell?_of_block (a := ⟨b, off + j, none⟩) (Go.setRow_other w6 p b (Vc.row ⟨a0, X1, a2, a3⟩) (by have := hpw.out; omega))).trans z0
          replace z1 := (World.cell?_of_block (a := ⟨b, off + (n - 1 - j), none⟩) (Go.setRow_other w6 p b (Vc.row ⟨a0, X1, a2, a3⟩) (by have := hpw.out; omega))).trans z1
          refine hK.out _ _ ⟨z0, z1⟩ (fun hHeld6 => ?_)
          clear hK K
          try simp only [Act.put]
          generalize w6.setRow p (Vc.row ⟨a0, X1, a2, a3⟩) = w7 at *
          clear hP6 hQ6 hB6 hl hHeld6 hHeld5
          refine wpAnyH_done (by kernel_rfl) ?_ _
          refine NoPanic.normal ?_
          go_wp2_with fail
          have e62 : (2 : Int) ^ 62 = 4611686018427387904 := by decide
          have hw1 : IntKind.i64.wrap ((n : Int) - 1) = (n : Int) - 1 := wrap_i64_62 _ (by omega) (by omega)
          have hw2 : IntKind.i64.wrap ((n : Int) - 1 - (j : Int)) = ((n - 1 - j : Nat) : Int) := (wrap_i64_62 _ (by omega) (by omega)).trans (by omega)
          have hjn : n - 1 - j < n := by omega
          clear e62
          refine wp_region_noPanic ?_
          refine wp_region_held_drew (S := fun W => W.cell? ⟨b, off + (n - 1 - j), none⟩ = some (.int .u64 z')) (by kernel_rfl) z1 (fun hHeld => ?_)
          refine wpAnyH_take (i := 1) (oi := { dst := some 27, op := Op.move (Operand.tmp 1), type := 66, pos := "law.go:152", after := #[], guard := none }) (v := ?v19) rfl (by kernel_rfl) (by kernel_rfl) (by kernel_rfl) (fun _ _ _ h => h) (Or.inl ⟨by rfl, ?y19⟩) (by assumption) ?r19
          case y19 => (intro w hSw; (try dsimp only at hSw); (try (go_split_ands)); go_simp; try with_reducible rfl)
          try simp only [Act.put, List.setIfInBounds_toArray, List.set_cons_zero, List.set_cons_succ]
          refine wpAnyH_take (i := 2) (oi := { dst := some 28, op := Op.move (Operand.tmp 1), type := 66, pos := "law.go:152", after := #[], guard := none }) (v := ?v20) rfl (by kernel_rfl) (by kernel_rfl) (by kernel_rfl) (fun _ _ _ h => h) (Or.inl ⟨by rfl, ?y20⟩) (by assumption) ?r20
          case y20 => (intro w hSw; (try dsimp only at hSw); (try (go_split_ands)); go_simp; try with_reducible rfl)
          try simp only [Act.put, List.setIfInBounds_toArray, List.set_cons_zero, List.set_cons_succ]
          refine wpAnyH_take (i := 3) (oi := { dst := some 29, op := Op.call { callee := Callee.builtin Builtin.len, args := #[Operand.tmp 28], argTypes := #[66] }, type := 3, pos := "law.go:152", after := #[{ on := 2, ground := Ground.data }], guard := none }) (v := ?v21) rfl (by kernel_rfl) (by kernel_rfl) (by kernel_rfl) (fun _ _ _ h => h) (Or.inl ⟨by rfl, ?y21⟩) (by assumption) ?r21
          case y21 => (intro w hSw; (try dsimp only at hSw); (try (go_split_ands)); go_simp; try with_reducible rfl)
          try simp only [Act.put, List.setIfInBounds_toArray, List.set_cons_zero, List.set_cons_succ]
          refine wpAnyH_take (i := 4) (oi := { dst := some 30, op := Op.binOp BinOp.sub 3 (Operand.tmp 29) (Operand.const (Value.int IntKind.i64 1)) 3, type := 3, pos := "law.go:152", after := #[{ on := 3, ground := Ground.data }], guard := none }) (v := ?v22) rfl (by kernel_rfl) (by kernel_rfl) (by kernel_rfl) (fun _ _ _ h => h) (Or.inl ⟨by rfl, ?y22⟩) (by assumption) ?r22
          case y22 => (intro w hSw; (try dsimp only at hSw); (try (go_split_ands)); go_simp; try with_reducible rfl)
          try simp only [Act.put, List.setIfInBounds_toArray, List.set_cons_zero, List.set_cons_succ]
          refine wpAnyH_take (i := 5) (oi := { dst := some 31, op := Op.move (Operand.tmp 7), type := 3, pos := "law.go:152", after := #[], guard := none }) (v := ?v23) rfl (by kernel_rfl) (by kernel_rfl) (by kernel_rfl) (fun _ _ _ h => h) (Or.inl ⟨by rfl, ?y23⟩) (by assumption) ?r23
          case y23 => (intro w hSw; (try dsimp only at hSw); (try (go_split_ands)); go_simp; try with_reducible rfl)
          try simp only [Act.put, List.setIfInBounds_toArray, List.set_cons_zero, List.set_cons_succ]
          refine wpAnyH_take (i := 6) (oi := { dst := some 32, op := Op.binOp BinOp.sub 3 (Operand.tmp 30) (Operand.tmp 31) 3, type := 3, pos := "law.go:152", after := #[{ on := 4, ground := Ground.data }, { on := 5, ground := Ground.data }], guard := none }) (v := ?v24) rfl (by kernel_rfl) (by kernel_rfl) (by kernel_rfl) (fun _ _ _ h => h) (Or.inl ⟨by rfl, ?y24⟩) (by assumption) ?r24
          case y24 => (intro w hSw; (try dsimp only at hSw); (try (go_split_ands)); go_simp; try with_reducible rfl)
          try simp only [Act.put, List.setIfInBounds_toArray, List.set_cons_zero, List.set_cons_succ]
          refine wpAnyH_take (i := 7) (oi := { dst := some 33, op := Op.indexAddr 66 (Operand.tmp 27) (Operand.tmp 32), type := 0, pos := "law.go:152", after := #[{ on := 1, ground := Ground.data }, { on := 6, ground := Ground.data }], guard := none }) (v := ?v25) rfl (by kernel_rfl) (by kernel_rfl) (by kernel_rfl) (fun _ _ _ h => h) (Or.inl ⟨by rfl, ?y25⟩) (by assumption) ?r25
          case y25 => (intro w hSw; (try dsimp only at hSw); (try (go_split_ands)); go_simp; try with_reducible rfl)
          try simp only [Act.put, List.setIfInBounds_toArray, List.set_cons_zero, List.set_cons_succ]
          refine wpAnyH_take (i := 8) (oi := { dst := some 34, op := Op.load 43 (Operand.tmp 33), type := 43, pos := "law.go:152", after := #[{ on := 7, ground := Ground.data }], guard := none }) (v := ?v26) rfl (by kernel_rfl) (by kernel_rfl) (by kernel_rfl) (fun _ _ _ h => h) (Or.inl ⟨by rfl, ?y26⟩) (by assumption) ?r26
          case y26 => (intro w hSw; (try dsimp only at hSw); (try (go_split_ands)); go_simp; try with_reducible rfl)
          try simp only [Act.put, List.setIfInBounds_toArray, List.set_cons_zero, List.set_cons_succ]
          obtain ⟨x0, x1, x2, x3⟩ := hy0.out w7.drew hQ7
          dsimp only at x0 x1 x2 x3
          refine wpAnyH_ready (rs := [0]) (by kernel_rfl) (by simp) ?_
          refine AllReadyH.cons (o := { dst := some 26, op := Op.load 45 (Operand.tmp 6), type := 45, pos := "law.go:152", after := #[], guard := none }) rfl (fun K hK => ?_) AllReadyH.nil
          go_simp
          refine hK.out _ _ z1 (fun hHeld0 => ?_)
          clear hK K
          try simp only [Act.put, List.setIfInBounds_toArray, List.set_cons_zero, List.set_cons_succ]
          refine wpAnyH_ready (rs := [9]) (by kernel_rfl) (by simp) ?_
          refine AllReadyH.cons (o := { dst := some 35, op := Op.call { callee := Callee.value (Operand.func 28), args := #[Operand.tmp 26, Operand.tmp 34], argTypes := #[45, 43] }, type := 45, pos := "law.go:152", after := #[{ on := 0, ground := Ground.data }, { on := 8, ground := Ground.data }], guard := none }) rfl (fun K hK => ?_) AllReadyH.nil
          go_simp
          refine (hO2.out _).mono ?_
          rintro e w8 ⟨rfl, hb8⟩
          replace hb8 : Below w7.heap.size w7 w8 := (below_drewN (Below.refl _ _) 1).later hb8
          have hP8 := heap_kept hb8 hP7
          have hQ8 := heap_kept hb8 hQ7
          replace z1 := (hb8.cell (p := ⟨b, off + (n - 1 - j), none⟩) (Nat.lt_of_lt_of_le hlw hB7.size)).trans z1
          have hB8 := hB7.later hb8
          clear x0 x1 x2 x3 hb8 hP7 hQ7 hB7 hHeld0
          go_wp2_with fail
          refine hK.out _ _ ?_ (fun hHeld9 => ?_)
          · exact z1
          clear hK K
          try simp only [Act.put, List.setIfInBounds_toArray, List.set_cons_zero, List.set_cons_succ]
          refine wpAnyH_ready (rs := [10]) (by kernel_rfl) (by simp) ?_
          refine AllReadyH.cons (o := { dst := none, op := Op.store 45 (Operand.tmp 6) (Operand.tmp 35), type := 0, pos := "law.go:152", after := #[{ on := 9, ground := Ground.data }, { on := 9, ground := Ground.chain }, { on := 0, ground := Ground.phase }, { on := 1, ground := Ground.phase }, { on := 2, ground := Ground.phase }, { on := 3, ground := Ground.phase }, { on := 4, ground := Ground.phase }, { on := 5, ground := Ground.phase }, { on := 6, ground := Ground.phase }, { on := 7, ground := Ground.phase }, { on := 8, ground := Ground.phase }, { on := 9, ground := Ground.phase }], guard := none }) rfl (fun K hK => ?_) AllReadyH.nil
          refine step_store_row rfl 45 (.tmp 6) (.tmp 35) rfl q (Vc.row ⟨a0, Y1, a2, a3⟩) rfl rfl 45 _ hQ8 (vecSize Vc.zero) rfl (Vc.row_all _) ?_
          have hQ9 := setRow_heap w8 q _ (Vc.row ⟨a0, Y1, a2, a3⟩) 45 _ hQ8
          have hP9 : (w8.setRow q (Vc.row ⟨a0, Y1, a2, a3⟩)).heap[p]? = some (.cells (Vc.row ⟨a0, X1, a2, a3⟩) 45 (0, 0)) := (Go.setRow_other w8 q p _ hpq).trans hP8
          have hB9 : Below w.heap.size w (w8.setRow q (Vc.row ⟨a0, Y1, a2, a3⟩)) := below_setRow hB8 hqw.out _
          replace z1 := (World.cell?_of_block (a := ⟨b, off + (n - 1 - j), none⟩) (Go.setRow_other w8 q b (Vc.row ⟨a0, Y1, a2, a3⟩) (by have := hqw.out; omega))).trans z1
          refine hK.out _ _ z1 (fun hHeld10 => ?_)
          clear hK K
          try simp only [Act.put]
          generalize w8.setRow q (Vc.row ⟨a0, Y1, a2, a3⟩) = w9 at *
          clear hP8 hQ8 hB8 hHeld10 hHeld9 z0 z1 hw1 hw2
          refine wpAnyH_done (by kernel_rfl) ?_ _
          refine NoPanic.normal ?_
          go_wp2
          go_round
          case rel => exact ⟨j + 1, by omega, by go_num, hide hB9, hide (by rw [hX1.out]; exact hP9), hide (by rw [hY1.out]; exact hQ9)⟩
          case measure => simp [intOf]; omega
        · obtain rfl : j = n := by omega
          have hE := chF_rev a1 (fun i => zs.getD i 0) (fun i => (hz.out i).1) j
          have hU1 := chF_u64 (f := fun i => zs.getD i 0) hv.cost (fun i => hz.out i) j
          rw [← hE] at hQr
          clear hE
          generalize chF a1 (fun i => zs.getD i 0) j = X at *
          have x0 : wr.cell? ⟨p, 0, none⟩ = some (.int .u64 a0) := (cell_of_row _ _ _ _ _ _ hPr.out).trans rfl
          have x1 : wr.cell? ⟨p, 1, none⟩ = some (.int .u64 X) := (cell_of_row _ _ _ _ _ _ hPr.out).trans rfl
          have x2 : wr.cell? ⟨p, 2, none⟩ = some (.int .u64 a2) := (cell_of_row _ _ _ _ _ _ hPr.out).trans rfl
          have x3 : wr.cell? ⟨p, 3, none⟩ = some (.int .i64 a3) := (cell_of_row _ _ _ _ _ _ hPr.out).trans rfl
          have y0 : wr.cell? ⟨q, 0, none⟩ = some (.int .u64 a0) := (cell_of_row _ _ _ _ _ _ hQr.out).trans rfl
          have y1 : wr.cell? ⟨q, 1, none⟩ = some (.int .u64 X) := (cell_of_row _ _ _ _ _ _ hQr.out).trans rfl
          have y2 : wr.cell? ⟨q, 2, none⟩ = some (.int .u64 a2) := (cell_of_row _ _ _ _ _ _ hQr.out).trans rfl
          have y3 : wr.cell? ⟨q, 3, none⟩ = some (.int .i64 a3) := (cell_of_row _ _ _ _ _ _ hQr.out).trans rfl
          have heq := vec_eql ⟨a0, X, a2, a3⟩ ⟨a0, X, a2, a3⟩ ⟨hv.root, hU1, hv.bridge, hv.port⟩ ⟨hv.root, hU1, hv.bridge, hv.port⟩
          rw [decide_eq_true rfl] at heq
          have hgd := eqGuard_vec
          go_wp2
          go_ret
          exact ⟨rfl, hBr.out⟩
end Go.Proofs.Ytjfjohbibkidhaa
