/-
  VlanClasses, walked, given what 'of' comes to. Conditions: those that each theorem names.
-/
import Derived.Test.YtffbblcohgkmjaaLVs0
namespace Go.Proofs.Ytffbblcohgkmjaa
open Go.RowKit Go.Maps
set_option linter.unusedVariables false
set_option maxRecDepth 20000

theorem and_small (x : Int) (k : Nat) (hk : k ≤ 12) : 0 ≤ bits .and .i64 x ((2 ^ k - 1 : Nat) : Int) ∧ bits .and .i64 x ((2 ^ k - 1 : Nat) : Int) ≤ ((2 ^ k - 1 : Nat) : Int) := by
  have hp : (2 : Nat) ^ k ≤ 2 ^ 12 := Nat.pow_le_pow_right (by decide) hk
  have h0 := Nat.two_pow_pos k
  have e : bits .and .i64 x ((2 ^ k - 1 : Nat) : Int) = IntKind.i64.wrap ((BitVec.ofInt 64 x &&& BitVec.ofInt 64 ((2 ^ k - 1 : Nat) : Int)).toNat : Nat) := rfl
  have hle : (BitVec.ofInt 64 x &&& BitVec.ofInt 64 ((2 ^ k - 1 : Nat) : Int)).toNat ≤ 2 ^ k - 1 := by
    rw [BitVec.toNat_and, BitVec.ofInt_natCast, BitVec.toNat_ofNat, Nat.mod_eq_of_lt (by omega)]
    exact Nat.and_le_right
  rw [e, IntKind.wrap_i64]
  omega
theorem bit_zero (x : Int) (k : Nat) : (bits .and .i64 (x / 2 ^ k) 1 == 0) = !bitAt x k := by
  have h := and_small (x / 2 ^ k) 1 (by decide)
  have e : bitAt x k = (bits .and .i64 (x / 2 ^ k) 1 == 1) := by unfold bitAt; rw [Int.toNat_natCast]
  rw [e]
  rw [show ((2 ^ 1 - 1 : Nat) : Int) = 1 from rfl] at h
  generalize bits .and .i64 (x / 2 ^ k) 1 = y at *
  rcases (show y = 0 ∨ y = 1 by omega) with rfl | rfl <;> rfl
theorem hdrSize (tg : Bool) (q v : Int) : (Try.prog.info? 39).map (·.size) = some (hdrA tg q v).size := by kernel_rfl
set_option maxHeartbeats 16000000 in
theorem VClasses_walk (m z0 z1 z2 z3 : Int) (b : Option Addr) (L cap : Nat) (xs : List Va) (w : World) (hX : Hid (Vas w b L xs)) (hLm : L ≤ maxLen)
    (hOf : Hid (∀ w' : World, Hid (Vas w' b L xs) → L ≤ 150 → OfIs w' m b L cap)) :
    Calls Try.prog 4 #[.int .i64 m, .slice b L cap, .agg #[.int .i64 z0, .int .i64 z1, .int .i64 z2, .int .i64 z3]] w fun r w' => r = .returned (.bool true) ∧ Below w.heap.size w w' := by
  have hb0 := hide (below1 w (.cells #[.int .i64 z0, .int .i64 z1, .int .i64 z2, .int .i64 z3] 35))
  have hF := hide (heap_alloc_new w (.cells #[.int .i64 z0, .int .i64 z1, .int .i64 z2, .int .i64 z3] 35))
  have hO := hide (tells11_any (w.alloc (.cells #[.int .i64 z0, .int .i64 z1, .int .i64 z2, .int .i64 z3] 35)))
  have hl63 : L ≤ 9223372036854775807 := by simp only [maxLen] at hLm; omega
  clear hLm
  go_enter Try.func4, Try.ntmps4
  go_wp2_with fail
  refine hO.out.mono ?_
  rintro e w1 ⟨rfl, hb1⟩
  have hX1 := hide ((hX.out.below hb0.out).below hb1)
  have hF1 := hide (heap_kept hb1 hF.out)
  replace hb1 := hide (hb0.out.later hb1)
  clear hO hX hF hb0
  by_cases hbig : 150 < L
  · go_wp2
    go_ret
    exact ⟨rfl, hb1.out⟩
  have q9 : decide ((150 : Int) < (L : Int)) = false := decide_eq_false (by omega)
  have hc := hOf.out w1 hX1 (by omega)
  unfold OfIs at hc
  replace hc := hide hc
  clear hOf hX1
  generalize portsN m = n at *
  go_wp2_with fail
  refine hc.out.mono ?_
  rintro e w2 ⟨K0, g, pb, mb, a, s, m1, m2, rfl, ps, f, c, fm, fp, cm, cp, hV, hT, hps, hbig', hpv⟩
  have hn16 : n ≤ 16 := by rw [← hps]; exact hV.tbl.few
  have hB2 : Hid (Below w.heap.size w w2) := hb1.out.later hV.below
  have hF2 := heap_kept hV.below hF1.out
  clear hc hb1
  go_wp2_with ((with_reducible change wpList _ _ _ _ _ _); refine stop_storeB 28 (.tmp 8) (.tmp 30) rfl ?_)
  refine hide (wpList_store_fresh rfl 28 (.tmp 8) (.tmp 30) rfl #[.slice (some ⟨s, 0, none⟩) n n, .map (some m1), .map (some m2)] mdZero rfl rfl 28 (mdSize _ _ _ _) rfl (by simp [Value.oneCell']) ?_)
  intro w3 h3 hb3
  have hV3 := hide (hV.later hb3)
  have hB3 := hide (hB2.out.later hb3)
  have hF3 := heap_kept hb3 hF2
  have f0 : w3.cell? ⟨w.heap.size, 0, none⟩ = some (.int .i64 z0) := (cell_of_row _ _ _ _ _ _ hF3).trans rfl
  have f1 : w3.cell? ⟨w.heap.size, 1, none⟩ = some (.int .i64 z1) := (cell_of_row _ _ _ _ _ _ hF3).trans rfl
  have f2 : w3.drew.cell? ⟨w.heap.size, 2, none⟩ = some (.int .i64 z2) := (cell_of_row _ _ _ _ _ _ hF3).trans rfl
  have f3 : w3.drew.cell? ⟨w.heap.size, 3, none⟩ = some (.int .i64 z3) := (cell_of_row _ _ _ _ _ _ hF3).trans rfl
  have hE3 : Hid (w3.heap[w2.heap.size]? = some (.cells #[.slice (some ⟨s, 0, none⟩) n n, .map (some m1), .map (some m2)] 28 (0, 0))) := h3
  clear hV hB2 h3 hb3 hF1 hF2 hF3
  generalize w2.heap.size = E at *
  clear w2
  replace hT := hide hT
  replace hpv := hide hpv
  clear hbig'
  obtain ⟨tg, htg⟩ : ∃ tg : Bool, (z1 == 1) = tg := ⟨_, rfl⟩
  obtain ⟨V, hVe⟩ : ∃ V, bits .and .i64 z2 4095 = V := ⟨_, rfl⟩
  obtain ⟨Q, hQe⟩ : ∃ Q, bits .and .i64 z3 7 = Q := ⟨_, rfl⟩
  have hVr : Hid (0 ≤ V ∧ V ≤ 4095) := by rw [← hVe]; exact and_small z2 12 (by decide)
  go_wp2_with fail
  refine wp_region_noPanic ?_
  refine wp_region_held_drew (S := fun W => W.cell? ⟨w.heap.size, 0, none⟩ = some (.int .i64 z0) ∧ W.cell? ⟨w.heap.size, 1, none⟩ = some (.int .i64 z1)) (by kernel_rfl) ⟨f0, f1⟩ (fun hHeld => ?_)
  refine wpAnyH_take (i := 0) (oi := { dst := some 34, op := Op.indexAddr 35 (Operand.tmp 5) (Operand.const (Value.int IntKind.i64 0)), type := 0, pos := "law.go:123", after := #[], guard := none }) (v := ?v1) rfl (by kernel_rfl) (by kernel_rfl) (by kernel_rfl) (fun _ _ _ h => h) (Or.inl ⟨by rfl, ?y1⟩) (by assumption) ?r1
  case y1 => (intro w hSw; (try dsimp only at hSw); (try (go_split_ands)); go_simp; try with_reducible rfl)
  try simp only [Act.put, List.setIfInBounds_toArray, List.set_cons_zero, List.set_cons_succ]
  refine wpAnyH_take (i := 1) (oi := { dst := some 35, op := Op.load 3 (Operand.tmp 34), type := 3, pos := "law.go:123", after := #[{ on := 0, ground := Ground.data }], guard := none }) (v := ?v2) rfl (by kernel_rfl) (by kernel_rfl) (by kernel_rfl) (fun _ _ _ h => h) (Or.inl ⟨by rfl, ?y2⟩) (by assumption) ?r2
  case y2 => (intro w hSw; (try dsimp only at hSw); (try (go_split_ands)); go_simp; try with_reducible rfl)
  try simp only [Act.put, List.setIfInBounds_toArray, List.set_cons_zero, List.set_cons_succ]
  refine wpAnyH_take (i := 2) (oi := { dst := some 36, op := Op.indexAddr 35 (Operand.tmp 5) (Operand.const (Value.int IntKind.i64 1)), type := 0, pos := "law.go:123", after := #[{ on := 5, ground := Ground.gcOnly Departure.lateStores }], guard := none }) (v := ?v3) rfl (by kernel_rfl) (by kernel_rfl) (by kernel_rfl) (fun _ _ _ h => h) (Or.inl ⟨by rfl, ?y3⟩) (by assumption) ?r3
  case y3 => (intro w hSw; (try dsimp only at hSw); (try (go_split_ands)); go_simp; try with_reducible rfl)
  try simp only [Act.put, List.setIfInBounds_toArray, List.set_cons_zero, List.set_cons_succ]
  refine wpAnyH_take (i := 3) (oi := { dst := some 37, op := Op.load 3 (Operand.tmp 36), type := 3, pos := "law.go:123", after := #[{ on := 2, ground := Ground.data }, { on := 5, ground := Ground.gcOnly Departure.lateStores }], guard := none }) (v := ?v4) rfl (by kernel_rfl) (by kernel_rfl) (by kernel_rfl) (fun _ _ _ h => h) (Or.inl ⟨by rfl, ?y4⟩) (by assumption) ?r4
  case y4 => (intro w hSw; (try dsimp only at hSw); (try (go_split_ands)); go_simp; try with_reducible rfl)
  try simp only [Act.put, List.setIfInBounds_toArray, List.set_cons_zero, List.set_cons_succ]
  refine wpAnyH_take (i := 4) (oi := { dst := some 38, op := Op.binOp BinOp.eql 3 (Operand.tmp 37) (Operand.const (Value.int IntKind.i64 1)) 3, type := 4, pos := "law.go:123", after := #[{ on := 3, ground := Ground.data }, { on := 5, ground := Ground.gcOnly Departure.lateStores }], guard := none }) (v := ?v5) rfl (by kernel_rfl) (by kernel_rfl) (by kernel_rfl) (fun _ _ _ h => h) (Or.inl ⟨by rfl, ?y5⟩) (by assumption) ?r5
  case y5 => (intro w hSw; (try dsimp only at hSw); (try (go_split_ands)); go_simp; try with_reducible rfl)
  try simp only [Act.put, List.setIfInBounds_toArray, List.set_cons_zero, List.set_cons_succ]
  refine wpAnyH_take (i := 5) (oi := { dst := some 10, op := Op.assign (Operand.tmp 35), type := 3, pos := "law.go:123", after := #[{ on := 1, ground := Ground.data }, { on := 0, ground := Ground.phase }, { on := 1, ground := Ground.phase }, { on := 2, ground := Ground.textOnly Departure.lateStores }, { on := 3, ground := Ground.textOnly Departure.lateStores }, { on := 4, ground := Ground.textOnly Departure.lateStores }], guard := none }) (v := ?v6) rfl (by kernel_rfl) (by kernel_rfl) (by kernel_rfl) (fun _ _ _ h => h) (Or.inl ⟨by rfl, ?y6⟩) (by assumption) ?r6
  case y6 => (intro w hSw; (try dsimp only at hSw); (try (go_split_ands)); go_simp; try with_reducible rfl)
  try simp only [Act.put, List.setIfInBounds_toArray, List.set_cons_zero, List.set_cons_succ]
  refine wpAnyH_take (i := 6) (oi := { dst := some 11, op := Op.assign (Operand.tmp 38), type := 4, pos := "law.go:123", after := #[{ on := 4, ground := Ground.data }, { on := 5, ground := Ground.chain }, { on := 0, ground := Ground.phase }, { on := 1, ground := Ground.phase }, { on := 2, ground := Ground.phase }, { on := 3, ground := Ground.phase }, { on := 4, ground := Ground.phase }, { on := 5, ground := Ground.phase }], guard := none }) (v := ?v7) rfl (by kernel_rfl) (by kernel_rfl) (by kernel_rfl) (fun _ _ _ h => h) (Or.inl ⟨by rfl, ?y7⟩) (by assumption) ?r7
  case y7 => (intro w hSw; (try dsimp only at hSw); (try (go_split_ands)); go_simp; try with_reducible rfl)
  try simp only [Act.put, List.setIfInBounds_toArray, List.set_cons_zero, List.set_cons_succ]
  refine wpAnyH_done (by kernel_rfl) ?_ _
  refine NoPanic.normal ?_
  have hV3d := hide (hV3.out.later (below_drew (Below.refl _ _)))
  have hB3d : Hid (Below w.heap.size w w3.drew) := below_drew hB3.out
  have hE3d : Hid (w3.drew.heap[E]? = some (.cells #[.slice (some ⟨s, 0, none⟩) n n, .map (some m1), .map (some m2)] 28 (0, 0))) := hE3.out
  clear f0 f1 hHeld hV3 hB3 hE3
  generalize w3.drew = w4 at *
  go_wp2_with ((with_reducible change wpList _ _ _ _ _ _); refine stop_storeB 39 (.tmp 12) (.tmp 46) rfl ?_)
  refine hide (wpList_store_fresh rfl 39 (.tmp 12) (.tmp 46) rfl (hdrA tg Q V) (hdrA false 0 0) rfl rfl 39 (hdrSize _ _ _) rfl (by simp [Value.oneCell']) ?_)
  intro w5 h5 hb5
  have x13 : w5.cell? ⟨w4.heap.size, 13, none⟩ = some (.int .i64 Q) := (cell_of_row _ _ _ _ _ _ h5).trans rfl
  have x15 : w5.cell? ⟨w4.heap.size, 15, none⟩ = some (.int .i64 V) := (cell_of_row _ _ _ _ _ _ h5).trans rfl
  have hV5 := hide (hV3d.out.later hb5)
  have hB5 := hide (hB3d.out.later hb5)
  have hE5 := hide (heap_kept hb5 hE3d.out)
  replace h5 := hide h5
  have hB' : Hid (w4.heap.size < w5.heap.size) := (Array.getElem?_eq_some_iff.1 h5.out).1
  clear f2 f3 hV3d hB3d hE3d hb5 htg hVe hQe
  generalize w4.heap.size = D at *
  clear w4 w3
  by_cases h95 : V = 4095
  · subst h95
    go_wp2
    go_ret
    exact ⟨rfl, hB5.out⟩
  have h95' : (V == 4095) = false := beq_eq_false_iff_ne.2 h95
  have hCl := hide (Class_any hV5.out.tbl z0 (hdrA tg Q V) tg Q V (hdr_is tg Q V) ⟨by have := hVr.out; omega, by have := hVr.out; omega⟩ hpv.out)
  cases hi : hasP ps.length z0
  · have hE : classN ps f z0 tg Q V = (0, 0, 1) := by unfold classN; rw [hi]; rfl
    rw [hE] at hCl
    have hno : Hid (z0 < 0 ∨ (n : Int) ≤ z0) := by
      rw [hps] at hi
      simp only [hasP, Bool.and_eq_false_iff, decide_eq_false_iff_not] at hi
      show _ ∨ _
      omega
    clear hE hi
    go_wp2_with ((with_reducible change wpList _ _ _ _ _ _); refine wpList_load_row rfl 39 (.tmp 12) rfl D rfl 39 _ _ _ h5.out Try.underlying39 rfl (hdrSize _ _ _) ?_)
    refine hCl.out.mono ?_
    rintro e w6 ⟨rfl, hb6⟩
    have e0 : w6.cell? ⟨E, 0, none⟩ = some (.slice (some ⟨s, 0, none⟩) n n) := (cell_of_row _ _ _ _ _ _ (heap_kept hb6 hE5.out)).trans rfl
    have hB6 := hide (hB5.out.later hb6)
    clear hCl hb6
    by_cases hz : z0 < 0
    · go_wp2
      go_ret
      exact ⟨rfl, hB6.out⟩
    · have hz2 : (n : Int) ≤ z0 := by have := hno.out; omega
      go_wp2
      go_ret
      exact ⟨rfl, hB6.out⟩
  · have hr : 0 ≤ z0 ∧ z0.toNat < ps.length := by simp [hasP] at hi; omega
    obtain ⟨k, rfl⟩ := Int.eq_ofNat_of_zero_le hr.1
    have hk : k < ps.length := by omega
    have hkn : k < n := by omega
    have hE : Hid (classN ps f k tg Q V = if tg = false then classP (ps.getD k Pv.zero) ps.length f k false (ps.getD k Pv.zero).pvid (ps.getD k Pv.zero).pcp
        else if V = 0 then classP (ps.getD k Pv.zero) ps.length f k false (ps.getD k Pv.zero).pvid Q
        else classP (ps.getD k Pv.zero) ps.length f k true V Q) := by
      show _ = _
      unfold classN
      rw [if_pos hi, Int.toNat_natCast]
    simp only [classP, hi, Bool.true_and] at hE
    have hpk : Hid (I64 (ps.getD k Pv.zero).pvid) := hpv.out _ (by rw [List.getD_eq_getElem?_getD, List.getElem?_eq_getElem hk]; exact List.getElem_mem _)
    generalize classN ps f k tg Q V = R at *
    go_wp2_with ((with_reducible change wpList _ _ _ _ _ _); refine wpList_load_row rfl 39 (.tmp 12) rfl D rfl 39 _ _ _ h5.out Try.underlying39 rfl (hdrSize _ _ _) ?_)
    refine hCl.out.mono ?_
    rintro e w6 ⟨rfl, hb6⟩
    have hE6 := heap_kept hb6 hE5.out
    have e0 : w6.cell? ⟨E, 0, none⟩ = some (.slice (some ⟨s, 0, none⟩) n n) := (cell_of_row _ _ _ _ _ _ hE6).trans rfl
    have hV6 := hide (hV5.out.later hb6)
    have hB6 := hide (hB5.out.later hb6)
    replace x13 := (bcell' hb6 hB'.out 13).trans x13
    replace x15 := (bcell' hb6 hB'.out 15).trans x15
    have hrg := hide (hV6.out.fl.range wide_Pv Pv.zero k hk)
    replace hE6 := hide hE6
    clear hCl hb6 hV5 hB5 h5 hr hi hE5 hB'
    generalize ps.getD k Pv.zero = P at *
    obtain ⟨ac, pv, pc, fl⟩ := P
    dsimp only at hE hpk
    go_wp2_with (first | ((with_reducible change wpList _ _ _ _ _ _); refine wpList_load_mid rfl 44 (.tmp 80) rfl s (k * 4) rfl (fPv ⟨ac, pv, pc, fl⟩) _ hrg.out Try.underlying44 rfl (pvLen _) ?_) | ((with_reducible change wpList _ _ _ _ _ _); refine stop_storeB 44 (.tmp 16) (.tmp 81) rfl ?_))
    refine hide (wpList_store_fresh rfl 44 (.tmp 16) (.tmp 81) rfl (fPv ⟨ac, pv, pc, fl⟩).toArray (fPv Pv.zero).toArray rfl rfl 44 (pvSize _) rfl (pv_all _) ?_)
    intro w7 h7 hb7
    have p1 : w7.cell? ⟨w6.heap.size, 1, none⟩ = some (.int .i64 pv) := (cell_of_row _ _ _ _ _ _ h7).trans rfl
    have p2 : w7.cell? ⟨w6.heap.size, 2, none⟩ = some (.int .i64 pc) := (cell_of_row _ _ _ _ _ _ h7).trans rfl
    have p0 : w7.drew.cell? ⟨w6.heap.size, 0, none⟩ = some (.int .i64 ac) := (cell_of_row _ _ _ _ _ _ h7).trans rfl
    have p3 : w7.drew.cell? ⟨w6.heap.size, 3, none⟩ = some (.bool fl) := (cell_of_row _ _ _ _ _ _ h7).trans rfl
    have y13 : w7.drew.cell? ⟨D, 13, none⟩ = some (.int .i64 Q) := (bcell' hb7 (block_lt_of_cell x13) 13).trans x13
    have y15 : w7.drew.cell? ⟨D, 15, none⟩ = some (.int .i64 V) := (bcell' hb7 (block_lt_of_cell x15) 15).trans x15
    have e1 : w7.drew.cell? ⟨E, 1, none⟩ = some (.map (some m1)) := (cell_of_row _ _ _ _ _ _ (heap_kept hb7 hE6.out)).trans rfl
    have hM7 : Hid (Mp Try.prog iT w7.drew m1 cm fm) := (hV6.out.mm.below hb7).drewN 1
    have hB7 : Hid (Below w.heap.size w w7.drew) := below_drew (hB6.out.later hb7)
    clear x13 x15 e0 hV6 hB6 h7 hb7 hrg hE6
    generalize w6.heap.size = G at *
    go_wp2_with fail
    refine wp_region_noPanic ?_
    refine wp_region_held_drew (S := fun W => W.cell? ⟨G, 1, none⟩ = some (.int .i64 pv) ∧ W.cell? ⟨G, 2, none⟩ = some (.int .i64 pc)) (by kernel_rfl) ⟨p1, p2⟩ (fun hHeld16 => ?_)
    refine wpAnyH_take (i := 0) (oi := { dst := some 82, op := Op.fieldAddr 44 (Operand.tmp 16) 1, type := 0, pos := "law.go:133", after := #[], guard := none }) (v := ?v8) rfl (by kernel_rfl) (by kernel_rfl) (by kernel_rfl) (fun _ _ _ h => h) (Or.inl ⟨by rfl, ?y8⟩) (by assumption) ?r8
    case y8 => (intro w hSw; (try dsimp only at hSw); (try (go_split_ands)); go_simp; try with_reducible rfl)
    try simp only [Act.put, List.setIfInBounds_toArray, List.set_cons_zero, List.set_cons_succ]
    refine wpAnyH_take (i := 1) (oi := { dst := some 83, op := Op.load 3 (Operand.tmp 82), type := 3, pos := "law.go:133", after := #[{ on := 0, ground := Ground.data }], guard := none }) (v := ?v9) rfl (by kernel_rfl) (by kernel_rfl) (by kernel_rfl) (fun _ _ _ h => h) (Or.inl ⟨by rfl, ?y9⟩) (by assumption) ?r9
    case y9 => (intro w hSw; (try dsimp only at hSw); (try (go_split_ands)); go_simp; try with_reducible rfl)
    try simp only [Act.put, List.setIfInBounds_toArray, List.set_cons_zero, List.set_cons_succ]
    refine wpAnyH_take (i := 2) (oi := { dst := some 84, op := Op.fieldAddr 44 (Operand.tmp 16) 2, type := 0, pos := "law.go:133", after := #[{ on := 4, ground := Ground.gcOnly Departure.lateStores }], guard := none }) (v := ?v10) rfl (by kernel_rfl) (by kernel_rfl) (by kernel_rfl) (fun _ _ _ h => h) (Or.inl ⟨by rfl, ?y10⟩) (by assumption) ?r10
    case y10 => (intro w hSw; (try dsimp only at hSw); (try (go_split_ands)); go_simp; try with_reducible rfl)
    try simp only [Act.put, List.setIfInBounds_toArray, List.set_cons_zero, List.set_cons_succ]
    refine wpAnyH_take (i := 3) (oi := { dst := some 85, op := Op.load 3 (Operand.tmp 84), type := 3, pos := "law.go:133", after := #[{ on := 2, ground := Ground.data }, { on := 4, ground := Ground.gcOnly Departure.lateStores }], guard := none }) (v := ?v11) rfl (by kernel_rfl) (by kernel_rfl) (by kernel_rfl) (fun _ _ _ h => h) (Or.inl ⟨by rfl, ?y11⟩) (by assumption) ?r11
    case y11 => (intro w hSw; (try dsimp only at hSw); (try (go_split_ands)); go_simp; try with_reducible rfl)
    try simp only [Act.put, List.setIfInBounds_toArray, List.set_cons_zero, List.set_cons_succ]
    refine wpAnyH_take (i := 4) (oi := { dst := some 17, op := Op.assign (Operand.tmp 83), type := 3, pos := "law.go:133", after := #[{ on := 1, ground := Ground.data }, { on := 0, ground := Ground.phase }, { on := 1, ground := Ground.phase }, { on := 2, ground := Ground.textOnly Departure.lateStores }, { on := 3, ground := Ground.textOnly Departure.lateStores }], guard := none }) (v := ?v12) rfl (by kernel_rfl) (by kernel_rfl) (by kernel_rfl) (fun _ _ _ h => h) (Or.inl ⟨by rfl, ?y12⟩) (by assumption) ?r12
    case y12 => (intro w hSw; (try dsimp only at hSw); (try (go_split_ands)); go_simp; try with_reducible rfl)
    try simp only [Act.put, List.setIfInBounds_toArray, List.set_cons_zero, List.set_cons_succ]
    refine wpAnyH_take (i := 5) (oi := { dst := some 18, op := Op.assign (Operand.tmp 85), type := 3, pos := "law.go:133", after := #[{ on := 3, ground := Ground.data }, { on := 4, ground := Ground.chain }, { on := 0, ground := Ground.phase }, { on := 1, ground := Ground.phase }, { on := 2, ground := Ground.phase }, { on := 3, ground := Ground.phase }, { on := 4, ground := Ground.phase }], guard := none }) (v := ?v13) rfl (by kernel_rfl) (by kernel_rfl) (by kernel_rfl) (fun _ _ _ h => h) (Or.inl ⟨by rfl, ?y13⟩) (by assumption) ?r13
    case y13 => (intro w hSw; (try dsimp only at hSw); (try (go_split_ands)); go_simp; try with_reducible rfl)
    try simp only [Act.put, List.setIfInBounds_toArray, List.set_cons_zero, List.set_cons_succ]
    refine wpAnyH_done (by kernel_rfl) ?_ _
    refine NoPanic.normal ?_
    clear p1 p2 hHeld16
    generalize w7.drew = w8 at *
    rcases (show tg = false ∨ (tg = true ∧ V = 0) ∨ (tg = true ∧ V ≠ 0) by cases tg <;> simp; omega) with rfl | ⟨rfl, rfl⟩ | ⟨rfl, hv0⟩
    · rw [if_pos rfl] at hE
      have kL : (Instr.lookup 26 (.map (some m1)) (.int .i64 pv) false).run Try.prog w8 = .ok (.int .i64 ((fm pv).getD 0)) w8 := hM7.out.look iT_good pv hpk.out
      rw [(hT.out.mem pv).1] at kL
      have hb0 := bit_zero (memN f pv) k
      have hb0' : (bits .and .i64 (memN f pv / 2 ^ (k : Int).toNat) 1 == 0) = !bitAt (memN f pv) k := by rw [Int.toNat_natCast]; exact hb0
      generalize memN f pv = X at *
      generalize bitAt X k = B at *
      clear hM7 hT hpv hpk
      rcases (show ac = 1 ∨ ac = 2 ∨ (ac ≠ 1 ∧ ac ≠ 2) by omega) with rfl | rfl | ⟨ha1, ha2⟩
      · have hR : R = (0, 0, 11) := by rw [hE.out]; simp [takesB]
        subst hR
        clear hE
        go_wp2
        go_ret
        exact ⟨rfl, hB7.out⟩
      · cases fl
        · have hR : R = (pv, pc, 0) := by rw [hE.out]; simp [takesB]
          subst hR
          clear hE
          have e1' : (pv == pv) = true := by simp
          have e2' : (pc == pc) = true := by simp
          go_wp2
          go_ret
          exact ⟨rfl, hB7.out⟩
        · cases B
          · have hR : R = (0, 0, 21) := by rw [hE.out]; simp [takesB]
            subst hR
            clear hE
            go_wp2
            go_ret
            exact ⟨rfl, hB7.out⟩
          · have hR : R = (pv, pc, 0) := by rw [hE.out]; simp [takesB]
            subst hR
            clear hE
            have e1' : (pv == pv) = true := by simp
            have e2' : (pc == pc) = true := by simp
            go_wp2
            go_ret
            exact ⟨rfl, hB7.out⟩
      · have ha1' : (ac == 1) = false := beq_eq_false_iff_ne.2 ha1
        have ha2' : (ac == 2) = false := beq_eq_false_iff_ne.2 ha2
        cases fl
        · have hR : R = (pv, pc, 0) := by rw [hE.out]; simp [takesB, ha1, ha2]
          subst hR
          clear hE
          have e1' : (pv == pv) = true := by simp
          have e2' : (pc == pc) = true := by simp
          go_wp2
          go_ret
          exact ⟨rfl, hB7.out⟩
        · cases B
          · have hR : R = (0, 0, 21) := by rw [hE.out]; simp [takesB, ha1, ha2]
            subst hR
            clear hE
            go_wp2
            go_ret
            exact ⟨rfl, hB7.out⟩
          · have hR : R = (pv, pc, 0) := by rw [hE.out]; simp [takesB, ha1, ha2]
            subst hR
            clear hE
            have e1' : (pv == pv) = true := by simp
            have e2' : (pc == pc) = true := by simp
            go_wp2
            go_ret
            exact ⟨rfl, hB7.out⟩
    · rw [if_neg (by simp), if_pos rfl] at hE
      have kL : (Instr.lookup 26 (.map (some m1)) (.int .i64 pv) false).run Try.prog w8 = .ok (.int .i64 ((fm pv).getD 0)) w8 := hM7.out.look iT_good pv hpk.out
      rw [(hT.out.mem pv).1] at kL
      have hb0 := bit_zero (memN f pv) k
      have hb0' : (bits .and .i64 (memN f pv / 2 ^ (k : Int).toNat) 1 == 0) = !bitAt (memN f pv) k := by rw [Int.toNat_natCast]; exact hb0
      generalize memN f pv = X at *
      generalize bitAt X k = B at *
      clear hM7 hT hpv hpk
      rcases (show ac = 1 ∨ ac = 2 ∨ (ac ≠ 1 ∧ ac ≠ 2) by omega) with rfl | rfl | ⟨ha1, ha2⟩
      · have hR : R = (0, 0, 11) := by rw [hE.out]; simp [takesB]
        subst hR
        clear hE
        go_wp2
        go_ret
        exact ⟨rfl, hB7.out⟩
      · cases fl
        · have hR : R = (pv, Q, 0) := by rw [hE.out]; simp [takesB]
          subst hR
          clear hE
          have e1' : (pv == pv) = true := by simp
          have e2' : (Q == Q) = true := by simp
          go_wp2
          go_ret
          exact ⟨rfl, hB7.out⟩
        · cases B
          · have hR : R = (0, 0, 21) := by rw [hE.out]; simp [takesB]
            subst hR
            clear hE
            go_wp2
            go_ret
            exact ⟨rfl, hB7.out⟩
          · have hR : R = (pv, Q, 0) := by rw [hE.out]; simp [takesB]
            subst hR
            clear hE
            have e1' : (pv == pv) = true := by simp
            have e2' : (Q == Q) = true := by simp
            go_wp2
            go_ret
            exact ⟨rfl, hB7.out⟩
      · have ha1' : (ac == 1) = false := beq_eq_false_iff_ne.2 ha1
        have ha2' : (ac == 2) = false := beq_eq_false_iff_ne.2 ha2
        cases fl
        · have hR : R = (pv, Q, 0) := by rw [hE.out]; simp [takesB, ha1, ha2]
          subst hR
          clear hE
          have e1' : (pv == pv) = true := by simp
          have e2' : (Q == Q) = true := by simp
          go_wp2
          go_ret
          exact ⟨rfl, hB7.out⟩
        · cases B
          · have hR : R = (0, 0, 21) := by rw [hE.out]; simp [takesB, ha1, ha2]
            subst hR
            clear hE
            go_wp2
            go_ret
            exact ⟨rfl, hB7.out⟩
          · have hR : R = (pv, Q, 0) := by rw [hE.out]; simp [takesB, ha1, ha2]
            subst hR
            clear hE
            have e1' : (pv == pv) = true := by simp
            have e2' : (Q == Q) = true := by simp
            go_wp2
            go_ret
            exact ⟨rfl, hB7.out⟩
    · rw [if_neg (by simp), if_neg hv0] at hE
      have hv0' : decide (0 < V) = true := decide_eq_true (by have := hVr.out; omega)
      have hV64 : Hid (I64 V) := ⟨by have := hVr.out; omega, by have := hVr.out; omega⟩
      have kL : (Instr.lookup 26 (.map (some m1)) (.int .i64 V) false).run Try.prog w8 = .ok (.int .i64 ((fm V).getD 0)) w8 := hM7.out.look iT_good V hV64.out
      rw [(hT.out.mem V).1] at kL
      have hb0 := bit_zero (memN f V) k
      have hb0' : (bits .and .i64 (memN f V / 2 ^ (k : Int).toNat) 1 == 0) = !bitAt (memN f V) k := by rw [Int.toNat_natCast]; exact hb0
      generalize memN f V = X at *
      generalize bitAt X k = B at *
      clear hM7 hT hpv hpk
      rcases (show ac = 1 ∨ ac = 2 ∨ (ac ≠ 1 ∧ ac ≠ 2) by omega) with rfl | rfl | ⟨ha1, ha2⟩
      · cases fl
        · have hR : R = (V, Q, 0) := by rw [hE.out]; simp [takesB]
          subst hR
          clear hE
          have e1' : (V == V) = true := by simp
          have e2' : (Q == Q) = true := by simp
          go_wp2
          go_ret
          exact ⟨rfl, hB7.out⟩
        · cases B
          · have hR : R = (0, 0, 21) := by rw [hE.out]; simp [takesB]
            subst hR
            clear hE
            go_wp2
            go_ret
            exact ⟨rfl, hB7.out⟩
          · have hR : R = (V, Q, 0) := by rw [hE.out]; simp [takesB]
            subst hR
            clear hE
            have e1' : (V == V) = true := by simp
            have e2' : (Q == Q) = true := by simp
            go_wp2
            go_ret
            exact ⟨rfl, hB7.out⟩
      · have hR : R = (0, 0, 11) := by rw [hE.out]; simp [takesB]
        subst hR
        clear hE
        go_wp2
        go_ret
        exact ⟨rfl, hB7.out⟩
      · have ha1' : (ac == 1) = false := beq_eq_false_iff_ne.2 ha1
        have ha2' : (ac == 2) = false := beq_eq_false_iff_ne.2 ha2
        cases fl
        · have hR : R = (V, Q, 0) := by rw [hE.out]; simp [takesB, ha1, ha2]
          subst hR
          clear hE
          have e1' : (V == V) = true := by simp
          have e2' : (Q == Q) = true := by simp
          go_wp2
          go_ret
          exact ⟨rfl, hB7.out⟩
        · cases B
          · have hR : R = (0, 0, 21) := by rw [hE.out]; simp [takesB, ha1, ha2]
            subst hR
            clear hE
            go_wp2
            go_ret
            exact ⟨rfl, hB7.out⟩
          · have hR : R = (V, Q, 0) := by rw [hE.out]; simp [takesB, ha1, ha2]
            subst hR
            clear hE
            have e1' : (V == V) = true := by simp
            have e2' : (Q == Q) = true := by simp
            go_wp2
            go_ret
            exact ⟨rfl, hB7.out⟩
end Go.Proofs.Ytffbblcohgkmjaa
