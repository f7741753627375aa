/-
  Contracts of vector's other functions. Conditions: those that each theorem names.
-/
import Derived.Test.YtjfjohbibkidhaaVec1
namespace Go.Proofs.Ytjfjohbibkidhaa
open Go.RowKit
set_option linter.unusedVariables false

theorem vecSize (v : Vc) : (Try.prog.info? 45).map (·.size) = some v.row.size := by kernel_rfl
theorem Vc.row_all (v : Vc) : v.row.all (·.oneCell') = true := by simp [Value.oneCell']
def overN (c d : Int) : Int := if c > 4294967295 then 4294967295 else if d > 4294967295 - c then 4294967295 else c + d
theorem Over_any (v : Vc) (d : Int) (w : World) (hv : U64 v.cost) (hd : U64 d) : Calls Try.prog 28 #[.agg v.row, .int .u64 d] w fun r w' => r = .returned (.agg (Vc.row ⟨v.root, overN v.cost d, v.bridge, v.port⟩)) ∧ Below w.heap.size w w' := by
  obtain ⟨a0, a1, a2, a3⟩ := v
  obtain ⟨hv0, hv1⟩ := hv
  obtain ⟨hd0, hd1⟩ := hd
  dsimp only at *
  unfold overN
  go_enter Try.func28, Try.ntmps28
  by_cases h1 : a1 > 4294967295
  · rw [if_pos h1]
    go_wp2
    exact bodyPost_ret (results_cell_row rfl _ _ (w.heap.size + 1) 45 _ _ _ rfl (heap_alloc2_newB _ _ _) Try.underlying45 rfl (vecSize Vc.zero)) rfl ⟨rfl, (below1 _ _).later (below1 _ _)⟩
  · rw [if_neg h1]
    by_cases h2 : d > 4294967295 - a1
    · rw [if_pos h2]
      go_wp2
      exact bodyPost_ret (results_cell_row rfl _ _ (w.heap.size + 1) 45 _ _ _ rfl (heap_alloc2_newB _ _ _) Try.underlying45 rfl (vecSize Vc.zero)) rfl ⟨rfl, (below1 _ _).later (below1 _ _)⟩
    · rw [if_neg h2]
      go_wp2
      exact bodyPost_ret (results_cell_row rfl _ _ (w.heap.size + 1) 45 _ _ _ rfl (heap_alloc2_newB _ _ _) Try.underlying45 rfl (vecSize Vc.zero)) rfl ⟨rfl, (below1 _ _).later (below1 _ _)⟩
theorem Own_any (b p : Int) (w : World) : Calls Try.prog 32 #[.int .u64 b, .int .i64 p] w fun r w' => r = .returned (.agg (Vc.row ⟨b, 0, b, p⟩)) ∧ Below w.heap.size w w' := by
  go_enter Try.func32, Try.ntmps32
  go_wp2
  exact bodyPost_ret (results_cell_row rfl _ _ w.heap.size 45 _ _ _ rfl (heap_alloc_new _ _) Try.underlying45 rfl (vecSize Vc.zero)) rfl ⟨rfl, below1 _ _⟩
def costN (s : Int) : Int := if s = 10 then 2000000 else if s = 100 then 200000 else if s = 1000 then 20000 else if s = 10000 then 2000 else 4294967295
theorem Cost_any (s : Int) (w : World) : Calls Try.prog 34 #[.int .i64 s] w fun r w' => r = .returned (.int .u64 (costN s)) ∧ w' = w := by
  unfold costN
  go_enter Try.func34, Try.ntmps34
  by_cases h1 : s = 10
  · subst h1
    go_wp2
    go_ret
    exact ⟨rfl, rfl⟩
  · by_cases h2 : s = 100
    · subst h2
      go_wp2
      go_ret
      exact ⟨rfl, rfl⟩
    · by_cases h3 : s = 1000
      · subst h3
        go_wp2
        go_ret
        exact ⟨rfl, rfl⟩
      · by_cases h4 : s = 10000
        · subst h4
          go_wp2
          go_ret
          exact ⟨rfl, rfl⟩
        · rw [if_neg h1, if_neg h2, if_neg h3, if_neg h4]
          go_wp2
          go_ret
          exact ⟨rfl, rfl⟩
def priB (n s m : Int) : Bool := decide (0 ≤ n) && decide (n ≤ m) && decide (n % s = 0)
theorem isPriority_any (n s m : Int) (w : World) (hs : 0 < s) (hs' : s ≤ 1000000) (hn : I64 n) : Calls Try.prog 45 #[.int .i64 n, .int .i64 s, .int .i64 m] w fun r w' => r = .returned (.bool (priB n s m)) ∧ w' = w := by
  obtain ⟨hn0, hn1⟩ := hn
  have hP : Hid (priB n s m = (decide (0 ≤ n) && decide (n ≤ m) && decide (n % s = 0))) := rfl
  generalize priB n s m = p at *
  go_enter Try.func45, Try.ntmps45
  by_cases h1 : 0 ≤ n
  · by_cases h2 : n ≤ m
    · go_wp2
      go_ret
      refine ⟨ret_bool ?_, rfl⟩
      rw [hP.out]
      simp only [h1, h2, decide_true, Bool.true_and]
      rfl
    · go_wp2
      go_ret
      refine ⟨ret_bool ?_, rfl⟩
      rw [hP.out, decide_eq_false (show ¬ n ≤ m by omega), Bool.and_false, Bool.false_and]
  · go_wp2
    go_ret
    refine ⟨ret_bool ?_, rfl⟩
    rw [hP.out, decide_eq_false (show ¬ 0 ≤ n by omega), Bool.false_and, Bool.false_and]
def portB (p n : Int) : Bool := priB p 16 240 && decide (1 ≤ n) && decide (n ≤ 4095)
theorem priB_range {n s m : Int} (h : priB n s m = true) : 0 ≤ n ∧ n ≤ m ∧ n % s = 0 := by
  simp only [priB, Bool.and_eq_true, decide_eq_true_eq] at h
  exact ⟨h.1.1, h.1.2, h.2⟩
theorem PortId_bad (p n : Int) (w : World) (hp : I64 p) (h : portB p n = false) : Calls Try.prog 33 #[.int .i64 p, .int .i64 n] w fun r w' => r = .returned (.tuple #[.int .i64 0, .int .i64 1]) ∧ w' = w := by
  have hC := hide (fun w => isPriority_any p 16 240 w (by omega) (by omega) hp)
  unfold portB at h
  obtain ⟨hp0, hp1⟩ := hp
  generalize priB p 16 240 = x at *
  go_enter Try.func33, Try.ntmps33
  go_wp2_with fail
  refine (hC.out _).mono ?_
  rintro e w2 ⟨rfl, rfl⟩
  clear hC
  cases x
  · clear h
    go_wp2
    go_ret2
    exact ⟨rfl, rfl⟩
  · by_cases h1 : 1 ≤ n
    · have h2 : ¬ n ≤ 4095 := by
        intro h2
        rw [decide_eq_true h1, decide_eq_true h2] at h
        cases h
      clear h
      go_wp2
      go_ret2
      exact ⟨rfl, rfl⟩
    · clear h
      go_wp2
      go_ret2
      exact ⟨rfl, rfl⟩
theorem wrap_i64_62 (n : Int) (h0 : 0 ≤ n) (h : n < 2 ^ 62) : IntKind.i64.wrap n = n := by
  have : (2 : Int) ^ 62 = 4611686018427387904 := by decide
  simp only [IntKind.wrap, IntKind.signed, IntKind.bits]
  go_num
theorem PortId_ok (p n : Int) (w : World) (hp : I64 p) (h : portB p n = true) : Calls Try.prog 33 #[.int .i64 p, .int .i64 n] w fun r w' => r = .returned (.tuple #[.int .i64 (p * 256 + n), .int .i64 0]) ∧ w' = w := by
  have hC := hide (fun w => isPriority_any p 16 240 w (by omega) (by omega) hp)
  unfold portB at h
  simp only [Bool.and_eq_true, decide_eq_true_eq] at h
  obtain ⟨⟨h1, h2⟩, h3⟩ := h
  obtain ⟨hp0, hp1, hp2⟩ := priB_range h1
  rw [h1] at hC
  have e12 : (2 : Int) ^ 12 = 4096 := by decide
  have e62 : (2 : Int) ^ 62 = 4611686018427387904 := by decide
  have hor : Hid (bits .or .i64 (p * 256) n = p * 256 + n) :=
    bits_join .i64 62 (by decide) wrap_i64_62 12 (p * 256) n (by omega) (by omega) (by omega) (by omega) (by omega) (by omega)
  clear e12 e62
  clear h1 hp hp2
  go_enter Try.func33, Try.ntmps33
  go_wp2_with fail
  refine (hC.out _).mono ?_
  rintro e w2 ⟨rfl, rfl⟩
  clear hC
  go_wp2
  go_ret2
  refine ⟨?_, rfl⟩
  rw [← hor.out]
  rfl
def nuT (l : List Int) : Nat → Int
  | 0 => 0
  | j + 1 => nuT l j * 256 + l.getD j 0
theorem nuT_le (l : List Int) (h : Byte l) (h6 : l.length = 6) : ∀ j : Nat, j ≤ 6 → 0 ≤ nuT l j ∧ nuT l j < 256 ^ j
  | 0, _ => by simp [nuT]
  | j + 1, hj => by
    have h1 := nuT_le l h h6 j (by omega)
    have h2 : 0 ≤ l.getD j 0 ∧ l.getD j 0 ≤ 255 := by
      rw [List.getD_eq_getElem?_getD, List.getElem?_eq_getElem (by omega)]
      exact h _ (List.getElem_mem _)
    rw [nuT, Int.pow_succ]
    omega
theorem nuT_bound {m0 m1 m2 m3 m4 m5 A : Int} {j : Nat} (h : Byte [m0, m1, m2, m3, m4, m5]) (hA : A = nuT [m0, m1, m2, m3, m4, m5] j) (hj : j < 6) : 0 ≤ A ∧ A < 1099511627776 := by
  have h1 := nuT_le _ h rfl j (by omega)
  rw [← hA] at h1
  refine ⟨h1.1, ?_⟩
  rcases (show j = 0 ∨ j = 1 ∨ j = 2 ∨ j = 3 ∨ j = 4 ∨ j = 5 by omega) with rfl | rfl | rfl | rfl | rfl | rfl
  all_goals
    have h2 := h1.2
    simp at h2
    omega
theorem mac_at (m0 m1 m2 m3 m4 m5 : Int) (j : Nat) (hj : j < 6) (hb : Byte [m0, m1, m2, m3, m4, m5]) : ∃ b : Int, (∀ w, (Instr.index 56 (.agg #[.int .u8 m0, .int .u8 m1, .int .u8 m2, .int .u8 m3, .int .u8 m4, .int .u8 m5]) (.int .i64 j)).run Try.prog w = .ok (.int .u8 b) w) ∧ 0 ≤ b ∧ b ≤ 255 ∧ Hid (b = [m0, m1, m2, m3, m4, m5].getD j 0) := by
  have g0 := hb m0 (by simp)
  have g1 := hb m1 (by simp)
  have g2 := hb m2 (by simp)
  have g3 := hb m3 (by simp)
  have g4 := hb m4 (by simp)
  have g5 := hb m5 (by simp)
  rcases (show j = 0 ∨ j = 1 ∨ j = 2 ∨ j = 3 ∨ j = 4 ∨ j = 5 by omega) with rfl | rfl | rfl | rfl | rfl | rfl
  · exact ⟨m0, fun w => by simp [Instr.index, run_underlying Try.underlying56, asIntOf, go_sem], g0.1, g0.2, hide rfl⟩
  · exact ⟨m1, fun w => by simp [Instr.index, run_underlying Try.underlying56, asIntOf, go_sem], g1.1, g1.2, hide rfl⟩
  · exact ⟨m2, fun w => by simp [Instr.index, run_underlying Try.underlying56, asIntOf, go_sem], g2.1, g2.2, hide rfl⟩
  · exact ⟨m3, fun w => by simp [Instr.index, run_underlying Try.underlying56, asIntOf, go_sem], g3.1, g3.2, hide rfl⟩
  · exact ⟨m4, fun w => by simp [Instr.index, run_underlying Try.underlying56, asIntOf, go_sem], g4.1, g4.2, hide rfl⟩
  · exact ⟨m5, fun w => by simp [Instr.index, run_underlying Try.underlying56, asIntOf, go_sem], g5.1, g5.2, hide rfl⟩
def idB (p : Int) : Bool := priB p 4096 61440
theorem Id_bad (p : Int) (m : Array Value) (w : World) (hp : I64 p) (h : idB p = false) : Calls Try.prog 31 #[.int .i64 p, .agg m] w fun r w' => r = .returned (.tuple #[.int .u64 0, .int .i64 1]) ∧ Below w.heap.size w w' := by
  have hC := hide (fun w => isPriority_any p 4096 61440 w (by omega) (by omega) hp)
  unfold idB at h
  rw [h] at hC
  clear h
  go_enter Try.func31, Try.ntmps31
  go_wp2_with fail
  refine (hC.out _).mono ?_
  rintro e w2 ⟨rfl, rfl⟩
  go_wp2
  go_ret2
  exact ⟨rfl, below1 _ _⟩
theorem Id_ok (p m0 m1 m2 m3 m4 m5 : Int) (w : World) (hp : I64 p) (h : idB p = true) (hb : Byte [m0, m1, m2, m3, m4, m5]) : Calls Try.prog 31 #[.int .i64 p, .agg #[.int .u8 m0, .int .u8 m1, .int .u8 m2, .int .u8 m3, .int .u8 m4, .int .u8 m5]] w fun r w' => r = .returned (.tuple #[.int .u64 (p * 281474976710656 + num [m0, m1, m2, m3, m4, m5]), .int .i64 0]) ∧ Below w.heap.size w w' := by
  have hC := hide (fun w => isPriority_any p 4096 61440 w (by omega) (by omega) hp)
  unfold idB at h
  obtain ⟨hp0, hp1, hp2⟩ := priB_range h
  rw [h] at hC
  clear h hp
  have g0 := hb m0 (by simp)
  have g1 := hb m1 (by simp)
  have g2 := hb m2 (by simp)
  have g3 := hb m3 (by simp)
  have g4 := hb m4 (by simp)
  have g5 := hb m5 (by simp)
  have hB := hide hb
  clear hb
  have hN : Hid (num [m0, m1, m2, m3, m4, m5] = ((((m0 * 256 + m1) * 256 + m2) * 256 + m3) * 256 + m4) * 256 + m5) := by simp [num, Hid]
  generalize num [m0, m1, m2, m3, m4, m5] = nn at *
  go_enter Try.func31, Try.ntmps31
  go_wp2_with fail
  refine (hC.out _).mono ?_
  rintro e w2 ⟨rfl, rfl⟩
  clear hC
  go_wp2
  go_loop [6, 13] (fun x i => ∃ j : Nat, ∃ A : Int, j ≤ 6 ∧ i = .int .i64 j ∧ x = .int .u64 A ∧ Hid (A = nuT [m0, m1, m2, m3, m4, m5] j)) (fun _ i => 6 - (intOf i).toNat)
  case atStart => exact ⟨0, 0, by omega, rfl, rfl, hide rfl⟩
  case round =>
    obtain ⟨j, A, hj, rfl, rfl, hA⟩ := hrel
    by_cases hlt : j < 6
    · obtain ⟨b, hix, hb0, hb1, hbE⟩ := mac_at m0 m1 m2 m3 m4 m5 j hlt hB.out
      have hbA : 0 ≤ A ∧ A < 1099511627776 := nuT_bound hB.out hA.out hlt
      obtain ⟨hA0, hA1⟩ := hbA
      have hor : Hid (bits .or .u64 (IntKind.u64.wrap (A * 256)) (IntKind.u64.wrap b) = A * 256 + b) := or_step A b hA0 (by omega) ⟨hb0, hb1⟩
      have hS : Hid (A * 256 + b = nuT [m0, m1, m2, m3, m4, m5] (j + 1)) := by
        show A * 256 + b = nuT [m0, m1, m2, m3, m4, m5] j * 256 + [m0, m1, m2, m3, m4, m5].getD j 0
        rw [← hA.out, ← hbE.out]
      clear hbE
      go_wp2
      go_round
      case rel =>
        refine ⟨j + 1, A * 256 + b, by omega, by go_num, ?_, hS⟩
        have h1 := hor.out
        rw [IntKind.wrap_u64, IntKind.wrap_u64, Int.emod_eq_of_lt (by omega) (by omega), Int.emod_eq_of_lt (by omega) (by omega)] at h1
        rw [← h1]
      case measure => simp [intOf]; omega
    · obtain rfl : j = 6 := by omega
      have hA' := hA.out
      simp [nuT] at hA'
      have hE : A = nn := by rw [hN.out, hA']
      have hbA : 0 ≤ nn ∧ nn < 281474976710656 := by omega
      clear hA hA' hN g0 g1 g2 g3 g4 g5 hlt
      subst hE
      have hor : Hid (bits .or .u64 (p * 281474976710656) A = p * 281474976710656 + A) := by
        show _ = _
        rw [u64_or _ _ (by omega) (by omega) (by omega) (by omega), nat_join 48 _ _ (by omega) (by omega)]
        omega
      go_wp2
      go_ret2
      refine ⟨?_, below1 _ _⟩
      rw [← hor.out]
      rfl
theorem int_beq (a b : Int) : (a == b) = decide (a = b) := by
  rw [Bool.eq_iff_iff, beq_iff_eq, decide_eq_true_eq]
def supB (t u : Vc) : Bool := betB t u || (decide (t.bridge = u.bridge) && decide (t.port = u.port))
theorem Sup_any (t u : Vc) (w : World) : Calls Try.prog 30 #[.agg t.row, .agg u.row] w fun r w' => r = .returned (.bool (supB t u)) ∧ Below w.heap.size w w' := by
  have hP : Hid (supB t u = (betB t u || (decide (t.bridge = u.bridge) && decide (t.port = u.port)))) := rfl
  generalize supB t u = x at *
  obtain ⟨a0, a1, a2, a3⟩ := t
  obtain ⟨b0, b1, b2, b3⟩ := u
  have hC := hide (fun w => Better_any ⟨a0, a1, a2, a3⟩ ⟨b0, b1, b2, b3⟩ w)
  generalize betB ⟨a0, a1, a2, a3⟩ ⟨b0, b1, b2, b3⟩ = y at *
  have hA := heap_alloc2_oldB w (.cells (Vc.row ⟨a0, a1, a2, a3⟩) 45) (.cells (Vc.row ⟨b0, b1, b2, b3⟩) 45)
  have hB := heap_alloc2_newB w (.cells (Vc.row ⟨a0, a1, a2, a3⟩) 45) (.cells (Vc.row ⟨b0, b1, b2, b3⟩) 45)
  have hb0 : Below w.heap.size w ((w.alloc (.cells (Vc.row ⟨a0, a1, a2, a3⟩) 45)).alloc (.cells (Vc.row ⟨b0, b1, b2, b3⟩) 45)) := (below1 _ _).later (below1 _ _)
  go_enter Try.func30, Try.ntmps30
  go_wp2_with fail
  refine (hC.out _).mono ?_
  rintro e w2 ⟨rfl, hb2⟩
  have hA2 := heap_kept hb2 hA
  have hB2 := heap_kept hb2 hB
  have hb := hide (hb0.later hb2)
  clear hA hB hb0 hb2 hC
  have c2 : w2.cell? ⟨w.heap.size, 2, none⟩ = some (.int .u64 a2) := (cell_of_row _ _ _ _ _ _ hA2).trans rfl
  have c3 : w2.cell? ⟨w.heap.size, 3, none⟩ = some (.int .i64 a3) := (cell_of_row _ _ _ _ _ _ hA2).trans rfl
  have d2 : w2.cell? ⟨w.heap.size + 1, 2, none⟩ = some (.int .u64 b2) := (cell_of_row _ _ _ _ _ _ hB2).trans rfl
  have d3 : w2.cell? ⟨w.heap.size + 1, 3, none⟩ = some (.int .i64 b3) := (cell_of_row _ _ _ _ _ _ hB2).trans rfl
  clear hA2 hB2
  cases y
  · by_cases h1 : a2 = b2
    · subst h1
      go_wp2
      go_ret
      refine ⟨ret_bool ?_, hb.out⟩
      rw [hP.out]
      simp [int_beq]
    · go_wp2
      go_ret
      refine ⟨ret_bool ?_, hb.out⟩
      rw [hP.out]
      simp [h1]
  · go_wp2
    go_ret
    exact ⟨ret_bool hP.out.symm, hb.out⟩
/-- A row of vectors in memory. -/
def Vcs (w : World) (a : Option Addr) (n : Nat) (vs : List Vc) : Prop := ∀ i, i < n → ∃ b off, a = some ⟨b, off, none⟩ ∧ w.cell? ⟨b, off + i * 4, none⟩ = some (.int .u64 (vs.getD i Vc.zero).root) ∧ w.cell? ⟨b, off + i * 4 + 1, none⟩ = some (.int .u64 (vs.getD i Vc.zero).cost) ∧
  w.cell? ⟨b, off + i * 4 + 2, none⟩ = some (.int .u64 (vs.getD i Vc.zero).bridge) ∧ w.cell? ⟨b, off + i * 4 + 3, none⟩ = some (.int .i64 (vs.getD i Vc.zero).port) ∧ (vs.getD i Vc.zero).wf
theorem Vcs.below {w w' : World} {a : Option Addr} {n : Nat} {vs : List Vc} (h : Vcs w a n vs) (hb : Below w.heap.size w w') : Vcs w' a n vs := by
  intro i hi
  obtain ⟨b, off, rfl, h1, h2, h3, h4, h5⟩ := h i hi
  have hl := block_lt_of_cell h1
  refine ⟨b, off, rfl, ?_, ?_, ?_, ?_, h5⟩
  · rw [hb.cell (p := ⟨b, off + i * 4, none⟩) hl]; exact h1
  · rw [hb.cell (p := ⟨b, off + i * 4 + 1, none⟩) hl]; exact h2
  · rw [hb.cell (p := ⟨b, off + i * 4 + 2, none⟩) hl]; exact h3
  · rw [hb.cell (p := ⟨b, off + i * 4 + 3, none⟩) hl]; exact h4
def bestN (vs : List Vc) : Nat → Int
  | 0 => -1
  | k + 1 => if bestN vs k < 0 ∨ betB (vs.getD k Vc.zero) (vs.getD (bestN vs k).toNat Vc.zero) = true then (k : Int) else bestN vs k
theorem bestN_range (vs : List Vc) : ∀ k : Nat, -1 ≤ bestN vs k ∧ bestN vs k < k ∧ (0 < k → 0 ≤ bestN vs k)
  | 0 => by simp [bestN]
  | k + 1 => by
    have h := bestN_range vs k
    rw [bestN]
    split
    · omega
    · rename_i h1
      simp only [not_or] at h1
      omega
theorem Best_any (a : Option Addr) (n cap : Nat) (vs : List Vc) (w : World) (hn : n ≤ 100000) (hI : Hid (Vcs w a n vs)) :
    Calls Try.prog 29 #[.slice a n cap] w fun r w' => r = .returned (.int .i64 (bestN vs n)) ∧ Below w.heap.size w w' := by
  go_enter Try.func29, Try.ntmps29
  go_wp2
  go_loopw [3, 8] (fun x i wr => ∃ j : Nat, j ≤ n ∧ i = .int .i64 j ∧ x = .int .i64 (bestN vs j) ∧ Hid (Below w.heap.size w wr)) (fun _ i _ => n - (intOf i).toNat)
  case atStart => exact ⟨0, Nat.zero_le _, rfl, rfl, hide (Below.refl _ _)⟩
  case round =>
    obtain ⟨j, hj, rfl, rfl, hB⟩ := hrel
    by_cases hlt : j < n
    · have hV := hide (hI.out.below hB.out)
      obtain ⟨b, off, rfl, c0, c1, c2, c3, hwf⟩ := hV.out j hlt
      have hS : Hid (bestN vs (j + 1) = if bestN vs j < 0 ∨ betB (vs.getD j Vc.zero) (vs.getD (bestN vs j).toNat Vc.zero) = true then (j : Int) else bestN vs j) := rfl
      have hr := bestN_range vs j
      obtain ⟨hr0, hr1, _⟩ := hr
      generalize hB1 : bestN vs (j + 1) = B1 at *
      generalize hB0 : bestN vs j = B0 at *
      generalize hX : vs.getD j Vc.zero = X at *
      replace hB0 := hide hB0
      replace hB1 := hide hB1
      replace hX := hide hX
      by_cases hneg : B0 < 0
      · have hE : Hid (B1 = j) := hS.out.trans (if_pos (.inl hneg))
        go_wp2_with fail
        have hb1 : Below w.heap.size w (wr.alloc (.cells #[.int .u64 X.root, .int .u64 X.cost, .int .u64 X.bridge, .int .i64 X.port] 45)).drew := below_drewN (hB.out.later (below1 wr _)) 1
        refine wp_region_noPanic ?_
        refine wp_region_held_drew (S := fun W => True) (by kernel_rfl) trivial (fun hHeld => ?_)
        refine wpAnyH_take (i := 0) (oi := { dst := some 13, op := Op.move (Operand.tmp 3), type := 3, pos := "vector.go:64", after := #[], guard := none }) (v := ?v1) rfl (by kernel_rfl) (by kernel_rfl) (by kernel_rfl) (fun _ _ _ h => h) (Or.inl ⟨by rfl, ?y1⟩) (by assumption) ?r1
        case y1 => (intro w hSw; (try dsimp only at hSw); (try (go_split_ands)); go_simp; try with_reducible rfl)
        try simp only [Act.put, List.setIfInBounds_toArray, List.set_cons_zero, List.set_cons_succ]
        refine wpAnyH_take (i := 1) (oi := { dst := some 14, op := Op.binOp BinOp.lss 3 (Operand.tmp 13) (Operand.const (Value.int IntKind.i64 0)) 3, type := 4, pos := "vector.go:64", after := #[{ on := 0, ground := Ground.data }], guard := none }) (v := ?v2) rfl (by kernel_rfl) (by kernel_rfl) (by kernel_rfl) (fun _ _ _ h => h) (Or.inl ⟨by rfl, ?y2⟩) (by assumption) ?r2
        case y2 => (intro w hSw; (try dsimp only at hSw); (try (go_split_ands)); go_simp; try with_reducible rfl)
        try simp only [Act.put, List.setIfInBounds_toArray, List.set_cons_zero, List.set_cons_succ]
        refine wpAnyH_take (i := 2) (oi := { dst := some 15, op := Op.move (Operand.tmp 14), type := 4, pos := "vector.go:64", after := #[{ on := 1, ground := Ground.data }], guard := none }) (v := ?v3) rfl (by kernel_rfl) (by kernel_rfl) (by kernel_rfl) (fun _ _ _ h => h) (Or.inl ⟨by rfl, ?y3⟩) (by assumption) ?r3
        case y3 => (intro w hSw; (try dsimp only at hSw); (try (go_split_ands)); go_simp; try with_reducible rfl)
        try simp only [Act.put, List.setIfInBounds_toArray, List.set_cons_zero, List.set_cons_succ]
        refine wpAnyH_take (i := 3) (oi := { dst := some 16, op := Op.load 45 (Operand.tmp 5), type := 45, pos := "vector.go:64", after := #[{ on := 2, ground := Ground.guard }], guard := some (2, false) }) (v := undef) rfl (by kernel_rfl) (by kernel_rfl) (by kernel_rfl) (fun _ _ _ h => h) (Or.inr ⟨by rfl, rfl⟩) (by assumption) ?_
        try simp only [Act.put, List.setIfInBounds_toArray, List.set_cons_zero, List.set_cons_succ]
        refine wpAnyH_take (i := 4) (oi := { dst := some 17, op := Op.move (Operand.tmp 0), type := 51, pos := "vector.go:64", after := #[{ on := 2, ground := Ground.guard }], guard := some (2, false) }) (v := undef) rfl (by kernel_rfl) (by kernel_rfl) (by kernel_rfl) (fun _ _ _ h => h) (Or.inr ⟨by rfl, rfl⟩) (by assumption) ?_
        try simp only [Act.put, List.setIfInBounds_toArray, List.set_cons_zero, List.set_cons_succ]
        refine wpAnyH_take (i := 5) (oi := { dst := some 18, op := Op.move (Operand.tmp 3), type := 3, pos := "vector.go:64", after := #[{ on := 2, ground := Ground.guard }], guard := some (2, false) }) (v := undef) rfl (by kernel_rfl) (by kernel_rfl) (by kernel_rfl) (fun _ _ _ h => h) (Or.inr ⟨by rfl, rfl⟩) (by assumption) ?_
        try simp only [Act.put, List.setIfInBounds_toArray, List.set_cons_zero, List.set_cons_succ]
        refine wpAnyH_take (i := 6) (oi := { dst := some 19, op := Op.indexAddr 51 (Operand.tmp 17) (Operand.tmp 18), type := 0, pos := "vector.go:64", after := #[{ on := 4, ground := Ground.data }, { on := 5, ground := Ground.data }, { on := 2, ground := Ground.guard }], guard := some (2, false) }) (v := undef) rfl (by kernel_rfl) (by kernel_rfl) (by kernel_rfl) (fun _ _ _ h => h) (Or.inr ⟨by rfl, rfl⟩) (by assumption) ?_
        try simp only [Act.put, List.setIfInBounds_toArray, List.set_cons_zero, List.set_cons_succ]
        refine wpAnyH_take (i := 7) (oi := { dst := some 20, op := Op.load 45 (Operand.tmp 19), type := 45, pos := "vector.go:64", after := #[{ on := 6, ground := Ground.data }, { on := 2, ground := Ground.guard }], guard := some (2, false) }) (v := undef) rfl (by kernel_rfl) (by kernel_rfl) (by kernel_rfl) (fun _ _ _ h => h) (Or.inr ⟨by rfl, rfl⟩) (by assumption) ?_
        try simp only [Act.put, List.setIfInBounds_toArray, List.set_cons_zero, List.set_cons_succ]
        refine wpAnyH_take (i := 8) (oi := { dst := some 21, op := Op.call { callee := Callee.value (Operand.func 27), args := #[Operand.tmp 16, Operand.tmp 20], argTypes := #[45, 45] }, type := 4, pos := "vector.go:64", after := #[{ on := 3, ground := Ground.data }, { on := 7, ground := Ground.data }, { on := 2, ground := Ground.chain }, { on := 2, ground := Ground.guard }], guard := some (2, false) }) (v := undef) rfl (by kernel_rfl) (by kernel_rfl) (by kernel_rfl) (fun _ _ _ h => h) (Or.inr ⟨by rfl, rfl⟩) (by assumption) ?_
        try simp only [Act.put, List.setIfInBounds_toArray, List.set_cons_zero, List.set_cons_succ]
        refine wpAnyH_take (i := 9) (oi := { dst := some 22, op := Op.pick (Operand.tmp 15) (Operand.const (Value.bool true)) (Operand.tmp 21), type := 4, pos := "vector.go:64", after := #[{ on := 2, ground := Ground.data }, { on := 8, ground := Ground.data }], guard := none }) (v := ?v4) rfl (by kernel_rfl) (by kernel_rfl) (by kernel_rfl) (fun _ _ _ h => h) (Or.inl ⟨by rfl, ?y4⟩) (by assumption) ?r4
        case y4 => (intro w hSw; (try dsimp only at hSw); (try (go_split_ands)); go_simp; try with_reducible rfl)
        try simp only [Act.put, List.setIfInBounds_toArray, List.set_cons_zero, List.set_cons_succ]
        refine wpAnyH_done (by kernel_rfl) ?_ _
        refine NoPanic.normal ?_
        go_wp2
        go_round
        case rel => exact ⟨j + 1, by omega, by go_num, by rw [hB1.out, hE.out], hide hb1⟩
        case measure => simp [intOf]; omega
      · obtain ⟨t, rfl⟩ := Int.eq_ofNat_of_zero_le (show 0 ≤ B0 by omega)
        obtain ⟨b', off', hbo, d0, d1, d2, d3, hwf'⟩ := hV.out t (by omega)
        simp only [Option.some.injEq, Addr.mk.injEq, and_true] at hbo
        obtain ⟨rfl, rfl⟩ := hbo
        have hE : Hid (B1 = if betB X (vs.getD t Vc.zero) = true then (j : Int) else t) := by
          have h := hS.out
          simp only [hneg, false_or, Int.toNat_natCast] at h
          exact h
        clear hS
        generalize vs.getD t Vc.zero = Y at *
        have hBt := hide (fun w => Better_any X Y w)
        generalize betB X Y = y at *
        obtain ⟨x0, x1, x2, x3⟩ := X
        obtain ⟨y0, y1, y2, y3⟩ := Y
        dsimp only at *
        have hb1 : Below wr.heap.size wr (wr.alloc (.cells #[.int .u64 x0, .int .u64 x1, .int .u64 x2, .int .i64 x3] 45)).drew := below_drewN (below1 wr _) 1
        have hN : (wr.alloc (.cells #[.int .u64 x0, .int .u64 x1, .int .u64 x2, .int .i64 x3] 45)).drew.heap[wr.heap.size]? = some (.cells #[.int .u64 x0, .int .u64 x1, .int .u64 x2, .int .i64 x3] 45) := heap_alloc_new wr _
        have hl := block_lt_of_cell d0
        have hb := hide hB.out
        have htn : t < n := by omega
        go_wp2_with fail
        refine wp_region_noPanic ?_
        refine wp_region_held_drew (S := fun W => W.cell? ⟨wr.heap.size, 0, none⟩ = some (.int .u64 x0) ∧ W.cell? ⟨wr.heap.size, 1, none⟩ = some (.int .u64 x1) ∧ W.cell? ⟨wr.heap.size, 2, none⟩ = some (.int .u64 x2) ∧ W.cell? ⟨wr.heap.size, 3, none⟩ = some (.int .i64 x3) ∧
          W.cell? ⟨b, off + t * 4, none⟩ = some (.int .u64 y0) ∧ W.cell? ⟨b, off + t * 4 + 1, none⟩ = some (.int .u64 y1) ∧ W.cell? ⟨b, off + t * 4 + 2, none⟩ = some (.int .u64 y2) ∧ W.cell? ⟨b, off + t * 4 + 3, none⟩ = some (.int .i64 y3)) (by kernel_rfl) ?_ (fun hHeld => ?_)
        · exact ⟨(cell_of_row _ _ _ _ _ _ hN).trans rfl, (cell_of_row _ _ _ _ _ _ hN).trans rfl, (cell_of_row _ _ _ _ _ _ hN).trans rfl, (cell_of_row _ _ _ _ _ _ hN).trans rfl,
            (hb1.cell (p := ⟨b, off + t * 4, none⟩) hl).trans d0, (hb1.cell (p := ⟨b, off + t * 4 + 1, none⟩) hl).trans d1, (hb1.cell (p := ⟨b, off + t * 4 + 2, none⟩) hl).trans d2, (hb1.cell (p := ⟨b, off + t * 4 + 3, none⟩) hl).trans d3⟩
        refine wpAnyH_take (i := 0) (oi := { dst := some 13, op := Op.move (Operand.tmp 3), type := 3, pos := "vector.go:64", after := #[], guard := none }) (v := ?v5) rfl (by kernel_rfl) (by kernel_rfl) (by kernel_rfl) (fun _ _ _ h => h) (Or.inl ⟨by rfl, ?y5⟩) (by assumption) ?r5
        case y5 => (intro w hSw; (try dsimp only at hSw); (try (go_split_ands)); go_simp; try with_reducible rfl)
        try simp only [Act.put, List.setIfInBounds_toArray, List.set_cons_zero, List.set_cons_succ]
        refine wpAnyH_take (i := 1) (oi := { dst := some 14, op := Op.binOp BinOp.lss 3 (Operand.tmp 13) (Operand.const (Value.int IntKind.i64 0)) 3, type := 4, pos := "vector.go:64", after := #[{ on := 0, ground := Ground.data }], guard := none }) (v := ?v6) rfl (by kernel_rfl) (by kernel_rfl) (by kernel_rfl) (fun _ _ _ h => h) (Or.inl ⟨by rfl, ?y6⟩) (by assumption) ?r6
        case y6 => (intro w hSw; (try dsimp only at hSw); (try (go_split_ands)); go_simp; try with_reducible rfl)
        try simp only [Act.put, List.setIfInBounds_toArray, List.set_cons_zero, List.set_cons_succ]
        refine wpAnyH_take (i := 2) (oi := { dst := some 15, op := Op.move (Operand.tmp 14), type := 4, pos := "vector.go:64", after := #[{ on := 1, ground := Ground.data }], guard := none }) (v := ?v7) rfl (by kernel_rfl) (by kernel_rfl) (by kernel_rfl) (fun _ _ _ h => h) (Or.inl ⟨by rfl, ?y7⟩) (by assumption) ?r7
        case y7 => (intro w hSw; (try dsimp only at hSw); (try (go_split_ands)); go_simp; try with_reducible rfl)
        try simp only [Act.put, List.setIfInBounds_toArray, List.set_cons_zero, List.set_cons_succ]
        refine wpAnyH_take (i := 3) (oi := { dst := some 16, op := Op.load 45 (Operand.tmp 5), type := 45, pos := "vector.go:64", after := #[{ on := 2, ground := Ground.guard }], guard := some (2, false) }) (v := ?v8) rfl (by kernel_rfl) (by kernel_rfl) (by kernel_rfl) (fun _ _ _ h => h) (Or.inl ⟨by rfl, ?y8⟩) (by assumption) ?r8
        case y8 => (intro w hSw; (try dsimp only at hSw); (try (go_split_ands)); go_simp; try with_reducible rfl)
        try simp only [Act.put, List.setIfInBounds_toArray, List.set_cons_zero, List.set_cons_succ]
        refine wpAnyH_take (i := 4) (oi := { dst := some 17, op := Op.move (Operand.tmp 0), type := 51, pos := "vector.go:64", after := #[{ on := 2, ground := Ground.guard }], guard := some (2, false) }) (v := ?v9) rfl (by kernel_rfl) (by kernel_rfl) (by kernel_rfl) (fun _ _ _ h => h) (Or.inl ⟨by rfl, ?y9⟩) (by assumption) ?r9
        case y9 => (intro w hSw; (try dsimp only at hSw); (try (go_split_ands)); go_simp; try with_reducible rfl)
        try simp only [Act.put, List.setIfInBounds_toArray, List.set_cons_zero, List.set_cons_succ]
        refine wpAnyH_take (i := 5) (oi := { dst := some 18, op := Op.move (Operand.tmp 3), type := 3, pos := "vector.go:64", after := #[{ on := 2, ground := Ground.guard }], guard := some (2, false) }) (v := ?v10) rfl (by kernel_rfl) (by kernel_rfl) (by kernel_rfl) (fun _ _ _ h => h) (Or.inl ⟨by rfl, ?y10⟩) (by assumption) ?r10
        case y10 => (intro w hSw; (try dsimp only at hSw); (try (go_split_ands)); go_simp; try with_reducible rfl)
        try simp only [Act.put, List.setIfInBounds_toArray, List.set_cons_zero, List.set_cons_succ]
        refine wpAnyH_take (i := 6) (oi := { dst := some 19, op := Op.indexAddr 51 (Operand.tmp 17) (Operand.tmp 18), type := 0, pos := "vector.go:64", after := #[{ on := 4, ground := Ground.data }, { on := 5, ground := Ground.data }, { on := 2, ground := Ground.guard }], guard := some (2, false) }) (v := ?v11) rfl (by kernel_rfl) (by kernel_rfl) (by kernel_rfl) (fun _ _ _ h => h) (Or.inl ⟨by rfl, ?y11⟩) (by assumption) ?r11
        case y11 => (intro w hSw; (try dsimp only at hSw); (try (go_split_ands)); go_simp; try with_reducible rfl)
        try simp only [Act.put, List.setIfInBounds_toArray, List.set_cons_zero, List.set_cons_succ]
        refine wpAnyH_take (i := 7) (oi := { dst := some 20, op := Op.load 45 (Operand.tmp 19), type := 45, pos := "vector.go:64", after := #[{ on := 6, ground := Ground.data }, { on := 2, ground := Ground.guard }], guard := some (2, false) }) (v := ?v12) rfl (by kernel_rfl) (by kernel_rfl) (by kernel_rfl) (fun _ _ _ h => h) (Or.inl ⟨by rfl, ?y12⟩) (by assumption) ?r12
        case y12 => (intro w hSw; (try dsimp only at hSw); (try (go_split_ands)); go_simp; try with_reducible rfl)
        try simp only [Act.put, List.setIfInBounds_toArray, List.set_cons_zero, List.set_cons_succ]
        refine wpAnyH_ready (rs := [8]) (by kernel_rfl) (by simp) ?_
        refine AllReadyH.cons (o := { dst := some 21, op := Op.call { callee := Callee.value (Operand.func 27), args := #[Operand.tmp 16, Operand.tmp 20], argTypes := #[45, 45] }, type := 4, pos := "vector.go:64", after := #[{ on := 3, ground := Ground.data }, { on := 7, ground := Ground.data }, { on := 2, ground := Ground.chain }, { on := 2, ground := Ground.guard }], guard := some (2, false) }) rfl (fun K hK => ?_) AllReadyH.nil
        go_simp
        refine (hBt.out _).mono ?_
        rintro e w2 ⟨rfl, hb2⟩
        have hb3 : Below wr.heap.size wr w2 := hb1.later hb2
        have hN2 := heap_kept hb2 hN
        go_wp2_with fail
        refine hK.out _ _ ?_ (fun hHeld8 => ?_)
        · exact ⟨(cell_of_row _ _ _ _ _ _ hN2).trans rfl, (cell_of_row _ _ _ _ _ _ hN2).trans rfl, (cell_of_row _ _ _ _ _ _ hN2).trans rfl, (cell_of_row _ _ _ _ _ _ hN2).trans rfl,
            (hb3.cell (p := ⟨b, off + t * 4, none⟩) hl).trans d0, (hb3.cell (p := ⟨b, off + t * 4 + 1, none⟩) hl).trans d1, (hb3.cell (p := ⟨b, off + t * 4 + 2, none⟩) hl).trans d2, (hb3.cell (p := ⟨b, off + t * 4 + 3, none⟩) hl).trans d3⟩
        clear hK K
        try simp only [Act.put, List.setIfInBounds_toArray, List.set_cons_zero, List.set_cons_succ]
        have hbE := hide (hb.out.later hb3)
        have ht0 : ¬ ((t : Int) < 0) := by omega
        cases y
        ·
          refine wpAnyH_take (i := 9) (oi := { dst := some 22, op := Op.pick (Operand.tmp 15) (Operand.const (Value.bool true)) (Operand.tmp 21), type := 4, pos := "vector.go:64", after := #[{ on := 2, ground := Ground.data }, { on := 8, ground := Ground.data }], guard := none }) (v := ?v13) rfl (by kernel_rfl) (by kernel_rfl) (by kernel_rfl) (fun _ _ _ h => h) (Or.inl ⟨by rfl, ?y13⟩) (by assumption) ?r13
          case y13 => (intro w hSw; (try dsimp only at hSw); (try (go_split_ands)); go_simp; try with_reducible rfl)
          try simp only [Act.put, List.setIfInBounds_toArray, List.set_cons_zero, List.set_cons_succ]
          refine wpAnyH_done (by kernel_rfl) ?_ _
          refine NoPanic.normal ?_
          clear hb3 hb1 hb2 hN hN2 hBt hHeld hHeld8
          go_wp2
          go_round
          case rel => exact ⟨j + 1, by omega, by go_num, by rw [hB1.out, hE.out]; simp, hbE⟩
          case measure => simp [intOf]; omega
        ·
          refine wpAnyH_take (i := 9) (oi := { dst := some 22, op := Op.pick (Operand.tmp 15) (Operand.const (Value.bool true)) (Operand.tmp 21), type := 4, pos := "vector.go:64", after := #[{ on := 2, ground := Ground.data }, { on := 8, ground := Ground.data }], guard := none }) (v := ?v14) rfl (by kernel_rfl) (by kernel_rfl) (by kernel_rfl) (fun _ _ _ h => h) (Or.inl ⟨by rfl, ?y14⟩) (by assumption) ?r14
          case y14 => (intro w hSw; (try dsimp only at hSw); (try (go_split_ands)); go_simp; try with_reducible rfl)
          try simp only [Act.put, List.setIfInBounds_toArray, List.set_cons_zero, List.set_cons_succ]
          refine wpAnyH_done (by kernel_rfl) ?_ _
          refine NoPanic.normal ?_
          clear hb3 hb1 hb2 hN hN2 hBt hHeld hHeld8
          go_wp2
          go_round
          case rel => exact ⟨j + 1, by omega, by go_num, by rw [hB1.out, hE.out]; simp, hbE⟩
          case measure => simp [intOf]; omega
    · go_wp2
      go_ret
      obtain rfl : j = n := by omega
      exact ⟨rfl, hB.out⟩
end Go.Proofs.Ytjfjohbibkidhaa
