/-
  The walk of FdbFull. Conditions: those that each theorem names.
-/
import Derived.Test.YtiahiakllpjliaaLFa
namespace Go.Proofs.Ytiahiakllpjliaa
open Go.RowKit Go.Maps
set_option linter.unusedVariables false
set_option linter.unusedSimpArgs false
set_option maxRecDepth 20000

/-- The station number i. -/
def nthM (i : Nat) : M6 := ⟨2, (i : Int) / 256, (i : Int) % 256, 0, 0, 0⟩
theorem nthM_row (i : Nat) : (nthM i).row = #[.int .u8 2, .int .u8 ((i : Int) / 256), .int .u8 ((i : Int) % 256), .int .u8 0, .int .u8 0, .int .u8 0] := rfl
def nthF (i : Nat) : Fe := ⟨1, nthM i, i, i⟩
def fullL (j : Nat) : List Fe := (List.range j).map nthF
def othM : M6 := ⟨4, 0, 0, 0, 0, 0⟩
theorem nthM_wf (i : Nat) (h : i < 65536) : (nthM i).wf := by
  unfold nthM M6.wf
  simp only []
  omega
theorem fullL_len (j : Nat) : (fullL j).length = j := by simp [fullL]
theorem fullL_mem {j : Nat} {e : Fe} (h : e ∈ fullL j) : ∃ i, i < j ∧ e = nthF i := by
  obtain ⟨i, hi, rfl⟩ := List.mem_map.1 h
  exact ⟨i, List.mem_range.1 hi, rfl⟩
theorem fullL_fes (j : Nat) (h : j ≤ 300) : Fes (fullL j) := ⟨by rw [fullL_len]; omega, fun e he => by
  obtain ⟨i, hi, rfl⟩ := fullL_mem he
  refine ⟨⟨?_, ?_⟩, nthM_wf i (by omega)⟩
  · show (0 : Int) ≤ (i : Int); omega
  · show (i : Int) ≤ 4611686018427387904; omega⟩
theorem kept_all {p : Fe → Bool} {l : List Fe} (h : ∀ e ∈ l, p e = false) : kept p l = l := by
  unfold kept
  rw [List.filter_eq_self]
  intro e he
  rw [h e he]; rfl
theorem nthM_ne {i j : Nat} (h : i < j) (hj : j < 65536) : ¬ nthM i = nthM j := by
  unfold nthM
  simp
  omega
theorem old_none {j now : Nat} (h : now ≤ 500) (hj : j ≤ 300) : kept (oldB 1000 now) (fullL j) = fullL j := kept_all fun e he => by
  obtain ⟨i, hi, rfl⟩ := fullL_mem he
  unfold oldB nthF
  simp only []
  rw [decide_eq_false_iff_not]
  omega
theorem full_learn (room j : Nat) (h : j < room) (hr : room ≤ 300) : learnR room 1000 0 (fullL j) 1 (nthM j) j j = (0, 0, fullL (j + 1)) := by
  have hg : grpB (nthM j) = false := rfl
  have ha : aheadL 1000 j 1 (nthM j) (fullL j) = fullL j := by
    unfold aheadL
    rw [old_none (by omega) (by omega)]
    exact kept_all fun e he => by
      obtain ⟨i, hi, rfl⟩ := fullL_mem he
      unfold isB nthF
      simp only []
      rw [decide_eq_false (nthM_ne hi (by omega)), Bool.and_false]
  unfold learnR
  rw [hg, if_neg (by decide), ha]
  simp only []
  rw [fullL_len, if_neg (by omega)]
  unfold fullL
  rw [List.range_succ, List.map_append]
  rfl
theorem othM_ne (i : Nat) : ¬ nthM i = othM := by unfold nthM othM; simp
theorem oth_none (l : List Fe) (j : Nat) (hs : ∀ e ∈ l, ∃ i, e = nthF i) : kept (isB 1 othM) l = l := kept_all fun e he => by
  obtain ⟨i, rfl⟩ := hs e he
  unfold isB nthF
  simp only []
  rw [decide_eq_false (othM_ne i), Bool.and_false]
theorem full_other (room : Nat) (hr : room ≤ 300) : learnR room 1000 0 (fullL room) 1 othM 7 500 = (20, 1, fullL room) := by
  have hg : grpB othM = false := rfl
  have ha : aheadL 1000 500 1 othM (fullL room) = fullL room := by
    unfold aheadL
    rw [show ((500 : Int)) = ((500 : Nat) : Int) from rfl, old_none (by omega) hr, oth_none _ 0 (fun e he => by obtain ⟨i, _, h⟩ := fullL_mem he; exact ⟨i, h⟩)]
  unfold learnR
  rw [hg, if_neg (by decide), ha]
  simp only []
  rw [fullL_len, if_pos (by omega)]
  rfl
theorem full_miss (room : Nat) : findR 1000 500 1 othM (fullL room) = (0, 21) := by
  unfold findR
  rw [List.find?_eq_none.2]
  intro e he
  obtain ⟨i, hi, rfl⟩ := fullL_mem he
  unfold findB isB nthF
  simp only []
  rw [decide_eq_false (othM_ne i), Bool.and_false]
  simp
/-- What is kept when the first one is old. -/
def lastL (room : Nat) : List Fe := kept (oldB 1000 1000) (fullL room) ++ [⟨1, othM, 7, 1000⟩]
theorem fullL_succ (k : Nat) : fullL (k + 1) = nthF 0 :: (List.range k).map (fun i => nthF (i + 1)) := by
  unfold fullL
  rw [List.range_succ_eq_map, List.map_cons, List.map_map]
  rfl
theorem old_first (k : Nat) : kept (oldB 1000 1000) (fullL (k + 1)) = (List.range k).map (fun i => nthF (i + 1)) := by
  rw [fullL_succ]
  unfold kept
  rw [List.filter_cons_of_neg (by simp [oldB, nthF])]
  apply kept_all (p := oldB 1000 1000)
  intro e he
  obtain ⟨i, _, rfl⟩ := List.mem_map.1 he
  unfold oldB nthF
  simp only []
  rw [decide_eq_false_iff_not]
  omega
theorem full_again (k : Nat) (hr : k + 1 ≤ 300) : learnR ((k + 1 : Nat) : Int) 1000 1 (fullL (k + 1)) 1 othM 7 1000 = (0, 1, lastL (k + 1)) := by
  have hg : grpB othM = false := rfl
  have ha : aheadL 1000 1000 1 othM (fullL (k + 1)) = kept (oldB 1000 1000) (fullL (k + 1)) := by
    unfold aheadL
    rw [old_first, oth_none _ 0 (fun e he => by obtain ⟨i, _, rfl⟩ := List.mem_map.1 he; exact ⟨i + 1, rfl⟩)]
  have hlen : (kept (oldB 1000 1000) (fullL (k + 1))).length = k := by rw [old_first]; simp
  unfold learnR
  rw [hg, if_neg (by decide), ha]
  simp only []
  rw [hlen, if_neg (by omega)]
  rfl
theorem last_len (k : Nat) : (lastL (k + 1)).length = k + 1 := by unfold lastL; rw [old_first]; simp
theorem last_fes (k : Nat) (hr : k + 1 ≤ 300) : Fes (lastL (k + 1)) := ⟨by rw [last_len]; omega, fun e he => by
  unfold lastL at he
  rcases List.mem_append.1 he with he | he
  · exact ((fullL_fes (k + 1) hr).filter _).2 e he
  · simp at he; subst he; exact ⟨by decide, by decide⟩⟩
theorem full_hit (k : Nat) : findR 1000 1000 1 othM (lastL (k + 1)) = (7, 0) := by
  unfold findR lastL
  rw [List.find?_append, List.find?_eq_none.2]
  · simp [findB, isB, oldB]
  · intro e he
    rw [old_first] at he
    obtain ⟨i, _, rfl⟩ := List.mem_map.1 he
    unfold findB isB nthF
    simp only []
    rw [decide_eq_false (othM_ne _), Bool.and_false]
    simp
set_option maxHeartbeats 16000000 in
theorem Full_walk (room : Int) (w : World) : Calls Try.prog 6 #[.int .i64 room] w fun r w' => r = .returned (.bool true) ∧ Below w.heap.size w w' := by
  have hk := hide (keeps_any w)
  go_enter Try.func6, Try.ntmps6
  go_wp2_with fail
  refine hk.out.mono ?_
  rintro _ w1 ⟨rfl, hb1⟩
  have hB1 := hide hb1
  clear hk hb1
  by_cases h1 : room < 1
  · go_wp2
    go_ret
    exact ⟨rfl, hB1.out⟩
  by_cases h2 : 300 < room
  · go_wp2
    go_ret
    exact ⟨rfl, hB1.out⟩
  obtain ⟨n, rfl⟩ := Int.eq_ofNat_of_zero_le (show 0 ≤ room by omega)
  have hn1 : 1 ≤ n := by omega
  have hn3 : n ≤ 300 := by omega
  have hd1 : decide ((n : Int) < 1) = false := decide_eq_false (by omega)
  have hd2 : decide ((300 : Int) < (n : Int)) = false := decide_eq_false (by omega)
  go_wp2_with fail
  have hrm : min (max ((n : Int)) 0) 1024 = n := by omega
  refine (FoNew (K := w.heap.size) (A := fun _ => False) n 1000 w1 (fun k h => h.elim) hB1.out.size).mono ?_
  rw [hrm]
  rintro _ w2 ⟨rfl, hF, hb2⟩
  have hF2 : Hid (Fo w.heap.size (fun _ => False) w2 w1.heap.size n 1000 0 (fullL 0)) := hF
  have hB2 := hide (hB1.out.trans (hb2.mono hB1.out.size))
  clear hF hB1 hb2 hrm
  generalize w1.heap.size = t at *
  clear w1
  go_wp2_with fail
  go_loopw [22] (fun i wr => ∃ j : Nat, j ≤ n ∧ i = .int .i64 j ∧ Hid (Fo w.heap.size (fun _ => False) wr t n 1000 0 (fullL j)) ∧ Hid (Below w.heap.size w wr)) (fun i _ => n - (intOf i).toNat)
  case atStart => exact ⟨0, Nat.zero_le _, rfl, hF2, hB2⟩
  case round =>
    obtain ⟨j, hj, rfl, hF, hB⟩ := hrel
    clear hF2 hB2
    by_cases hlt : j < n
    · have hE := full_learn n j hlt hn3
      have hL := hide (FoLearn hF.out (fullL_fes j (by omega)) 1 (nthM j) j j (nthM_wf j (by omega)) ⟨by omega, by omega⟩ (by decide))
      rw [hE, nthM_row] at hL
      clear hE
      go_wp2_with fail
      refine hL.out.mono ?_
      rintro _ w3 ⟨rfl, hFn, hBn, hKn⟩
      have hFf := hide hFn
      have hBf := hide (hB.out.trans hBn)
      clear hL hFn hBn hKn hF hB
      go_wp2
      go_roundw
      case rel => exact ⟨j + 1, by omega, by go_num, hFf, hBf⟩
      case measure => simp [intOf]; omega
    · obtain rfl : n = j := by omega
      obtain ⟨k, hk⟩ : ∃ k, n = k + 1 := ⟨n - 1, by omega⟩
      go_wp2_with ((with_reducible change wpList _ _ _ _ _ _); refine stop_storeB 28 (.tmp 5) (.tmp 37) rfl ?_)
      have hza := heap_alloc_new wr (.cells (M6.row ⟨0, 0, 0, 0, 0, 0⟩) 28)
      have hF2 := hF.out.more (A' := fun k => k = wr.heap.size) (below1 wr (.cells (M6.row ⟨0, 0, 0, 0, 0, 0⟩) 28)) (fun k e => .inr (by rw [World.size_alloc]; omega))
      have hB2 := hB.out.trans ((below1 wr (.cells (M6.row ⟨0, 0, 0, 0, 0, 0⟩) 28)).mono hF.out.size)
      have hta := hF.out.size
      generalize wr.heap.size = a at *
      generalize wr.alloc (.cells (M6.row ⟨0, 0, 0, 0, 0, 0⟩) 28) = w3 at *
      have hra : (w3.setRow a othM.row).heap[a]? = some (.cells othM.row 28 (0, 0)) := setRow_heap _ _ _ _ _ _ hza
      refine hide (wpList_store_row rfl 28 (.tmp 5) (.tmp 37) rfl a othM.row rfl rfl 28 _ hza (m6Size othM) rfl (by simp [othM, Value.oneCell']) ?_)
      have hC : Ch (fun k => k = a) w3 (w3.setRow a othM.row) := ⟨rfl, rfl, rfl, by simp [World.setRow], fun k _ hk => Go.setRow_other _ _ _ _ hk⟩
      have hF4 := hide (hF2.wrote hC)
      have hB4 := hide (hB2.trans (hC.belowK (K := w.heap.size) (by rintro k rfl; omega) hF2.size))
      have hr4 := hide hra
      clear hza hF2 hB2 hta hra hC hF hB
      generalize w3.setRow a othM.row = w4 at *
      clear w3 wr
      have hsz : (Try.prog.info? 28).map (·.size) = some othM.row.size := m6Size othM
      have hL := hide (FoLearn hF4.out (fullL_fes n hn3) 1 othM 7 500 (by decide) (by decide) (by decide))
      rw [full_other n hn3] at hL
      generalize hR : othM.row = R at *
      go_wp2_with ((with_reducible change wpList _ _ _ _ _ _); refine wpList_load_row_on rfl 28 (.tmp 5) rfl a rfl 28 _ _ _ hr4.out Try.underlying28 rfl hsz ?_)
      refine hL.out.mono ?_
      rintro _ w5 ⟨rfl, hFn, hBn, hKn⟩
      have hF5 : Hid (Fo w.heap.size _ w5 t n 1000 1 (fullL n)) := hFn
      have hB5 := hide (hB4.out.trans hBn)
      have hr5 := hide ((hKn a rfl).trans hr4.out)
      clear hL hFn hBn hKn hF4 hB4 hr4
      go_wp2_with fail
      refine (FoLost hF5.out).mono ?_
      rintro _ _ ⟨rfl, rfl⟩
      have hL := hide (FoFind hF5.out (fullL_fes n hn3) 1 othM 500 (by decide) (by decide))
      rw [full_miss n, hR] at hL
      go_wp2_with ((with_reducible change wpList _ _ _ _ _ _); refine wpList_load_row_on rfl 28 (.tmp 5) rfl a rfl 28 _ _ _ hr5.out Try.underlying28 rfl hsz ?_)
      refine hL.out.mono ?_
      rintro _ w6 ⟨rfl, hFn, hBn⟩
      have hF6 := hide hFn
      have hB6 := hide (hB5.out.trans (hBn.mono hF5.out.size))
      have hr6 := hide (heap_kept hBn hr5.out)
      clear hL hFn hBn hF5 hB5 hr5
      have hL := hide (FoLearn hF6.out (fullL_fes n hn3) 1 othM 7 1000 (by decide) (by decide) (by decide))
      have hE : learnR (n : Int) 1000 1 (fullL n) 1 othM 7 1000 = (0, 1, lastL n) := by rw [hk]; exact full_again k (by omega)
      rw [hE, hR] at hL
      clear hE
      go_wp2_with ((with_reducible change wpList _ _ _ _ _ _); refine wpList_load_row_on rfl 28 (.tmp 5) rfl a rfl 28 _ _ _ hr6.out Try.underlying28 rfl hsz ?_)
      refine hL.out.mono ?_
      rintro _ w7 ⟨rfl, hFn, hBn, hKn⟩
      have hF7 : Hid (Fo w.heap.size _ w7 t n 1000 1 (lastL n)) := hFn
      have hB7 := hide (hB6.out.trans hBn)
      have hr7 := hide ((hKn a rfl).trans hr6.out)
      clear hL hFn hBn hKn hF6 hB6 hr6
      have hfl : Fes (lastL n) := by rw [hk]; exact last_fes k (by omega)
      have hL := hide (FoFind hF7.out hfl 1 othM 1000 (by decide) (by decide))
      have hE : findR 1000 1000 1 othM (lastL n) = (7, 0) := by rw [hk]; exact full_hit k
      rw [hE, hR] at hL
      clear hE
      replace hfl := hide hfl
      go_wp2_with ((with_reducible change wpList _ _ _ _ _ _); refine wpList_load_row_on rfl 28 (.tmp 5) rfl a rfl 28 _ _ _ hr7.out Try.underlying28 rfl hsz ?_)
      refine hL.out.mono ?_
      rintro _ w8 ⟨rfl, hFn, hBn⟩
      have hF8 := hide hFn
      have hB8 := hide (hB7.out.trans (hBn.mono hF7.out.size))
      clear hL hFn hBn hF7 hB7 hr7
      have hll : Hid ((lastL n).length = n) := by rw [hk]; exact last_len k
      go_wp2_with fail
      refine (FoAll hF8.out hfl.out).mono ?_
      rintro _ w9 ⟨v', rfl, hS, hFn, hBn, -⟩
      obtain ⟨va, vc, rfl⟩ := hS.shape
      rw [hll.out]
      have hB9 := hide (hB8.out.trans (hBn.mono hF8.out.size))
      clear hS hFn hBn hF8 hB8 hll hfl
      go_wp2
      go_ret
      exact ⟨rfl, hB9.out⟩
end Go.Proofs.Ytiahiakllpjliaa
