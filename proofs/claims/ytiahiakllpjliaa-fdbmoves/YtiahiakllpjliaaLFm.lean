/-
  The walk of FdbMoves. Conditions: those that each theorem names.
-/
import Derived.Test.YtiahiakllpjliaaLFa
import Derived.Test.YtiahiakllpjliaaInts
namespace Go.Proofs.Ytiahiakllpjliaa
open Go.RowKit Go.Maps
set_option linter.unusedVariables false
set_option linter.unusedSimpArgs false
set_option maxRecDepth 20000

/-- What is kept behind j of the moves. -/
def mvL (m : M6) (zs : List Int) : Nat → List Fe
  | 0 => []
  | j + 1 => [⟨1, m, zs.getD j 0, j⟩]
theorem mvL_fes (m : M6) (hm : m.wf) (zs : List Int) (j : Nat) (hj : j ≤ 60) : Fes (mvL m zs j) := by
  cases j with
  | zero => exact fes_nil
  | succ j => exact fes_one ⟨⟨by simp, by simp; omega⟩, hm⟩
theorem mvL_learn (m : M6) (hg : grpB m = false) (zs : List Int) (j : Nat) (hj : j < 60) : learnR 5 1000 0 (mvL m zs j) 1 m (zs.getD j 0) j = (0, 0, mvL m zs (j + 1)) := by
  cases j with
  | zero => simp [learnR, mvL, hg, aheadL, kept]
  | succ j =>
    have h2 : ¬ (1000 : Int) ≤ ((j : Int) + 1) - (j : Int) := by omega
    simp [learnR, mvL, hg, aheadL, kept, oldB, isB, List.filter, h2]
set_option maxHeartbeats 16000000 in
theorem Moves_walk (m : M6) (a : Option Addr) (n cap : Nat) (zs : List Int) (w : World) (hm : m.wf) (hI : Hid (Zs w a n zs)) (hn : n ≤ maxLen) (hz : Hid (∀ i, -9223372036854775808 ≤ zs.getD i 0 ∧ zs.getD i 0 ≤ 9223372036854775807)) : Calls Try.prog 5 #[.agg m.row, .slice a n cap] w fun r w' => r = .returned (.bool true) ∧ Below w.heap.size w w' := by
  have ho := odd8 m.a hm.1
  have hb := hide (below1 w (.cells m.row 28))
  have hr := hide (heap_alloc_new w (.cells m.row 28))
  have hk := hide (keeps_any (w.alloc (.cells m.row 28)))
  have hg : Hid (grpB m = (m.a % 2 == 1)) := rfl
  unfold maxLen at hn
  generalize hR : m.row = R at *
  have hsz : (Try.prog.info? 28).map (·.size) = some R.size := by rw [← hR]; exact m6Size m
  have hR0 : R[0]? = some (.int .u8 m.a) := by rw [← hR]; rfl
  replace hR := hide hR
  generalize m.a = ma at *
  go_enter Try.func5, Try.ntmps5
  go_wp2_with fail
  refine hk.out.mono ?_
  rintro _ w1 ⟨rfl, hb1⟩
  have hr1 := hide (heap_kept hb1 hr.out)
  have hB1 := hide (hb.out.later hb1)
  have hc0 : w1.cell? ⟨w.heap.size, 0, none⟩ = some (.int .u8 ma) := (cell_of_row _ _ _ _ _ _ hr1.out).trans hR0
  clear hk hb hr hb1 hR0
  by_cases hodd : ma % 2 = 1
  · have hodd' : (ma % 2 == 1) = true := by rw [hodd]; rfl
    go_wp2
    go_ret
    exact ⟨rfl, hB1.out⟩
  have hodd' : (ma % 2 == 1) = false := beq_eq_false_iff_ne.2 hodd
  have hgf : Hid (grpB m = false) := hg.out.trans hodd'
  by_cases hn0 : n = 0
  · have hn0' : ((n : Int) == 0) = true := by rw [hn0]; rfl
    go_wp2
    go_ret
    exact ⟨rfl, hB1.out⟩
  have hn0' : ((n : Int) == 0) = false := beq_eq_false_iff_ne.2 (by omega)
  by_cases hn60 : 60 < n
  · go_wp2
    go_ret
    exact ⟨rfl, hB1.out⟩
  have hmbl : Hid (w.heap.size < w1.heap.size) := (Array.getElem?_eq_some_iff.1 hr1.out).1
  clear hg
  go_wp2_with fail
  refine (FoNew (K := w.heap.size) (A := fun k => k = w.heap.size) 5 1000 w1 (fun k h => by subst h; exact hmbl.out) (Nat.le_of_lt hmbl.out)).mono ?_
  rintro _ w2 ⟨rfl, hF, hb2⟩
  have hF2 : Hid (Fo w.heap.size (fun k => k = w.heap.size) w2 w1.heap.size 5 1000 0 []) := hF
  have hB2 := hide (hB1.out.trans (hb2.mono (Nat.le_of_lt hmbl.out)))
  have hr2 := hide (heap_kept hb2 hr1.out)
  clear hF hB1 hr1 hb2 hc0 hmbl ho hodd hodd'
  generalize w1.heap.size = t at *
  clear w1
  replace hn60 : n ≤ 60 := by omega
  go_wp2_with fail
  go_loopw [32] (fun i wr => ∃ j : Nat, j ≤ n ∧ i = .int .i64 j ∧ Hid (Fo w.heap.size (fun k => k = w.heap.size) wr t 5 1000 0 (mvL m zs j)) ∧ Hid (Below w.heap.size w wr) ∧ Hid (wr.heap[w.heap.size]? = some (.cells R 28 (0, 0)))) (fun i _ => n - (intOf i).toNat)
  case atStart => exact ⟨0, Nat.zero_le _, rfl, hF2, hB2, hr2⟩
  case round =>
    obtain ⟨j, hj, rfl, hF, hB, hr⟩ := hrel
    clear hF2 hB2 hr2
    by_cases hlt : j < n
    · obtain ⟨b, off, rfl, hcj⟩ := hI.out.below hB.out j hlt
      have hE := mvL_learn m hgf.out zs j (by omega)
      have hL := hide (FoLearn hF.out (mvL_fes m hm zs j (by omega)) 1 m (zs.getD j 0) j hm ⟨by omega, by omega⟩ (by decide))
      rw [hE, hR.out] at hL
      clear hE
      generalize zs.getD j 0 = z at *
      go_wp2_with ((with_reducible change wpList _ _ _ _ _ _); refine wpList_load_row_on rfl 28 (.tmp 2) rfl w.heap.size rfl 28 _ _ _ hr.out Try.underlying28 rfl hsz ?_)
      refine hL.out.mono ?_
      rintro _ w3 ⟨rfl, hFn, hBn, hKn⟩
      have hFf := hide hFn
      have hBf := hide (hB.out.trans hBn)
      have hrf := hide ((hKn w.heap.size rfl).trans hr.out)
      clear hL hFn hBn hKn hF hB hr hcj
      go_wp2
      go_roundw
      case rel => exact ⟨j + 1, by omega, by go_num, hFf, hBf, hrf⟩
      case measure => simp [intOf]; omega
    · obtain rfl : n = j := by omega
      obtain ⟨k, hk⟩ : ∃ k, n = k + 1 := ⟨n - 1, by omega⟩
      obtain ⟨b, off, rfl, hck⟩ := hI.out.below hB.out k (by omega)
      have hj1 : ((n : Int) - 1).toNat = k := by omega
      have h1n : (1 : Int) ≤ (n : Int) := by omega
      rw [hk] at hF
      replace hF : Hid (Fo w.heap.size (fun k => k = w.heap.size) wr t 5 1000 0 [⟨1, m, zs.getD k 0, k⟩]) := hF
      have hk60 : k < 60 := by omega
      replace hk := hide hk
      have hf1 : Hid (Fes [⟨1, m, zs.getD k 0, k⟩]) := fes_one ⟨⟨by simp, by simp; omega⟩, hm⟩
      generalize hz0 : zs.getD k 0 = z at *
      replace hz0 := hide hz0
      go_wp2_with fail
      clear hck
      go_loopw [52] (fun i wr => ∃ j : Nat, j ≤ n ∧ i = .int .i64 j ∧ Hid (Fo w.heap.size (fun k => k = w.heap.size) wr t 5 1000 0 [⟨1, m, z, k⟩]) ∧ Hid (Below w.heap.size w wr) ∧ Hid (wr.heap[w.heap.size]? = some (.cells R 28 (0, 0)))) (fun i _ => n - (intOf i).toNat)
      case atStart => exact ⟨0, Nat.zero_le _, rfl, hF, hB, hr⟩
      case round =>
        obtain ⟨j, hj, rfl, hF2, hB2, hr2⟩ := hrel
        clear hF hB hr
        by_cases hlt : j < n
        · obtain ⟨b', off', he, hcj⟩ := hI.out.below hB2.out j hlt
          simp only [Option.some.injEq, Addr.mk.injEq, and_true] at he
          obtain ⟨rfl, rfl⟩ := he
          have hL := hide (FoFlush hF2.out hf1.out (zs.getD j 0))
          generalize zs.getD j 0 = p at *
          by_cases hpz : p = z
          · have hpz' : (p != z) = false := by rw [hpz]; simp
            clear hL
            go_wp2
            go_roundw
            case rel => exact ⟨j + 1, by omega, by go_num, hF2, hB2, hr2⟩
            case measure => simp [intOf]; omega
          · have hpz' : (p != z) = true := by simp [hpz]
            have hE : kept (atB p) [(⟨1, m, z, k⟩ : Fe)] = [⟨1, m, z, k⟩] := by
              have : (z == p) = false := beq_eq_false_iff_ne.2 (Ne.symm hpz)
              simp [kept, atB, List.filter, this]
            rw [hE] at hL
            clear hE hpz
            go_wp2_with fail
            refine hL.out.mono ?_
            rintro _ w3 ⟨rfl, hFn, hBn, hKn⟩
            have hFf := hide hFn
            have hBf := hide (hB2.out.trans hBn)
            have hrf := hide ((hKn w.heap.size rfl).trans hr2.out)
            clear hL hFn hBn hKn hF2 hB2 hr2 hcj
            go_wp2
            go_roundw
            case rel => exact ⟨j + 1, by omega, by go_num, hFf, hBf, hrf⟩
            case measure => simp [intOf]; omega
        · have hE : findR 1000 (n : Int) 1 m [⟨1, m, z, k⟩] = (z, 0) := by
            have h2 : ¬ (1000 : Int) ≤ (n : Int) - (k : Int) := by have := hk.out; omega
            simp [findR, findB, isB, oldB, List.find?, h2]
          have hL := hide (FoFind hF2.out hf1.out 1 m (n : Int) hm ⟨by omega, by omega⟩)
          rw [hE, hR.out] at hL
          clear hE
          go_wp2_with ((with_reducible change wpList _ _ _ _ _ _); refine wpList_load_row_on rfl 28 (.tmp 2) rfl w.heap.size rfl 28 _ _ _ hr2.out Try.underlying28 rfl hsz ?_)
          refine hL.out.mono ?_
          rintro _ w3 ⟨rfl, hFn, hBn⟩
          have hF3 := hide hFn
          have hB3 := hide (hB2.out.trans (hBn.mono hF2.out.size))
          clear hL hFn hBn hF2 hB2 hr2
          have hA := hide (FoAll hF3.out hf1.out)
          go_wp2_with fail
          refine hA.out.mono ?_
          rintro _ w4 ⟨v', rfl, hS, hFn, hBn, -⟩
          obtain ⟨va, vc, rfl⟩ := hS.shape
          have hB4 := hide (hB3.out.trans (hBn.mono hF3.out.size))
          clear hS hFn hBn hF3 hB3 hA
          go_wp2
          go_ret
          exact ⟨rfl, hB4.out⟩
end Go.Proofs.Ytiahiakllpjliaa
