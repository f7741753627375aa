/-
  The walk of GateStarts; fits. Conditions: those that each theorem names.
-/
import Derived.Test.YtmacdghkbmjdmaaGt8
namespace Go.Proofs.Ytmacdghkbmjdmaa
open Go.RowKit
set_option linter.unusedVariables false
set_option maxRecDepth 20000

def fitB (L : Ls) (t : Int) : Bool := L.may && decide (0 ≤ t) && decide (t < 4611686018427387904)
theorem fitB_iff (L : Ls) (t : Int) : fitB L t = true ↔ L.may = true ∧ 0 ≤ t ∧ t < 4611686018427387904 := by simp [fitB, and_assoc]
theorem fits_any (L : Ls) (a : Option Addr) (cap : Nat) (t : Int) (w : World) (hE : Ent w a L.es) (hn : L.es.length ≤ maxLen) :
    Calls Try.prog 22 #[.agg (lRow L a L.es.length cap), .int .i64 t] w fun e w' => e = .returned (.bool (fitB L t)) ∧ Below w.heap.size w w' := by
  have hb := hide (below1 w (.cells (lRow L a L.es.length cap) 47))
  have hr := hide (heap_alloc_new w (.cells (lRow L a L.es.length cap) 47))
  have hC := hide (GCheck_any L a cap (w.alloc (.cells (lRow L a L.es.length cap) 47)) (hE.below hb.out (fun _ => by simp)) hn)
  have hz := lSize L a L.es.length cap
  have hI := hide (fitB_iff L t)
  generalize fitB L t = x at *
  generalize lRow L a L.es.length cap = R at *
  generalize L.may = y at *
  clear hE
  cases y
  · obtain rfl : x = false := by rw [Bool.eq_false_iff]; intro hx; have := (hI.out.1 hx).1; simp at this
    simp only [Bool.false_eq_true, if_false] at hC
    clear hI
    go_enter Try.func22, Try.ntmps22
    go_wp2_with ((with_reducible change wpList _ _ _ _ _ _); refine wpList_load_row rfl 47 (.tmp 2) rfl w.heap.size rfl 47 _ _ _ hr.out Try.underlying47 rfl hz ?_)
    refine hC.out.mono ?_
    rintro _ w1 ⟨rfl, hb1⟩
    have hB := hide (hb.out.later hb1)
    clear hC hb hb1 hr
    go_wp2
    go_ret
    exact ⟨rfl, hB.out⟩
  · simp only [if_true] at hC
    by_cases h0 : 0 ≤ t
    · by_cases h1 : t < 4611686018427387904
      · obtain rfl : x = true := hI.out.2 ⟨rfl, h0, h1⟩
        clear hI
        go_enter Try.func22, Try.ntmps22
        go_wp2_with ((with_reducible change wpList _ _ _ _ _ _); refine wpList_load_row rfl 47 (.tmp 2) rfl w.heap.size rfl 47 _ _ _ hr.out Try.underlying47 rfl hz ?_)
        refine hC.out.mono ?_
        rintro _ w1 ⟨rfl, hb1⟩
        have hB := hide (hb.out.later hb1)
        clear hC hb hb1 hr
        go_wp2
        go_ret
        exact ⟨rfl, hB.out⟩
      · obtain rfl : x = false := by rw [Bool.eq_false_iff]; intro hx; have := (hI.out.1 hx).2; omega
        have h1q : decide (t < 4611686018427387904) = false := decide_eq_false h1
        clear hI
        go_enter Try.func22, Try.ntmps22
        go_wp2_with ((with_reducible change wpList _ _ _ _ _ _); refine wpList_load_row rfl 47 (.tmp 2) rfl w.heap.size rfl 47 _ _ _ hr.out Try.underlying47 rfl hz ?_)
        refine hC.out.mono ?_
        rintro _ w1 ⟨rfl, hb1⟩
        have hB := hide (hb.out.later hb1)
        clear hC hb hb1 hr
        go_wp2
        go_ret
        exact ⟨rfl, hB.out⟩
    · obtain rfl : x = false := by rw [Bool.eq_false_iff]; intro hx; have := (hI.out.1 hx).2; omega
      have h0q : decide (0 ≤ t) = false := decide_eq_false h0
      clear hI
      go_enter Try.func22, Try.ntmps22
      go_wp2_with ((with_reducible change wpList _ _ _ _ _ _); refine wpList_load_row rfl 47 (.tmp 2) rfl w.heap.size rfl 47 _ _ _ hr.out Try.underlying47 rfl hz ?_)
      refine hC.out.mono ?_
      rintro _ w1 ⟨rfl, hb1⟩
      have hB := hide (hb.out.later hb1)
      clear hC hb hb1 hr
      go_wp2
      go_ret
      exact ⟨rfl, hB.out⟩
theorem start_math {L : Ls} (h : L.may = true) (t : Int) (h0 : 0 ≤ t) (h1 : t < 4611686018427387904) : L.base ≤ startN L t ∧ t ≤ startN L t ∧ startN L t ≤ 4611686019427387904 ∧ (startN L t - L.base) % L.cyc = 0 ∧ (startN L t = L.base ∨ startN L t - L.cyc < t) := by
  obtain ⟨-, ⟨a1, a2⟩, ⟨y1, y2⟩, -, -⟩ := L.may_iff.1 h
  obtain ⟨i1, i2⟩ := intoN_in h t
  unfold startN
  have hq : intoN L t = (t - L.base) % L.cyc := rfl
  split
  · refine ⟨Int.le_refl _, by omega, by omega, by simp, .inl rfl⟩
  · split
    · rename_i h2
      refine ⟨by omega, Int.le_refl _, by omega, by rw [← hq]; exact h2, .inr (by omega)⟩
    · have hm : (t - intoN L t + L.cyc - L.base) % L.cyc = 0 := by
        have e := Int.mul_ediv_add_emod (t - L.base) L.cyc
        rw [show t - intoN L t + L.cyc - L.base = L.cyc * ((t - L.base) / L.cyc + 1) by rw [Int.mul_add, Int.mul_one, hq]; omega]
        exact Int.mul_emod_right _ _
      refine ⟨?_, by omega, by omega, hm, .inr (by omega)⟩
      have e := Int.mul_ediv_add_emod (t - L.base) L.cyc
      have : 0 ≤ L.cyc * ((t - L.base) / L.cyc) := Int.mul_nonneg (by omega) (Int.ediv_nonneg (by omega) (by omega))
      rw [hq]; omega
set_option maxHeartbeats 2000000 in
theorem Starts_walk (L : Ls) (a : Option Addr) (cap : Nat) (t : Int) (w : World) (hE : Ent w a L.es) (hn : L.es.length ≤ maxLen) (ht : -9223372036854775808 ≤ t ∧ t ≤ 9223372036854775807) :
    Calls Try.prog 10 #[.agg (lRow L a L.es.length cap), .int .i64 t] w fun e w' => e = .returned (.bool true) ∧ Below w.heap.size w w' := by
  have hb := hide (below1 w (.cells (lRow L a L.es.length cap) 47))
  have hr := hide (heap_alloc_new w (.cells (lRow L a L.es.length cap) 47))
  have hz := lSize L a L.es.length cap
  have hC : Hid (∀ w', Below w.heap.size w w' → Calls Try.prog 22 #[.agg (lRow L a L.es.length cap), .int .i64 t] w' fun e w'' => e = .returned (.bool (fitB L t)) ∧ Below w'.heap.size w' w'') := fun w' h => fits_any L a cap t w' (hE.below h (fun _ => by simp)) hn
  have hI := hide (fitB_iff L t)
  have hS : Hid (L.may = true → t ≤ 9223372034000000000 → ∀ w', Calls Try.prog 28 #[.agg (lRow L a L.es.length cap), .int .i64 t] w' fun r w'' => r = .returned (.int .i64 (startN L t)) ∧ Below w'.heap.size w' w'') := fun hm h w' => Start_any hm t h
  have hM := hide (fun hm => @start_math L hm t)
  have hk := hide (L.may_iff)
  have hcell : Hid (∀ w', Below (w.alloc (.cells (lRow L a L.es.length cap) 47)).heap.size (w.alloc (.cells (lRow L a L.es.length cap) 47)) w' → w'.cell? ⟨w.heap.size, 0, none⟩ = some (.int .i64 L.base) ∧ w'.cell? ⟨w.heap.size, 1, none⟩ = some (.int .i64 L.cyc)) := fun w' h => ⟨(cell_of_row _ _ _ _ _ _ (heap_kept h hr.out)).trans rfl, (cell_of_row _ _ _ _ _ _ (heap_kept h hr.out)).trans rfl⟩
  generalize startN L t = s at *
  generalize lRow L a L.es.length cap = R at *
  clear hE
  generalize hx : fitB L t = x at *
  replace hx := hide hx
  go_enter Try.func10, Try.ntmps10
  go_wp2_with fail
  generalize w.alloc (.cells R 47) = w1 at *
  refine (opens_any _).mono ?_
  rintro _ w2 ⟨rfl, hb2⟩
  have hr2 := hide (heap_kept hb2 hr.out)
  have h12 := hide hb2
  clear hr hb2
  have hC2 := hide (hC.out w2 (hb.out.later h12.out))
  clear hC
  go_wp2_with ((with_reducible change wpList _ _ _ _ _ _); refine wpList_load_row rfl 47 (.tmp 2) rfl w.heap.size rfl 47 _ _ _ hr2.out Try.underlying47 rfl hz ?_)
  refine hC2.out.mono ?_
  rintro _ w3 ⟨rfl, hb3⟩
  have hr3 := hide (heap_kept hb3 hr2.out)
  have h13 := hide (h12.out.later hb3)
  clear hr2 hb3 hC2 h12
  cases x
  · have hB := hide (hb.out.later h13.out)
    go_wp2
    go_ret
    exact ⟨rfl, hB.out⟩
  obtain ⟨hm, t0, t1⟩ := hI.out.1 rfl
  obtain ⟨s1, s2, s3, s4, s5⟩ := hM.out hm t0 t1
  obtain ⟨-, ⟨a1, a2⟩, ⟨y1, y2⟩, -, -⟩ := hk.out.1 hm
  have hS3 := hide (hS.out hm (by omega) w3)
  clear hS hM hk hI hm hx
  go_wp2_with ((with_reducible change wpList _ _ _ _ _ _); refine wpList_load_row rfl 47 (.tmp 2) rfl w.heap.size rfl 47 _ _ _ hr3.out Try.underlying47 rfl hz ?_)
  refine hS3.out.mono ?_
  rintro _ w4 ⟨rfl, hb4⟩
  have h14 := h13.out.later hb4
  obtain ⟨c0, c1⟩ := hcell.out w4 h14
  have hB := hide (hb.out.later h14)
  clear hr3 hb4 hS3 h13 h14 hcell
  generalize L.base = ba at *
  generalize L.cyc = cy at *
  by_cases h5 : s = ba
  · subst h5
    have e0 : ((s - s) % cy != 0) = false := by simp
    have e1 : decide (s < t) = false := decide_eq_false (by omega)
    clear s4
    go_wp2
    go_ret
    exact ⟨rfl, hB.out⟩
  · have h6 : s - cy < t := by rcases s5 with h | h; exact absurd h h5; exact h
    have e0 : ((s - ba) % cy != 0) = false := by rw [s4]; rfl
    have e1 : decide (s < ba) = false := decide_eq_false (by omega)
    have e2 : decide (s < t) = false := decide_eq_false (by omega)
    have e3 : (s == ba) = false := by rw [beq_eq_false_iff_ne]; exact h5
    clear s5 s4
    go_wp2
    go_ret
    exact ⟨rfl, hB.out⟩
end Go.Proofs.Ytmacdghkbmjdmaa
