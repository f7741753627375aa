/-
  The walk of WholeWindows. Conditions: those that each theorem names.
-/
import Derived.Test.YtmacdghkbmjdmaaMr6
import Derived.Test.YtmacdghkbmjdmaaGt8
namespace Go.Proofs.Ytmacdghkbmjdmaa
open Go.RowKit
set_option linter.unusedVariables false
set_option linter.unusedSimpArgs false
set_option maxRecDepth 20000

theorem next_math {L : Ls} (h : L.may = true) {t : Int} (hb : L.base ≤ t) : t < nextN L t ∧ nextN L t ≤ t + L.cyc := by
  obtain ⟨i1, i2⟩ := intoN_in h t
  unfold nextN
  rw [if_neg (by omega)]
  cases hf : findL L.cyc (fun q => decide (intoN L t < q.b)) 0 L.es with
  | none => dsimp only; omega
  | some q =>
    have := findL_in (Int.le_refl 0) (Ls.good h) hf
    have h4 : intoN L t < q.b := by simpa using this.2.2.2
    have h5 := this.1.2
    dsimp only
    omega
theorem windows_end {r t b g : Int} (hr : 0 ≤ r) (ht : 0 ≤ t) (h : 8000000000 * g ≤ b * 8000000000 + r * t) : g * 8 ≤ b * 8 + r / 1000000 * (t / 1000 + 1) + r % 1000000 * (t / 1000000000 + 1) + r / 1000000 + (t / 1000 + 1) := by
  have e1 : r = 1000000 * (r / 1000000) + r % 1000000 := by omega
  have p1 : 0 ≤ r / 1000000 := by omega
  have p2 : 0 ≤ r % 1000000 := by omega
  have q1 : t ≤ 1000 * (t / 1000 + 1) := by omega
  have q2 : t ≤ 1000000000 * (t / 1000000000 + 1) := by omega
  have p3 : 0 ≤ t / 1000 := by omega
  have p4 : 0 ≤ t / 1000000000 := by omega
  generalize r / 1000000 = a at *
  generalize r % 1000000 = c at *
  generalize t / 1000 = u at *
  generalize t / 1000000000 = v at *
  have m1 : a * t ≤ a * (1000 * (u + 1)) := Int.mul_le_mul_of_nonneg_left q1 p1
  have m2 : c * t ≤ c * (1000000000 * (v + 1)) := Int.mul_le_mul_of_nonneg_left q2 p2
  have n1 : a * (1000 * (u + 1)) = 1000 * (a * (u + 1)) := by rw [Int.mul_left_comm]
  have n2 : c * (1000000000 * (v + 1)) = 1000000000 * (c * (v + 1)) := by rw [Int.mul_left_comm]
  have n3 : r * t = 1000000 * (a * t) + c * t := by rw [e1, Int.add_mul, Int.mul_assoc]
  generalize a * (u + 1) = A at *
  generalize c * (v + 1) = C at *
  generalize a * t = X at *
  generalize c * t = Y at *
  generalize r * t = Z at *
  omega
set_option maxHeartbeats 8000000 in
theorem Windows_walk (L : Ls) (a : Option Addr) (cap : Nat) (c : Mc) (n : Int) (w : World) (hE : Ent w a L.es) (hn : L.es.length ≤ maxLen) (hnn : -9223372036854775808 ≤ n ∧ n ≤ 9223372036854775807) :
    Calls Try.prog 12 #[.agg (lRow L a L.es.length cap), .agg (fC c).toArray, .int .i64 n] w fun e w' => e = .returned (.bool true) ∧ Below w.heap.size w w' := by
  have hb := hide (show Below w.heap.size w ((w.alloc (.cells (lRow L a L.es.length cap) 47)).alloc (.cells (fC c).toArray 23)) from (below1 _ _).later (below1 _ _))
  have hr := hide (show ((w.alloc (.cells (lRow L a L.es.length cap) 47)).alloc (.cells (fC c).toArray 23)).heap[w.heap.size]? = some (.cells (lRow L a L.es.length cap) 47 (0, 0)) from heap_kept (below1 _ _) (heap_alloc_new w _))
  have hg : Hid (((w.alloc (.cells (lRow L a L.es.length cap) 47)).alloc (.cells (fC c).toArray 23)).heap[w.heap.size + 1]? = some (.cells (fC c).toArray 23 (0, 0))) := by
    have := heap_alloc_new (w.alloc (.cells (lRow L a L.es.length cap) 47)) (.cells (fC c).toArray 23)
    rw [World.size_alloc] at this
    exact this
  have hz := lSize L a L.es.length cap
  have hzc := cfgSize c
  have hLC : Hid (∀ w', Below w.heap.size w w' → Calls Try.prog 30 #[.agg (lRow L a L.es.length cap)] w' fun e w'' => e = .returned (.int .i64 (if L.may = true then 0 else 30)) ∧ Below w'.heap.size w' w'') := fun w' h => GCheck_any L a cap w' (hE.below h (fun _ => by simp)) hn
  have hLN := hide (fun w => GCheck_any LN none 0 w ⟨rfl, fun i hi => by simp [LN] at hi⟩ (by decide))
  rw [LN_may] at hLN
  simp only [Bool.false_eq_true, if_false] at hLN
  have hCC := hide (fun w => Check_any c w)
  have hSt : Hid (L.may = true → ∀ w', Below w.heap.size w w' → ∀ t, t ≤ 9223372036854775807 → Calls Try.prog 23 #[.agg (lRow L a L.es.length cap), .int .i64 t] w' fun r w'' => r = .returned (.int .i64 (stateN L t)) ∧ Below w'.heap.size w' w'') := fun hm w' h t ht => State_any (hE.below h (fun _ => by simp)) hm t ht
  have hNx : Hid (L.may = true → ∀ w', Below w.heap.size w w' → ∀ t, t ≤ 9223372034000000000 → Calls Try.prog 31 #[.agg (lRow L a L.es.length cap), .int .i64 t] w' fun r w'' => r = .returned (.int .i64 (nextN L t)) ∧ Below w'.heap.size w' w'') := fun hm w' h t ht => Next_any (hE.below h (fun _ => by simp)) hm t ht
  have hNc := hide (fun (h : c.may = true) w' => ONew c h w' w' (Below.refl _ _))
  have hN9 := hide (fun w' => ONew ⟨0, 9, 0, 0⟩ (by decide +kernel) w' w' (Below.refl _ _))
  have hM9 : Hid (markC (newM ⟨0, 9, 0, 0⟩) 9 0 = 0) := by show _ = _; decide +kernel
  have hlc : Hid (∀ w', Below ((w.alloc (.cells (lRow L a L.es.length cap) 47)).alloc (.cells (fC c).toArray 23)).heap.size ((w.alloc (.cells (lRow L a L.es.length cap) 47)).alloc (.cells (fC c).toArray 23)) w' → w'.cell? ⟨w.heap.size, 0, none⟩ = some (.int .i64 L.base) ∧ w'.cell? ⟨w.heap.size + 1, 0, none⟩ = some (.int .i64 c.r) ∧ w'.cell? ⟨w.heap.size + 1, 1, none⟩ = some (.int .i64 c.b)) :=
    fun w' h => ⟨(cell_of_row _ _ _ _ _ _ (heap_kept h hr.out)).trans rfl, (cell_of_row _ _ _ _ _ _ (heap_kept h hg.out)).trans rfl, (cell_of_row _ _ _ _ _ _ (heap_kept h hg.out)).trans rfl⟩
  generalize lRow L a L.es.length cap = R at *
  generalize (fC c).toArray = E at *
  generalize hLm : L.may = lm at *
  generalize hcm : c.may = cm at *
  replace hLm := hide hLm
  replace hcm := hide hcm
  clear hE
  go_enter Try.func12, Try.ntmps12
  go_wp2_with fail
  generalize ((w.alloc (.cells R 47)).alloc (.cells E 23)) = w1 at *
  refine (hN9.out w1).mono ?_
  rintro _ w2 ⟨t9, rfl, H2⟩
  have hMk := hide (OMark H2 (by decide) 9 0 (by decide))
  rw [hM9.out] at hMk
  clear hN9 hM9 H2
  go_wp2_with fail
  refine hMk.out.mono ?_
  rintro _ w3 ⟨rfl, H3⟩
  have h13 := hide H3.bel
  clear hMk H3
  go_wp2_with fail
  refine (hLN.out w3).mono ?_
  rintro _ w4 ⟨rfl, hb4⟩
  have h14 := hide (h13.out.later hb4)
  clear hLN hb4 h13
  have hr4 := hide (heap_kept h14.out hr.out)
  have hLC4 := hide (hLC.out w4 (hb.out.later h14.out))
  clear hLC
  go_wp2_with ((with_reducible change wpList _ _ _ _ _ _); refine wpList_load_row rfl 47 (.tmp 3) rfl w.heap.size rfl 47 _ _ _ hr4.out Try.underlying47 rfl hz ?_)
  refine hLC4.out.mono ?_
  rintro _ w5 ⟨rfl, hb5⟩
  have h15 := hide (h14.out.later hb5)
  clear hr4 hb5 hLC4 h14
  cases lm
  · simp only [Bool.false_eq_true, if_false]
    have hB := hide (hb.out.later h15.out)
    clear hlc hNc hNx hSt hCC
    go_wp2
    go_ret
    exact ⟨rfl, hB.out⟩
  simp only [if_true]
  have hg5 := hide (heap_kept h15.out hg.out)
  go_wp2_with ((with_reducible change wpList _ _ _ _ _ _); refine wpList_load_row_on rfl 23 (.tmp 4) rfl (w.heap.size + 1) rfl 23 _ _ _ hg5.out Try.underlying23 rfl hzc ?_)
  refine (hCC.out _).mono ?_
  rintro _ w6 ⟨rfl, hb6⟩
  have h16 := hide (h15.out.later hb6)
  clear hg5 hb6 hCC h15
  have hB6 := hide (hb.out.later h16.out)
  cases cm
  · simp only [Bool.false_eq_true, if_false]
    clear hlc hNc hNx hSt
    go_wp2
    go_ret
    exact ⟨rfl, hB6.out⟩
  simp only [if_true]
  by_cases h1 : n < 1
  · clear hlc hNc hNx hSt
    go_wp2
    go_ret
    exact ⟨rfl, hB6.out⟩
  by_cases h2 : 1522 < n
  · clear hlc hNc hNx hSt
    go_wp2
    go_ret
    exact ⟨rfl, hB6.out⟩
  have c6 := (hlc.out w6 h16.out).1
  by_cases h3 : 1099511627776 < L.base
  · generalize L.base = ba at *
    clear hlc hNc hNx hSt
    go_wp2
    go_ret
    exact ⟨rfl, hB6.out⟩
  have hg6 := hide (heap_kept h16.out hg.out)
  have hr6 := hide (heap_kept h16.out hr.out)
  obtain ⟨-, ⟨a1, a2⟩, ⟨y1, y2⟩, -, -⟩ := L.may_iff.1 hLm.out
  have hnm := hide (fun t hb => @next_math L hLm.out t hb)
  have hNc6 := hide (hNc.out rfl w6)
  have hcr : Hid (0 ≤ c.r ∧ c.r ≤ 10000000000 ∧ 0 ≤ c.b ∧ c.b ≤ 1048576) := by have := (may_iff c).1 hcm.out; show _ ∧ _; omega
  have hP0 : Hid ((newM c).r0 = c.r ∧ (newM c).l0 + 8000000000 * 0 ≤ c.b * 8000000000 + c.r * (newM c).now ∧ (newM c).now = 0) := by
    refine ⟨rfl, ?_, rfl⟩
    rw [(newM_r0 c).2.1, (newM_r0 c).2.2]; omega
  have hSt6 := hide (hSt.out trivial)
  have hNx6 := hide (hNx.out trivial)
  generalize newM c = M0 at *
  generalize stateN L = stF at *
  generalize nextN L = nxF at *
  generalize L.base = ba at *
  generalize L.cyc = cy at *
  clear hSt hNx hNc hLm hcm
  go_wp2_with ((with_reducible change wpList _ _ _ _ _ _); refine wpList_load_row rfl 23 (.tmp 4) rfl (w.heap.size + 1) rfl 23 _ _ _ hg6.out Try.underlying23 rfl hzc ?_)
  refine hNc6.out.mono ?_
  rintro _ w7 ⟨tt, rfl, H7⟩
  have hr7 := hide (heap_kept H7.bel hr6.out)
  have c7 := (hlc.out w7 (h16.out.later H7.bel)).1
  replace H7 := hide H7
  clear hNc6 hg6 c6
  go_wp2_with fail
  clear c7
  go_loopw [9, 10, 62] (fun x y i wr => ∃ (j : Nat) (M : Mm) (t g : Int), j ≤ 200 ∧ i = .int .i64 j ∧ x = .int .i64 t ∧ y = .int .i64 g ∧ Hid (Om w6 wr tt M (2 * (j : Int))) ∧ (M.now ≤ t ∧ ba ≤ t ∧ t ≤ ba + 1000000000 * (j : Int)) ∧ (0 ≤ g ∧ g ≤ 1522 * (2 * (j : Int))) ∧ Hid (M.r0 = c.r ∧ M.l0 + 8000000000 * g ≤ c.b * 8000000000 + c.r * M.now)) (fun _ _ i _ => 200 - (intOf i).toNat)
  case atStart => exact ⟨0, M0, ba, 0, by omega, rfl, rfl, rfl, H7, by have := hP0.out.2.2; omega, by omega, ⟨hP0.out.1, hP0.out.2.1⟩⟩
  case round =>
    obtain ⟨j, M, t, g, hj, rfl, rfl, rfl, hO, ⟨t1, t2, t3⟩, ⟨g1, g2⟩, hP⟩ := hrel
    clear H7 hP0
    have hBr := hide (hB6.out.later hO.out.bel)
    have hrr := hide (heap_kept hO.out.bel hr6.out)
    by_cases hlt : j < 200
    · have hS := hide (hSt6.out wr hBr.out t (by omega))
      obtain ⟨n1, n2⟩ := hnm.out t t2
      generalize stF t = st at *
      generalize hnx : nxF t = nx at *
      replace hnx := hide hnx
      go_wp2_with ((with_reducible change wpList _ _ _ _ _ _); refine wpList_load_row rfl 47 (.tmp 3) rfl w.heap.size rfl 47 _ _ _ hrr.out Try.underlying47 rfl hz ?_)
      refine hS.out.mono ?_
      rintro _ w8 ⟨rfl, hb8⟩
      have hO8 := hide (hO.out.later hb8)
      clear hS hb8 hBr hrr hO
      by_cases hv : bits .and .i64 st 1 = 1
      · have hvq : (bits .and .i64 st 1 == 1) = true := by rw [hv]; rfl
        clear hv
        go_wp2_with fail
        go_loopw [10, 69] (fun y i wr => ∃ (k : Nat) (M : Mm) (g : Int), k ≤ 2 ∧ i = .int .i64 k ∧ y = .int .i64 g ∧ Hid (Om w6 wr tt M (2 * (j : Int) + (k : Int))) ∧ M.now ≤ t ∧ (0 ≤ g ∧ g ≤ 1522 * (2 * (j : Int) + (k : Int))) ∧ Hid (M.r0 = c.r ∧ M.l0 + 8000000000 * g ≤ c.b * 8000000000 + c.r * M.now)) (fun _ i _ => 2 - (intOf i).toNat)
        case atStart => exact ⟨0, M, g, by omega, rfl, rfl, by simpa using hO8, t1, by omega, hP⟩
        case round =>
          obtain ⟨k, M, g, hk, rfl, rfl, hO, t1, ⟨g1, g2⟩, hP⟩ := hrel
          clear hO8
          by_cases hkl : k < 2
          · have hM := hide (OMark hO.out (by omega) n t (by omega))
            have hpot := hide (markM_pot (F := c.b * 8000000000) (now := t) (n := n) (g := g) hO.out.ok t1 (by omega) (by rw [hP.out.1]; exact hP.out.2))
            have hr0 : Hid ((markM M n t).r0 = c.r) := (markM_r0 M n t).trans hP.out.1
            have hnw : Hid ((markM M n t).now = t) := markM_to t1
            rw [hP.out.1] at hpot
            clear hO hP
            generalize markM M n t = M2 at *
            generalize markC M n t = cc at *
            go_wp2_with fail
            refine hM.out.mono ?_
            rintro _ w9 ⟨rfl, H9⟩
            have hkk : Hid (2 * (j : Int) + ((k + 1 : Nat) : Int) = 2 * (j : Int) + (k : Int) + 1) := by show _ = _; omega
            have H9' : Hid (Om w6 w9 tt M2 (2 * (j : Int) + ((k + 1 : Nat) : Int))) := by rw [hkk.out]; exact H9
            clear hM H9
            by_cases hcc : cc = 0
            · subst hcc
              have hpot2 : Hid (M2.l0 + 8000000000 * (g + n) ≤ c.b * 8000000000 + c.r * M2.now) := by have := hpot.out; rw [if_pos rfl] at this; rw [hnw.out]; exact this
              clear hpot
              go_wp2
              go_roundw
              case rel => exact ⟨k + 1, M2, g + n, by omega, by go_num, rfl, H9', by rw [hnw.out]; exact Int.le_refl _, by omega, ⟨hr0.out, hpot2.out⟩⟩
              case measure => simp [intOf]; omega
            · have hpot2 : Hid (M2.l0 + 8000000000 * g ≤ c.b * 8000000000 + c.r * M2.now) := by have := hpot.out; rw [if_neg hcc] at this; rw [hnw.out]; exact this
              have hcq : (cc == 0) = false := by rw [beq_eq_false_iff_ne]; exact hcc
              clear hpot
              go_wp2
              go_roundw
              case rel => exact ⟨k + 1, M2, g, by omega, by go_num, rfl, H9', by rw [hnw.out]; exact Int.le_refl _, by omega, ⟨hr0.out, hpot2.out⟩⟩
              case measure => simp [intOf]; omega
          · obtain rfl : k = 2 := by omega
            have hBr := hide (hB6.out.later hO.out.bel)
            have hrr := hide (heap_kept hO.out.bel hr6.out)
            have hN := hide (hNx6.out _ hBr.out t (by omega))
            rw [hnx.out] at hN
            go_wp2_with ((with_reducible change wpList _ _ _ _ _ _); refine wpList_load_row rfl 47 (.tmp 3) rfl w.heap.size rfl 47 _ _ _ hrr.out Try.underlying47 rfl hz ?_)
            refine hN.out.mono ?_
            rintro _ w9 ⟨rfl, hb9⟩
            have hkk : Hid (2 * ((j + 1 : Nat) : Int) = 2 * (j : Int) + ((2 : Nat) : Int)) := by show _ = _; omega
            have H9 : Hid (Om w6 w9 tt M (2 * ((j + 1 : Nat) : Int))) := by rw [hkk.out]; exact hO.out.later hb9
            clear hO hb9 hN hBr hrr
            go_wp2
            go_roundw
            case rel => exact ⟨j + 1, M, nx, g, by omega, by go_num, rfl, rfl, H9, by omega, by omega, hP⟩
            case measure => simp [intOf]; omega
      · have hvq : (bits .and .i64 st 1 == 1) = false := by rw [beq_eq_false_iff_ne]; exact hv
        clear hv
        have hBr := hide (hB6.out.later hO8.out.bel)
        have hrr := hide (heap_kept hO8.out.bel hr6.out)
        have hN := hide (hNx6.out _ hBr.out t (by omega))
        rw [hnx.out] at hN
        go_wp2_with ((with_reducible change wpList _ _ _ _ _ _); refine wpList_load_row rfl 47 (.tmp 3) rfl w.heap.size rfl 47 _ _ _ hrr.out Try.underlying47 rfl hz ?_)
        refine hN.out.mono ?_
        rintro _ w9 ⟨rfl, hb9⟩
        have H8 := hO8.out.later hb9
        have H9 : Hid (Om w6 w9 tt M (2 * ((j + 1 : Nat) : Int))) := ⟨H8.at_, ⟨H8.ok.r0, H8.ok.r1, H8.ok.f0, H8.ok.f1, H8.ok.l0, H8.ok.l1, H8.ok.now, ⟨H8.ok.c0.1, by have := H8.ok.c0.2; omega⟩, ⟨H8.ok.c1.1, by have := H8.ok.c1.2; omega⟩, ⟨H8.ok.c2.1, by have := H8.ok.c2.2; omega⟩⟩, H8.new, H8.bel⟩
        clear hO8 hb9 hN hBr hrr H8
        go_wp2
        go_roundw
        case rel => exact ⟨j + 1, M, nx, g, by omega, by go_num, rfl, rfl, H9, by omega, by omega, hP⟩
        case measure => simp [intOf]; omega
    · obtain rfl : j = 200 := by omega
      obtain ⟨-, k0, k1⟩ := hlc.out wr (h16.out.later hO.out.bel)
      obtain ⟨r1, r2, r3, r4⟩ := hcr.out
      have hle : Hid (8000000000 * g ≤ c.b * 8000000000 + c.r * t) := by
        have a1 := hP.out.2
        have a2 := hO.out.ok.l0.1
        have a3 : c.r * M.now ≤ c.r * t := Int.mul_le_mul_of_nonneg_left t1 r1
        show _ ≤ _
        omega
      have hfin := hide (windows_end r1 (show 0 ≤ t by omega) hle.out)
      have hB := hBr
      have ht : 0 ≤ t ∧ t ≤ 1400000000000 := by omega
      clear hlc hO hP hBr hrr hle hSt6 hNx6 hnm t1 t2 t3 a1 a2
      generalize c.r = r at *
      generalize c.b = bb at *
      have p1 : 0 ≤ r / 1000000 * (t / 1000 + 1) ∧ r / 1000000 * (t / 1000 + 1) ≤ 10000 * 1400000001 := ⟨Int.mul_nonneg (by omega) (by omega), Int.mul_le_mul (by omega) (by omega) (by omega) (by omega)⟩
      have p2 : 0 ≤ r % 1000000 * (t / 1000000000 + 1) ∧ r % 1000000 * (t / 1000000000 + 1) ≤ 1000000 * 1401 := ⟨Int.mul_nonneg (by omega) (by omega), Int.mul_le_mul (by omega) (by omega) (by omega) (by omega)⟩
      go_wp2
      go_ret
      exact ⟨ret_bool (decide_eq_true hfin.out), hB.out⟩
end Go.Proofs.Ytmacdghkbmjdmaa
