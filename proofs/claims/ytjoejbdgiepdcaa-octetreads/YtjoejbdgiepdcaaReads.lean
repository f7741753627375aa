/-
  The walk of the statement OctetReads: whatever the bytes and the sizes, it answers true and writes nothing that was there.
-/
import Derived.Test.YtjoejbdgiepdcaaGets
import Derived.BigQuiet
import Derived.Deep.QuietTactic
namespace Go.Proofs.Ytjoejbdgiepdcaa
open Go.RowKit

theorem Rd.drewN {w : World} {g : Nat} {l : List Int} {err : Int} (h : Rd w g l err) (n : Nat) : Rd (w.drewN n) g l err := h.kept (Nat.lt_succ_self g) (below_drewN (Below.refl _ _) n)
theorem Bs.place {w : World} {a : Option Addr} {len cap : Nat} {l : List Int} (h : Bs w (.slice a len cap) l) (hl : l.length = len) (h0 : 0 < len) :
    ∃ b off, a = some ⟨b, off, none⟩ ∧ ∀ i, i < len → w.cell? ⟨b, off + i, none⟩ = some (.int .u8 (l.getD i 0)) := by
  rcases h.cases with ⟨rfl, _⟩ | ⟨b, off, cap', e, _, _, _, hc⟩
  · simp at hl; omega
  · simp only [Value.slice.injEq] at e
    exact ⟨b, off, e.1, by rw [← hl]; exact hc⟩
/-- A piece of bytes that came in, in a later world. -/
theorem Bs.cut {w w' : World} {b off len cap : Nat} {l : List Int} (h : Bs w (.slice (some ⟨b, off, none⟩) len cap) l) (hl : l.length = len) (hcap : len ≤ cap)
    (hc : ∀ i, i < len → w.cell? ⟨b, off + i, none⟩ = some (.int .u8 (l.getD i 0))) (hb : Below w.heap.size w w') (A k : Nat) (hk : A + k ≤ len) : Bs w' (.slice (some ⟨b, off + A, none⟩) k (cap - A)) ((l.drop A).take k) := by
  have hm : cap ≤ maxLen := by
    obtain ⟨_, a, cap', e, _, h2, _⟩ := h
    simp only [Value.slice.injEq] at e
    omega
  have := Bs.piece (w := w') h.byte (by rw [hl]; exact hcap) hm (fun i hi => by
    rw [hl] at hi
    rw [hb.cell (p := ⟨b, off + i, none⟩) (block_lt_of_cell (hc i hi))]; exact hc i hi) A (A + k) (by omega) (by rw [hl]; exact hk)
  rwa [show A + k - A = k by omega] at this
/-- Nothing of it, wherever. -/
theorem Bs.zero {w : World} {a : Option Addr} {len cap : Nat} {l : List Int} (h : Bs w (.slice a len cap) l) : Bs w (.slice a 0 cap) [] := by
  obtain ⟨_, a', cap', e, _, h2, h3, _⟩ := h
  simp only [Value.slice.injEq] at e
  obtain ⟨rfl, _, rfl⟩ := e
  exact Bs.empty w a cap h2 h3
/-- Nothing cut out of nothing. -/
theorem slice_zero (ad : Option Addr) (len cap A k : Nat) (_hc : len ≤ cap) (hl : len = 0) (hA : A + k ≤ len) (w : World) :
    (Instr.slice 23 (.slice ad len cap) (some (.int .i64 A)) (some (.int .i64 ((A : Int) + k))) none).run Try.prog w = .ok (.slice ad 0 cap) w := by
  subst hl
  obtain rfl : A = 0 := by omega
  obtain rfl : k = 0 := by omega
  simp [go_sem, Instr.slice]
theorem par_yes (j : Nat) (h : j % 2 = 0) : ((j : Int) % 2 == 0) = true := by rw [beq_iff_eq]; omega
theorem par_no (j : Nat) (h : ¬ j % 2 = 0) : ((j : Int) % 2 == 0) = false := by rw [beq_eq_false_iff_ne]; omega
set_option maxRecDepth 100000 in
set_option maxHeartbeats 4000000 in
theorem Reads_walk {v : Value} {l : List Int} {w : World} (hv : Bs w v l) (a1 : Option Addr) (m cap1 : Nat) (zs : List Int) (hm : m ≤ maxLen)
    (hz : ∀ i, i < m → (∃ b off, a1 = some ⟨b, off, none⟩ ∧ w.cell? ⟨b, off + i, none⟩ = some (.int .i64 (zs.getD i 0))) ∧ -9223372036854775808 ≤ zs.getD i 0 ∧ zs.getD i 0 ≤ 9223372036854775807) (hl : l.length ≤ maxLen) :
    Calls Try.prog 7 #[v, .slice a1 m cap1] w fun e w' => e = .returned (.bool true) ∧ Below w.heap.size w w' := by
  have HV := hide hv
  obtain ⟨_, ad, cap, rfl, hcap⟩ := hv
  have hcap1 := hcap.1
  clear hcap
  unfold maxLen at hm hl
  by_cases h3 : 300 < l.length
  · have HZ := hide hz
    clear hz
    go_enter Try.func7, Try.ntmps7
    go_wp2_with fail
    refine (lays_any w).mono ?_
    rintro e w1 ⟨rfl, hb1⟩
    go_wp2
    go_ret
    exact ⟨rfl, hb1⟩
  · by_cases h1 : 100 < m
    · have HZ := hide hz
      clear hz
      go_enter Try.func7, Try.ntmps7
      go_wp2_with fail
      refine (lays_any w).mono ?_
      rintro e w1 ⟨rfl, hb1⟩
      go_wp2
      go_ret
      exact ⟨rfl, hb1⟩
    · have HZ := hide hz
      clear hz
      go_enter Try.func7, Try.ntmps7
      go_wp2_with fail
      refine (lays_any w).mono ?_
      rintro e w1 ⟨rfl, hb1⟩
      have hv1 := HV.out.below hb1
      go_wp2_with fail
      refine (Read_any hv1).mono ?_
      rintro e w2 ⟨rfl, hR2, hb2⟩
      have hW2 := hide (hb1.trans (hb2.mono hb1.size))
      have hgs := hb1.size
      generalize hg : w1.heap.size = g at *
      clear hg hb2 hv1
      go_wp2
      generalize hlen : l.length = len at *
      have HL := hide hlen
      clear hlen
      go_loopw [6, 7, 28] (fun x c i wr => ∃ j A : Nat, ∃ C : Int, j ≤ m ∧ A ≤ len ∧ i = .int .i64 j ∧ x = .int .i64 A ∧ c = .int .i64 C ∧ Hid (Rd wr g (l.drop A) C) ∧ Hid (Below w.heap.size w wr)) (fun _ _ i _ => m - (intOf i).toNat)
      case atStart => exact ⟨0, 0, 0, Nat.zero_le _, Nat.zero_le _, rfl, rfl, rfl, hR2, hW2⟩
      case round =>
        obtain ⟨j, A, C, hj, hA, rfl, rfl, rfl, HR, HB⟩ := hrel
        clear hR2 hW2 hb1
        by_cases hlt : j < m
        · obtain ⟨⟨b1, o1, rfl, hcz⟩, hz1, hz2⟩ := HZ.out j hlt
          have hcz1 : wr.cell? ⟨b1, o1 + j, none⟩ = some (.int .i64 (zs.getD j 0)) := by rw [HB.out.cell (p := ⟨b1, o1 + j, none⟩) (block_lt_of_cell hcz)]; exact hcz
          clear hcz
          generalize zs.getD j 0 = n at *
          have hdl : (l.drop A).length = len - A := by rw [List.length_drop, HL.out]
          have HD := hide hdl
          clear hdl
          have hlA : ((len - A : Nat) : Int) = (len : Int) - A := by omega
          have HLA := hide hlA
          clear hlA
          by_cases hC : C = 0
          · subst hC
            by_cases hp : j % 2 = 0
            · have hp' := par_yes j hp
              rcases (show n < 1 ∨ (1 ≤ n ∧ 8 < n) ∨ (1 ≤ n ∧ n ≤ 8 ∧ (len : Int) - A < n) ∨ (1 ≤ n ∧ n ≤ 8 ∧ n ≤ (len : Int) - A) from by omega) with hn | ⟨hn, hn2⟩ | ⟨hn, hn2, hn3⟩ | ⟨hn, hn2, hn3⟩
              · go_wp2_with fail
                refine (RNumber_bad HR.out n 1 (by rw [HD.out]; omega) (by rw [if_pos (by omega)]) (by rw [HD.out]; omega)).mono ?_
                rintro e wq ⟨rfl, hRq, hbq⟩
                have HRq := hide hRq
                have HBq := hide (HB.out.trans (hbq.mono hgs))
                clear hRq hbq
                go_wp2_with fail
                refine (Err_any HRq.out).mono ?_
                rintro e wz ⟨rfl, rfl⟩
                go_wp2_with fail
                refine (Left_any HRq.out).mono ?_
                rintro e wz' ⟨rfl, rfl⟩
                rw [HD.out]
                go_wp2
                go_roundw
                case rel => exact ⟨j + 1, A, 1, by omega, by omega, by go_num, rfl, rfl, HRq, HBq⟩
                case measure => simp [intOf]; omega
              · go_wp2_with fail
                refine (RNumber_bad HR.out n 1 (by rw [HD.out]; omega) (by rw [if_pos (by omega)]) (by rw [HD.out]; omega)).mono ?_
                rintro e wq ⟨rfl, hRq, hbq⟩
                have HRq := hide hRq
                have HBq := hide (HB.out.trans (hbq.mono hgs))
                clear hRq hbq
                go_wp2_with fail
                refine (Err_any HRq.out).mono ?_
                rintro e wz ⟨rfl, rfl⟩
                go_wp2_with fail
                refine (Left_any HRq.out).mono ?_
                rintro e wz' ⟨rfl, rfl⟩
                rw [HD.out]
                go_wp2
                go_roundw
                case rel => exact ⟨j + 1, A, 1, by omega, by omega, by go_num, rfl, rfl, HRq, HBq⟩
                case measure => simp [intOf]; omega
              · go_wp2_with fail
                refine (RNumber_bad HR.out n 2 (by rw [HD.out]; omega) (by rw [if_neg (by omega)]) (by rw [HD.out]; omega)).mono ?_
                rintro e wq ⟨rfl, hRq, hbq⟩
                have HRq := hide hRq
                have HBq := hide (HB.out.trans (hbq.mono hgs))
                clear hRq hbq
                go_wp2_with fail
                refine (Err_any HRq.out).mono ?_
                rintro e wz ⟨rfl, rfl⟩
                go_wp2_with fail
                refine (Left_any HRq.out).mono ?_
                rintro e wz' ⟨rfl, rfl⟩
                rw [HD.out]
                go_wp2
                go_roundw
                case rel => exact ⟨j + 1, A, 2, by omega, by omega, by go_num, rfl, rfl, HRq, HBq⟩
                case measure => simp [intOf]; omega
              · obtain ⟨k, rfl⟩ := Int.eq_ofNat_of_zero_le (show 0 ≤ n by omega)
                obtain ⟨b0, o0, rfl, hcb⟩ : ∃ b off, ad = some ⟨b, off, none⟩ ∧ ∀ i, i < len → w.cell? ⟨b, off + i, none⟩ = some (.int .u8 (l.getD i 0)) := Bs.place HV.out HL.out (by omega)
                go_wp2_with fail
                refine (RNumber_ok HR.out k (by rw [HD.out]; omega) (by omega) (by omega) (by rw [HD.out]; omega)).mono ?_
                rintro e wq ⟨rfl, hRq, hbq⟩
                rw [List.drop_drop] at hRq
                have HRq := hide hRq
                have HBq := hide (HB.out.trans (hbq.mono hgs))
                clear hRq hbq
                have hp := hide (Bs.cut HV.out HL.out hcap1 hcb HBq.out A k (by omega))
                have hdl2 : (l.drop (A + k)).length = len - (A + k) := by rw [List.length_drop, HL.out]
                have HD2 := hide hdl2
                have hlk : ((l.drop A).take k).length = k := by rw [List.length_take, HD.out]; omega
                have HLK := hide hlk
                clear hdl2 hlk hcb
                go_wp2_with fail
                refine (Number_any hp.out (by rw [HLK.out]; omega) (by rw [HLK.out]; omega)).mono ?_
                rintro e wy ⟨rfl, rfl⟩
                go_wp2_with fail
                refine (Err_any HRq.out).mono ?_
                rintro e wz ⟨rfl, rfl⟩
                go_wp2_with fail
                refine (Left_any HRq.out).mono ?_
                rintro e wz' ⟨rfl, rfl⟩
                rw [HD2.out]
                go_wp2
                go_roundw
                case rel => exact ⟨j + 1, A + k, 0, by omega, by omega, by go_num, by go_num, rfl, HRq, HBq⟩
                case measure => simp [intOf]; omega
            · have hp' := par_no j hp
              rcases (show n < 0 ∨ (0 ≤ n ∧ (len : Int) - A < n) ∨ (0 ≤ n ∧ n ≤ (len : Int) - A) from by omega) with hn | ⟨hn, hn2⟩ | ⟨hn, hn2⟩
              · go_wp2_with fail
                refine (RTake_bad HR.out n 1 (by rw [HD.out]; omega) (by rw [if_pos (by omega)]) (by rw [HD.out]; omega)).mono ?_
                rintro e wq ⟨rfl, hRq, hbq⟩
                have HRq := hide hRq
                have HBq := hide (HB.out.trans (hbq.mono hgs))
                clear hRq hbq
                go_wp2_with fail
                go_quiet (fail)
                have HRz := hide (HRq.out.drewN nq)
                have HBz := hide (below_drewN HBq.out nq)
                go_wp2_with fail
                refine (Err_any HRz.out).mono ?_
                rintro e wz ⟨rfl, rfl⟩
                go_wp2_with fail
                refine (Left_any HRz.out).mono ?_
                rintro e wz' ⟨rfl, rfl⟩
                rw [HD.out]
                go_wp2
                go_roundw
                case rel => exact ⟨j + 1, A, 1, by omega, by omega, by go_num, rfl, rfl, HRz, HBz⟩
                case measure => simp [intOf]; omega
              · go_wp2_with fail
                refine (RTake_bad HR.out n 2 (by rw [HD.out]; omega) (by rw [if_neg (by omega)]) (by rw [HD.out]; omega)).mono ?_
                rintro e wq ⟨rfl, hRq, hbq⟩
                have HRq := hide hRq
                have HBq := hide (HB.out.trans (hbq.mono hgs))
                clear hRq hbq
                go_wp2_with fail
                go_quiet (fail)
                have HRz := hide (HRq.out.drewN nq)
                have HBz := hide (below_drewN HBq.out nq)
                go_wp2_with fail
                refine (Err_any HRz.out).mono ?_
                rintro e wz ⟨rfl, rfl⟩
                go_wp2_with fail
                refine (Left_any HRz.out).mono ?_
                rintro e wz' ⟨rfl, rfl⟩
                rw [HD.out]
                go_wp2
                go_roundw
                case rel => exact ⟨j + 1, A, 2, by omega, by omega, by go_num, rfl, rfl, HRz, HBz⟩
                case measure => simp [intOf]; omega
              · obtain ⟨k, rfl⟩ := Int.eq_ofNat_of_zero_le hn
                have hdl2 : (l.drop (A + k)).length = len - (A + k) := by rw [List.length_drop, HL.out]
                have HD2 := hide hdl2
                clear hdl2
                go_wp2_with fail
                refine (RTake_ok HR.out k (by rw [HD.out]; omega) (by rw [HD.out]; omega)).mono ?_
                rintro e wq ⟨vq, rfl, hVq, hRq, hbq⟩
                rw [List.drop_drop] at hRq
                have HRq := hide hRq
                have HBq := hide (HB.out.trans (hbq.mono hgs))
                obtain ⟨S, hS⟩ : ∃ S, S = bstr ((l.drop A).take k) := ⟨_, rfl⟩
                have q1 : ∀ nq, (convert 23 9 vq).run Try.prog (wq.drewN nq) = .ok (.string S) (wq.drewN nq) := fun nq => by rw [hS]; exact conv_str 23 9 5 Try.underlying23 Try.underlying5 Try.underlying9 (hVq.below (below_drewN (Below.refl _ _) nq))
                clear hRq hbq hVq
                have hself : (S.toList != S.toList) = false := by simp
                have HS := hide hS
                clear hS
                by_cases hl0 : len = 0
                · have hsl := fun W => slice_zero ad len cap A k hcap1 hl0 (by omega) W
                  have hk0 : k = 0 := by omega
                  have HK0 := hide hk0
                  clear hk0 hl0
                  have q2 : ∀ nq, (convert 23 9 (.slice ad 0 cap)).run Try.prog (wq.drewN nq) = .ok (.string S) (wq.drewN nq) := fun nq => by rw [HS.out]; exact conv_str 23 9 5 Try.underlying23 Try.underlying5 Try.underlying9 (by rw [HK0.out, List.take_zero]; exact (Bs.zero HV.out).below (below_drewN HBq.out nq))
                  go_wp2_with fail
                  go_quiet (fail)
                  have HRz := hide (HRq.out.drewN nq)
                  have HBz := hide (below_drewN HBq.out nq)
                  clear q1 q2 hsl
                  go_wp2_with fail
                  refine (Err_any HRz.out).mono ?_
                  rintro e wz ⟨rfl, rfl⟩
                  go_wp2_with fail
                  refine (Left_any HRz.out).mono ?_
                  rintro e wz' ⟨rfl, rfl⟩
                  rw [HD2.out]
                  go_wp2
                  go_roundw
                  case rel => exact ⟨j + 1, A + k, 0, by omega, by omega, by go_num, by go_num, rfl, HRz, HBz⟩
                  case measure => simp [intOf]; omega
                · obtain ⟨b0, o0, rfl, hcb⟩ : ∃ b off, ad = some ⟨b, off, none⟩ ∧ ∀ i, i < len → w.cell? ⟨b, off + i, none⟩ = some (.int .u8 (l.getD i 0)) := Bs.place HV.out HL.out (by omega)
                  by_cases hcA : cap = A
                  · obtain rfl : k = 0 := by omega
                    subst hcA
                    have q2 : ∀ nq, (convert 23 9 (.slice (some ⟨b0, o0, none⟩) 0 0)).run Try.prog (wq.drewN nq) = .ok (.string S) (wq.drewN nq) := fun nq => by rw [HS.out]; exact conv_str 23 9 5 Try.underlying23 Try.underlying5 Try.underlying9 (by rw [List.take_zero]; exact Bs.empty _ _ _ (by simp [maxLen]) (fun e => by cases e))
                    clear hcb
                    go_wp2_with fail
                    go_quiet (fail)
                    have HRz := hide (HRq.out.drewN nq)
                    have HBz := hide (below_drewN HBq.out nq)
                    clear q1 q2
                    go_wp2_with fail
                    refine (Err_any HRz.out).mono ?_
                    rintro e wz ⟨rfl, rfl⟩
                    go_wp2_with fail
                    refine (Left_any HRz.out).mono ?_
                    rintro e wz' ⟨rfl, rfl⟩
                    rw [HD2.out]
                    go_wp2
                    go_roundw
                    case rel => exact ⟨j + 1, cap + 0, 0, by omega, by omega, by go_num, by go_num, rfl, HRz, HBz⟩
                    case measure => simp [intOf]; omega
                  · have hcA' : ((cap : Int) == (A : Int)) = false := by simp; omega
                    have q2 : ∀ nq, (convert 23 9 (.slice (some ⟨b0, o0 + A, none⟩) k (cap - A))).run Try.prog (wq.drewN nq) = .ok (.string S) (wq.drewN nq) := fun nq => by rw [HS.out]; exact conv_str 23 9 5 Try.underlying23 Try.underlying5 Try.underlying9 (Bs.cut HV.out HL.out hcap1 hcb (below_drewN HBq.out nq) A k (by omega))
                    clear hcb
                    go_wp2_with fail
                    go_quiet (fail)
                    have HRz := hide (HRq.out.drewN nq)
                    have HBz := hide (below_drewN HBq.out nq)
                    clear q1 q2
                    go_wp2_with fail
                    refine (Err_any HRz.out).mono ?_
                    rintro e wz ⟨rfl, rfl⟩
                    go_wp2_with fail
                    refine (Left_any HRz.out).mono ?_
                    rintro e wz' ⟨rfl, rfl⟩
                    rw [HD2.out]
                    go_wp2
                    go_roundw
                    case rel => exact ⟨j + 1, A + k, 0, by omega, by omega, by go_num, by go_num, rfl, HRz, HBz⟩
                    case measure => simp [intOf]; omega
          · have hC0 : (C == 0) = false := beq_eq_false_iff_ne.2 hC
            have hC1 : (C != 0) = true := bne_iff_ne.2 hC
            by_cases hp : j % 2 = 0
            · have hp' := par_yes j hp
              go_wp2_with fail
              refine (RNumber_err HR.out hC n).mono ?_
              rintro e wr' ⟨rfl, rfl⟩
              go_wp2_with fail
              refine (Err_any HR.out).mono ?_
              rintro e wz ⟨rfl, rfl⟩
              go_wp2_with fail
              refine (Left_any HR.out).mono ?_
              rintro e wz' ⟨rfl, rfl⟩
              rw [HD.out]
              go_wp2
              go_roundw
              case rel => exact ⟨j + 1, A, C, by omega, by omega, by go_num, rfl, rfl, HR, HB⟩
              case measure => simp [intOf]; omega
            · have hp' := par_no j hp
              go_wp2_with fail
              refine (RTake_err HR.out hC n).mono ?_
              rintro e wr' ⟨rfl, rfl⟩
              go_wp2_with fail
              go_quiet (fail)
              have HRz := hide (HR.out.drewN nq)
              have HBz := hide (below_drewN HB.out nq)
              go_wp2_with fail
              refine (Err_any HRz.out).mono ?_
              rintro e wz ⟨rfl, rfl⟩
              go_wp2_with fail
              refine (Left_any HRz.out).mono ?_
              rintro e wz' ⟨rfl, rfl⟩
              rw [HD.out]
              go_wp2
              go_roundw
              case rel => exact ⟨j + 1, A, C, by omega, by omega, by go_num, rfl, rfl, HRz, HBz⟩
              case measure => simp [intOf]; omega
        · go_wp2
          go_ret
          exact ⟨rfl, HB.out⟩

/-- A slice of ints that came in. -/
theorem ints_of_row {w : World} {a : Option Addr} {len cap : Nat} {zs : List Int}
    (h : (a = none ∧ len = 0 ∧ cap = 0 ∧ zs = []) ∨ ∃ x, a = some x ∧ len ≤ cap ∧ cap ≤ maxLen ∧ zs.length = cap ∧ (∀ i, i < zs.length → w.cell? (x.add i) = some (.int .i64 (zs.getD i 0))) ∧ ∀ n ∈ zs, (Lit.int .i64 n).wf = true) :
    len ≤ maxLen ∧ ∀ i, i < len → (∃ b off, a = some ⟨b, off, none⟩ ∧ w.cell? ⟨b, off + i, none⟩ = some (.int .i64 (zs.getD i 0))) ∧ -9223372036854775808 ≤ zs.getD i 0 ∧ zs.getD i 0 ≤ 9223372036854775807 := by
  rcases h with ⟨rfl, rfl, rfl, rfl⟩ | ⟨x, rfl, h1, h2, h3, h4, h5⟩
  · exact ⟨Nat.zero_le _, fun i hi => by omega⟩
  · refine ⟨by omega, fun i hi => ?_⟩
    obtain ⟨b, off, rfl, hc⟩ := ints_at h4 (by omega)
    have hb := range_i64 h5 i
    rw [← List.getD_eq_getElem?_getD] at hb
    exact ⟨⟨b, off, rfl, hc i (by omega)⟩, hb⟩
end Go.Proofs.Ytjoejbdgiepdcaa
