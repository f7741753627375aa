/-
  The walk of MeterBounds. Conditions: those that each theorem names.
-/
import Derived.Test.YtmacdghkbmjdmaaMr5
import Derived.Test.YtmacdghkbmjdmaaOpnM
namespace Go.Proofs.Ytmacdghkbmjdmaa
open Go.RowKit
set_option linter.unusedVariables false
set_option linter.unusedSimpArgs false
set_option maxRecDepth 20000

theorem fillN_up {r f l n : Int} (hr : 0 ≤ r) (hlf : l ≤ f) (hn : 0 ≤ n) : fillN r f l n ≤ l + r * n := by
  unfold fillN
  split
  · rename_i h
    have := (Int.ediv_lt_iff_lt_mul h.1).1 h.2
    rw [Int.mul_comm] at this
    omega
  · exact Int.le_refl _
theorem passM_r0 (M : Mm) (now : Int) : (passM M now).r0 = M.r0 := by unfold passM; split <;> rfl
theorem takeM_r0 (M : Mm) (x : Int) : (takeM M x).r0 = M.r0 := by unfold takeM; split <;> (try split) <;> rfl
theorem countM_r0 (M : Mm) (x : Int) : (countM M x).r0 = M.r0 := by unfold countM; split <;> (try split) <;> rfl
theorem markM_r0 (M : Mm) (n now : Int) : (markM M n now).r0 = M.r0 := by unfold markM; rw [countM_r0, takeM_r0, passM_r0]
theorem countM_l0 (M : Mm) (x : Int) : (countM M x).l0 = M.l0 := by unfold countM; split <;> (try split) <;> rfl
theorem passM_to {M : Mm} {now : Int} (h : M.now ≤ now) : (passM M now).now = now := by
  unfold passM
  split
  · show M.now = now; omega
  · rfl
theorem markM_to {M : Mm} {n now : Int} (h : M.now ≤ now) : (markM M n now).now = now := by unfold markM; rw [countM_now, takeM_now, passM_to h]
theorem passM_l0 {M : Mm} {K now : Int} (h : M.ok K) (hn : M.now ≤ now) : (passM M now).l0 ≤ M.l0 + M.r0 * (now - M.now) := by
  unfold passM
  split
  · rw [show now - M.now = 0 by omega, Int.mul_zero]; omega
  · exact fillN_up h.r0.1 h.l0.2 (by omega)
/-- No more tokens than there were, and came. -/
theorem markM_pot {M : Mm} {K F now n g : Int} (h : M.ok K) (hn : M.now ≤ now) (hb : 0 ≤ n ∧ n ≤ 1522) (hP : M.l0 + 8000000000 * g ≤ F + M.r0 * M.now) :
    (markM M n now).l0 + 8000000000 * (if markC M n now = 0 then g + n else g) ≤ F + M.r0 * now := by
  have h1 := passM_l0 h hn
  rw [Int.mul_sub] at h1
  have hneed : needN n = n * 8000000000 := by unfold needN; rw [if_neg (by omega), if_neg (by omega)]
  unfold markM
  rw [countM_l0]
  unfold markC takeC takeM
  rw [hneed]
  split
  · simp only [if_true]; omega
  · split
    · simp; omega
    · simp; omega
theorem newM_r0 (c : Mc) : (newM c).r0 = c.r ∧ (newM c).l0 = c.b * 8000000000 ∧ (newM c).now = 0 := ⟨rfl, rfl, rfl⟩
/-- What the statement lets come. -/
def comeN (r t : Int) : Int := r / 1000 * (t / 1000000) + r / 1000 + r % 1000 * (t / 1000000000 + 1) + t / 1000000 + 1
theorem comeN_ge {r t b g : Int} (hr : 0 ≤ r) (ht : 0 ≤ t) (h : 8000000000 * g ≤ b * 8000000000 + r * t) : g ≤ b + comeN r t := by
  unfold comeN
  have e1 : r = 1000 * (r / 1000) + r % 1000 := by omega
  have p1 : 0 ≤ r / 1000 := by omega
  have p2 : 0 ≤ r % 1000 := by omega
  have q1 : t ≤ 1000000 * (t / 1000000 + 1) := by omega
  have q2 : t ≤ 1000000000 * (t / 1000000000 + 1) := by omega
  have p3 : 0 ≤ t / 1000000 := by omega
  have p4 : 0 ≤ t / 1000000000 := by omega
  generalize r / 1000 = a at *
  generalize r % 1000 = c at *
  generalize t / 1000000 = u at *
  generalize t / 1000000000 = v at *
  have m1 : a * t ≤ a * (1000000 * (u + 1)) := Int.mul_le_mul_of_nonneg_left q1 p1
  have m2 : c * t ≤ c * (1000000000 * (v + 1)) := Int.mul_le_mul_of_nonneg_left q2 p2
  have n1 : a * (1000000 * (u + 1)) = 1000000 * (a * u) + 1000000 * a := by rw [Int.mul_add, Int.mul_one, Int.mul_add, Int.mul_left_comm]; omega
  have n2 : c * (1000000000 * (v + 1)) = 1000000000 * (c * (v + 1)) := by rw [Int.mul_left_comm]
  have n3 : r * t = 1000 * (a * t) + c * t := by rw [e1, Int.add_mul, Int.mul_assoc]
  have z1 : 0 ≤ a * u := Int.mul_nonneg p1 p3
  have z2 : 0 ≤ c * (v + 1) := Int.mul_nonneg p2 (by omega)
  generalize a * u = A at *
  generalize c * (v + 1) = C at *
  generalize a * t = X at *
  generalize c * t = Y at *
  omega
set_option maxHeartbeats 2000000 in
theorem Bounds_walk (c : Mc) (b : Option Addr) (n cap : Nat) (V : List Pq) (w : World) (hV : Hid (Prs w b n V)) (hn : n ≤ maxLen) :
    Calls Try.prog 4 #[.agg (fC c).toArray, .slice b n cap] w fun e w' => e = .returned (.bool true) ∧ Below w.heap.size w w' := by
  unfold maxLen at hn
  have hr := hide (heap_alloc_new w (.cells (fC c).toArray 23))
  have hb := hide (below1 w (.cells (fC c).toArray 23))
  have hc := hide (fun w => Check_any c w)
  have hz := cfgSize c
  have hN := hide (fun (h : c.may = true) w' => ONew c h w' w' (Below.refl _ _))
  generalize hx : c.may = x at *
  replace hx := hide hx
  go_enter Try.func4, Try.ntmps4
  generalize hE : (fC c).toArray = E at *
  replace hE := hide hE
  go_wp2_with fail
  refine (marks_any _).mono ?_
  rintro e1 w2 ⟨rfl, hb2⟩
  have hr2 := hide (heap_kept hb2 hr.out)
  have hB2 := hide (hb.out.later hb2)
  clear hr hb hb2
  by_cases h100 : (100 : Int) < (n : Int)
  · go_wp2
    go_ret
    exact ⟨rfl, hB2.out⟩
  have hd100 : decide ((100 : Int) < (n : Int)) = false := decide_eq_false h100
  go_wp2_with ((with_reducible change wpList _ _ _ _ _ _); refine wpList_load_row_on rfl 23 (.tmp 2) rfl w.heap.size rfl 23 _ _ _ hr2.out Try.underlying23 rfl hz ?_)
  refine (hc.out _).mono ?_
  rintro e1 w3 ⟨rfl, hb3⟩
  have hr3 := hide (heap_kept hb3 hr2.out)
  have hB3 := hide (hB2.out.later hb3)
  clear hr2 hB2 hb3 hc
  cases x
  · simp only [Bool.false_eq_true, if_false]
    go_wp2
    go_ret
    exact ⟨rfl, hB3.out⟩
  simp only [if_true]
  have hN3 := hide (hN.out rfl w3)
  clear hN
  go_wp2_with ((with_reducible change wpList _ _ _ _ _ _); refine wpList_load_row rfl 23 (.tmp 2) rfl w.heap.size rfl 23 _ _ _ hr3.out Try.underlying23 rfl hz ?_)
  refine hN3.out.mono ?_
  rintro e1 w4 ⟨t, rfl, H4⟩
  replace H4 := hide H4
  have hP0 : Hid ((newM c).r0 = c.r ∧ (newM c).l0 + 8000000000 * 0 ≤ c.b * 8000000000 + c.r * (newM c).now ∧ (newM c).now = 0) := by
    refine ⟨rfl, ?_, rfl⟩
    rw [(newM_r0 c).2.1, (newM_r0 c).2.2]; omega
  have hcr : Hid (0 ≤ c.r ∧ c.r ≤ 10000000000 ∧ 0 ≤ c.b ∧ c.b ≤ 1048576) := by have := (may_iff c).1 hx.out; show _ ∧ _; omega
  generalize newM c = M0 at *
  clear hN3 hx
  have hn100 : n ≤ 100 := by omega
  go_wp2_with fail
  go_loopw [7, 8, 30] (fun x y i wr => ∃ (j : Nat) (M : Mm) (now g : Int), j ≤ n ∧ i = .int .i64 j ∧ x = .int .i64 now ∧ y = .int .i64 g ∧ Hid (Om w3 wr t M (j : Int)) ∧ Hid (M.now = now) ∧ (0 ≤ now ∧ now ≤ 1000000000 * (j : Int)) ∧ (0 ≤ g ∧ g ≤ 1522 * (j : Int)) ∧ Hid (M.r0 = c.r) ∧ Hid (M.l0 + 8000000000 * g ≤ c.b * 8000000000 + c.r * now)) (fun _ _ i _ => n - (intOf i).toNat)
  case atStart => exact ⟨0, M0, 0, 0, Nat.zero_le _, rfl, rfl, rfl, H4, hP0.out.2.2, by omega, by omega, hP0.out.1, by have := hP0.out.2.1; rw [hP0.out.2.2] at this; exact this⟩
  case round =>
    obtain ⟨j, M, now, g, hj, rfl, rfl, rfl, hO, hnw, ⟨t1, t2⟩, ⟨g1, g2⟩, hr0, hP⟩ := hrel
    clear H4 hP0
    by_cases hlt : j < n
    · obtain ⟨hIn, hwf⟩ := hV.out.below (hB3.out.later hO.out.bel)
      obtain ⟨ba, off, rfl, hrg⟩ := hIn.at_i j hlt
      have hw := hwf j hlt
      replace hrg := hide hrg
      clear hIn hwf
      generalize V.getD j Pq.zero = el at *
      obtain ⟨x, y⟩ := el
      obtain ⟨⟨x1, x2⟩, ⟨y1, y2⟩⟩ := hw
      dsimp only at x1 x2 y1 y2
      go_wp2_with (first | ((with_reducible change wpList _ _ _ _ _ _); refine wpList_load_mid rfl 34 (.tmp 32) rfl ba (off + j * 2) rfl (fPq ⟨x, y⟩) _ hrg.out Try.underlying34 rfl (pqLen _) ?_) | ((with_reducible change wpList _ _ _ _ _ _); refine stop_storeB 34 (.tmp 10) (.tmp 33) rfl ?_))
      refine hide (wpList_store_fresh rfl 34 (.tmp 10) (.tmp 33) rfl (fPq ⟨x, y⟩).toArray (fPq Pq.zero).toArray rfl rfl 34 (pqSize _) rfl (pq_all _) ?_)
      intro w5 h5 hb5
      have k0 : w5.cell? ⟨wr.heap.size, 0, none⟩ = some (.int .i64 x) := (cell_of_row _ _ _ _ _ _ h5).trans rfl
      have k1 : w5.cell? ⟨wr.heap.size, 1, none⟩ = some (.int .i64 y) := (cell_of_row _ _ _ _ _ _ h5).trans rfl
      have hO5 := hide (hO.out.later hb5)
      clear hO hrg h5 hb5
      generalize hX : min (max x 0) 1000000000 = X at *
      generalize hY : min (max y 0) 1522 = Y at *
      have hX2 : 0 ≤ X ∧ X ≤ 1000000000 := by omega
      have hY2 : 0 ≤ Y ∧ Y ≤ 1522 := by omega
      have hmx : ∀ (ts : Array TypeId) (t : TypeId) (w : World), (Builtin.max_ ts t #[.int .i64 x, .int .i64 0]).run Try.prog w = .ok (.int .i64 (max x 0)) w := fun ts t w => by rw [Go.Lib.run_max_ints]
      have hmy : ∀ (ts : Array TypeId) (t : TypeId) (w : World), (Builtin.max_ ts t #[.int .i64 y, .int .i64 0]).run Try.prog w = .ok (.int .i64 (max y 0)) w := fun ts t w => by rw [Go.Lib.run_max_ints]
      have hnx : ∀ (ts : Array TypeId) (t : TypeId) (w : World), (Builtin.min_ ts t #[.int .i64 (max x 0), .int .i64 1000000000]).run Try.prog w = .ok (.int .i64 X) w := fun ts t w => by rw [Go.Lib.run_min_ints, hX]
      have hny : ∀ (ts : Array TypeId) (t : TypeId) (w : World), (Builtin.min_ ts t #[.int .i64 (max y 0), .int .i64 1522]).run Try.prog w = .ok (.int .i64 Y) w := fun ts t w => by rw [Go.Lib.run_min_ints, hY]
      replace hX := hide hX
      replace hY := hide hY
      generalize max x 0 = mx at *
      generalize max y 0 = my at *
      have hM := hide (OMark hO5.out (by omega) Y (now + X) (by omega))
      have hpot := hide (markM_pot (F := c.b * 8000000000) (now := now + X) (n := Y) (g := g) hO5.out.ok (by rw [hnw.out]; omega) hY2 (by rw [hr0.out, hnw.out]; exact hP.out))
      rw [hr0.out] at hpot
      have hnw2 : Hid ((markM M Y (now + X)).now = now + X) := markM_to (by rw [hnw.out]; omega)
      have hr02 : Hid ((markM M Y (now + X)).r0 = c.r) := (markM_r0 _ _ _).trans hr0.out
      clear hO5 hP hnw hr0
      generalize markM M Y (now + X) = M2 at *
      generalize markC M Y (now + X) = cc at *
      go_wp2_with fail
      refine hM.out.mono ?_
      rintro e1 w6 ⟨rfl, H6⟩
      replace H6 := hide H6
      have hjj : Hid (((j + 1 : Nat) : Int) = (j : Int) + 1) := by simp; exact trivial
      clear hM hmx hmy hnx hny
      by_cases hcc : cc = 0
      · subst hcc
        have hpot2 : Hid (M2.l0 + 8000000000 * (g + Y) ≤ c.b * 8000000000 + c.r * (now + X)) := by have := hpot.out; rw [if_pos rfl] at this; exact this
        clear hpot
        go_wp2
        go_roundw
        case rel => exact ⟨j + 1, M2, now + X, g + Y, by omega, by go_num, rfl, rfl, H6, hnw2, by omega, by omega, hr02, hpot2⟩
        case measure => simp [intOf]; omega
      · have hpot2 : Hid (M2.l0 + 8000000000 * g ≤ c.b * 8000000000 + c.r * (now + X)) := by have := hpot.out; rw [if_neg hcc] at this; exact this
        have hcq : (cc == 0) = false := by rw [beq_eq_false_iff_ne]; exact hcc
        clear hpot
        go_wp2
        go_roundw
        case rel => exact ⟨j + 1, M2, now + X, g, by omega, by go_num, rfl, rfl, H6, hnw2, by omega, by omega, hr02, hpot2⟩
        case measure => simp [intOf]; omega
    · obtain rfl : j = n := by omega
      have hrr := heap_kept hO.out.bel hr3.out
      rw [← hE.out] at hrr
      have k0 : wr.cell? ⟨w.heap.size, 0, none⟩ = some (.int .i64 c.r) := (cell_of_row _ _ _ _ _ _ hrr).trans rfl
      have k1 : wr.cell? ⟨w.heap.size, 1, none⟩ = some (.int .i64 c.b) := (cell_of_row _ _ _ _ _ _ hrr).trans rfl
      have hB := hide (hB3.out.later hO.out.bel)
      obtain ⟨r1, r2, r3, r4⟩ := hcr.out
      have hpot : Hid (8000000000 * g ≤ c.b * 8000000000 + c.r * now) := by have := hP.out; have := hO.out.ok.l0; show _ ≤ _; omega
      have hle := hide (comeN_ge r1 t1 hpot.out)
      have hdef : Hid (comeN c.r now = c.r / 1000 * (now / 1000000) + c.r / 1000 + c.r % 1000 * (now / 1000000000 + 1) + now / 1000000 + 1) := rfl
      clear hO hrr hP hnw hr0 hr3 hE hpot
      generalize c.r = r at *
      generalize c.b = bb at *
      generalize comeN r now = CN at *
      have hv : 0 ≤ now ∧ now ≤ 100000000000 := by omega
      clear t1 t2
      have p1 : 0 ≤ r / 1000 * (now / 1000000) ∧ r / 1000 * (now / 1000000) ≤ 10000000 * 100000 := ⟨Int.mul_nonneg (by omega) (by omega), Int.mul_le_mul (by omega) (by omega) (by omega) (by omega)⟩
      have p2 : 0 ≤ r % 1000 * (now / 1000000000 + 1) ∧ r % 1000 * (now / 1000000000 + 1) ≤ 1000 * 101 := ⟨Int.mul_nonneg (by omega) (by omega), Int.mul_le_mul (by omega) (by omega) (by omega) (by omega)⟩
      go_wp2
      go_ret
      exact ⟨ret_bool (decide_eq_true (by rw [← hdef.out]; exact hle.out)), hB.out⟩
end Go.Proofs.Ytmacdghkbmjdmaa
