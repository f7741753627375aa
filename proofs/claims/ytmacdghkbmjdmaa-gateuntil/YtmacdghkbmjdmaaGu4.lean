/-
  The walk of GateUntil. Conditions: those that each theorem names.
-/
import Derived.Test.YtmacdghkbmjdmaaGu3
namespace Go.Proofs.Ytmacdghkbmjdmaa
open Go.RowKit
set_option linter.unusedVariables false
set_option linter.unusedSimpArgs false
set_option maxRecDepth 20000

theorem bitN : ∀ n : Nat, n < 256 → ∀ k : Nat, k < 8 → (bits .and .i64 (n : Int) (2 ^ k) != 0) = decide ((n : Int) / 2 ^ k % 2 = 1) ∧ (bits .and .i64 (n : Int) (2 ^ k) == 0) = !decide ((n : Int) / 2 ^ k % 2 = 1) := by decide +kernel
theorem bit_let {o k : Int} (ho : 0 ≤ o ∧ o ≤ 255) (hk : 0 ≤ k ∧ k ≤ 7) : (bits .and .i64 o (2 ^ k.toNat) != 0) = letB o k ∧ (bits .and .i64 o (2 ^ k.toNat) == 0) = !letB o k := by
  obtain ⟨n, rfl⟩ := Int.eq_ofNat_of_zero_le ho.1
  exact bitN n (by omega) k.toNat (by omega)
theorem state_entry {L : Ls} (hm : L.may = true) {y : Int} (hy : L.base ≤ y) : ∃ i, i < L.es.length ∧ stateN L y = (L.es.getD i En.zero).op := by
  obtain ⟨⟨n1, -⟩, -, -, -, -⟩ := L.may_iff.1 hm
  obtain ⟨i1, i2⟩ := intoN_in hm y
  obtain ⟨i, hi⟩ := in_ex (fun j hj => (Ls.entry hm hj).2) n1 i1 i2
  exact ⟨i, hi.1, state_in hm hy hi⟩
theorem state_range {L : Ls} (hm : L.may = true) (y : Int) : 0 ≤ stateN L y ∧ stateN L y ≤ 255 := by
  by_cases hy : y < L.base
  · rw [show stateN L y = 255 from if_pos hy]; omega
  · obtain ⟨i, hi, e⟩ := state_entry hm (show L.base ≤ y by omega)
    rw [e]; exact (Ls.entry hm hi).1
theorem let255 {k : Int} (hk : 0 ≤ k ∧ k ≤ 7) : letB 255 k = true := by
  rcases (show k = 0 ∨ k = 1 ∨ k = 2 ∨ k = 3 ∨ k = 4 ∨ k = 5 ∨ k = 6 ∨ k = 7 by omega) with rfl | rfl | rfl | rfl | rfl | rfl | rfl | rfl <;> rfl
/-- May the class go always, by the entries? -/
def allB (es : List En) (s : Int → Bool) (j : Nat) : Bool := (es.take j).all fun e => s e.op
theorem allB_succ {es : List En} {s : Int → Bool} {j : Nat} (h : j < es.length) : allB es s (j + 1) = (allB es s j && s (es.getD j En.zero).op) := by
  unfold allB
  rw [List.take_add_one, List.all_append, List.getD_eq_getElem?_getD, List.getElem?_eq_getElem h]
  simp
theorem allB_at {es : List En} {s : Int → Bool} (h : allB es s es.length = true) {i : Nat} (hi : i < es.length) : s (es.getD i En.zero).op = true := by
  unfold allB at h
  rw [List.take_length, List.all_eq_true] at h
  refine h _ ?_
  rw [List.getD_eq_getElem?_getD, List.getElem?_eq_getElem hi]
  exact List.getElem_mem _
theorem next_up {L : Ls} (hm : L.may = true) (t : Int) : nextN L t ≤ t + 1000000000 ∨ nextN L t = L.base := by
  obtain ⟨i1, i2⟩ := intoN_in hm t
  obtain ⟨-, -, ⟨y1, y2⟩, -, -⟩ := L.may_iff.1 hm
  unfold nextN
  split
  · exact .inr rfl
  · cases hf : findL L.cyc (fun q => decide (intoN L t < q.b)) 0 L.es with
    | none => dsimp only; omega
    | some q =>
      have := findL_in (Int.le_refl 0) (Ls.good hm) hf
      have h5 := this.1.2
      dsimp only
      omega
/-- What the edges show of the first time at which the class may not go. -/
theorem until_case {L : Ls} (hm : L.may = true) {s : Int → Bool} {t X : Int} (h : Fst L s t X) (ht : 0 ≤ t) {y : Int} (hy : t ≤ y) :
    (decide (0 ≤ X) = false ∧ decide (y < X) = false ∧ (X == y) = false ∧ decide (X < 0) = true ∧ decide (X < nextN L y) = true ∧ s (stateN L y) = false) ∨
    (decide (0 ≤ X) = true ∧ decide (y < X) = true ∧ (X == y) = false ∧ decide (X < 0) = false ∧ decide (X < nextN L y) = false ∧ s (stateN L y) = false) ∨
    (decide (0 ≤ X) = true ∧ decide (y < X) = false ∧ (X == y) = true ∧ decide (X < 0) = false ∧ decide (X < nextN L y) = true ∧ s (stateN L y) = true) ∨
    (decide (0 ≤ X) = true ∧ decide (y < X) = false ∧ (X == y) = false ∧ decide (X < 0) = false ∧ decide (X < nextN L y) = true ∧ True) := by
  have hg := next_gt hm y
  by_cases hX : X = -1
  · exact .inl ⟨decide_eq_false (by omega), decide_eq_false (by omega), by rw [beq_eq_false_iff_ne]; omega, decide_eq_true (by omega), decide_eq_true (by omega), h.never hX y hy⟩
  · have h0 := h.ge hX
    rcases (show y < X ∨ X = y ∨ X < y by omega) with h1 | rfl | h1
    · exact .inr (.inl ⟨decide_eq_true (by omega), decide_eq_true h1, by rw [beq_eq_false_iff_ne]; omega, decide_eq_false (by omega), decide_eq_false (by have := next_le hm h hX hy h1; omega), h.no hX y hy h1⟩)
    · exact .inr (.inr (.inl ⟨decide_eq_true (by omega), decide_eq_false (by omega), by simp, decide_eq_false (by omega), decide_eq_true hg, h.yes hX⟩))
    · exact .inr (.inr (.inr ⟨decide_eq_true (by omega), decide_eq_false (by omega), by rw [beq_eq_false_iff_ne]; omega, decide_eq_false (by omega), decide_eq_true (by omega), trivial⟩))
set_option maxHeartbeats 32000000 in
theorem Until_walk (L : Ls) (a : Option Addr) (cap : Nat) (k t : Int) (w : World) (hE : Ent w a L.es) (hn : L.es.length ≤ maxLen) (hk : -9223372036854775808 ≤ k ∧ k ≤ 9223372036854775807) (ht : -9223372036854775808 ≤ t ∧ t ≤ 9223372036854775807) :
    Calls Try.prog 9 #[.agg (lRow L a L.es.length cap), .int .i64 k, .int .i64 t] w fun e w' => e = .returned (.bool true) ∧ Below w.heap.size w w' := by
  have hb := hide (below1 w (.cells (lRow L a L.es.length cap) 47))
  have hr := hide (heap_alloc_new w (.cells (lRow L a L.es.length cap) 47))
  have hz := lSize L a L.es.length cap
  have hC : Hid (∀ w', Below w.heap.size w w' → Calls Try.prog 22 #[.agg (lRow L a L.es.length cap), .int .i64 t] w' fun e w'' => e = .returned (.bool (fitB L t)) ∧ Below w'.heap.size w' w'') := fun w' h => fits_any L a cap t w' (hE.below h (fun _ => by simp)) hn
  have hI := hide (fitB_iff L t)
  have hEn : Hid (∀ w', Below w.heap.size w w' → Ent w' a L.es) := fun w' h => hE.below h (fun _ => by simp)
  have hcell : Hid (∀ w', Below (w.alloc (.cells (lRow L a L.es.length cap) 47)).heap.size (w.alloc (.cells (lRow L a L.es.length cap) 47)) w' → w'.heap[w.heap.size]? = some (.cells (lRow L a L.es.length cap) 47 (0, 0)) ∧ w'.cell? ⟨w.heap.size, 0, none⟩ = some (.int .i64 L.base) ∧ w'.cell? ⟨w.heap.size, 3, none⟩ = some (.slice a L.es.length cap)) := fun w' h => ⟨heap_kept h hr.out, (cell_of_row _ _ _ _ _ _ (heap_kept h hr.out)).trans rfl, (cell_of_row _ _ _ _ _ _ (heap_kept h hr.out)).trans rfl⟩
  clear hE
  generalize hx : fitB L t = x at *
  replace hx := hide hx
  generalize hR : lRow L a L.es.length cap = R at *
  have hRe : Hid (R = lRow L a L.es.length cap) := hR.symm
  clear hR
  go_enter Try.func9, Try.ntmps9
  go_wp2_with fail
  generalize w.alloc (.cells R 47) = w1 at *
  refine (opens_any _).mono ?_
  rintro _ w2 ⟨rfl, hb2⟩
  have hr2 := hide (heap_kept hb2 hr.out)
  have h12 := hide hb2
  clear hr hb2
  have hC2 := hide (hC.out w2 (hb.out.later h12.out))
  clear hC
  go_wp2_with ((with_reducible change wpList _ _ _ _ _ _); refine wpList_load_row rfl 47 (.tmp 3) rfl w.heap.size rfl 47 _ _ _ hr2.out Try.underlying47 rfl hz ?_)
  refine hC2.out.mono ?_
  rintro _ w3 ⟨rfl, hb3⟩
  have h13 := hide (h12.out.later hb3)
  clear hr2 hb3 hC2 h12
  cases x
  · have hB := hide (hb.out.later h13.out)
    clear hEn hcell
    go_wp2
    go_ret
    exact ⟨rfl, hB.out⟩
  by_cases hk0 : k < 0
  · have hB := hide (hb.out.later h13.out)
    clear hEn hcell
    go_wp2
    go_ret
    exact ⟨rfl, hB.out⟩
  by_cases hk7 : 7 < k
  · have hB := hide (hb.out.later h13.out)
    clear hEn hcell
    go_wp2
    go_ret
    exact ⟨rfl, hB.out⟩
  have hkk : 0 ≤ k ∧ k ≤ 7 := by omega
  obtain ⟨hm, t0, t1⟩ := hI.out.1 rfl
  obtain ⟨⟨n1, n2⟩, ⟨a1, a2⟩, ⟨y1, y2⟩, -, -⟩ := L.may_iff.1 hm
  have hU : Hid (∀ w', Below w.heap.size w w' → Calls Try.prog 25 #[.agg R, .int .i64 k, .int .i64 t] w' fun r w'' => r = .returned (.int .i64 (untilN L k t)) ∧ Below w'.heap.size w' w'') := fun w' h => by rw [hRe.out]; exact Until_any (hEn.out w' h) hm k hkk t (by omega) (by omega)
  have hF : Hid (∀ w', Below w.heap.size w w' → Calls Try.prog 26 #[.agg R, .int .i64 k, .int .i64 t] w' fun r w'' => r = .returned (.int .i64 (fromN L k t)) ∧ Below w'.heap.size w' w'') := fun w' h => by rw [hRe.out]; exact From_any (hEn.out w' h) hm k hkk t (by omega) (by omega)
  have hRS : Hid (∀ w', Below w.heap.size w w' → ∀ y, y ≤ 9223372036854775807 → Calls Try.prog 24 #[.agg R, .int .i64 y] w' fun r w'' => r = .returned (.int .i64 (stateN L y)) ∧ Below w'.heap.size w' w'') := fun w' h y hy => by rw [hRe.out]; exact RState_any (hEn.out w' h) hm y hy
  have hRN : Hid (∀ w', Below w.heap.size w w' → ∀ y, y ≤ 9223372034000000000 → Calls Try.prog 27 #[.agg R, .int .i64 y] w' fun r w'' => r = .returned (.int .i64 (nextN L y)) ∧ Below w'.heap.size w' w'') := fun w' h y hy => by rw [hRe.out]; exact RNext_any (hEn.out w' h) hm y hy
  have hFU := hide (first_is hm (fun o => !letB o k) t0)
  have hFF := hide (first_is hm (fun o => letB o k) t0)
  have hUe : Hid (untilN L k t = firstN L t (fun o => !letB o k)) := rfl
  have hFe : Hid (fromN L k t = firstN L t (fun o => letB o k)) := rfl
  rw [← hUe.out] at hFU
  rw [← hFe.out] at hFF
  clear hUe hFe hRe hx hI hk0 hk7 hk
  have h14 : Hid (Below w1.heap.size w1 w3.drew) := below_drewN h13.out 1
  have hS0 := hide ((hcell.out _ h14.out).1)
  clear h13
  generalize untilN L k t = U at *
  generalize fromN L k t = F at *
  go_wp2_with fail
  refine wp_region_noPanic ?_
  refine wp_region_held_drew (S := fun W => W.heap[w.heap.size]? = some (.cells R 47 (0, 0))) (by kernel_rfl) hS0.out (fun hHeld => ?_)
  have hU1 := hide (hU.out w3.drew (hb.out.later h14.out))
  generalize w3.drew = w4 at *
  clear hS0 hU
  refine wpAnyH_take (i := 0) (oi := { dst := some 31, op := Op.load 47 (Operand.tmp 3), type := 47, pos := "law.go:56", after := #[], guard := none }) (v := _) rfl (by kernel_rfl) (by kernel_rfl) (by kernel_rfl) (fun _ _ _ h => h) (yieldsIf_load_row rfl 47 (.tmp 3) rfl w.heap.size rfl 47 _ _ _ (fun _ h => h) Try.underlying47 rfl hz) (by assumption) ?_
  try simp only [Act.put, List.setIfInBounds_toArray, List.set_cons_zero, List.set_cons_succ]
  refine wpAnyH_take (i := 1) (oi := { dst := some 32, op := Op.move (Operand.tmp 1), type := 3, pos := "law.go:56", after := #[], guard := none }) (v := ?v1) rfl (by kernel_rfl) (by kernel_rfl) (by kernel_rfl) (fun _ _ _ h => h) (Or.inl ⟨by rfl, ?y1⟩) (by assumption) ?r1
  case y1 => (intro w hSw; (try dsimp only at hSw); (try (go_split_ands)); go_simp; try with_reducible rfl)
  try simp only [Act.put, List.setIfInBounds_toArray, List.set_cons_zero, List.set_cons_succ]
  refine wpAnyH_take (i := 2) (oi := { dst := some 33, op := Op.move (Operand.tmp 2), type := 2, pos := "law.go:56", after := #[], guard := none }) (v := ?v2) rfl (by kernel_rfl) (by kernel_rfl) (by kernel_rfl) (fun _ _ _ h => h) (Or.inl ⟨by rfl, ?y2⟩) (by assumption) ?r2
  case y2 => (intro w hSw; (try dsimp only at hSw); (try (go_split_ands)); go_simp; try with_reducible rfl)
  try simp only [Act.put, List.setIfInBounds_toArray, List.set_cons_zero, List.set_cons_succ]
  refine wpAnyH_take (i := 4) (oi := { dst := some 35, op := Op.load 47 (Operand.tmp 3), type := 47, pos := "law.go:56", after := #[], guard := none }) (v := _) rfl (by kernel_rfl) (by kernel_rfl) (by kernel_rfl) (fun _ _ _ h => h) (yieldsIf_load_row rfl 47 (.tmp 3) rfl w.heap.size rfl 47 _ _ _ (fun _ h => h) Try.underlying47 rfl hz) (by assumption) ?_
  try simp only [Act.put, List.setIfInBounds_toArray, List.set_cons_zero, List.set_cons_succ]
  refine wpAnyH_take (i := 5) (oi := { dst := some 36, op := Op.move (Operand.tmp 1), type := 3, pos := "law.go:56", after := #[], guard := none }) (v := ?v3) rfl (by kernel_rfl) (by kernel_rfl) (by kernel_rfl) (fun _ _ _ h => h) (Or.inl ⟨by rfl, ?y3⟩) (by assumption) ?r3
  case y3 => (intro w hSw; (try dsimp only at hSw); (try (go_split_ands)); go_simp; try with_reducible rfl)
  try simp only [Act.put, List.setIfInBounds_toArray, List.set_cons_zero, List.set_cons_succ]
  refine wpAnyH_take (i := 6) (oi := { dst := some 37, op := Op.move (Operand.tmp 2), type := 2, pos := "law.go:56", after := #[], guard := none }) (v := ?v4) rfl (by kernel_rfl) (by kernel_rfl) (by kernel_rfl) (fun _ _ _ h => h) (Or.inl ⟨by rfl, ?y4⟩) (by assumption) ?r4
  case y4 => (intro w hSw; (try dsimp only at hSw); (try (go_split_ands)); go_simp; try with_reducible rfl)
  try simp only [Act.put, List.setIfInBounds_toArray, List.set_cons_zero, List.set_cons_succ]
  clear hHeld
  refine wpAnyH_ready (rs := [3]) (by kernel_rfl) (by simp) ?_
  refine AllReadyH.cons (o := { dst := some 34, op := Op.call { callee := Callee.value (Operand.func 25), args := #[Operand.tmp 31, Operand.tmp 32, Operand.tmp 33], argTypes := #[47, 3, 2] }, type := 2, pos := "law.go:56", after := #[{ on := 0, ground := Ground.data }, { on := 1, ground := Ground.data }, { on := 2, ground := Ground.data }], guard := none }) rfl (fun K hK => ?_) AllReadyH.nil
  go_simp
  refine hU1.out.mono ?_
  rintro _ w5 ⟨rfl, hbx⟩
  have h14n := hide (h14.out.later hbx)
  clear hbx h14
  have h14 := h14n
  clear h14n
  have hSx := hide (hcell.out w5 h14.out).1
  go_wp2_with fail
  refine hK.out _ _ ?_ (fun hHeld3 => ?_)
  · exact hSx.out
  clear hK K
  try simp only [Act.put, List.setIfInBounds_toArray, List.set_cons_zero, List.set_cons_succ]
  have hF5 := hide (hF.out w5 (hb.out.later h14.out))
  clear hU1 hF hSx hHeld3
  refine wpAnyH_ready (rs := [7]) (by kernel_rfl) (by simp) ?_
  refine AllReadyH.cons (o := { dst := some 38, op := Op.call { callee := Callee.value (Operand.func 26), args := #[Operand.tmp 35, Operand.tmp 36, Operand.tmp 37], argTypes := #[47, 3, 2] }, type := 2, pos := "law.go:56", after := #[{ on := 4, ground := Ground.data }, { on := 5, ground := Ground.data }, { on := 6, ground := Ground.data }, { on := 3, ground := Ground.chain }], guard := none }) rfl (fun K hK => ?_) AllReadyH.nil
  go_simp
  refine hF5.out.mono ?_
  rintro _ w6 ⟨rfl, hbx⟩
  have h14n := hide (h14.out.later hbx)
  clear hbx h14
  have h14 := h14n
  clear h14n
  have hSx := hide (hcell.out w6 h14.out).1
  go_wp2_with fail
  refine hK.out _ _ ?_ (fun hHeld7 => ?_)
  · exact hSx.out
  clear hK K
  try simp only [Act.put, List.setIfInBounds_toArray, List.set_cons_zero, List.set_cons_succ]
  refine wpAnyH_take (i := 8) (oi := { dst := some 7, op := Op.assign (Operand.tmp 34), type := 2, pos := "law.go:56", after := #[{ on := 3, ground := Ground.data }, { on := 7, ground := Ground.chain }, { on := 0, ground := Ground.phase }, { on := 1, ground := Ground.phase }, { on := 2, ground := Ground.phase }, { on := 3, ground := Ground.phase }, { on := 4, ground := Ground.textOnly Departure.lateStores }, { on := 5, ground := Ground.textOnly Departure.lateStores }, { on := 6, ground := Ground.textOnly Departure.lateStores }, { on := 7, ground := Ground.textOnly Departure.lateStoresUnsure }], guard := none }) (v := ?v5) rfl (by kernel_rfl) (by kernel_rfl) (by kernel_rfl) (fun _ _ _ h => h) (Or.inl ⟨by rfl, ?y5⟩) (by assumption) ?r5
  case y5 => (intro w hSw; (try dsimp only at hSw); (try (go_split_ands)); go_simp; try with_reducible rfl)
  try simp only [Act.put, List.setIfInBounds_toArray, List.set_cons_zero, List.set_cons_succ]
  refine wpAnyH_take (i := 9) (oi := { dst := some 8, op := Op.assign (Operand.tmp 38), type := 2, pos := "law.go:56", after := #[{ on := 7, ground := Ground.data }, { on := 8, ground := Ground.chain }, { on := 0, ground := Ground.phase }, { on := 1, ground := Ground.phase }, { on := 2, ground := Ground.phase }, { on := 3, ground := Ground.phase }, { on := 4, ground := Ground.phase }, { on := 5, ground := Ground.phase }, { on := 6, ground := Ground.phase }, { on := 7, ground := Ground.phase }, { on := 8, ground := Ground.phase }], guard := none }) (v := ?v6) rfl (by kernel_rfl) (by kernel_rfl) (by kernel_rfl) (fun _ _ _ h => h) (Or.inl ⟨by rfl, ?y6⟩) (by assumption) ?r6
  case y6 => (intro w hSw; (try dsimp only at hSw); (try (go_split_ands)); go_simp; try with_reducible rfl)
  try simp only [Act.put, List.setIfInBounds_toArray, List.set_cons_zero, List.set_cons_succ]
  refine wpAnyH_done (by kernel_rfl) ?_ _
  refine NoPanic.normal ?_
  clear hHeld7 hF5 hSx
  obtain ⟨hrow6, c0, c3⟩ := hcell.out w6 h14.out
  clear hrow6
  have hB : Hid (wrap64 (2 ^ k.toNat) = 2 ^ k.toNat) := by
    show _ = _
    rcases (show k = 0 ∨ k = 1 ∨ k = 2 ∨ k = 3 ∨ k = 4 ∨ k = 5 ∨ k = 6 ∨ k = 7 by omega) with rfl | rfl | rfl | rfl | rfl | rfl | rfl | rfl <;> exact IntWalk.wrap64_in _ (by decide)
  have hbit := hide (fun o (ho : 0 ≤ o ∧ o ≤ 255) => bit_let (k := k) ho hkk)
  go_wp2_with fail
  rw [hB.out]
  clear hB c3
  generalize (2 : Int) ^ k.toNat = B at *
  have hran := hide (state_range hm)
  have h255 := hide (let255 hkk)
  have hent := hide (fun y (hy : L.base ≤ y) => state_entry hm hy)
  have hent2 := hide (fun j (hj : j < L.es.length) => (Ls.entry hm hj).1)
  have hall1 := hide (fun s i h hi => @allB_at L.es s h i hi)
  have hs1 := hide (fun j (hj : j < L.es.length) => @allB_succ L.es (fun o => letB o k) j hj)
  have hs2 := hide (fun j (hj : j < L.es.length) => @allB_succ L.es (fun o => !letB o k) j hj)
  have hz1 : Hid (allB L.es (fun o => letB o k) 0 = true) := rfl
  have hz2 : Hid (allB L.es (fun o => !letB o k) 0 = true) := rfl
  have hcU := hide (fun y hy => @until_case L hm _ t U hFU.out t0 y hy)
  have hcF := hide (fun y hy => @until_case L hm _ t F hFF.out t0 y hy)
  have hup := hide (next_up hm)
  have hlow : Hid (∀ y, y < L.base → stateN L y = 255) := fun y hy => if_pos hy
  have hYU : Hid (U ≠ -1 → t ≤ U ∧ (!letB (stateN L U) k) = true ∧ U ≤ 9000000000000000000) := fun h => ⟨hFU.out.ge h, hFU.out.yes h, by rcases hFU.out.le with h | h <;> omega⟩
  have hYF : Hid (F ≠ -1 → t ≤ F ∧ letB (stateN L F) k = true ∧ F ≤ 9000000000000000000) := fun h => ⟨hFF.out.ge h, hFF.out.yes h, by rcases hFF.out.le with h | h <;> omega⟩
  have hgt := hide (next_gt hm)
  generalize hstF : stateN L = stF at *
  generalize nextN L = nxF at *
  generalize hnl : L.es.length = n at *
  replace hnl := hide hnl
  replace hm := hide hm
  generalize hba : L.base = ba at *
  replace hba := hide hba
  go_loopw [10, 11, 44] (fun x y i wr => ∃ j : Nat, j ≤ n ∧ i = .int .i64 j ∧ x = .bool (allB L.es (fun o => letB o k) j) ∧ y = .bool (allB L.es (fun o => !letB o k) j) ∧ Hid (Below w1.heap.size w1 wr)) (fun _ _ i _ => n - (intOf i).toNat)
  case atStart => exact ⟨0, Nat.zero_le _, rfl, by rw [hz1.out], by rw [hz2.out], h14⟩
  case round =>
    obtain ⟨j, hj, rfl, rfl, rfl, hBr⟩ := hrel
    clear h14
    by_cases hlt : j < n
    · obtain ⟨eb, off, rfl, hrg⟩ := (hEn.out wr (hb.out.later hBr.out)).at_i j (by rw [hnl.out]; exact hlt)
      replace hrg := hide hrg
      have hT1 := hide (hs1.out j hlt)
      have hT2 := hide (hs2.out j hlt)
      have hro := hent2.out j hlt
      have hbb := hbit.out _ hro
      generalize hX : allB L.es (fun o => letB o k) j = X at *
      generalize hX1 : allB L.es (fun o => letB o k) (j + 1) = X1 at *
      generalize hY : allB L.es (fun o => !letB o k) j = Y at *
      generalize hY1 : allB L.es (fun o => !letB o k) (j + 1) = Y1 at *
      generalize L.es.getD j En.zero = el at *
      go_wp2_with (first | ((with_reducible change wpList _ _ _ _ _ _); refine wpList_load_mid rfl 52 (.tmp 46) rfl eb (off + j * 2) rfl (fEn el) _ hrg.out Try.underlying52 rfl (enLen _) ?_) | ((with_reducible change wpList _ _ _ _ _ _); refine stop_storeB 52 (.tmp 13) (.tmp 47) rfl ?_))
      refine hide (wpList_store_fresh rfl 52 (.tmp 13) (.tmp 47) rfl (fEn el).toArray (fEn En.zero).toArray rfl rfl 52 (enSize _) rfl (en_all _) ?_)
      intro w5 h5 hb5
      have k0 : w5.cell? ⟨wr.heap.size, 0, none⟩ = some (.int .i64 el.op) := (cell_of_row _ _ _ _ _ _ h5).trans rfl
      have hB5 := hide (hBr.out.later hb5)
      clear hBr hrg h5 hb5 hro
      replace hX := hide hX
      replace hX1 := hide hX1
      replace hY := hide hY
      replace hY1 := hide hY1
      generalize letB el.op k = lb at *
      generalize el.op = eo at *
      obtain ⟨b1, b2⟩ := hbb
      cases lb
      · obtain rfl : X1 = false := by have := hT1.out; rw [this]; exact Bool.and_false _
        obtain rfl : Y1 = Y := by have := hT2.out; rw [this]; exact Bool.and_true _
        clear hT1 hT2
        cases X <;> cases Y1 <;> (
          go_wp2
          go_roundw
          case rel => exact ⟨j + 1, by omega, by go_num, by rw [hX1.out], by rw [hY1.out], hB5⟩
          case measure => simp [intOf]; omega)
      · obtain rfl : X1 = X := by have := hT1.out; rw [this]; exact Bool.and_true _
        obtain rfl : Y1 = false := by have := hT2.out; rw [this]; exact Bool.and_false _
        clear hT1 hT2
        cases X1 <;> cases Y <;> (
          go_wp2
          go_roundw
          case rel => exact ⟨j + 1, by omega, by go_num, by rw [hX1.out], by rw [hY1.out], hB5⟩
          case measure => simp [intOf]; omega)
    · obtain rfl : n = j := by omega
      have hcl := hcell.out wr hBr.out
      have c3 := hcl.2.2
      clear hs1 hs2 hz1 hz2 hent2
      clear hcl
      go_wp2_with fail
      clear c3
      generalize hev : allB L.es (fun o => letB o k) n = ev at *
      generalize hnv : allB L.es (fun o => !letB o k) n = nv at *
      replace hev := hide hev
      replace hnv := hide hnv
      have hn64 : n ≤ 64 := n2
      go_loopw [14, 71] (fun x i wr => ∃ (j : Nat) (y : Int), j ≤ 2 * n + 3 ∧ i = .int .i64 j ∧ x = .int .i64 y ∧ (t ≤ y ∧ y ≤ 4611686018427387904 + 1000000000 * (j : Int)) ∧ Hid (Below w1.heap.size w1 wr)) (fun _ i _ => 2 * n + 3 - (intOf i).toNat)
      case atStart => exact ⟨0, t, by omega, rfl, rfl, by omega, hBr⟩
      case round =>
        obtain ⟨j, y, hj, rfl, rfl, ⟨g1, g2⟩, hB1⟩ := hrel
        clear hBr
        by_cases hlt : (j : Int) < 2 * (n : Int) + 3
        · have hrr := hide (hcell.out wr hB1.out).1
          have hS := hide (hRS.out wr (hb.out.later hB1.out) y (by omega))
          have hbb := hbit.out _ (hran.out y)
          have hu := hcU.out y g1
          have hf := hcF.out y g1
          have hnp := hup.out y
          have hgy := hgt.out y
          have hny : y < nxF y ∧ nxF y ≤ 4611686018427387904 + 1000000000 * ((j : Int) + 1) := by omega
          clear hnp hgy
          generalize hst : stF y = st at *
          generalize hnx : nxF y = nx at *
          generalize hlb : letB st k = lb at *
          go_wp2_with ((with_reducible change wpList _ _ _ _ _ _); refine wpList_load_row rfl 47 (.tmp 3) rfl w.heap.size rfl 47 _ _ _ hrr.out Try.underlying47 rfl hz ?_)
          replace hu := hide hu
          replace hf := hide hf
          replace hst := hide hst
          replace hnx := hide hnx
          replace hlb := hide hlb
          refine hS.out.mono ?_
          rintro _ w7 ⟨rfl, hb7⟩
          have hB7 := hide (hB1.out.later hb7)
          have hrr7 := hide (hcell.out w7 hB7.out).1
          have hN := hide (hRN.out w7 (hb.out.later hB7.out) y (by omega))
          rw [hnx.out] at hN
          clear hS hrr hb7 hB1
          obtain ⟨b1, b2⟩ := hbb
          go_wp2_with ((with_reducible change wpList _ _ _ _ _ _); refine wpList_load_row rfl 47 (.tmp 3) rfl w.heap.size rfl 47 _ _ _ hrr7.out Try.underlying47 rfl hz ?_)
          refine hN.out.mono ?_
          rintro _ w8 ⟨rfl, hb8⟩
          have hB8 := hide (hB7.out.later hb8)
          clear hN hb8 hB7 hrr7
          have hjl : Hid (j + 1 ≤ 2 * n + 3) := by show _ ≤ _; omega
          replace hlt := hide hlt
          clear hcU hcF hgt hup hran hbit hent h255 hYU hYF hlow
          rcases hu.out with ⟨u1, u2, u3, u4, u5, u6⟩ | ⟨u1, u2, u3, u4, u5, u6⟩ | ⟨u1, u2, u3, u4, u5, u6⟩ | ⟨u1, u2, u3, u4, u5, u6⟩ <;>
          rcases hf.out with ⟨f1, f2, f3, f4, f5, f6⟩ | ⟨f1, f2, f3, f4, f5, f6⟩ | ⟨f1, f2, f3, f4, f5, f6⟩ | ⟨f1, f2, f3, f4, f5, f6⟩ <;>
          cases lb <;>
          first
          | (exfalso; simp at u6; done)
          | (exfalso; simp at f6; done)
          | (
            clear hu hf u6 f6 b2
            go_wp2
            go_roundw
            case rel => exact ⟨j + 1, nx, hjl.out, by go_num, rfl, by omega, hB8⟩
            case measure => have := hlt.out; simp [intOf]; omega)
        · clear hcU hcF hgt hup
          have hdl : decide ((j : Int) < 2 * (n : Int) + 3) = false := decide_eq_false hlt
          have hevU : Hid (U ≠ -1 → ev = false) := fun hne => by
            rw [Bool.eq_false_iff]
            intro hq
            have h2 := (hYU.out hne).2.1
            by_cases hy : U < ba
            · rw [hlow.out U hy, h255.out] at h2; simp at h2
            · obtain ⟨i, q1, q2⟩ := hent.out U (by omega)
              have := hall1.out (fun o => letB o k) i (by rw [hev.out]; exact hq) q1
              rw [q2, this] at h2; simp at h2
          have hnvF : Hid (F ≠ -1 → ba ≤ t → nv = false) := fun hne hbt => by
            rw [Bool.eq_false_iff]
            intro hq
            obtain ⟨h1, h2, -⟩ := hYF.out hne
            obtain ⟨i, q1, q2⟩ := hent.out F (by omega)
            have := hall1.out (fun o => !letB o k) i (by rw [hnv.out]; exact hq) q1
            rw [← q2, h2] at this; simp at this
          clear hent hall1 h255 hlow hev hnv
          by_cases hU1 : U = -1
          · have dU0 : decide (0 ≤ U) = false := decide_eq_false (by omega)
            have dUn : decide (U < 0) = true := decide_eq_true (by omega)
            by_cases hF1 : F = -1
            · have dF0 : decide (0 ≤ F) = false := decide_eq_false (by omega)
              have dFn : decide (F < 0) = true := decide_eq_true (by omega)
              have c0 := (hcell.out wr hB1.out).2.1
              have hBf := hide (hb.out.later hB1.out)
              have htb : Hid (t < ba ∨ ba ≤ t) := by show _ ∨ _; omega
              replace hU1 := hide hU1
              replace hF1 := hide hF1
              cases ev <;> (
                rcases htb.out with q | q
                · have dt : decide (t < ba) = true := decide_eq_true q
                  clear q hevU hnvF hYU hYF
                  cases nv <;> (
                    go_wp2
                    go_ret
                    exact ⟨rfl, hBf.out⟩)
                · have dt : decide (t < ba) = false := decide_eq_false (by omega)
                  clear q hevU hnvF hYU hYF
                  cases nv <;> (
                    go_wp2
                    go_ret
                    exact ⟨rfl, hBf.out⟩))
            · obtain ⟨hFt, hFl, hFb⟩ := hYF.out hF1
              have dF0 : decide (0 ≤ F) = true := decide_eq_true (by omega)
              have dFn : decide (F < 0) = false := decide_eq_false (by omega)
              have dFt : decide (F < t) = false := decide_eq_false (by omega)
              have hrr := hide (hcell.out wr hB1.out).1
              have hS := hide (hRS.out wr (hb.out.later hB1.out) F (by omega))
              have hbbF := hbit.out _ (hran.out F)
              generalize hstF : stF F = stF at *
              replace hstF := hide hstF
              go_wp2_with ((with_reducible change wpList _ _ _ _ _ _); refine wpList_load_row_on rfl 47 (.tmp 3) rfl w.heap.size rfl 47 _ _ _ hrr.out Try.underlying47 rfl hz ?_)
              refine hS.out.mono ?_
              rintro _ wf ⟨rfl, hbx⟩
              have hBF := hide (hB1.out.later hbx)
              clear hS hrr hbx
              obtain ⟨bF1, bF2⟩ := hbbF
              rw [hFl] at bF2
              simp only [Bool.not_true] at bF2
              clear bF1 hFl
              have c0 := (hcell.out wf hBF.out).2.1
              have hBf := hide (hb.out.later hBF.out)
              have htb : Hid (t < ba ∨ ba ≤ t) := by show _ ∨ _; omega
              replace hU1 := hide hU1
              replace hF1 := hide hF1
              cases ev <;> (
                rcases htb.out with q | q
                · have dt : decide (t < ba) = true := decide_eq_true q
                  clear q hevU hnvF hYU hYF
                  cases nv <;> (
                    go_wp2
                    go_ret
                    exact ⟨rfl, hBf.out⟩)
                · have dt : decide (t < ba) = false := decide_eq_false (by omega)
                  obtain rfl : nv = false := hnvF.out hF1.out q
                  clear q hevU hnvF hYU hYF
                  go_wp2
                  go_ret
                  exact ⟨rfl, hBf.out⟩)
          · obtain ⟨hUt, hUl, hUb⟩ := hYU.out hU1
            have dU0 : decide (0 ≤ U) = true := decide_eq_true (by omega)
            have dUn : decide (U < 0) = false := decide_eq_false (by omega)
            have dUt : decide (U < t) = false := decide_eq_false (by omega)
            have hrr := hide (hcell.out wr hB1.out).1
            have hS := hide (hRS.out wr (hb.out.later hB1.out) U (by omega))
            have hbbU := hbit.out _ (hran.out U)
            generalize hstU : stF U = stU at *
            replace hstU := hide hstU
            go_wp2_with ((with_reducible change wpList _ _ _ _ _ _); refine wpList_load_row_on rfl 47 (.tmp 3) rfl w.heap.size rfl 47 _ _ _ hrr.out Try.underlying47 rfl hz ?_)
            refine hS.out.mono ?_
            rintro _ wu ⟨rfl, hbx⟩
            have hBU := hide (hB1.out.later hbx)
            clear hS hrr hbx
            obtain ⟨bU1, bU2⟩ := hbbU
            have hUl2 : letB stU k = false := by simpa using hUl
            rw [hUl2] at bU1
            clear bU2 hUl hUl2
            by_cases hF1 : F = -1
            · have dF0 : decide (0 ≤ F) = false := decide_eq_false (by omega)
              have dFn : decide (F < 0) = true := decide_eq_true (by omega)
              have c0 := (hcell.out wu hBU.out).2.1
              have hBf := hide (hb.out.later hBU.out)
              have htb : Hid (t < ba ∨ ba ≤ t) := by show _ ∨ _; omega
              replace hU1 := hide hU1
              replace hF1 := hide hF1
              obtain rfl : ev = false := hevU.out hU1.out
              (
                rcases htb.out with q | q
                · have dt : decide (t < ba) = true := decide_eq_true q
                  clear q hevU hnvF hYU hYF
                  cases nv <;> (
                    go_wp2
                    go_ret
                    exact ⟨rfl, hBf.out⟩)
                · have dt : decide (t < ba) = false := decide_eq_false (by omega)
                  clear q hevU hnvF hYU hYF
                  cases nv <;> (
                    go_wp2
                    go_ret
                    exact ⟨rfl, hBf.out⟩))
            · obtain ⟨hFt, hFl, hFb⟩ := hYF.out hF1
              have dF0 : decide (0 ≤ F) = true := decide_eq_true (by omega)
              have dFn : decide (F < 0) = false := decide_eq_false (by omega)
              have dFt : decide (F < t) = false := decide_eq_false (by omega)
              have hrr := hide (hcell.out wu hBU.out).1
              have hS := hide (hRS.out wu (hb.out.later hBU.out) F (by omega))
              have hbbF := hbit.out _ (hran.out F)
              generalize hstF : stF F = stF at *
              replace hstF := hide hstF
              go_wp2_with ((with_reducible change wpList _ _ _ _ _ _); refine wpList_load_row_on rfl 47 (.tmp 3) rfl w.heap.size rfl 47 _ _ _ hrr.out Try.underlying47 rfl hz ?_)
              refine hS.out.mono ?_
              rintro _ wf ⟨rfl, hbx⟩
              have hBF := hide (hBU.out.later hbx)
              clear hS hrr hbx
              obtain ⟨bF1, bF2⟩ := hbbF
              rw [hFl] at bF2
              simp only [Bool.not_true] at bF2
              clear bF1 hFl
              have c0 := (hcell.out wf hBF.out).2.1
              have hBf := hide (hb.out.later hBF.out)
              have htb : Hid (t < ba ∨ ba ≤ t) := by show _ ∨ _; omega
              replace hU1 := hide hU1
              replace hF1 := hide hF1
              obtain rfl : ev = false := hevU.out hU1.out
              (
                rcases htb.out with q | q
                · have dt : decide (t < ba) = true := decide_eq_true q
                  clear q hevU hnvF hYU hYF
                  cases nv <;> (
                    go_wp2
                    go_ret
                    exact ⟨rfl, hBf.out⟩)
                · have dt : decide (t < ba) = false := decide_eq_false (by omega)
                  obtain rfl : nv = false := hnvF.out hF1.out q
                  clear q hevU hnvF hYU hYF
                  go_wp2
                  go_ret
                  exact ⟨rfl, hBf.out⟩)
end Go.Proofs.Ytmacdghkbmjdmaa
