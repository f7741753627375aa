/-
  The document's own bucket: contracts of Pass and Take. Conditions: those that each theorem names.
-/
import Derived.Test.YtmacdghkbmjdmaaMr6
import Derived.BigQuiet
import Derived.Deep.QuietTactic
namespace Go.Proofs.Ytmacdghkbmjdmaa
open Go.RowKit
set_option linter.unusedVariables false
set_option linter.unusedSimpArgs false
set_option maxRecDepth 20000

def BR (w : World) (b : Nat) (x y r m : Int) : Prop := w.heap[b]? = some (.cells #[.int .i64 x, .int .i64 y, .int .i64 r, .int .i64 m] 32 (0, 0))
theorem BR.lt {w : World} {b : Nat} {x y r m : Int} (h : BR w b x y r m) : b < w.heap.size := (Array.getElem?_eq_some_iff.1 h).1
theorem BR.c0 {w : World} {b : Nat} {x y r m : Int} (h : BR w b x y r m) : w.cell? ⟨b, 0, none⟩ = some (.int .i64 x) := cell_of_row _ _ _ _ _ _ h
theorem BR.c1 {w : World} {b : Nat} {x y r m : Int} (h : BR w b x y r m) : w.cell? ⟨b, 1, none⟩ = some (.int .i64 y) := cell_of_row _ _ _ _ _ _ h
theorem BR.c2 {w : World} {b : Nat} {x y r m : Int} (h : BR w b x y r m) : w.cell? ⟨b, 2, none⟩ = some (.int .i64 r) := cell_of_row _ _ _ _ _ _ h
theorem BR.c3 {w : World} {b : Nat} {x y r m : Int} (h : BR w b x y r m) : w.cell? ⟨b, 3, none⟩ = some (.int .i64 m) := cell_of_row _ _ _ _ _ _ h
theorem BR.fz {w : World} {b : Nat} {x y r m : Int} (h : BR w b x y r m) (o : Nat) : w.frozen? ⟨b, o, none⟩ = false := by
  have h' : w.heap[b]? = some (.cells #[.int .i64 x, .int .i64 y, .int .i64 r, .int .i64 m] 32 (0, 0)) := h
  simp [World.frozen?, h']
theorem BR.blk {w w' : World} {b : Nat} {x y r m : Int} (h : BR w b x y r m) (e : w'.heap[b]? = w.heap[b]?) : BR w' b x y r m := e.trans h
theorem BR.set0 {w : World} {b : Nat} {x y r m : Int} (h : BR w b x y r m) (x' : Int) : BR (w.setCell ⟨b, 0, none⟩ (.int .i64 x')) b x' y r m := by unfold BR; rw [heap_setCell_same _ _ _ _ _ _ h]; rfl
theorem BR.set1 {w : World} {b : Nat} {x y r m : Int} (h : BR w b x y r m) (y' : Int) : BR (w.setCell ⟨b, 1, none⟩ (.int .i64 y')) b x y' r m := by unfold BR; rw [heap_setCell_same _ _ _ _ _ _ h]; rfl
theorem Ch.set {b o : Nat} {w w' : World} (h : Ch (· = b) w w') (v : Value) : Ch (· = b) w (w'.setCell ⟨b, o, none⟩ v) := h.trans (Ch.setCells b o w' [v])
theorem Ch.drew {b : Nat} {w w' : World} (h : Ch (· = b) w w') : Ch (· = b) w w'.drew := h.trans (Ch.of_below (below_drewN (Below.refl _ _) 1))
/-- What the steps come to. -/
theorem pass_math {T r m n s B P : Int} (hT : 0 ≤ T) (hTm : T ≤ m * 1000000000) (hr : 0 ≤ r) (hn : 0 ≤ n) (hm : 0 ≤ m)
    (hB : T / 1000000000 = B) (hP : T % 1000000000 = P)
    (hs : s = n / 1000000000 ∨ (0 < r ∧ s = m / r + 1 ∧ m / r + 1 < n / 1000000000)) (b4 p3 A L H : Int) (hA : s * r = A) (hL : r % 1000 * (n % 1000000000) = L) (hH : r / 1000 * (n % 1000000000) = H)
    (h3 : p3 = (P + L) % 1000000000 + H % 1000000 * 1000) (h4 : b4 = B + A + (P + L) / 1000000000 + H / 1000000 + p3 / 1000000000) :
    (if m ≤ b4 then m else b4) = fillN r (m * 1000000000) T n / 1000000000 ∧ (if m ≤ b4 then 0 else p3 % 1000000000) = fillN r (m * 1000000000) T n % 1000000000 := by
  have hX : b4 * 1000000000 + p3 % 1000000000 = T + A * 1000000000 + L + H * 1000 := by omega
  have hrr : r * (n % 1000000000) = L + H * 1000 := by
    rw [← hL, ← hH]
    have e1 : r = 1000 * (r / 1000) + r % 1000 := by omega
    generalize r / 1000 = a at *
    generalize r % 1000 = c at *
    rw [e1, Int.add_mul, Int.mul_assoc]; omega
  have hL0 : 0 ≤ L + H * 1000 := by rw [← hrr]; exact Int.mul_nonneg hr (by omega)
  rcases hs with rfl | ⟨h0, rfl, h1⟩
  · have hall : r * n = A * 1000000000 + L + H * 1000 := by
      have e1 : n = 1000000000 * (n / 1000000000) + n % 1000000000 := by omega
      have : r * n = r * (1000000000 * (n / 1000000000)) + r * (n % 1000000000) := by rw [← Int.mul_add, ← e1]
      rw [this, hrr, Int.mul_left_comm, Int.mul_comm r, hA]; omega
    have hfill : fillN r (m * 1000000000) T n = if m * 1000000000 ≤ T + r * n then m * 1000000000 else T + r * n := by
      unfold fillN
      rcases (show r = 0 ∨ 0 < r by omega) with rfl | h0
      · simp only [Int.zero_mul, Int.add_zero]
        rw [if_neg (by omega)]
        split <;> omega
      · by_cases hc : (m * 1000000000 - T) / r < n
        · rw [if_pos ⟨h0, hc⟩]
          have := (Int.ediv_lt_iff_lt_mul h0).1 hc
          rw [Int.mul_comm n r] at this
          rw [if_pos (by omega)]
        · rw [if_neg (by omega)]
          have h3 : n * r ≤ m * 1000000000 - T := (Int.le_ediv_iff_mul_le h0).1 (by omega)
          rw [Int.mul_comm n r] at h3
          split <;> omega
    rw [hfill, hall]
    generalize r * n = Y at *
    by_cases hc : m ≤ b4
    · rw [if_pos hc, if_pos hc, if_pos (by omega)]; omega
    · rw [if_neg hc, if_neg hc, if_neg (by omega)]; omega
  · have hA2 : m < A := by
      have := Int.lt_mul_ediv_self_add (x := m) h0
      rw [← hA, Int.add_mul, Int.one_mul, Int.mul_comm]; omega
    have hbig : (m * 1000000000 - T) / r < n := by
      rw [Int.ediv_lt_iff_lt_mul h0]
      have h5 : (m / r + 1) * 1000000000 ≤ n := by omega
      have h6 : (m / r + 1) * 1000000000 * r ≤ n * r := Int.mul_le_mul_of_nonneg_right h5 hr
      have h7 : (m / r + 1) * 1000000000 * r = A * 1000000000 := by rw [← hA, Int.mul_right_comm]
      omega
    have hf : fillN r (m * 1000000000) T n = m * 1000000000 := if_pos ⟨h0, hbig⟩
    rw [hf, if_pos (by omega), if_pos (by omega)]
    omega
set_option maxHeartbeats 2000000 in
theorem Pass_any {w : World} {b : Nat} {T r m n : Int} (h : BR w b (T / 1000000000) (T % 1000000000) r m) (hT : 0 ≤ T) (hTm : T ≤ m * 1000000000) (hr : 0 ≤ r) (hr2 : r ≤ 10000000000) (hm2 : m ≤ 8388608) (hn : 0 ≤ n) (hn2 : n ≤ 1125899906842624) :
    Calls Try.prog 16 #[.pointer (some ⟨b, 0, none⟩), .int .i64 n] w fun e w' => e = .returned (.tuple #[]) ∧ BR w' b (fillN r (m * 1000000000) T n / 1000000000) (fillN r (m * 1000000000) T n % 1000000000) r m ∧ Ch (· = b) w w' := by
  have hm : 0 ≤ m := by omega
  have hmath := hide (fun s => @pass_math T r m n s (T / 1000000000) (T % 1000000000) hT hTm hr hn hm rfl rfl)
  have hV : Hid (fillN r (m * 1000000000) T n = fillN r (m * 1000000000) T n) := rfl
  generalize fillN r (m * 1000000000) T n = V at *
  have hB : 0 ≤ T / 1000000000 ∧ T / 1000000000 ≤ 8388608 := by omega
  have hP : 0 ≤ T % 1000000000 ∧ T % 1000000000 < 1000000000 := by omega
  clear hV hTm
  generalize T / 1000000000 = B at *
  generalize T % 1000000000 = P at *
  have hs0 : 0 ≤ n / 1000000000 ∧ n / 1000000000 ≤ 1125900 := by omega
  have hre : 0 ≤ n % 1000000000 ∧ n % 1000000000 < 1000000000 := by omega
  have hR : Hid (BR w b B P r m) := h
  have hC : Hid (Ch (· = b) w w) := Ch.refl _ _
  clear h
  have k0 := hR.out.c0
  have k1 := hR.out.c1
  have k2 := hR.out.c2
  have k3 := hR.out.c3
  have z0 := hR.out.fz 0
  have z1 := hR.out.fz 1
  go_enter Try.func16, Try.ntmps16
  go_wp2_with fail
  generalize n / 1000000000 = s0 at *
  generalize n % 1000000000 = rest at *
  rcases (show r = 0 ∨ 0 < r by omega) with hr0 | hr0
  · have hm2 := hide (hmath.out s0 (.inl rfl))
    have hA : 0 ≤ s0 * r ∧ s0 * r ≤ 10008388608 := by rw [hr0, Int.mul_zero]; omega
    have hd0 : decide (0 < r) = false := decide_eq_false (by omega)
    clear hmath hr0
    go_quiet (fail)
    clear hd0
    have hC2 : Hid (Ch (· = b) w (w.drewN nq)) := hC.out.trans (Ch.of_below (below_drewN (Below.refl _ _) nq))
    have hR2 : Hid (BR (w.drewN nq) b B P r m) := hR.out
    clear hR hC k0 k1 k2 k3 z0 z1
    have hR := hR2
    have hC := hC2
    clear hR2 hC2
    generalize w.drewN nq = wa at *
    have k0 := hR.out.c0
    have k1 := hR.out.c1
    have k2 := hR.out.c2
    have k3 := hR.out.c3
    have z0 := hR.out.fz 0
    have z1 := hR.out.fz 1
    generalize s0 = s at *
    generalize hAe : s * r = A at *
    have hw1 : Hid (IntKind.i64.wrap A = A) := IntWalk.i64_in _ (by omega)
    have hw2 : Hid (IntKind.i64.wrap (B + A) = B + A) := IntWalk.i64_in _ (by omega)
    have hm3 := hide (fun b4 p3 L H => hm2.out b4 p3 A L H rfl)
    clear hm2
    have hb1 : 0 ≤ B + A ∧ B + A ≤ 20000000000 := by omega
    go_wp2_with fail
    have hd : Hid (wa.drew.cell? ⟨b, 2, none⟩ = some (.int .i64 r)) := k2
    have kk : wa.drew.cell? ⟨b, 0, none⟩ = some (.int .i64 B) := k0
    have zz : wa.drew.frozen? ⟨b, 0, none⟩ = false := z0
    have hR2 : Hid (BR (wa.setCell ⟨b, 0, none⟩ (.int .i64 (B + A))).drew b (B + A) P r m) := BR.set0 (w := wa.drew) hR.out _
    have hC2 : Hid (Ch (· = b) w (wa.setCell ⟨b, 0, none⟩ (.int .i64 (B + A))).drew) := hC.out.drew.set _
    clear hR hC k0 k1 k2 k3 z0 z1
    refine wp_region_noPanic ?_
    refine wp_region_held_drew (S := fun W => W.cell? ⟨b, 2, none⟩ = some (.int .i64 r)) (by kernel_rfl) hd.out (fun hHeld => ?_)
    refine wpAnyH_take (i := 0) (oi := { dst := some 41, op := Op.move (Operand.tmp 0), type := 66, pos := "ref.go:16", after := #[], guard := none }) (v := ?v1) rfl (by kernel_rfl) (by kernel_rfl) (by kernel_rfl) (fun _ _ _ h => h) (Or.inl ⟨by rfl, ?y1⟩) (by assumption) ?r1
    case y1 => (intro w hSw; (try dsimp only at hSw); (try (go_split_ands)); go_simp; try with_reducible rfl)
    try simp only [Act.put, List.setIfInBounds_toArray, List.set_cons_zero, List.set_cons_succ]
    refine wpAnyH_take (i := 1) (oi := { dst := some 42, op := Op.nilCheck (Operand.tmp 41), type := 0, pos := "ref.go:16", after := #[{ on := 0, ground := Ground.data }], guard := none }) (v := ?v2) rfl (by kernel_rfl) (by kernel_rfl) (by kernel_rfl) (fun _ _ _ h => h) (Or.inl ⟨by rfl, ?y2⟩) (by assumption) ?r2
    case y2 => (intro w hSw; (try dsimp only at hSw); (try (go_split_ands)); go_simp; try with_reducible rfl)
    try simp only [Act.put, List.setIfInBounds_toArray, List.set_cons_zero, List.set_cons_succ]
    refine wpAnyH_take (i := 2) (oi := { dst := some 43, op := Op.fieldAddr 32 (Operand.tmp 42) 0, type := 0, pos := "ref.go:16", after := #[{ on := 1, ground := Ground.data }], guard := none }) (v := ?v3) rfl (by kernel_rfl) (by kernel_rfl) (by kernel_rfl) (fun _ _ _ h => h) (Or.inl ⟨by rfl, ?y3⟩) (by assumption) ?r3
    case y3 => (intro w hSw; (try dsimp only at hSw); (try (go_split_ands)); go_simp; try with_reducible rfl)
    try simp only [Act.put, List.setIfInBounds_toArray, List.set_cons_zero, List.set_cons_succ]
    refine wpAnyH_take (i := 4) (oi := { dst := some 45, op := Op.move (Operand.tmp 4), type := 2, pos := "ref.go:16", after := #[], guard := none }) (v := ?v4) rfl (by kernel_rfl) (by kernel_rfl) (by kernel_rfl) (fun _ _ _ h => h) (Or.inl ⟨by rfl, ?y4⟩) (by assumption) ?r4
    case y4 => (intro w hSw; (try dsimp only at hSw); (try (go_split_ands)); go_simp; try with_reducible rfl)
    try simp only [Act.put, List.setIfInBounds_toArray, List.set_cons_zero, List.set_cons_succ]
    refine wpAnyH_take (i := 5) (oi := { dst := some 46, op := Op.move (Operand.tmp 0), type := 66, pos := "ref.go:16", after := #[], guard := none }) (v := ?v5) rfl (by kernel_rfl) (by kernel_rfl) (by kernel_rfl) (fun _ _ _ h => h) (Or.inl ⟨by rfl, ?y5⟩) (by assumption) ?r5
    case y5 => (intro w hSw; (try dsimp only at hSw); (try (go_split_ands)); go_simp; try with_reducible rfl)
    try simp only [Act.put, List.setIfInBounds_toArray, List.set_cons_zero, List.set_cons_succ]
    refine wpAnyH_take (i := 6) (oi := { dst := some 47, op := Op.nilCheck (Operand.tmp 46), type := 0, pos := "ref.go:16", after := #[{ on := 5, ground := Ground.data }], guard := none }) (v := ?v6) rfl (by kernel_rfl) (by kernel_rfl) (by kernel_rfl) (fun _ _ _ h => h) (Or.inl ⟨by rfl, ?y6⟩) (by assumption) ?r6
    case y6 => (intro w hSw; (try dsimp only at hSw); (try (go_split_ands)); go_simp; try with_reducible rfl)
    try simp only [Act.put, List.setIfInBounds_toArray, List.set_cons_zero, List.set_cons_succ]
    refine wpAnyH_take (i := 7) (oi := { dst := some 48, op := Op.fieldAddr 32 (Operand.tmp 47) 2, type := 0, pos := "ref.go:16", after := #[{ on := 6, ground := Ground.data }], guard := none }) (v := ?v7) rfl (by kernel_rfl) (by kernel_rfl) (by kernel_rfl) (fun _ _ _ h => h) (Or.inl ⟨by rfl, ?y7⟩) (by assumption) ?r7
    case y7 => (intro w hSw; (try dsimp only at hSw); (try (go_split_ands)); go_simp; try with_reducible rfl)
    try simp only [Act.put, List.setIfInBounds_toArray, List.set_cons_zero, List.set_cons_succ]
    refine wpAnyH_take (i := 8) (oi := { dst := some 49, op := Op.load 2 (Operand.tmp 48), type := 2, pos := "ref.go:16", after := #[{ on := 7, ground := Ground.data }], guard := none }) (v := ?v8) rfl (by kernel_rfl) (by kernel_rfl) (by kernel_rfl) (fun _ _ _ h => h) (Or.inl ⟨by rfl, ?y8⟩) (by assumption) ?r8
    case y8 => (intro w hSw; (try dsimp only at hSw); (try (go_split_ands)); go_simp; try with_reducible rfl)
    try simp only [Act.put, List.setIfInBounds_toArray, List.set_cons_zero, List.set_cons_succ]
    refine wpAnyH_take (i := 9) (oi := { dst := some 50, op := Op.binOp BinOp.mul 2 (Operand.tmp 45) (Operand.tmp 49) 2, type := 2, pos := "ref.go:16", after := #[{ on := 4, ground := Ground.data }, { on := 8, ground := Ground.data }], guard := none }) (v := ?v9) rfl (by kernel_rfl) (by kernel_rfl) (by kernel_rfl) (fun _ _ _ h => h) (Or.inl ⟨by rfl, ?y9⟩) (by assumption) ?r9
    case y9 => (intro w hSw; (try dsimp only at hSw); (try (go_split_ands)); go_simp; try with_reducible rfl)
    try simp only [Act.put, List.setIfInBounds_toArray, List.set_cons_zero, List.set_cons_succ]
    clear hHeld
    refine wpAnyH_ready (rs := [3]) (by kernel_rfl) (by simp) ?_
    refine AllReadyH.cons (o := { dst := some 44, op := Op.load 2 (Operand.tmp 43), type := 2, pos := "ref.go:16", after := #[{ on := 2, ground := Ground.data }], guard := none }) rfl (fun K hK => ?_) AllReadyH.nil
    go_simp
    refine hK.out _ _ hd.out (fun hHeld => ?_)
    clear hK K
    try simp only [Act.put, List.setIfInBounds_toArray, List.set_cons_zero, List.set_cons_succ]
    refine wpAnyH_take (i := 10) (oi := { dst := some 51, op := Op.binOp BinOp.add 2 (Operand.tmp 44) (Operand.tmp 50) 2, type := 2, pos := "ref.go:16", after := #[{ on := 3, ground := Ground.data }, { on := 9, ground := Ground.data }], guard := none }) (v := ?v10) rfl (by kernel_rfl) (by kernel_rfl) (by kernel_rfl) (fun _ _ _ h => h) (Or.inl ⟨by rfl, ?y10⟩) (by assumption) ?r10
    case y10 => (intro w hSw; (try dsimp only at hSw); (try (go_split_ands)); go_simp; try with_reducible rfl)
    try simp only [Act.put, List.setIfInBounds_toArray, List.set_cons_zero, List.set_cons_succ]
    refine wpAnyH_take (i := 11) (oi := { dst := some 52, op := Op.nilCheck (Operand.tmp 41), type := 0, pos := "ref.go:16", after := #[{ on := 0, ground := Ground.data }, { on := 0, ground := Ground.phase }, { on := 1, ground := Ground.phase }, { on := 2, ground := Ground.phase }, { on := 3, ground := Ground.phase }, { on := 4, ground := Ground.phase }, { on := 5, ground := Ground.phase }, { on := 6, ground := Ground.phase }, { on := 7, ground := Ground.phase }, { on := 8, ground := Ground.phase }, { on := 9, ground := Ground.phase }, { on := 10, ground := Ground.phase }], guard := none }) (v := ?v11) rfl (by kernel_rfl) (by kernel_rfl) (by kernel_rfl) (fun _ _ _ h => h) (Or.inl ⟨by rfl, ?y11⟩) (by assumption) ?r11
    case y11 => (intro w hSw; (try dsimp only at hSw); (try (go_split_ands)); go_simp; try with_reducible rfl)
    try simp only [Act.put, List.setIfInBounds_toArray, List.set_cons_zero, List.set_cons_succ]
    refine wpAnyH_take (i := 12) (oi := { dst := some 53, op := Op.fieldAddr 32 (Operand.tmp 52) 0, type := 0, pos := "ref.go:16", after := #[{ on := 11, ground := Ground.data }, { on := 0, ground := Ground.phase }, { on := 1, ground := Ground.phase }, { on := 2, ground := Ground.phase }, { on := 3, ground := Ground.phase }, { on := 4, ground := Ground.phase }, { on := 5, ground := Ground.phase }, { on := 6, ground := Ground.phase }, { on := 7, ground := Ground.phase }, { on := 8, ground := Ground.phase }, { on := 9, ground := Ground.phase }, { on := 10, ground := Ground.phase }], guard := none }) (v := ?v12) rfl (by kernel_rfl) (by kernel_rfl) (by kernel_rfl) (fun _ _ _ h => h) (Or.inl ⟨by rfl, ?y12⟩) (by assumption) ?r12
    case y12 => (intro w hSw; (try dsimp only at hSw); (try (go_split_ands)); go_simp; try with_reducible rfl)
    try simp only [Act.put, List.setIfInBounds_toArray, List.set_cons_zero, List.set_cons_succ]
    try rw [hw1.out]
    try rw [hw2.out]
    clear hHeld
    refine wpAnyH_ready (rs := [13]) (by kernel_rfl) (by simp) ?_
    refine AllReadyH.cons (o := { dst := none, op := Op.store 2 (Operand.tmp 53) (Operand.tmp 51), type := 0, pos := "ref.go:16", after := #[{ on := 12, ground := Ground.data }, { on := 10, ground := Ground.data }, { on := 0, ground := Ground.phase }, { on := 1, ground := Ground.phase }, { on := 2, ground := Ground.phase }, { on := 3, ground := Ground.phase }, { on := 4, ground := Ground.phase }, { on := 5, ground := Ground.phase }, { on := 6, ground := Ground.phase }, { on := 7, ground := Ground.phase }, { on := 8, ground := Ground.phase }, { on := 9, ground := Ground.phase }, { on := 10, ground := Ground.phase }], guard := none }) rfl (fun K hK => ?_) AllReadyH.nil
    go_simp
    refine hK.out _ _ ?_ (fun hHeld => ?_)
    · exact (World.cell?_setCell_other _ _ _ _ (fun e => by simp only [Addr.mk.injEq] at e; omega)).trans hd.out
    clear hK K
    try simp only [Act.put]
    refine wpAnyH_done (by kernel_rfl) ?_ _
    refine NoPanic.normal ?_
    clear hHeld kk zz hd
    generalize (wa.setCell ⟨b, 0, none⟩ (.int .i64 (B + A))).drew = wb at *
    have hR := hR2
    have hC := hC2
    clear hR2 hC2
    have k0 := hR.out.c0
    have k1 := hR.out.c1
    have k2 := hR.out.c2
    have k3 := hR.out.c3
    have z0 := hR.out.fz 0
    have z1 := hR.out.fz 1
    clear hw1 hw2 hAe
    generalize hb1e : B + A = b1 at *
    replace hb1e := hide hb1e
    have q1 : 0 ≤ r % 1000 * rest ∧ r % 1000 * rest ≤ 1000 * 1000000000 := ⟨Int.mul_nonneg (by omega) (by omega), Int.mul_le_mul (by omega) (by omega) (by omega) (by omega)⟩
    have q2 : 0 ≤ r / 1000 * rest ∧ r / 1000 * rest ≤ 10000000 * 1000000000 := ⟨Int.mul_nonneg (by omega) (by omega), Int.mul_le_mul (by omega) (by omega) (by omega) (by omega)⟩
    go_wp2_with fail
    go_quiet (fail)
    have hC2 : Hid (Ch (· = b) w (wb.drewN nq)) := hC.out.trans (Ch.of_below (below_drewN (Below.refl _ _) nq))
    have hR2 : Hid (BR (wb.drewN nq) b b1 P r m) := hR.out
    clear hR hC k0 k1 k2 k3 z0 z1
    have hR := hR2
    have hC := hC2
    clear hR2 hC2
    generalize wb.drewN nq = wc at *
    have k0 := hR.out.c0
    have k1 := hR.out.c1
    have k2 := hR.out.c2
    have k3 := hR.out.c3
    have z0 := hR.out.fz 0
    have z1 := hR.out.fz 1
    generalize r % 1000 = lo at *
    generalize r / 1000 = hi at *
    generalize hLe : lo * rest = L at *
    generalize hHe : hi * rest = H at *
    have hm4 := hide (fun b4 p3 => hm3.out b4 p3 L H rfl rfl)
    clear hm3
    go_wp2_with fail
    have hR2 : Hid (BR (wc.setCell ⟨b, 1, none⟩ (.int .i64 (P + L))) b b1 (P + L) r m) := hR.out.set1 _
    have hC2 : Hid (Ch (· = b) w (wc.setCell ⟨b, 1, none⟩ (.int .i64 (P + L)))) := hC.out.set _
    clear hR hC k0 k1 k2 k3 z0 z1
    have hR := hR2
    have hC := hC2
    clear hR2 hC2
    generalize wc.setCell ⟨b, 1, none⟩ (.int .i64 (P + L)) = wd at *
    have hp1 : 0 ≤ P + L ∧ P + L ≤ 2000000000000 := by omega
    generalize hp1e : P + L = p1 at *
    replace hp1e := hide hp1e
    have k0 := hR.out.c0
    have k1 := hR.out.c1
    have k2 := hR.out.c2
    have k3 := hR.out.c3
    have z0 := hR.out.fz 0
    have z1 := hR.out.fz 1
    have hw1 : Hid (IntKind.i64.wrap (p1.tdiv 1000000000) = p1 / 1000000000) := IntWalk.i64_quo _ _ (by omega)
    have hw2 : Hid (IntKind.i64.wrap (b1 + p1 / 1000000000) = b1 + p1 / 1000000000) := IntWalk.i64_in _ (by omega)
    go_wp2_with fail
    have hd : Hid (wd.drew.cell? ⟨b, 1, none⟩ = some (.int .i64 p1)) := k1
    have kk : wd.drew.cell? ⟨b, 0, none⟩ = some (.int .i64 b1) := k0
    have zz : wd.drew.frozen? ⟨b, 0, none⟩ = false := z0
    have hR2 : Hid (BR (wd.setCell ⟨b, 0, none⟩ (.int .i64 (b1 + p1 / 1000000000))).drew b (b1 + p1 / 1000000000) p1 r m) := BR.set0 (w := wd.drew) hR.out _
    have hC2 : Hid (Ch (· = b) w (wd.setCell ⟨b, 0, none⟩ (.int .i64 (b1 + p1 / 1000000000))).drew) := hC.out.drew.set _
    clear hR hC k0 k1 k2 k3 z0 z1
    refine wp_region_noPanic ?_
    refine wp_region_held_drew (S := fun W => W.cell? ⟨b, 1, none⟩ = some (.int .i64 p1)) (by kernel_rfl) hd.out (fun hHeld => ?_)
    refine wpAnyH_take (i := 0) (oi := { dst := some 74, op := Op.move (Operand.tmp 0), type := 66, pos := "ref.go:20", after := #[], guard := none }) (v := ?v13) rfl (by kernel_rfl) (by kernel_rfl) (by kernel_rfl) (fun _ _ _ h => h) (Or.inl ⟨by rfl, ?y13⟩) (by assumption) ?r13
    case y13 => (intro w hSw; (try dsimp only at hSw); (try (go_split_ands)); go_simp; try with_reducible rfl)
    try simp only [Act.put, List.setIfInBounds_toArray, List.set_cons_zero, List.set_cons_succ]
    refine wpAnyH_take (i := 1) (oi := { dst := some 75, op := Op.nilCheck (Operand.tmp 74), type := 0, pos := "ref.go:20", after := #[{ on := 0, ground := Ground.data }], guard := none }) (v := ?v14) rfl (by kernel_rfl) (by kernel_rfl) (by kernel_rfl) (fun _ _ _ h => h) (Or.inl ⟨by rfl, ?y14⟩) (by assumption) ?r14
    case y14 => (intro w hSw; (try dsimp only at hSw); (try (go_split_ands)); go_simp; try with_reducible rfl)
    try simp only [Act.put, List.setIfInBounds_toArray, List.set_cons_zero, List.set_cons_succ]
    refine wpAnyH_take (i := 2) (oi := { dst := some 76, op := Op.fieldAddr 32 (Operand.tmp 75) 0, type := 0, pos := "ref.go:20", after := #[{ on := 1, ground := Ground.data }], guard := none }) (v := ?v15) rfl (by kernel_rfl) (by kernel_rfl) (by kernel_rfl) (fun _ _ _ h => h) (Or.inl ⟨by rfl, ?y15⟩) (by assumption) ?r15
    case y15 => (intro w hSw; (try dsimp only at hSw); (try (go_split_ands)); go_simp; try with_reducible rfl)
    try simp only [Act.put, List.setIfInBounds_toArray, List.set_cons_zero, List.set_cons_succ]
    refine wpAnyH_take (i := 4) (oi := { dst := some 78, op := Op.move (Operand.tmp 0), type := 66, pos := "ref.go:20", after := #[], guard := none }) (v := ?v16) rfl (by kernel_rfl) (by kernel_rfl) (by kernel_rfl) (fun _ _ _ h => h) (Or.inl ⟨by rfl, ?y16⟩) (by assumption) ?r16
    case y16 => (intro w hSw; (try dsimp only at hSw); (try (go_split_ands)); go_simp; try with_reducible rfl)
    try simp only [Act.put, List.setIfInBounds_toArray, List.set_cons_zero, List.set_cons_succ]
    refine wpAnyH_take (i := 5) (oi := { dst := some 79, op := Op.nilCheck (Operand.tmp 78), type := 0, pos := "ref.go:20", after := #[{ on := 4, ground := Ground.data }], guard := none }) (v := ?v17) rfl (by kernel_rfl) (by kernel_rfl) (by kernel_rfl) (fun _ _ _ h => h) (Or.inl ⟨by rfl, ?y17⟩) (by assumption) ?r17
    case y17 => (intro w hSw; (try dsimp only at hSw); (try (go_split_ands)); go_simp; try with_reducible rfl)
    try simp only [Act.put, List.setIfInBounds_toArray, List.set_cons_zero, List.set_cons_succ]
    refine wpAnyH_take (i := 6) (oi := { dst := some 80, op := Op.fieldAddr 32 (Operand.tmp 79) 1, type := 0, pos := "ref.go:20", after := #[{ on := 5, ground := Ground.data }], guard := none }) (v := ?v18) rfl (by kernel_rfl) (by kernel_rfl) (by kernel_rfl) (fun _ _ _ h => h) (Or.inl ⟨by rfl, ?y18⟩) (by assumption) ?r18
    case y18 => (intro w hSw; (try dsimp only at hSw); (try (go_split_ands)); go_simp; try with_reducible rfl)
    try simp only [Act.put, List.setIfInBounds_toArray, List.set_cons_zero, List.set_cons_succ]
    refine wpAnyH_take (i := 7) (oi := { dst := some 81, op := Op.load 2 (Operand.tmp 80), type := 2, pos := "ref.go:20", after := #[{ on := 6, ground := Ground.data }], guard := none }) (v := ?v19) rfl (by kernel_rfl) (by kernel_rfl) (by kernel_rfl) (fun _ _ _ h => h) (Or.inl ⟨by rfl, ?y19⟩) (by assumption) ?r19
    case y19 => (intro w hSw; (try dsimp only at hSw); (try (go_split_ands)); go_simp; try with_reducible rfl)
    try simp only [Act.put, List.setIfInBounds_toArray, List.set_cons_zero, List.set_cons_succ]
    refine wpAnyH_take (i := 8) (oi := { dst := some 82, op := Op.binOp BinOp.quo 2 (Operand.tmp 81) (Operand.const (Value.int IntKind.i64 1000000000)) 2, type := 2, pos := "ref.go:20", after := #[{ on := 7, ground := Ground.data }], guard := none }) (v := ?v20) rfl (by kernel_rfl) (by kernel_rfl) (by kernel_rfl) (fun _ _ _ h => h) (Or.inl ⟨by rfl, ?y20⟩) (by assumption) ?r20
    case y20 => (intro w hSw; (try dsimp only at hSw); (try (go_split_ands)); go_simp; try with_reducible rfl)
    try simp only [Act.put, List.setIfInBounds_toArray, List.set_cons_zero, List.set_cons_succ]
    clear hHeld
    refine wpAnyH_ready (rs := [3]) (by kernel_rfl) (by simp) ?_
    refine AllReadyH.cons (o := { dst := some 77, op := Op.load 2 (Operand.tmp 76), type := 2, pos := "ref.go:20", after := #[{ on := 2, ground := Ground.data }], guard := none }) rfl (fun K hK => ?_) AllReadyH.nil
    go_simp
    refine hK.out _ _ hd.out (fun hHeld => ?_)
    clear hK K
    try simp only [Act.put, List.setIfInBounds_toArray, List.set_cons_zero, List.set_cons_succ]
    refine wpAnyH_take (i := 9) (oi := { dst := some 83, op := Op.binOp BinOp.add 2 (Operand.tmp 77) (Operand.tmp 82) 2, type := 2, pos := "ref.go:20", after := #[{ on := 3, ground := Ground.data }, { on := 8, ground := Ground.data }], guard := none }) (v := ?v21) rfl (by kernel_rfl) (by kernel_rfl) (by kernel_rfl) (fun _ _ _ h => h) (Or.inl ⟨by rfl, ?y21⟩) (by assumption) ?r21
    case y21 => (intro w hSw; (try dsimp only at hSw); (try (go_split_ands)); go_simp; try with_reducible rfl)
    try simp only [Act.put, List.setIfInBounds_toArray, List.set_cons_zero, List.set_cons_succ]
    refine wpAnyH_take (i := 10) (oi := { dst := some 84, op := Op.nilCheck (Operand.tmp 74), type := 0, pos := "ref.go:20", after := #[{ on := 0, ground := Ground.data }, { on := 0, ground := Ground.phase }, { on := 1, ground := Ground.phase }, { on := 2, ground := Ground.phase }, { on := 3, ground := Ground.phase }, { on := 4, ground := Ground.phase }, { on := 5, ground := Ground.phase }, { on := 6, ground := Ground.phase }, { on := 7, ground := Ground.phase }, { on := 8, ground := Ground.phase }, { on := 9, ground := Ground.phase }], guard := none }) (v := ?v22) rfl (by kernel_rfl) (by kernel_rfl) (by kernel_rfl) (fun _ _ _ h => h) (Or.inl ⟨by rfl, ?y22⟩) (by assumption) ?r22
    case y22 => (intro w hSw; (try dsimp only at hSw); (try (go_split_ands)); go_simp; try with_reducible rfl)
    try simp only [Act.put, List.setIfInBounds_toArray, List.set_cons_zero, List.set_cons_succ]
    refine wpAnyH_take (i := 11) (oi := { dst := some 85, op := Op.fieldAddr 32 (Operand.tmp 84) 0, type := 0, pos := "ref.go:20", after := #[{ on := 10, ground := Ground.data }, { on := 0, ground := Ground.phase }, { on := 1, ground := Ground.phase }, { on := 2, ground := Ground.phase }, { on := 3, ground := Ground.phase }, { on := 4, ground := Ground.phase }, { on := 5, ground := Ground.phase }, { on := 6, ground := Ground.phase }, { on := 7, ground := Ground.phase }, { on := 8, ground := Ground.phase }, { on := 9, ground := Ground.phase }], guard := none }) (v := ?v23) rfl (by kernel_rfl) (by kernel_rfl) (by kernel_rfl) (fun _ _ _ h => h) (Or.inl ⟨by rfl, ?y23⟩) (by assumption) ?r23
    case y23 => (intro w hSw; (try dsimp only at hSw); (try (go_split_ands)); go_simp; try with_reducible rfl)
    try simp only [Act.put, List.setIfInBounds_toArray, List.set_cons_zero, List.set_cons_succ]
    try rw [hw1.out]
    try rw [hw2.out]
    clear hHeld
    refine wpAnyH_ready (rs := [12]) (by kernel_rfl) (by simp) ?_
    refine AllReadyH.cons (o := { dst := none, op := Op.store 2 (Operand.tmp 85) (Operand.tmp 83), type := 0, pos := "ref.go:20", after := #[{ on := 11, ground := Ground.data }, { on := 9, ground := Ground.data }, { on := 0, ground := Ground.phase }, { on := 1, ground := Ground.phase }, { on := 2, ground := Ground.phase }, { on := 3, ground := Ground.phase }, { on := 4, ground := Ground.phase }, { on := 5, ground := Ground.phase }, { on := 6, ground := Ground.phase }, { on := 7, ground := Ground.phase }, { on := 8, ground := Ground.phase }, { on := 9, ground := Ground.phase }], guard := none }) rfl (fun K hK => ?_) AllReadyH.nil
    go_simp
    refine hK.out _ _ ?_ (fun hHeld => ?_)
    · exact (World.cell?_setCell_other _ _ _ _ (fun e => by simp only [Addr.mk.injEq] at e; omega)).trans hd.out
    clear hK K
    try simp only [Act.put]
    refine wpAnyH_done (by kernel_rfl) ?_ _
    refine NoPanic.normal ?_
    clear hHeld kk zz hd
    generalize (wd.setCell ⟨b, 0, none⟩ (.int .i64 (b1 + p1 / 1000000000))).drew = we at *
    have hR := hR2
    have hC := hC2
    clear hR2 hC2
    clear hw1 hw2
    have k0 := hR.out.c0
    have k1 := hR.out.c1
    have k2 := hR.out.c2
    have k3 := hR.out.c3
    have z0 := hR.out.fz 0
    have z1 := hR.out.fz 1
    have hb2 : 0 ≤ b1 + p1 / 1000000000 ∧ b1 + p1 / 1000000000 ≤ 20000010000 := by omega
    generalize hb2e : b1 + p1 / 1000000000 = b2 at *
    replace hb2e := hide hb2e
    go_wp2_with fail
    generalize hp2e : p1 % 1000000000 = p2 at *
    have hR2 : Hid (BR (((we.setCell ⟨b, 1, none⟩ (.int .i64 p2)).setCell ⟨b, 0, none⟩ (.int .i64 (b2 + H / 1000000))).setCell ⟨b, 1, none⟩ (.int .i64 (p2 + H % 1000000 * 1000))) b (b2 + H / 1000000) (p2 + H % 1000000 * 1000) r m) := ((hR.out.set1 _).set0 _).set1 _
    have hC2 : Hid (Ch (· = b) w (((we.setCell ⟨b, 1, none⟩ (.int .i64 p2)).setCell ⟨b, 0, none⟩ (.int .i64 (b2 + H / 1000000))).setCell ⟨b, 1, none⟩ (.int .i64 (p2 + H % 1000000 * 1000)))) := ((hC.out.set _).set _).set _
    clear hR hC k0 k1 k2 k3 z0 z1
    have hR := hR2
    have hC := hC2
    clear hR2 hC2
    generalize (((we.setCell ⟨b, 1, none⟩ (.int .i64 p2)).setCell ⟨b, 0, none⟩ (.int .i64 (b2 + H / 1000000))).setCell ⟨b, 1, none⟩ (.int .i64 (p2 + H % 1000000 * 1000))) = wf at *
    have hp2 : 0 ≤ p2 ∧ p2 < 1000000000 := by omega
    replace hp2e := hide hp2e
    have hb3 : 0 ≤ b2 + H / 1000000 ∧ b2 + H / 1000000 ≤ 40000000000 := by omega
    have hp3 : 0 ≤ p2 + H % 1000000 * 1000 ∧ p2 + H % 1000000 * 1000 ≤ 2000000000 := by omega
    generalize hb3e : b2 + H / 1000000 = b3 at *
    replace hb3e := hide hb3e
    generalize hp3e : p2 + H % 1000000 * 1000 = p3 at *
    replace hp3e := hide hp3e
    have hm5 := hide (fun b4 => hm4.out b4 p3 rfl)
    clear hm4
    have k0 := hR.out.c0
    have k1 := hR.out.c1
    have k2 := hR.out.c2
    have k3 := hR.out.c3
    have z0 := hR.out.fz 0
    have z1 := hR.out.fz 1
    have hw1 : Hid (IntKind.i64.wrap (p3.tdiv 1000000000) = p3 / 1000000000) := IntWalk.i64_quo _ _ (by omega)
    have hw2 : Hid (IntKind.i64.wrap (b3 + p3 / 1000000000) = b3 + p3 / 1000000000) := IntWalk.i64_in _ (by omega)
    go_wp2_with fail
    have hd : Hid (wf.drew.cell? ⟨b, 1, none⟩ = some (.int .i64 p3)) := k1
    have kk : wf.drew.cell? ⟨b, 0, none⟩ = some (.int .i64 b3) := k0
    have zz : wf.drew.frozen? ⟨b, 0, none⟩ = false := z0
    have hR2 : Hid (BR (wf.setCell ⟨b, 0, none⟩ (.int .i64 (b3 + p3 / 1000000000))).drew b (b3 + p3 / 1000000000) p3 r m) := BR.set0 (w := wf.drew) hR.out _
    have hC2 : Hid (Ch (· = b) w (wf.setCell ⟨b, 0, none⟩ (.int .i64 (b3 + p3 / 1000000000))).drew) := hC.out.drew.set _
    clear hR hC k0 k1 k2 k3 z0 z1
    refine wp_region_noPanic ?_
    refine wp_region_held_drew (S := fun W => W.cell? ⟨b, 1, none⟩ = some (.int .i64 p3)) (by kernel_rfl) hd.out (fun hHeld => ?_)
    refine wpAnyH_take (i := 0) (oi := { dst := some 116, op := Op.move (Operand.tmp 0), type := 66, pos := "ref.go:25", after := #[], guard := none }) (v := ?v24) rfl (by kernel_rfl) (by kernel_rfl) (by kernel_rfl) (fun _ _ _ h => h) (Or.inl ⟨by rfl, ?y24⟩) (by assumption) ?r24
    case y24 => (intro w hSw; (try dsimp only at hSw); (try (go_split_ands)); go_simp; try with_reducible rfl)
    try simp only [Act.put, List.setIfInBounds_toArray, List.set_cons_zero, List.set_cons_succ]
    refine wpAnyH_take (i := 1) (oi := { dst := some 117, op := Op.nilCheck (Operand.tmp 116), type := 0, pos := "ref.go:25", after := #[{ on := 0, ground := Ground.data }], guard := none }) (v := ?v25) rfl (by kernel_rfl) (by kernel_rfl) (by kernel_rfl) (fun _ _ _ h => h) (Or.inl ⟨by rfl, ?y25⟩) (by assumption) ?r25
    case y25 => (intro w hSw; (try dsimp only at hSw); (try (go_split_ands)); go_simp; try with_reducible rfl)
    try simp only [Act.put, List.setIfInBounds_toArray, List.set_cons_zero, List.set_cons_succ]
    refine wpAnyH_take (i := 2) (oi := { dst := some 118, op := Op.fieldAddr 32 (Operand.tmp 117) 0, type := 0, pos := "ref.go:25", after := #[{ on := 1, ground := Ground.data }], guard := none }) (v := ?v26) rfl (by kernel_rfl) (by kernel_rfl) (by kernel_rfl) (fun _ _ _ h => h) (Or.inl ⟨by rfl, ?y26⟩) (by assumption) ?r26
    case y26 => (intro w hSw; (try dsimp only at hSw); (try (go_split_ands)); go_simp; try with_reducible rfl)
    try simp only [Act.put, List.setIfInBounds_toArray, List.set_cons_zero, List.set_cons_succ]
    refine wpAnyH_take (i := 4) (oi := { dst := some 120, op := Op.move (Operand.tmp 0), type := 66, pos := "ref.go:25", after := #[], guard := none }) (v := ?v27) rfl (by kernel_rfl) (by kernel_rfl) (by kernel_rfl) (fun _ _ _ h => h) (Or.inl ⟨by rfl, ?y27⟩) (by assumption) ?r27
    case y27 => (intro w hSw; (try dsimp only at hSw); (try (go_split_ands)); go_simp; try with_reducible rfl)
    try simp only [Act.put, List.setIfInBounds_toArray, List.set_cons_zero, List.set_cons_succ]
    refine wpAnyH_take (i := 5) (oi := { dst := some 121, op := Op.nilCheck (Operand.tmp 120), type := 0, pos := "ref.go:25", after := #[{ on := 4, ground := Ground.data }], guard := none }) (v := ?v28) rfl (by kernel_rfl) (by kernel_rfl) (by kernel_rfl) (fun _ _ _ h => h) (Or.inl ⟨by rfl, ?y28⟩) (by assumption) ?r28
    case y28 => (intro w hSw; (try dsimp only at hSw); (try (go_split_ands)); go_simp; try with_reducible rfl)
    try simp only [Act.put, List.setIfInBounds_toArray, List.set_cons_zero, List.set_cons_succ]
    refine wpAnyH_take (i := 6) (oi := { dst := some 122, op := Op.fieldAddr 32 (Operand.tmp 121) 1, type := 0, pos := "ref.go:25", after := #[{ on := 5, ground := Ground.data }], guard := none }) (v := ?v29) rfl (by kernel_rfl) (by kernel_rfl) (by kernel_rfl) (fun _ _ _ h => h) (Or.inl ⟨by rfl, ?y29⟩) (by assumption) ?r29
    case y29 => (intro w hSw; (try dsimp only at hSw); (try (go_split_ands)); go_simp; try with_reducible rfl)
    try simp only [Act.put, List.setIfInBounds_toArray, List.set_cons_zero, List.set_cons_succ]
    refine wpAnyH_take (i := 7) (oi := { dst := some 123, op := Op.load 2 (Operand.tmp 122), type := 2, pos := "ref.go:25", after := #[{ on := 6, ground := Ground.data }], guard := none }) (v := ?v30) rfl (by kernel_rfl) (by kernel_rfl) (by kernel_rfl) (fun _ _ _ h => h) (Or.inl ⟨by rfl, ?y30⟩) (by assumption) ?r30
    case y30 => (intro w hSw; (try dsimp only at hSw); (try (go_split_ands)); go_simp; try with_reducible rfl)
    try simp only [Act.put, List.setIfInBounds_toArray, List.set_cons_zero, List.set_cons_succ]
    refine wpAnyH_take (i := 8) (oi := { dst := some 124, op := Op.binOp BinOp.quo 2 (Operand.tmp 123) (Operand.const (Value.int IntKind.i64 1000000000)) 2, type := 2, pos := "ref.go:25", after := #[{ on := 7, ground := Ground.data }], guard := none }) (v := ?v31) rfl (by kernel_rfl) (by kernel_rfl) (by kernel_rfl) (fun _ _ _ h => h) (Or.inl ⟨by rfl, ?y31⟩) (by assumption) ?r31
    case y31 => (intro w hSw; (try dsimp only at hSw); (try (go_split_ands)); go_simp; try with_reducible rfl)
    try simp only [Act.put, List.setIfInBounds_toArray, List.set_cons_zero, List.set_cons_succ]
    clear hHeld
    refine wpAnyH_ready (rs := [3]) (by kernel_rfl) (by simp) ?_
    refine AllReadyH.cons (o := { dst := some 119, op := Op.load 2 (Operand.tmp 118), type := 2, pos := "ref.go:25", after := #[{ on := 2, ground := Ground.data }], guard := none }) rfl (fun K hK => ?_) AllReadyH.nil
    go_simp
    refine hK.out _ _ hd.out (fun hHeld => ?_)
    clear hK K
    try simp only [Act.put, List.setIfInBounds_toArray, List.set_cons_zero, List.set_cons_succ]
    refine wpAnyH_take (i := 9) (oi := { dst := some 125, op := Op.binOp BinOp.add 2 (Operand.tmp 119) (Operand.tmp 124) 2, type := 2, pos := "ref.go:25", after := #[{ on := 3, ground := Ground.data }, { on := 8, ground := Ground.data }], guard := none }) (v := ?v32) rfl (by kernel_rfl) (by kernel_rfl) (by kernel_rfl) (fun _ _ _ h => h) (Or.inl ⟨by rfl, ?y32⟩) (by assumption) ?r32
    case y32 => (intro w hSw; (try dsimp only at hSw); (try (go_split_ands)); go_simp; try with_reducible rfl)
    try simp only [Act.put, List.setIfInBounds_toArray, List.set_cons_zero, List.set_cons_succ]
    refine wpAnyH_take (i := 10) (oi := { dst := some 126, op := Op.nilCheck (Operand.tmp 116), type := 0, pos := "ref.go:25", after := #[{ on := 0, ground := Ground.data }, { on := 0, ground := Ground.phase }, { on := 1, ground := Ground.phase }, { on := 2, ground := Ground.phase }, { on := 3, ground := Ground.phase }, { on := 4, ground := Ground.phase }, { on := 5, ground := Ground.phase }, { on := 6, ground := Ground.phase }, { on := 7, ground := Ground.phase }, { on := 8, ground := Ground.phase }, { on := 9, ground := Ground.phase }], guard := none }) (v := ?v33) rfl (by kernel_rfl) (by kernel_rfl) (by kernel_rfl) (fun _ _ _ h => h) (Or.inl ⟨by rfl, ?y33⟩) (by assumption) ?r33
    case y33 => (intro w hSw; (try dsimp only at hSw); (try (go_split_ands)); go_simp; try with_reducible rfl)
    try simp only [Act.put, List.setIfInBounds_toArray, List.set_cons_zero, List.set_cons_succ]
    refine wpAnyH_take (i := 11) (oi := { dst := some 127, op := Op.fieldAddr 32 (Operand.tmp 126) 0, type := 0, pos := "ref.go:25", after := #[{ on := 10, ground := Ground.data }, { on := 0, ground := Ground.phase }, { on := 1, ground := Ground.phase }, { on := 2, ground := Ground.phase }, { on := 3, ground := Ground.phase }, { on := 4, ground := Ground.phase }, { on := 5, ground := Ground.phase }, { on := 6, ground := Ground.phase }, { on := 7, ground := Ground.phase }, { on := 8, ground := Ground.phase }, { on := 9, ground := Ground.phase }], guard := none }) (v := ?v34) rfl (by kernel_rfl) (by kernel_rfl) (by kernel_rfl) (fun _ _ _ h => h) (Or.inl ⟨by rfl, ?y34⟩) (by assumption) ?r34
    case y34 => (intro w hSw; (try dsimp only at hSw); (try (go_split_ands)); go_simp; try with_reducible rfl)
    try simp only [Act.put, List.setIfInBounds_toArray, List.set_cons_zero, List.set_cons_succ]
    try rw [hw1.out]
    try rw [hw2.out]
    clear hHeld
    refine wpAnyH_ready (rs := [12]) (by kernel_rfl) (by simp) ?_
    refine AllReadyH.cons (o := { dst := none, op := Op.store 2 (Operand.tmp 127) (Operand.tmp 125), type := 0, pos := "ref.go:25", after := #[{ on := 11, ground := Ground.data }, { on := 9, ground := Ground.data }, { on := 0, ground := Ground.phase }, { on := 1, ground := Ground.phase }, { on := 2, ground := Ground.phase }, { on := 3, ground := Ground.phase }, { on := 4, ground := Ground.phase }, { on := 5, ground := Ground.phase }, { on := 6, ground := Ground.phase }, { on := 7, ground := Ground.phase }, { on := 8, ground := Ground.phase }, { on := 9, ground := Ground.phase }], guard := none }) rfl (fun K hK => ?_) AllReadyH.nil
    go_simp
    refine hK.out _ _ ?_ (fun hHeld => ?_)
    · exact (World.cell?_setCell_other _ _ _ _ (fun e => by simp only [Addr.mk.injEq] at e; omega)).trans hd.out
    clear hK K
    try simp only [Act.put]
    refine wpAnyH_done (by kernel_rfl) ?_ _
    refine NoPanic.normal ?_
    clear hHeld kk zz hd
    generalize (wf.setCell ⟨b, 0, none⟩ (.int .i64 (b3 + p3 / 1000000000))).drew = wg at *
    have hR := hR2
    have hC := hC2
    clear hR2 hC2
    have hm6 := hide (hm5.out _ rfl)
    clear hm5 hw1 hw2
    have k0 := hR.out.c0
    have k1 := hR.out.c1
    have k2 := hR.out.c2
    have k3 := hR.out.c3
    have z0 := hR.out.fz 0
    have z1 := hR.out.fz 1
    generalize hb4e : b3 + p3 / 1000000000 = b4 at *
    replace hb4e := hide hb4e
    go_wp2_with fail
    generalize hp4e : p3 % 1000000000 = p4 at *
    replace hp4e := hide hp4e
    have hR2 : Hid (BR (wg.setCell ⟨b, 1, none⟩ (.int .i64 p4)) b b4 p4 r m) := hR.out.set1 _
    have hC2 : Hid (Ch (· = b) w (wg.setCell ⟨b, 1, none⟩ (.int .i64 p4))) := hC.out.set _
    clear hR hC k0 k1 k2 k3 z0 z1
    have hR := hR2
    have hC := hC2
    clear hR2 hC2
    generalize (wg.setCell ⟨b, 1, none⟩ (.int .i64 p4)) = wh at *
    have k0 := hR.out.c0
    have k1 := hR.out.c1
    have k2 := hR.out.c2
    have k3 := hR.out.c3
    have z0 := hR.out.fz 0
    have z1 := hR.out.fz 1
    go_quiet (fail)
    have hC2 : Hid (Ch (· = b) w (wh.drewN nq)) := hC.out.trans (Ch.of_below (below_drewN (Below.refl _ _) nq))
    have hR2 : Hid (BR (wh.drewN nq) b b4 p4 r m) := hR.out
    clear hR hC k0 k1 k2 k3 z0 z1
    have hR := hR2
    have hC := hC2
    clear hR2 hC2
    generalize wh.drewN nq = wi at *
    have k0 := hR.out.c0
    have k1 := hR.out.c1
    have k2 := hR.out.c2
    have k3 := hR.out.c3
    have z0 := hR.out.fz 0
    have z1 := hR.out.fz 1
    by_cases hge : m ≤ b4
    · obtain ⟨v1, v2⟩ := hm6.out
      rw [if_pos hge] at v1 v2
      have hR3 : Hid (BR ((wi.setCell ⟨b, 0, none⟩ (.int .i64 m)).setCell ⟨b, 1, none⟩ (.int .i64 0)) b m 0 r m) := (hR.out.set0 _).set1 _
      have hC3 : Hid (Ch (· = b) w ((wi.setCell ⟨b, 0, none⟩ (.int .i64 m)).setCell ⟨b, 1, none⟩ (.int .i64 0))) := (hC.out.set _).set _
      replace v1 := hide v1
      replace v2 := hide v2
      clear hR hC hm6
      go_wp2
      exact v_end rfl rfl ⟨rfl, by rw [← v1.out, ← v2.out]; exact hR3.out, hC3.out⟩
    · obtain ⟨v1, v2⟩ := hm6.out
      rw [if_neg hge] at v1 v2
      replace v1 := hide v1
      replace v2 := hide v2
      clear hm6
      go_wp2
      exact v_end rfl rfl ⟨rfl, by rw [← v1.out, ← v2.out]; exact hR.out, hC.out⟩
  · have hdiv : 0 ≤ m / r ∧ m / r ≤ m := ⟨Int.ediv_nonneg hm hr, Int.ediv_le_self _ hm⟩
    have hmr : m / r * r ≤ m := Int.ediv_mul_le m (by omega)
    by_cases hcl : m / r + 1 < s0
    · have hm2 := hide (hmath.out (m / r + 1) (.inr ⟨hr0, rfl, hcl⟩))
      have hA : 0 ≤ (m / r + 1) * r ∧ (m / r + 1) * r ≤ 10008388608 := by rw [Int.add_mul, Int.one_mul]; have := Int.mul_nonneg hdiv.1 hr; omega
      replace hmr := hide hmr
      replace hA := hide hA
      clear hmath
      go_quiet (fail)
      have hC2 : Hid (Ch (· = b) w (w.drewN nq)) := hC.out.trans (Ch.of_below (below_drewN (Below.refl _ _) nq))
      have hR2 : Hid (BR (w.drewN nq) b B P r m) := hR.out
      clear hR hC k0 k1 k2 k3 z0 z1
      have hR := hR2
      have hC := hC2
      clear hR2 hC2
      generalize w.drewN nq = wa at *
      have k0 := hR.out.c0
      have k1 := hR.out.c1
      have k2 := hR.out.c2
      have k3 := hR.out.c3
      have z0 := hR.out.fz 0
      have z1 := hR.out.fz 1
      go_wp2_with fail
      go_quiet (fail)
      have hC2 : Hid (Ch (· = b) w (wa.drewN nq)) := hC.out.trans (Ch.of_below (below_drewN (Below.refl _ _) nq))
      have hR2 : Hid (BR (wa.drewN nq) b B P r m) := hR.out
      clear hR hC k0 k1 k2 k3 z0 z1
      have hR := hR2
      have hC := hC2
      clear hR2 hC2
      generalize wa.drewN nq = wa2 at *
      have k0 := hR.out.c0
      have k1 := hR.out.c1
      have k2 := hR.out.c2
      have k3 := hR.out.c3
      have z0 := hR.out.fz 0
      have z1 := hR.out.fz 1
      clear hcl hmr
      replace hA := hA.out
      generalize m / r + 1 = s at *
      generalize wa2 = wa at *
      generalize hAe : s * r = A at *
      have hw1 : Hid (IntKind.i64.wrap A = A) := IntWalk.i64_in _ (by omega)
      have hw2 : Hid (IntKind.i64.wrap (B + A) = B + A) := IntWalk.i64_in _ (by omega)
      have hm3 := hide (fun b4 p3 L H => hm2.out b4 p3 A L H rfl)
      clear hm2
      have hb1 : 0 ≤ B + A ∧ B + A ≤ 20000000000 := by omega
      go_wp2_with fail
      have hd : Hid (wa.drew.cell? ⟨b, 2, none⟩ = some (.int .i64 r)) := k2
      have kk : wa.drew.cell? ⟨b, 0, none⟩ = some (.int .i64 B) := k0
      have zz : wa.drew.frozen? ⟨b, 0, none⟩ = false := z0
      have hR2 : Hid (BR (wa.setCell ⟨b, 0, none⟩ (.int .i64 (B + A))).drew b (B + A) P r m) := BR.set0 (w := wa.drew) hR.out _
      have hC2 : Hid (Ch (· = b) w (wa.setCell ⟨b, 0, none⟩ (.int .i64 (B + A))).drew) := hC.out.drew.set _
      clear hR hC k0 k1 k2 k3 z0 z1
      refine wp_region_noPanic ?_
      refine wp_region_held_drew (S := fun W => W.cell? ⟨b, 2, none⟩ = some (.int .i64 r)) (by kernel_rfl) hd.out (fun hHeld => ?_)
      refine wpAnyH_take (i := 0) (oi := { dst := some 41, op := Op.move (Operand.tmp 0), type := 66, pos := "ref.go:16", after := #[], guard := none }) (v := ?v35) rfl (by kernel_rfl) (by kernel_rfl) (by kernel_rfl) (fun _ _ _ h => h) (Or.inl ⟨by rfl, ?y35⟩) (by assumption) ?r35
      case y35 => (intro w hSw; (try dsimp only at hSw); (try (go_split_ands)); go_simp; try with_reducible rfl)
      try simp only [Act.put, List.setIfInBounds_toArray, List.set_cons_zero, List.set_cons_succ]
      refine wpAnyH_take (i := 1) (oi := { dst := some 42, op := Op.nilCheck (Operand.tmp 41), type := 0, pos := "ref.go:16", after := #[{ on := 0, ground := Ground.data }], guard := none }) (v := ?v36) rfl (by kernel_rfl) (by kernel_rfl) (by kernel_rfl) (fun _ _ _ h => h) (Or.inl ⟨by rfl, ?y36⟩) (by assumption) ?r36
      case y36 => (intro w hSw; (try dsimp only at hSw); (try (go_split_ands)); go_simp; try with_reducible rfl)
      try simp only [Act.put, List.setIfInBounds_toArray, List.set_cons_zero, List.set_cons_succ]
      refine wpAnyH_take (i := 2) (oi := { dst := some 43, op := Op.fieldAddr 32 (Operand.tmp 42) 0, type := 0, pos := "ref.go:16", after := #[{ on := 1, ground := Ground.data }], guard := none }) (v := ?v37) rfl (by kernel_rfl) (by kernel_rfl) (by kernel_rfl) (fun _ _ _ h => h) (Or.inl ⟨by rfl, ?y37⟩) (by assumption) ?r37
      case y37 => (intro w hSw; (try dsimp only at hSw); (try (go_split_ands)); go_simp; try with_reducible rfl)
      try simp only [Act.put, List.setIfInBounds_toArray, List.set_cons_zero, List.set_cons_succ]
      refine wpAnyH_take (i := 4) (oi := { dst := some 45, op := Op.move (Operand.tmp 4), type := 2, pos := "ref.go:16", after := #[], guard := none }) (v := ?v38) rfl (by kernel_rfl) (by kernel_rfl) (by kernel_rfl) (fun _ _ _ h => h) (Or.inl ⟨by rfl, ?y38⟩) (by assumption) ?r38
      case y38 => (intro w hSw; (try dsimp only at hSw); (try (go_split_ands)); go_simp; try with_reducible rfl)
      try simp only [Act.put, List.setIfInBounds_toArray, List.set_cons_zero, List.set_cons_succ]
      refine wpAnyH_take (i := 5) (oi := { dst := some 46, op := Op.move (Operand.tmp 0), type := 66, pos := "ref.go:16", after := #[], guard := none }) (v := ?v39) rfl (by kernel_rfl) (by kernel_rfl) (by kernel_rfl) (fun _ _ _ h => h) (Or.inl ⟨by rfl, ?y39⟩) (by assumption) ?r39
      case y39 => (intro w hSw; (try dsimp only at hSw); (try (go_split_ands)); go_simp; try with_reducible rfl)
      try simp only [Act.put, List.setIfInBounds_toArray, List.set_cons_zero, List.set_cons_succ]
      refine wpAnyH_take (i := 6) (oi := { dst := some 47, op := Op.nilCheck (Operand.tmp 46), type := 0, pos := "ref.go:16", after := #[{ on := 5, ground := Ground.data }], guard := none }) (v := ?v40) rfl (by kernel_rfl) (by kernel_rfl) (by kernel_rfl) (fun _ _ _ h => h) (Or.inl ⟨by rfl, ?y40⟩) (by assumption) ?r40
      case y40 => (intro w hSw; (try dsimp only at hSw); (try (go_split_ands)); go_simp; try with_reducible rfl)
      try simp only [Act.put, List.setIfInBounds_toArray, List.set_cons_zero, List.set_cons_succ]
      refine wpAnyH_take (i := 7) (oi := { dst := some 48, op := Op.fieldAddr 32 (Operand.tmp 47) 2, type := 0, pos := "ref.go:16", after := #[{ on := 6, ground := Ground.data }], guard := none }) (v := ?v41) rfl (by kernel_rfl) (by kernel_rfl) (by kernel_rfl) (fun _ _ _ h => h) (Or.inl ⟨by rfl, ?y41⟩) (by assumption) ?r41
      case y41 => (intro w hSw; (try dsimp only at hSw); (try (go_split_ands)); go_simp; try with_reducible rfl)
      try simp only [Act.put, List.setIfInBounds_toArray, List.set_cons_zero, List.set_cons_succ]
      refine wpAnyH_take (i := 8) (oi := { dst := some 49, op := Op.load 2 (Operand.tmp 48), type := 2, pos := "ref.go:16", after := #[{ on := 7, ground := Ground.data }], guard := none }) (v := ?v42) rfl (by kernel_rfl) (by kernel_rfl) (by kernel_rfl) (fun _ _ _ h => h) (Or.inl ⟨by rfl, ?y42⟩) (by assumption) ?r42
      case y42 => (intro w hSw; (try dsimp only at hSw); (try (go_split_ands)); go_simp; try with_reducible rfl)
      try simp only [Act.put, List.setIfInBounds_toArray, List.set_cons_zero, List.set_cons_succ]
      refine wpAnyH_take (i := 9) (oi := { dst := some 50, op := Op.binOp BinOp.mul 2 (Operand.tmp 45) (Operand.tmp 49) 2, type := 2, pos := "ref.go:16", after := #[{ on := 4, ground := Ground.data }, { on := 8, ground := Ground.data }], guard := none }) (v := ?v43) rfl (by kernel_rfl) (by kernel_rfl) (by kernel_rfl) (fun _ _ _ h => h) (Or.inl ⟨by rfl, ?y43⟩) (by assumption) ?r43
      case y43 => (intro w hSw; (try dsimp only at hSw); (try (go_split_ands)); go_simp; try with_reducible rfl)
      try simp only [Act.put, List.setIfInBounds_toArray, List.set_cons_zero, List.set_cons_succ]
      clear hHeld
      refine wpAnyH_ready (rs := [3]) (by kernel_rfl) (by simp) ?_
      refine AllReadyH.cons (o := { dst := some 44, op := Op.load 2 (Operand.tmp 43), type := 2, pos := "ref.go:16", after := #[{ on := 2, ground := Ground.data }], guard := none }) rfl (fun K hK => ?_) AllReadyH.nil
      go_simp
      refine hK.out _ _ hd.out (fun hHeld => ?_)
      clear hK K
      try simp only [Act.put, List.setIfInBounds_toArray, List.set_cons_zero, List.set_cons_succ]
      refine wpAnyH_take (i := 10) (oi := { dst := some 51, op := Op.binOp BinOp.add 2 (Operand.tmp 44) (Operand.tmp 50) 2, type := 2, pos := "ref.go:16", after := #[{ on := 3, ground := Ground.data }, { on := 9, ground := Ground.data }], guard := none }) (v := ?v44) rfl (by kernel_rfl) (by kernel_rfl) (by kernel_rfl) (fun _ _ _ h => h) (Or.inl ⟨by rfl, ?y44⟩) (by assumption) ?r44
      case y44 => (intro w hSw; (try dsimp only at hSw); (try (go_split_ands)); go_simp; try with_reducible rfl)
      try simp only [Act.put, List.setIfInBounds_toArray, List.set_cons_zero, List.set_cons_succ]
      refine wpAnyH_take (i := 11) (oi := { dst := some 52, op := Op.nilCheck (Operand.tmp 41), type := 0, pos := "ref.go:16", after := #[{ on := 0, ground := Ground.data }, { on := 0, ground := Ground.phase }, { on := 1, ground := Ground.phase }, { on := 2, ground := Ground.phase }, { on := 3, ground := Ground.phase }, { on := 4, ground := Ground.phase }, { on := 5, ground := Ground.phase }, { on := 6, ground := Ground.phase }, { on := 7, ground := Ground.phase }, { on := 8, ground := Ground.phase }, { on := 9, ground := Ground.phase }, { on := 10, ground := Ground.phase }], guard := none }) (v := ?v45) rfl (by kernel_rfl) (by kernel_rfl) (by kernel_rfl) (fun _ _ _ h => h) (Or.inl ⟨by rfl, ?y45⟩) (by assumption) ?r45
      case y45 => (intro w hSw; (try dsimp only at hSw); (try (go_split_ands)); go_simp; try with_reducible rfl)
      try simp only [Act.put, List.setIfInBounds_toArray, List.set_cons_zero, List.set_cons_succ]
      refine wpAnyH_take (i := 12) (oi := { dst := some 53, op := Op.fieldAddr 32 (Operand.tmp 52) 0, type := 0, pos := "ref.go:16", after := #[{ on := 11, ground := Ground.data }, { on := 0, ground := Ground.phase }, { on := 1, ground := Ground.phase }, { on := 2, ground := Ground.phase }, { on := 3, ground := Ground.phase }, { on := 4, ground := Ground.phase }, { on := 5, ground := Ground.phase }, { on := 6, ground := Ground.phase }, { on := 7, ground := Ground.phase }, { on := 8, ground := Ground.phase }, { on := 9, ground := Ground.phase }, { on := 10, ground := Ground.phase }], guard := none }) (v := ?v46) rfl (by kernel_rfl) (by kernel_rfl) (by kernel_rfl) (fun _ _ _ h => h) (Or.inl ⟨by rfl, ?y46⟩) (by assumption) ?r46
      case y46 => (intro w hSw; (try dsimp only at hSw); (try (go_split_ands)); go_simp; try with_reducible rfl)
      try simp only [Act.put, List.setIfInBounds_toArray, List.set_cons_zero, List.set_cons_succ]
      try rw [hw1.out]
      try rw [hw2.out]
      clear hHeld
      refine wpAnyH_ready (rs := [13]) (by kernel_rfl) (by simp) ?_
      refine AllReadyH.cons (o := { dst := none, op := Op.store 2 (Operand.tmp 53) (Operand.tmp 51), type := 0, pos := "ref.go:16", after := #[{ on := 12, ground := Ground.data }, { on := 10, ground := Ground.data }, { on := 0, ground := Ground.phase }, { on := 1, ground := Ground.phase }, { on := 2, ground := Ground.phase }, { on := 3, ground := Ground.phase }, { on := 4, ground := Ground.phase }, { on := 5, ground := Ground.phase }, { on := 6, ground := Ground.phase }, { on := 7, ground := Ground.phase }, { on := 8, ground := Ground.phase }, { on := 9, ground := Ground.phase }, { on := 10, ground := Ground.phase }], guard := none }) rfl (fun K hK => ?_) AllReadyH.nil
      go_simp
      refine hK.out _ _ ?_ (fun hHeld => ?_)
      · exact (World.cell?_setCell_other _ _ _ _ (fun e => by simp only [Addr.mk.injEq] at e; omega)).trans hd.out
      clear hK K
      try simp only [Act.put]
      refine wpAnyH_done (by kernel_rfl) ?_ _
      refine NoPanic.normal ?_
      clear hHeld kk zz hd
      generalize (wa.setCell ⟨b, 0, none⟩ (.int .i64 (B + A))).drew = wb at *
      have hR := hR2
      have hC := hC2
      clear hR2 hC2
      have k0 := hR.out.c0
      have k1 := hR.out.c1
      have k2 := hR.out.c2
      have k3 := hR.out.c3
      have z0 := hR.out.fz 0
      have z1 := hR.out.fz 1
      clear hw1 hw2 hAe
      generalize hb1e : B + A = b1 at *
      replace hb1e := hide hb1e
      have q1 : 0 ≤ r % 1000 * rest ∧ r % 1000 * rest ≤ 1000 * 1000000000 := ⟨Int.mul_nonneg (by omega) (by omega), Int.mul_le_mul (by omega) (by omega) (by omega) (by omega)⟩
      have q2 : 0 ≤ r / 1000 * rest ∧ r / 1000 * rest ≤ 10000000 * 1000000000 := ⟨Int.mul_nonneg (by omega) (by omega), Int.mul_le_mul (by omega) (by omega) (by omega) (by omega)⟩
      go_wp2_with fail
      go_quiet (fail)
      have hC2 : Hid (Ch (· = b) w (wb.drewN nq)) := hC.out.trans (Ch.of_below (below_drewN (Below.refl _ _) nq))
      have hR2 : Hid (BR (wb.drewN nq) b b1 P r m) := hR.out
      clear hR hC k0 k1 k2 k3 z0 z1
      have hR := hR2
      have hC := hC2
      clear hR2 hC2
      generalize wb.drewN nq = wc at *
      have k0 := hR.out.c0
      have k1 := hR.out.c1
      have k2 := hR.out.c2
      have k3 := hR.out.c3
      have z0 := hR.out.fz 0
      have z1 := hR.out.fz 1
      generalize r % 1000 = lo at *
      generalize r / 1000 = hi at *
      generalize hLe : lo * rest = L at *
      generalize hHe : hi * rest = H at *
      have hm4 := hide (fun b4 p3 => hm3.out b4 p3 L H rfl rfl)
      clear hm3
      go_wp2_with fail
      have hR2 : Hid (BR (wc.setCell ⟨b, 1, none⟩ (.int .i64 (P + L))) b b1 (P + L) r m) := hR.out.set1 _
      have hC2 : Hid (Ch (· = b) w (wc.setCell ⟨b, 1, none⟩ (.int .i64 (P + L)))) := hC.out.set _
      clear hR hC k0 k1 k2 k3 z0 z1
      have hR := hR2
      have hC := hC2
      clear hR2 hC2
      generalize wc.setCell ⟨b, 1, none⟩ (.int .i64 (P + L)) = wd at *
      have hp1 : 0 ≤ P + L ∧ P + L ≤ 2000000000000 := by omega
      generalize hp1e : P + L = p1 at *
      replace hp1e := hide hp1e
      have k0 := hR.out.c0
      have k1 := hR.out.c1
      have k2 := hR.out.c2
      have k3 := hR.out.c3
      have z0 := hR.out.fz 0
      have z1 := hR.out.fz 1
      have hw1 : Hid (IntKind.i64.wrap (p1.tdiv 1000000000) = p1 / 1000000000) := IntWalk.i64_quo _ _ (by omega)
      have hw2 : Hid (IntKind.i64.wrap (b1 + p1 / 1000000000) = b1 + p1 / 1000000000) := IntWalk.i64_in _ (by omega)
      go_wp2_with fail
      have hd : Hid (wd.drew.cell? ⟨b, 1, none⟩ = some (.int .i64 p1)) := k1
      have kk : wd.drew.cell? ⟨b, 0, none⟩ = some (.int .i64 b1) := k0
      have zz : wd.drew.frozen? ⟨b, 0, none⟩ = false := z0
      have hR2 : Hid (BR (wd.setCell ⟨b, 0, none⟩ (.int .i64 (b1 + p1 / 1000000000))).drew b (b1 + p1 / 1000000000) p1 r m) := BR.set0 (w := wd.drew) hR.out _
      have hC2 : Hid (Ch (· = b) w (wd.setCell ⟨b, 0, none⟩ (.int .i64 (b1 + p1 / 1000000000))).drew) := hC.out.drew.set _
      clear hR hC k0 k1 k2 k3 z0 z1
      refine wp_region_noPanic ?_
      refine wp_region_held_drew (S := fun W => W.cell? ⟨b, 1, none⟩ = some (.int .i64 p1)) (by kernel_rfl) hd.out (fun hHeld => ?_)
      refine wpAnyH_take (i := 0) (oi := { dst := some 74, op := Op.move (Operand.tmp 0), type := 66, pos := "ref.go:20", after := #[], guard := none }) (v := ?v47) rfl (by kernel_rfl) (by kernel_rfl) (by kernel_rfl) (fun _ _ _ h => h) (Or.inl ⟨by rfl, ?y47⟩) (by assumption) ?r47
      case y47 => (intro w hSw; (try dsimp only at hSw); (try (go_split_ands)); go_simp; try with_reducible rfl)
      try simp only [Act.put, List.setIfInBounds_toArray, List.set_cons_zero, List.set_cons_succ]
      refine wpAnyH_take (i := 1) (oi := { dst := some 75, op := Op.nilCheck (Operand.tmp 74), type := 0, pos := "ref.go:20", after := #[{ on := 0, ground := Ground.data }], guard := none }) (v := ?v48) rfl (by kernel_rfl) (by kernel_rfl) (by kernel_rfl) (fun _ _ _ h => h) (Or.inl ⟨by rfl, ?y48⟩) (by assumption) ?r48
      case y48 => (intro w hSw; (try dsimp only at hSw); (try (go_split_ands)); go_simp; try with_reducible rfl)
      try simp only [Act.put, List.setIfInBounds_toArray, List.set_cons_zero, List.set_cons_succ]
      refine wpAnyH_take (i := 2) (oi := { dst := some 76, op := Op.fieldAddr 32 (Operand.tmp 75) 0, type := 0, pos := "ref.go:20", after := #[{ on := 1, ground := Ground.data }], guard := none }) (v := ?v49) rfl (by kernel_rfl) (by kernel_rfl) (by kernel_rfl) (fun _ _ _ h => h) (Or.inl ⟨by rfl, ?y49⟩) (by assumption) ?r49
      case y49 => (intro w hSw; (try dsimp only at hSw); (try (go_split_ands)); go_simp; try with_reducible rfl)
      try simp only [Act.put, List.setIfInBounds_toArray, List.set_cons_zero, List.set_cons_succ]
      refine wpAnyH_take (i := 4) (oi := { dst := some 78, op := Op.move (Operand.tmp 0), type := 66, pos := "ref.go:20", after := #[], guard := none }) (v := ?v50) rfl (by kernel_rfl) (by kernel_rfl) (by kernel_rfl) (fun _ _ _ h => h) (Or.inl ⟨by rfl, ?y50⟩) (by assumption) ?r50
      case y50 => (intro w hSw; (try dsimp only at hSw); (try (go_split_ands)); go_simp; try with_reducible rfl)
      try simp only [Act.put, List.setIfInBounds_toArray, List.set_cons_zero, List.set_cons_succ]
      refine wpAnyH_take (i := 5) (oi := { dst := some 79, op := Op.nilCheck (Operand.tmp 78), type := 0, pos := "ref.go:20", after := #[{ on := 4, ground := Ground.data }], guard := none }) (v := ?v51) rfl (by kernel_rfl) (by kernel_rfl) (by kernel_rfl) (fun _ _ _ h => h) (Or.inl ⟨by rfl, ?y51⟩) (by assumption) ?r51
      case y51 => (intro w hSw; (try dsimp only at hSw); (try (go_split_ands)); go_simp; try with_reducible rfl)
      try simp only [Act.put, List.setIfInBounds_toArray, List.set_cons_zero, List.set_cons_succ]
      refine wpAnyH_take (i := 6) (oi := { dst := some 80, op := Op.fieldAddr 32 (Operand.tmp 79) 1, type := 0, pos := "ref.go:20", after := #[{ on := 5, ground := Ground.data }], guard := none }) (v := ?v52) rfl (by kernel_rfl) (by kernel_rfl) (by kernel_rfl) (fun _ _ _ h => h) (Or.inl ⟨by rfl, ?y52⟩) (by assumption) ?r52
      case y52 => (intro w hSw; (try dsimp only at hSw); (try (go_split_ands)); go_simp; try with_reducible rfl)
      try simp only [Act.put, List.setIfInBounds_toArray, List.set_cons_zero, List.set_cons_succ]
      refine wpAnyH_take (i := 7) (oi := { dst := some 81, op := Op.load 2 (Operand.tmp 80), type := 2, pos := "ref.go:20", after := #[{ on := 6, ground := Ground.data }], guard := none }) (v := ?v53) rfl (by kernel_rfl) (by kernel_rfl) (by kernel_rfl) (fun _ _ _ h => h) (Or.inl ⟨by rfl, ?y53⟩) (by assumption) ?r53
      case y53 => (intro w hSw; (try dsimp only at hSw); (try (go_split_ands)); go_simp; try with_reducible rfl)
      try simp only [Act.put, List.setIfInBounds_toArray, List.set_cons_zero, List.set_cons_succ]
      refine wpAnyH_take (i := 8) (oi := { dst := some 82, op := Op.binOp BinOp.quo 2 (Operand.tmp 81) (Operand.const (Value.int IntKind.i64 1000000000)) 2, type := 2, pos := "ref.go:20", after := #[{ on := 7, ground := Ground.data }], guard := none }) (v := ?v54) rfl (by kernel_rfl) (by kernel_rfl) (by kernel_rfl) (fun _ _ _ h => h) (Or.inl ⟨by rfl, ?y54⟩) (by assumption) ?r54
      case y54 => (intro w hSw; (try dsimp only at hSw); (try (go_split_ands)); go_simp; try with_reducible rfl)
      try simp only [Act.put, List.setIfInBounds_toArray, List.set_cons_zero, List.set_cons_succ]
      clear hHeld
      refine wpAnyH_ready (rs := [3]) (by kernel_rfl) (by simp) ?_
      refine AllReadyH.cons (o := { dst := some 77, op := Op.load 2 (Operand.tmp 76), type := 2, pos := "ref.go:20", after := #[{ on := 2, ground := Ground.data }], guard := none }) rfl (fun K hK => ?_) AllReadyH.nil
      go_simp
      refine hK.out _ _ hd.out (fun hHeld => ?_)
      clear hK K
      try simp only [Act.put, List.setIfInBounds_toArray, List.set_cons_zero, List.set_cons_succ]
      refine wpAnyH_take (i := 9) (oi := { dst := some 83, op := Op.binOp BinOp.add 2 (Operand.tmp 77) (Operand.tmp 82) 2, type := 2, pos := "ref.go:20", after := #[{ on := 3, ground := Ground.data }, { on := 8, ground := Ground.data }], guard := none }) (v := ?v55) rfl (by kernel_rfl) (by kernel_rfl) (by kernel_rfl) (fun _ _ _ h => h) (Or.inl ⟨by rfl, ?y55⟩) (by assumption) ?r55
      case y55 => (intro w hSw; (try dsimp only at hSw); (try (go_split_ands)); go_simp; try with_reducible rfl)
      try simp only [Act.put, List.setIfInBounds_toArray, List.set_cons_zero, List.set_cons_succ]
      refine wpAnyH_take (i := 10) (oi := { dst := some 84, op := Op.nilCheck (Operand.tmp 74), type := 0, pos := "ref.go:20", after := #[{ on := 0, ground := Ground.data }, { on := 0, ground := Ground.phase }, { on := 1, ground := Ground.phase }, { on := 2, ground := Ground.phase }, { on := 3, ground := Ground.phase }, { on := 4, ground := Ground.phase }, { on := 5, ground := Ground.phase }, { on := 6, ground := Ground.phase }, { on := 7, ground := Ground.phase }, { on := 8, ground := Ground.phase }, { on := 9, ground := Ground.phase }], guard := none }) (v := ?v56) rfl (by kernel_rfl) (by kernel_rfl) (by kernel_rfl) (fun _ _ _ h => h) (Or.inl ⟨by rfl, ?y56⟩) (by assumption) ?r56
      case y56 => (intro w hSw; (try dsimp only at hSw); (try (go_split_ands)); go_simp; try with_reducible rfl)
      try simp only [Act.put, List.setIfInBounds_toArray, List.set_cons_zero, List.set_cons_succ]
      refine wpAnyH_take (i := 11) (oi := { dst := some 85, op := Op.fieldAddr 32 (Operand.tmp 84) 0, type := 0, pos := "ref.go:20", after := #[{ on := 10, ground := Ground.data }, { on := 0, ground := Ground.phase }, { on := 1, ground := Ground.phase }, { on := 2, ground := Ground.phase }, { on := 3, ground := Ground.phase }, { on := 4, ground := Ground.phase }, { on := 5, ground := Ground.phase }, { on := 6, ground := Ground.phase }, { on := 7, ground := Ground.phase }, { on := 8, ground := Ground.phase }, { on := 9, ground := Ground.phase }], guard := none }) (v := ?v57) rfl (by kernel_rfl) (by kernel_rfl) (by kernel_rfl) (fun _ _ _ h => h) (Or.inl ⟨by rfl, ?y57⟩) (by assumption) ?r57
      case y57 => (intro w hSw; (try dsimp only at hSw); (try (go_split_ands)); go_simp; try with_reducible rfl)
      try simp only [Act.put, List.setIfInBounds_toArray, List.set_cons_zero, List.set_cons_succ]
      try rw [hw1.out]
      try rw [hw2.out]
      clear hHeld
      refine wpAnyH_ready (rs := [12]) (by kernel_rfl) (by simp) ?_
      refine AllReadyH.cons (o := { dst := none, op := Op.store 2 (Operand.tmp 85) (Operand.tmp 83), type := 0, pos := "ref.go:20", after := #[{ on := 11, ground := Ground.data }, { on := 9, ground := Ground.data }, { on := 0, ground := Ground.phase }, { on := 1, ground := Ground.phase }, { on := 2, ground := Ground.phase }, { on := 3, ground := Ground.phase }, { on := 4, ground := Ground.phase }, { on := 5, ground := Ground.phase }, { on := 6, ground := Ground.phase }, { on := 7, ground := Ground.phase }, { on := 8, ground := Ground.phase }, { on := 9, ground := Ground.phase }], guard := none }) rfl (fun K hK => ?_) AllReadyH.nil
      go_simp
      refine hK.out _ _ ?_ (fun hHeld => ?_)
      · exact (World.cell?_setCell_other _ _ _ _ (fun e => by simp only [Addr.mk.injEq] at e; omega)).trans hd.out
      clear hK K
      try simp only [Act.put]
      refine wpAnyH_done (by kernel_rfl) ?_ _
      refine NoPanic.normal ?_
      clear hHeld kk zz hd
      generalize (wd.setCell ⟨b, 0, none⟩ (.int .i64 (b1 + p1 / 1000000000))).drew = we at *
      have hR := hR2
      have hC := hC2
      clear hR2 hC2
      clear hw1 hw2
      have k0 := hR.out.c0
      have k1 := hR.out.c1
      have k2 := hR.out.c2
      have k3 := hR.out.c3
      have z0 := hR.out.fz 0
      have z1 := hR.out.fz 1
      have hb2 : 0 ≤ b1 + p1 / 1000000000 ∧ b1 + p1 / 1000000000 ≤ 20000010000 := by omega
      generalize hb2e : b1 + p1 / 1000000000 = b2 at *
      replace hb2e := hide hb2e
      go_wp2_with fail
      generalize hp2e : p1 % 1000000000 = p2 at *
      have hR2 : Hid (BR (((we.setCell ⟨b, 1, none⟩ (.int .i64 p2)).setCell ⟨b, 0, none⟩ (.int .i64 (b2 + H / 1000000))).setCell ⟨b, 1, none⟩ (.int .i64 (p2 + H % 1000000 * 1000))) b (b2 + H / 1000000) (p2 + H % 1000000 * 1000) r m) := ((hR.out.set1 _).set0 _).set1 _
      have hC2 : Hid (Ch (· = b) w (((we.setCell ⟨b, 1, none⟩ (.int .i64 p2)).setCell ⟨b, 0, none⟩ (.int .i64 (b2 + H / 1000000))).setCell ⟨b, 1, none⟩ (.int .i64 (p2 + H % 1000000 * 1000)))) := ((hC.out.set _).set _).set _
      clear hR hC k0 k1 k2 k3 z0 z1
      have hR := hR2
      have hC := hC2
      clear hR2 hC2
      generalize (((we.setCell ⟨b, 1, none⟩ (.int .i64 p2)).setCell ⟨b, 0, none⟩ (.int .i64 (b2 + H / 1000000))).setCell ⟨b, 1, none⟩ (.int .i64 (p2 + H % 1000000 * 1000))) = wf at *
      have hp2 : 0 ≤ p2 ∧ p2 < 1000000000 := by omega
      replace hp2e := hide hp2e
      have hb3 : 0 ≤ b2 + H / 1000000 ∧ b2 + H / 1000000 ≤ 40000000000 := by omega
      have hp3 : 0 ≤ p2 + H % 1000000 * 1000 ∧ p2 + H % 1000000 * 1000 ≤ 2000000000 := by omega
      generalize hb3e : b2 + H / 1000000 = b3 at *
      replace hb3e := hide hb3e
      generalize hp3e : p2 + H % 1000000 * 1000 = p3 at *
      replace hp3e := hide hp3e
      have hm5 := hide (fun b4 => hm4.out b4 p3 rfl)
      clear hm4
      have k0 := hR.out.c0
      have k1 := hR.out.c1
      have k2 := hR.out.c2
      have k3 := hR.out.c3
      have z0 := hR.out.fz 0
      have z1 := hR.out.fz 1
      have hw1 : Hid (IntKind.i64.wrap (p3.tdiv 1000000000) = p3 / 1000000000) := IntWalk.i64_quo _ _ (by omega)
      have hw2 : Hid (IntKind.i64.wrap (b3 + p3 / 1000000000) = b3 + p3 / 1000000000) := IntWalk.i64_in _ (by omega)
      go_wp2_with fail
      have hd : Hid (wf.drew.cell? ⟨b, 1, none⟩ = some (.int .i64 p3)) := k1
      have kk : wf.drew.cell? ⟨b, 0, none⟩ = some (.int .i64 b3) := k0
      have zz : wf.drew.frozen? ⟨b, 0, none⟩ = false := z0
      have hR2 : Hid (BR (wf.setCell ⟨b, 0, none⟩ (.int .i64 (b3 + p3 / 1000000000))).drew b (b3 + p3 / 1000000000) p3 r m) := BR.set0 (w := wf.drew) hR.out _
      have hC2 : Hid (Ch (· = b) w (wf.setCell ⟨b, 0, none⟩ (.int .i64 (b3 + p3 / 1000000000))).drew) := hC.out.drew.set _
      clear hR hC k0 k1 k2 k3 z0 z1
      refine wp_region_noPanic ?_
      refine wp_region_held_drew (S := fun W => W.cell? ⟨b, 1, none⟩ = some (.int .i64 p3)) (by kernel_rfl) hd.out (fun hHeld => ?_)
      refine wpAnyH_take (i := 0) (oi := { dst := some 116, op := Op.move (Operand.tmp 0), type := 66, pos := "ref.go:25", after := #[], guard := none }) (v := ?v58) rfl (by kernel_rfl) (by kernel_rfl) (by kernel_rfl) (fun _ _ _ h => h) (Or.inl ⟨by rfl, ?y58⟩) (by assumption) ?r58
      case y58 => (intro w hSw; (try dsimp only at hSw); (try (go_split_ands)); go_simp; try with_reducible rfl)
      try simp only [Act.put, List.setIfInBounds_toArray, List.set_cons_zero, List.set_cons_succ]
      refine wpAnyH_take (i := 1) (oi := { dst := some 117, op := Op.nilCheck (Operand.tmp 116), type := 0, pos := "ref.go:25", after := #[{ on := 0, ground := Ground.data }], guard := none }) (v := ?v59) rfl (by kernel_rfl) (by kernel_rfl) (by kernel_rfl) (fun _ _ _ h => h) (Or.inl ⟨by rfl, ?y59⟩) (by assumption) ?r59
      case y59 => (intro w hSw; (try dsimp only at hSw); (try (go_split_ands)); go_simp; try with_reducible rfl)
      try simp only [Act.put, List.setIfInBounds_toArray, List.set_cons_zero, List.set_cons_succ]
      refine wpAnyH_take (i := 2) (oi := { dst := some 118, op := Op.fieldAddr 32 (Operand.tmp 117) 0, type := 0, pos := "ref.go:25", after := #[{ on := 1, ground := Ground.data }], guard := none }) (v := ?v60) rfl (by kernel_rfl) (by kernel_rfl) (by kernel_rfl) (fun _ _ _ h => h) (Or.inl ⟨by rfl, ?y60⟩) (by assumption) ?r60
      case y60 => (intro w hSw; (try dsimp only at hSw); (try (go_split_ands)); go_simp; try with_reducible rfl)
      try simp only [Act.put, List.setIfInBounds_toArray, List.set_cons_zero, List.set_cons_succ]
      refine wpAnyH_take (i := 4) (oi := { dst := some 120, op := Op.move (Operand.tmp 0), type := 66, pos := "ref.go:25", after := #[], guard := none }) (v := ?v61) rfl (by kernel_rfl) (by kernel_rfl) (by kernel_rfl) (fun _ _ _ h => h) (Or.inl ⟨by rfl, ?y61⟩) (by assumption) ?r61
      case y61 => (intro w hSw; (try dsimp only at hSw); (try (go_split_ands)); go_simp; try with_reducible rfl)
      try simp only [Act.put, List.setIfInBounds_toArray, List.set_cons_zero, List.set_cons_succ]
      refine wpAnyH_take (i := 5) (oi := { dst := some 121, op := Op.nilCheck (Operand.tmp 120), type := 0, pos := "ref.go:25", after := #[{ on := 4, ground := Ground.data }], guard := none }) (v := ?v62) rfl (by kernel_rfl) (by kernel_rfl) (by kernel_rfl) (fun _ _ _ h => h) (Or.inl ⟨by rfl, ?y62⟩) (by assumption) ?r62
      case y62 => (intro w hSw; (try dsimp only at hSw); (try (go_split_ands)); go_simp; try with_reducible rfl)
      try simp only [Act.put, List.setIfInBounds_toArray, List.set_cons_zero, List.set_cons_succ]
      refine wpAnyH_take (i := 6) (oi := { dst := some 122, op := Op.fieldAddr 32 (Operand.tmp 121) 1, type := 0, pos := "ref.go:25", after := #[{ on := 5, ground := Ground.data }], guard := none }) (v := ?v63) rfl (by kernel_rfl) (by kernel_rfl) (by kernel_rfl) (fun _ _ _ h => h) (Or.inl ⟨by rfl, ?y63⟩) (by assumption) ?r63
      case y63 => (intro w hSw; (try dsimp only at hSw); (try (go_split_ands)); go_simp; try with_reducible rfl)
      try simp only [Act.put, List.setIfInBounds_toArray, List.set_cons_zero, List.set_cons_succ]
      refine wpAnyH_take (i := 7) (oi := { dst := some 123, op := Op.load 2 (Operand.tmp 122), type := 2, pos := "ref.go:25", after := #[{ on := 6, ground := Ground.data }], guard := none }) (v := ?v64) rfl (by kernel_rfl) (by kernel_rfl) (by kernel_rfl) (fun _ _ _ h => h) (Or.inl ⟨by rfl, ?y64⟩) (by assumption) ?r64
      case y64 => (intro w hSw; (try dsimp only at hSw); (try (go_split_ands)); go_simp; try with_reducible rfl)
      try simp only [Act.put, List.setIfInBounds_toArray, List.set_cons_zero, List.set_cons_succ]
      refine wpAnyH_take (i := 8) (oi := { dst := some 124, op := Op.binOp BinOp.quo 2 (Operand.tmp 123) (Operand.const (Value.int IntKind.i64 1000000000)) 2, type := 2, pos := "ref.go:25", after := #[{ on := 7, ground := Ground.data }], guard := none }) (v := ?v65) rfl (by kernel_rfl) (by kernel_rfl) (by kernel_rfl) (fun _ _ _ h => h) (Or.inl ⟨by rfl, ?y65⟩) (by assumption) ?r65
      case y65 => (intro w hSw; (try dsimp only at hSw); (try (go_split_ands)); go_simp; try with_reducible rfl)
      try simp only [Act.put, List.setIfInBounds_toArray, List.set_cons_zero, List.set_cons_succ]
      clear hHeld
      refine wpAnyH_ready (rs := [3]) (by kernel_rfl) (by simp) ?_
      refine AllReadyH.cons (o := { dst := some 119, op := Op.load 2 (Operand.tmp 118), type := 2, pos := "ref.go:25", after := #[{ on := 2, ground := Ground.data }], guard := none }) rfl (fun K hK => ?_) AllReadyH.nil
      go_simp
      refine hK.out _ _ hd.out (fun hHeld => ?_)
      clear hK K
      try simp only [Act.put, List.setIfInBounds_toArray, List.set_cons_zero, List.set_cons_succ]
      refine wpAnyH_take (i := 9) (oi := { dst := some 125, op := Op.binOp BinOp.add 2 (Operand.tmp 119) (Operand.tmp 124) 2, type := 2, pos := "ref.go:25", after := #[{ on := 3, ground := Ground.data }, { on := 8, ground := Ground.data }], guard := none }) (v := ?v66) rfl (by kernel_rfl) (by kernel_rfl) (by kernel_rfl) (fun _ _ _ h => h) (Or.inl ⟨by rfl, ?y66⟩) (by assumption) ?r66
      case y66 => (intro w hSw; (try dsimp only at hSw); (try (go_split_ands)); go_simp; try with_reducible rfl)
      try simp only [Act.put, List.setIfInBounds_toArray, List.set_cons_zero, List.set_cons_succ]
      refine wpAnyH_take (i := 10) (oi := { dst := some 126, op := Op.nilCheck (Operand.tmp 116), type := 0, pos := "ref.go:25", after := #[{ on := 0, ground := Ground.data }, { on := 0, ground := Ground.phase }, { on := 1, ground := Ground.phase }, { on := 2, ground := Ground.phase }, { on := 3, ground := Ground.phase }, { on := 4, ground := Ground.phase }, { on := 5, ground := Ground.phase }, { on := 6, ground := Ground.phase }, { on := 7, ground := Ground.phase }, { on := 8, ground := Ground.phase }, { on := 9, ground := Ground.phase }], guard := none }) (v := ?v67) rfl (by kernel_rfl) (by kernel_rfl) (by kernel_rfl) (fun _ _ _ h => h) (Or.inl ⟨by rfl, ?y67⟩) (by assumption) ?r67
      case y67 => (intro w hSw; (try dsimp only at hSw); (try (go_split_ands)); go_simp; try with_reducible rfl)
      try simp only [Act.put, List.setIfInBounds_toArray, List.set_cons_zero, List.set_cons_succ]
      refine wpAnyH_take (i := 11) (oi := { dst := some 127, op := Op.fieldAddr 32 (Operand.tmp 126) 0, type := 0, pos := "ref.go:25", after := #[{ on := 10, ground := Ground.data }, { on := 0, ground := Ground.phase }, { on := 1, ground := Ground.phase }, { on := 2, ground := Ground.phase }, { on := 3, ground := Ground.phase }, { on := 4, ground := Ground.phase }, { on := 5, ground := Ground.phase }, { on := 6, ground := Ground.phase }, { on := 7, ground := Ground.phase }, { on := 8, ground := Ground.phase }, { on := 9, ground := Ground.phase }], guard := none }) (v := ?v68) rfl (by kernel_rfl) (by kernel_rfl) (by kernel_rfl) (fun _ _ _ h => h) (Or.inl ⟨by rfl, ?y68⟩) (by assumption) ?r68
      case y68 => (intro w hSw; (try dsimp only at hSw); (try (go_split_ands)); go_simp; try with_reducible rfl)
      try simp only [Act.put, List.setIfInBounds_toArray, List.set_cons_zero, List.set_cons_succ]
      try rw [hw1.out]
      try rw [hw2.out]
      clear hHeld
      refine wpAnyH_ready (rs := [12]) (by kernel_rfl) (by simp) ?_
      refine AllReadyH.cons (o := { dst := none, op := Op.store 2 (Operand.tmp 127) (Operand.tmp 125), type := 0, pos := "ref.go:25", after := #[{ on := 11, ground := Ground.data }, { on := 9, ground := Ground.data }, { on := 0, ground := Ground.phase }, { on := 1, ground := Ground.phase }, { on := 2, ground := Ground.phase }, { on := 3, ground := Ground.phase }, { on := 4, ground := Ground.phase }, { on := 5, ground := Ground.phase }, { on := 6, ground := Ground.phase }, { on := 7, ground := Ground.phase }, { on := 8, ground := Ground.phase }, { on := 9, ground := Ground.phase }], guard := none }) rfl (fun K hK => ?_) AllReadyH.nil
      go_simp
      refine hK.out _ _ ?_ (fun hHeld => ?_)
      · exact (World.cell?_setCell_other _ _ _ _ (fun e => by simp only [Addr.mk.injEq] at e; omega)).trans hd.out
      clear hK K
      try simp only [Act.put]
      refine wpAnyH_done (by kernel_rfl) ?_ _
      refine NoPanic.normal ?_
      clear hHeld kk zz hd
      generalize (wf.setCell ⟨b, 0, none⟩ (.int .i64 (b3 + p3 / 1000000000))).drew = wg at *
      have hR := hR2
      have hC := hC2
      clear hR2 hC2
      have hm6 := hide (hm5.out _ rfl)
      clear hm5 hw1 hw2
      have k0 := hR.out.c0
      have k1 := hR.out.c1
      have k2 := hR.out.c2
      have k3 := hR.out.c3
      have z0 := hR.out.fz 0
      have z1 := hR.out.fz 1
      generalize hb4e : b3 + p3 / 1000000000 = b4 at *
      replace hb4e := hide hb4e
      go_wp2_with fail
      generalize hp4e : p3 % 1000000000 = p4 at *
      replace hp4e := hide hp4e
      have hR2 : Hid (BR (wg.setCell ⟨b, 1, none⟩ (.int .i64 p4)) b b4 p4 r m) := hR.out.set1 _
      have hC2 : Hid (Ch (· = b) w (wg.setCell ⟨b, 1, none⟩ (.int .i64 p4))) := hC.out.set _
      clear hR hC k0 k1 k2 k3 z0 z1
      have hR := hR2
      have hC := hC2
      clear hR2 hC2
      generalize (wg.setCell ⟨b, 1, none⟩ (.int .i64 p4)) = wh at *
      have k0 := hR.out.c0
      have k1 := hR.out.c1
      have k2 := hR.out.c2
      have k3 := hR.out.c3
      have z0 := hR.out.fz 0
      have z1 := hR.out.fz 1
      go_quiet (fail)
      have hC2 : Hid (Ch (· = b) w (wh.drewN nq)) := hC.out.trans (Ch.of_below (below_drewN (Below.refl _ _) nq))
      have hR2 : Hid (BR (wh.drewN nq) b b4 p4 r m) := hR.out
      clear hR hC k0 k1 k2 k3 z0 z1
      have hR := hR2
      have hC := hC2
      clear hR2 hC2
      generalize wh.drewN nq = wi at *
      have k0 := hR.out.c0
      have k1 := hR.out.c1
      have k2 := hR.out.c2
      have k3 := hR.out.c3
      have z0 := hR.out.fz 0
      have z1 := hR.out.fz 1
      by_cases hge : m ≤ b4
      · obtain ⟨v1, v2⟩ := hm6.out
        rw [if_pos hge] at v1 v2
        have hR3 : Hid (BR ((wi.setCell ⟨b, 0, none⟩ (.int .i64 m)).setCell ⟨b, 1, none⟩ (.int .i64 0)) b m 0 r m) := (hR.out.set0 _).set1 _
        have hC3 : Hid (Ch (· = b) w ((wi.setCell ⟨b, 0, none⟩ (.int .i64 m)).setCell ⟨b, 1, none⟩ (.int .i64 0))) := (hC.out.set _).set _
        replace v1 := hide v1
        replace v2 := hide v2
        clear hR hC hm6
        go_wp2
        exact v_end rfl rfl ⟨rfl, by rw [← v1.out, ← v2.out]; exact hR3.out, hC3.out⟩
      · obtain ⟨v1, v2⟩ := hm6.out
        rw [if_neg hge] at v1 v2
        replace v1 := hide v1
        replace v2 := hide v2
        clear hm6
        go_wp2
        exact v_end rfl rfl ⟨rfl, by rw [← v1.out, ← v2.out]; exact hR.out, hC.out⟩
    · have hm2 := hide (hmath.out s0 (.inl rfl))
      have hA : 0 ≤ s0 * r ∧ s0 * r ≤ 10008388608 := by have a1 := Int.mul_nonneg hs0.1 hr; have a2 : s0 * r ≤ (m / r + 1) * r := Int.mul_le_mul_of_nonneg_right (by omega) hr; rw [Int.add_mul, Int.one_mul] at a2; omega
      replace hmr := hide hmr
      replace hA := hide hA
      clear hmath
      go_quiet (fail)
      have hC2 : Hid (Ch (· = b) w (w.drewN nq)) := hC.out.trans (Ch.of_below (below_drewN (Below.refl _ _) nq))
      have hR2 : Hid (BR (w.drewN nq) b B P r m) := hR.out
      clear hR hC k0 k1 k2 k3 z0 z1
      have hR := hR2
      have hC := hC2
      clear hR2 hC2
      generalize w.drewN nq = wa at *
      have k0 := hR.out.c0
      have k1 := hR.out.c1
      have k2 := hR.out.c2
      have k3 := hR.out.c3
      have z0 := hR.out.fz 0
      have z1 := hR.out.fz 1
      clear hcl hmr hdiv
      replace hA := hA.out
      generalize s0 = s at *
      generalize hAe : s * r = A at *
      have hw1 : Hid (IntKind.i64.wrap A = A) := IntWalk.i64_in _ (by omega)
      have hw2 : Hid (IntKind.i64.wrap (B + A) = B + A) := IntWalk.i64_in _ (by omega)
      have hm3 := hide (fun b4 p3 L H => hm2.out b4 p3 A L H rfl)
      clear hm2
      have hb1 : 0 ≤ B + A ∧ B + A ≤ 20000000000 := by omega
      go_wp2_with fail
      have hd : Hid (wa.drew.cell? ⟨b, 2, none⟩ = some (.int .i64 r)) := k2
      have kk : wa.drew.cell? ⟨b, 0, none⟩ = some (.int .i64 B) := k0
      have zz : wa.drew.frozen? ⟨b, 0, none⟩ = false := z0
      have hR2 : Hid (BR (wa.setCell ⟨b, 0, none⟩ (.int .i64 (B + A))).drew b (B + A) P r m) := BR.set0 (w := wa.drew) hR.out _
      have hC2 : Hid (Ch (· = b) w (wa.setCell ⟨b, 0, none⟩ (.int .i64 (B + A))).drew) := hC.out.drew.set _
      clear hR hC k0 k1 k2 k3 z0 z1
      refine wp_region_noPanic ?_
      refine wp_region_held_drew (S := fun W => W.cell? ⟨b, 2, none⟩ = some (.int .i64 r)) (by kernel_rfl) hd.out (fun hHeld => ?_)
      refine wpAnyH_take (i := 0) (oi := { dst := some 41, op := Op.move (Operand.tmp 0), type := 66, pos := "ref.go:16", after := #[], guard := none }) (v := ?v69) rfl (by kernel_rfl) (by kernel_rfl) (by kernel_rfl) (fun _ _ _ h => h) (Or.inl ⟨by rfl, ?y69⟩) (by assumption) ?r69
      case y69 => (intro w hSw; (try dsimp only at hSw); (try (go_split_ands)); go_simp; try with_reducible rfl)
      try simp only [Act.put, List.setIfInBounds_toArray, List.set_cons_zero, List.set_cons_succ]
      refine wpAnyH_take (i := 1) (oi := { dst := some 42, op := Op.nilCheck (Operand.tmp 41), type := 0, pos := "ref.go:16", after := #[{ on := 0, ground := Ground.data }], guard := none }) (v := ?v70) rfl (by kernel_rfl) (by kernel_rfl) (by kernel_rfl) (fun _ _ _ h => h) (Or.inl ⟨by rfl, ?y70⟩) (by assumption) ?r70
      case y70 => (intro w hSw; (try dsimp only at hSw); (try (go_split_ands)); go_simp; try with_reducible rfl)
      try simp only [Act.put, List.setIfInBounds_toArray, List.set_cons_zero, List.set_cons_succ]
      refine wpAnyH_take (i := 2) (oi := { dst := some 43, op := Op.fieldAddr 32 (Operand.tmp 42) 0, type := 0, pos := "ref.go:16", after := #[{ on := 1, ground := Ground.data }], guard := none }) (v := ?v71) rfl (by kernel_rfl) (by kernel_rfl) (by kernel_rfl) (fun _ _ _ h => h) (Or.inl ⟨by rfl, ?y71⟩) (by assumption) ?r71
      case y71 => (intro w hSw; (try dsimp only at hSw); (try (go_split_ands)); go_simp; try with_reducible rfl)
      try simp only [Act.put, List.setIfInBounds_toArray, List.set_cons_zero, List.set_cons_succ]
      refine wpAnyH_take (i := 4) (oi := { dst := some 45, op := Op.move (Operand.tmp 4), type := 2, pos := "ref.go:16", after := #[], guard := none }) (v := ?v72) rfl (by kernel_rfl) (by kernel_rfl) (by kernel_rfl) (fun _ _ _ h => h) (Or.inl ⟨by rfl, ?y72⟩) (by assumption) ?r72
      case y72 => (intro w hSw; (try dsimp only at hSw); (try (go_split_ands)); go_simp; try with_reducible rfl)
      try simp only [Act.put, List.setIfInBounds_toArray, List.set_cons_zero, List.set_cons_succ]
      refine wpAnyH_take (i := 5) (oi := { dst := some 46, op := Op.move (Operand.tmp 0), type := 66, pos := "ref.go:16", after := #[], guard := none }) (v := ?v73) rfl (by kernel_rfl) (by kernel_rfl) (by kernel_rfl) (fun _ _ _ h => h) (Or.inl ⟨by rfl, ?y73⟩) (by assumption) ?r73
      case y73 => (intro w hSw; (try dsimp only at hSw); (try (go_split_ands)); go_simp; try with_reducible rfl)
      try simp only [Act.put, List.setIfInBounds_toArray, List.set_cons_zero, List.set_cons_succ]
      refine wpAnyH_take (i := 6) (oi := { dst := some 47, op := Op.nilCheck (Operand.tmp 46), type := 0, pos := "ref.go:16", after := #[{ on := 5, ground := Ground.data }], guard := none }) (v := ?v74) rfl (by kernel_rfl) (by kernel_rfl) (by kernel_rfl) (fun _ _ _ h => h) (Or.inl ⟨by rfl, ?y74⟩) (by assumption) ?r74
      case y74 => (intro w hSw; (try dsimp only at hSw); (try (go_split_ands)); go_simp; try with_reducible rfl)
      try simp only [Act.put, List.setIfInBounds_toArray, List.set_cons_zero, List.set_cons_succ]
      refine wpAnyH_take (i := 7) (oi := { dst := some 48, op := Op.fieldAddr 32 (Operand.tmp 47) 2, type := 0, pos := "ref.go:16", after := #[{ on := 6, ground := Ground.data }], guard := none }) (v := ?v75) rfl (by kernel_rfl) (by kernel_rfl) (by kernel_rfl) (fun _ _ _ h => h) (Or.inl ⟨by rfl, ?y75⟩) (by assumption) ?r75
      case y75 => (intro w hSw; (try dsimp only at hSw); (try (go_split_ands)); go_simp; try with_reducible rfl)
      try simp only [Act.put, List.setIfInBounds_toArray, List.set_cons_zero, List.set_cons_succ]
      refine wpAnyH_take (i := 8) (oi := { dst := some 49, op := Op.load 2 (Operand.tmp 48), type := 2, pos := "ref.go:16", after := #[{ on := 7, ground := Ground.data }], guard := none }) (v := ?v76) rfl (by kernel_rfl) (by kernel_rfl) (by kernel_rfl) (fun _ _ _ h => h) (Or.inl ⟨by rfl, ?y76⟩) (by assumption) ?r76
      case y76 => (intro w hSw; (try dsimp only at hSw); (try (go_split_ands)); go_simp; try with_reducible rfl)
      try simp only [Act.put, List.setIfInBounds_toArray, List.set_cons_zero, List.set_cons_succ]
      refine wpAnyH_take (i := 9) (oi := { dst := some 50, op := Op.binOp BinOp.mul 2 (Operand.tmp 45) (Operand.tmp 49) 2, type := 2, pos := "ref.go:16", after := #[{ on := 4, ground := Ground.data }, { on := 8, ground := Ground.data }], guard := none }) (v := ?v77) rfl (by kernel_rfl) (by kernel_rfl) (by kernel_rfl) (fun _ _ _ h => h) (Or.inl ⟨by rfl, ?y77⟩) (by assumption) ?r77
      case y77 => (intro w hSw; (try dsimp only at hSw); (try (go_split_ands)); go_simp; try with_reducible rfl)
      try simp only [Act.put, List.setIfInBounds_toArray, List.set_cons_zero, List.set_cons_succ]
      clear hHeld
      refine wpAnyH_ready (rs := [3]) (by kernel_rfl) (by simp) ?_
      refine AllReadyH.cons (o := { dst := some 44, op := Op.load 2 (Operand.tmp 43), type := 2, pos := "ref.go:16", after := #[{ on := 2, ground := Ground.data }], guard := none }) rfl (fun K hK => ?_) AllReadyH.nil
      go_simp
      refine hK.out _ _ hd.out (fun hHeld => ?_)
      clear hK K
      try simp only [Act.put, List.setIfInBounds_toArray, List.set_cons_zero, List.set_cons_succ]
      refine wpAnyH_take (i := 10) (oi := { dst := some 51, op := Op.binOp BinOp.add 2 (Operand.tmp 44) (Operand.tmp 50) 2, type := 2, pos := "ref.go:16", after := #[{ on := 3, ground := Ground.data }, { on := 9, ground := Ground.data }], guard := none }) (v := ?v78) rfl (by kernel_rfl) (by kernel_rfl) (by kernel_rfl) (fun _ _ _ h => h) (Or.inl ⟨by rfl, ?y78⟩) (by assumption) ?r78
      case y78 => (intro w hSw; (try dsimp only at hSw); (try (go_split_ands)); go_simp; try with_reducible rfl)
      try simp only [Act.put, List.setIfInBounds_toArray, List.set_cons_zero, List.set_cons_succ]
      refine wpAnyH_take (i := 11) (oi := { dst := some 52, op := Op.nilCheck (Operand.tmp 41), type := 0, pos := "ref.go:16", after := #[{ on := 0, ground := Ground.data }, { on := 0, ground := Ground.phase }, { on := 1, ground := Ground.phase }, { on := 2, ground := Ground.phase }, { on := 3, ground := Ground.phase }, { on := 4, ground := Ground.phase }, { on := 5, ground := Ground.phase }, { on := 6, ground := Ground.phase }, { on := 7, ground := Ground.phase }, { on := 8, ground := Ground.phase }, { on := 9, ground := Ground.phase }, { on := 10, ground := Ground.phase }], guard := none }) (v := ?v79) rfl (by kernel_rfl) (by kernel_rfl) (by kernel_rfl) (fun _ _ _ h => h) (Or.inl ⟨by rfl, ?y79⟩) (by assumption) ?r79
      case y79 => (intro w hSw; (try dsimp only at hSw); (try (go_split_ands)); go_simp; try with_reducible rfl)
      try simp only [Act.put, List.setIfInBounds_toArray, List.set_cons_zero, List.set_cons_succ]
      refine wpAnyH_take (i := 12) (oi := { dst := some 53, op := Op.fieldAddr 32 (Operand.tmp 52) 0, type := 0, pos := "ref.go:16", after := #[{ on := 11, ground := Ground.data }, { on := 0, ground := Ground.phase }, { on := 1, ground := Ground.phase }, { on := 2, ground := Ground.phase }, { on := 3, ground := Ground.phase }, { on := 4, ground := Ground.phase }, { on := 5, ground := Ground.phase }, { on := 6, ground := Ground.phase }, { on := 7, ground := Ground.phase }, { on := 8, ground := Ground.phase }, { on := 9, ground := Ground.phase }, { on := 10, ground := Ground.phase }], guard := none }) (v := ?v80) rfl (by kernel_rfl) (by kernel_rfl) (by kernel_rfl) (fun _ _ _ h => h) (Or.inl ⟨by rfl, ?y80⟩) (by assumption) ?r80
      case y80 => (intro w hSw; (try dsimp only at hSw); (try (go_split_ands)); go_simp; try with_reducible rfl)
      try simp only [Act.put, List.setIfInBounds_toArray, List.set_cons_zero, List.set_cons_succ]
      try rw [hw1.out]
      try rw [hw2.out]
      clear hHeld
      refine wpAnyH_ready (rs := [13]) (by kernel_rfl) (by simp) ?_
      refine AllReadyH.cons (o := { dst := none, op := Op.store 2 (Operand.tmp 53) (Operand.tmp 51), type := 0, pos := "ref.go:16", after := #[{ on := 12, ground := Ground.data }, { on := 10, ground := Ground.data }, { on := 0, ground := Ground.phase }, { on := 1, ground := Ground.phase }, { on := 2, ground := Ground.phase }, { on := 3, ground := Ground.phase }, { on := 4, ground := Ground.phase }, { on := 5, ground := Ground.phase }, { on := 6, ground := Ground.phase }, { on := 7, ground := Ground.phase }, { on := 8, ground := Ground.phase }, { on := 9, ground := Ground.phase }, { on := 10, ground := Ground.phase }], guard := none }) rfl (fun K hK => ?_) AllReadyH.nil
      go_simp
      refine hK.out _ _ ?_ (fun hHeld => ?_)
      · exact (World.cell?_setCell_other _ _ _ _ (fun e => by simp only [Addr.mk.injEq] at e; omega)).trans hd.out
      clear hK K
      try simp only [Act.put]
      refine wpAnyH_done (by kernel_rfl) ?_ _
      refine NoPanic.normal ?_
      clear hHeld kk zz hd
      generalize (wa.setCell ⟨b, 0, none⟩ (.int .i64 (B + A))).drew = wb at *
      have hR := hR2
      have hC := hC2
      clear hR2 hC2
      have k0 := hR.out.c0
      have k1 := hR.out.c1
      have k2 := hR.out.c2
      have k3 := hR.out.c3
      have z0 := hR.out.fz 0
      have z1 := hR.out.fz 1
      clear hw1 hw2 hAe
      generalize hb1e : B + A = b1 at *
      replace hb1e := hide hb1e
      have q1 : 0 ≤ r % 1000 * rest ∧ r % 1000 * rest ≤ 1000 * 1000000000 := ⟨Int.mul_nonneg (by omega) (by omega), Int.mul_le_mul (by omega) (by omega) (by omega) (by omega)⟩
      have q2 : 0 ≤ r / 1000 * rest ∧ r / 1000 * rest ≤ 10000000 * 1000000000 := ⟨Int.mul_nonneg (by omega) (by omega), Int.mul_le_mul (by omega) (by omega) (by omega) (by omega)⟩
      go_wp2_with fail
      go_quiet (fail)
      have hC2 : Hid (Ch (· = b) w (wb.drewN nq)) := hC.out.trans (Ch.of_below (below_drewN (Below.refl _ _) nq))
      have hR2 : Hid (BR (wb.drewN nq) b b1 P r m) := hR.out
      clear hR hC k0 k1 k2 k3 z0 z1
      have hR := hR2
      have hC := hC2
      clear hR2 hC2
      generalize wb.drewN nq = wc at *
      have k0 := hR.out.c0
      have k1 := hR.out.c1
      have k2 := hR.out.c2
      have k3 := hR.out.c3
      have z0 := hR.out.fz 0
      have z1 := hR.out.fz 1
      generalize r % 1000 = lo at *
      generalize r / 1000 = hi at *
      generalize hLe : lo * rest = L at *
      generalize hHe : hi * rest = H at *
      have hm4 := hide (fun b4 p3 => hm3.out b4 p3 L H rfl rfl)
      clear hm3
      go_wp2_with fail
      have hR2 : Hid (BR (wc.setCell ⟨b, 1, none⟩ (.int .i64 (P + L))) b b1 (P + L) r m) := hR.out.set1 _
      have hC2 : Hid (Ch (· = b) w (wc.setCell ⟨b, 1, none⟩ (.int .i64 (P + L)))) := hC.out.set _
      clear hR hC k0 k1 k2 k3 z0 z1
      have hR := hR2
      have hC := hC2
      clear hR2 hC2
      generalize wc.setCell ⟨b, 1, none⟩ (.int .i64 (P + L)) = wd at *
      have hp1 : 0 ≤ P + L ∧ P + L ≤ 2000000000000 := by omega
      generalize hp1e : P + L = p1 at *
      replace hp1e := hide hp1e
      have k0 := hR.out.c0
      have k1 := hR.out.c1
      have k2 := hR.out.c2
      have k3 := hR.out.c3
      have z0 := hR.out.fz 0
      have z1 := hR.out.fz 1
      have hw1 : Hid (IntKind.i64.wrap (p1.tdiv 1000000000) = p1 / 1000000000) := IntWalk.i64_quo _ _ (by omega)
      have hw2 : Hid (IntKind.i64.wrap (b1 + p1 / 1000000000) = b1 + p1 / 1000000000) := IntWalk.i64_in _ (by omega)
      go_wp2_with fail
      have hd : Hid (wd.drew.cell? ⟨b, 1, none⟩ = some (.int .i64 p1)) := k1
      have kk : wd.drew.cell? ⟨b, 0, none⟩ = some (.int .i64 b1) := k0
      have zz : wd.drew.frozen? ⟨b, 0, none⟩ = false := z0
      have hR2 : Hid (BR (wd.setCell ⟨b, 0, none⟩ (.int .i64 (b1 + p1 / 1000000000))).drew b (b1 + p1 / 1000000000) p1 r m) := BR.set0 (w := wd.drew) hR.out _
      have hC2 : Hid (Ch (· = b) w (wd.setCell ⟨b, 0, none⟩ (.int .i64 (b1 + p1 / 1000000000))).drew) := hC.out.drew.set _
      clear hR hC k0 k1 k2 k3 z0 z1
      refine wp_region_noPanic ?_
      refine wp_region_held_drew (S := fun W => W.cell? ⟨b, 1, none⟩ = some (.int .i64 p1)) (by kernel_rfl) hd.out (fun hHeld => ?_)
      refine wpAnyH_take (i := 0) (oi := { dst := some 74, op := Op.move (Operand.tmp 0), type := 66, pos := "ref.go:20", after := #[], guard := none }) (v := ?v81) rfl (by kernel_rfl) (by kernel_rfl) (by kernel_rfl) (fun _ _ _ h => h) (Or.inl ⟨by rfl, ?y81⟩) (by assumption) ?r81
      case y81 => (intro w hSw; (try dsimp only at hSw); (try (go_split_ands)); go_simp; try with_reducible rfl)
      try simp only [Act.put, List.setIfInBounds_toArray, List.set_cons_zero, List.set_cons_succ]
      refine wpAnyH_take (i := 1) (oi := { dst := some 75, op := Op.nilCheck (Operand.tmp 74), type := 0, pos := "ref.go:20", after := #[{ on := 0, ground := Ground.data }], guard := none }) (v := ?v82) rfl (by kernel_rfl) (by kernel_rfl) (by kernel_rfl) (fun _ _ _ h => h) (Or.inl ⟨by rfl, ?y82⟩) (by assumption) ?r82
      case y82 => (intro w hSw; (try dsimp only at hSw); (try (go_split_ands)); go_simp; try with_reducible rfl)
      try simp only [Act.put, List.setIfInBounds_toArray, List.set_cons_zero, List.set_cons_succ]
      refine wpAnyH_take (i := 2) (oi := { dst := some 76, op := Op.fieldAddr 32 (Operand.tmp 75) 0, type := 0, pos := "ref.go:20", after := #[{ on := 1, ground := Ground.data }], guard := none }) (v := ?v83) rfl (by kernel_rfl) (by kernel_rfl) (by kernel_rfl) (fun _ _ _ h => h) (Or.inl ⟨by rfl, ?y83⟩) (by assumption) ?r83
      case y83 => (intro w hSw; (try dsimp only at hSw); (try (go_split_ands)); go_simp; try with_reducible rfl)
      try simp only [Act.put, List.setIfInBounds_toArray, List.set_cons_zero, List.set_cons_succ]
      refine wpAnyH_take (i := 4) (oi := { dst := some 78, op := Op.move (Operand.tmp 0), type := 66, pos := "ref.go:20", after := #[], guard := none }) (v := ?v84) rfl (by kernel_rfl) (by kernel_rfl) (by kernel_rfl) (fun _ _ _ h => h) (Or.inl ⟨by rfl, ?y84⟩) (by assumption) ?r84
      case y84 => (intro w hSw; (try dsimp only at hSw); (try (go_split_ands)); go_simp; try with_reducible rfl)
      try simp only [Act.put, List.setIfInBounds_toArray, List.set_cons_zero, List.set_cons_succ]
      refine wpAnyH_take (i := 5) (oi := { dst := some 79, op := Op.nilCheck (Operand.tmp 78), type := 0, pos := "ref.go:20", after := #[{ on := 4, ground := Ground.data }], guard := none }) (v := ?v85) rfl (by kernel_rfl) (by kernel_rfl) (by kernel_rfl) (fun _ _ _ h => h) (Or.inl ⟨by rfl, ?y85⟩) (by assumption) ?r85
      case y85 => (intro w hSw; (try dsimp only at hSw); (try (go_split_ands)); go_simp; try with_reducible rfl)
      try simp only [Act.put, List.setIfInBounds_toArray, List.set_cons_zero, List.set_cons_succ]
      refine wpAnyH_take (i := 6) (oi := { dst := some 80, op := Op.fieldAddr 32 (Operand.tmp 79) 1, type := 0, pos := "ref.go:20", after := #[{ on := 5, ground := Ground.data }], guard := none }) (v := ?v86) rfl (by kernel_rfl) (by kernel_rfl) (by kernel_rfl) (fun _ _ _ h => h) (Or.inl ⟨by rfl, ?y86⟩) (by assumption) ?r86
      case y86 => (intro w hSw; (try dsimp only at hSw); (try (go_split_ands)); go_simp; try with_reducible rfl)
      try simp only [Act.put, List.setIfInBounds_toArray, List.set_cons_zero, List.set_cons_succ]
      refine wpAnyH_take (i := 7) (oi := { dst := some 81, op := Op.load 2 (Operand.tmp 80), type := 2, pos := "ref.go:20", after := #[{ on := 6, ground := Ground.data }], guard := none }) (v := ?v87) rfl (by kernel_rfl) (by kernel_rfl) (by kernel_rfl) (fun _ _ _ h => h) (Or.inl ⟨by rfl, ?y87⟩) (by assumption) ?r87
      case y87 => (intro w hSw; (try dsimp only at hSw); (try (go_split_ands)); go_simp; try with_reducible rfl)
      try simp only [Act.put, List.setIfInBounds_toArray, List.set_cons_zero, List.set_cons_succ]
      refine wpAnyH_take (i := 8) (oi := { dst := some 82, op := Op.binOp BinOp.quo 2 (Operand.tmp 81) (Operand.const (Value.int IntKind.i64 1000000000)) 2, type := 2, pos := "ref.go:20", after := #[{ on := 7, ground := Ground.data }], guard := none }) (v := ?v88) rfl (by kernel_rfl) (by kernel_rfl) (by kernel_rfl) (fun _ _ _ h => h) (Or.inl ⟨by rfl, ?y88⟩) (by assumption) ?r88
      case y88 => (intro w hSw; (try dsimp only at hSw); (try (go_split_ands)); go_simp; try with_reducible rfl)
      try simp only [Act.put, List.setIfInBounds_toArray, List.set_cons_zero, List.set_cons_succ]
      clear hHeld
      refine wpAnyH_ready (rs := [3]) (by kernel_rfl) (by simp) ?_
      refine AllReadyH.cons (o := { dst := some 77, op := Op.load 2 (Operand.tmp 76), type := 2, pos := "ref.go:20", after := #[{ on := 2, ground := Ground.data }], guard := none }) rfl (fun K hK => ?_) AllReadyH.nil
      go_simp
      refine hK.out _ _ hd.out (fun hHeld => ?_)
      clear hK K
      try simp only [Act.put, List.setIfInBounds_toArray, List.set_cons_zero, List.set_cons_succ]
      refine wpAnyH_take (i := 9) (oi := { dst := some 83, op := Op.binOp BinOp.add 2 (Operand.tmp 77) (Operand.tmp 82) 2, type := 2, pos := "ref.go:20", after := #[{ on := 3, ground := Ground.data }, { on := 8, ground := Ground.data }], guard := none }) (v := ?v89) rfl (by kernel_rfl) (by kernel_rfl) (by kernel_rfl) (fun _ _ _ h => h) (Or.inl ⟨by rfl, ?y89⟩) (by assumption) ?r89
      case y89 => (intro w hSw; (try dsimp only at hSw); (try (go_split_ands)); go_simp; try with_reducible rfl)
      try simp only [Act.put, List.setIfInBounds_toArray, List.set_cons_zero, List.set_cons_succ]
      refine wpAnyH_take (i := 10) (oi := { dst := some 84, op := Op.nilCheck (Operand.tmp 74), type := 0, pos := "ref.go:20", after := #[{ on := 0, ground := Ground.data }, { on := 0, ground := Ground.phase }, { on := 1, ground := Ground.phase }, { on := 2, ground := Ground.phase }, { on := 3, ground := Ground.phase }, { on := 4, ground := Ground.phase }, { on := 5, ground := Ground.phase }, { on := 6, ground := Ground.phase }, { on := 7, ground := Ground.phase }, { on := 8, ground := Ground.phase }, { on := 9, ground := Ground.phase }], guard := none }) (v := ?v90) rfl (by kernel_rfl) (by kernel_rfl) (by kernel_rfl) (fun _ _ _ h => h) (Or.inl ⟨by rfl, ?y90⟩) (by assumption) ?r90
      case y90 => (intro w hSw; (try dsimp only at hSw); (try (go_split_ands)); go_simp; try with_reducible rfl)
      try simp only [Act.put, List.setIfInBounds_toArray, List.set_cons_zero, List.set_cons_succ]
      refine wpAnyH_take (i := 11) (oi := { dst := some 85, op := Op.fieldAddr 32 (Operand.tmp 84) 0, type := 0, pos := "ref.go:20", after := #[{ on := 10, ground := Ground.data }, { on := 0, ground := Ground.phase }, { on := 1, ground := Ground.phase }, { on := 2, ground := Ground.phase }, { on := 3, ground := Ground.phase }, { on := 4, ground := Ground.phase }, { on := 5, ground := Ground.phase }, { on := 6, ground := Ground.phase }, { on := 7, ground := Ground.phase }, { on := 8, ground := Ground.phase }, { on := 9, ground := Ground.phase }], guard := none }) (v := ?v91) rfl (by kernel_rfl) (by kernel_rfl) (by kernel_rfl) (fun _ _ _ h => h) (Or.inl ⟨by rfl, ?y91⟩) (by assumption) ?r91
      case y91 => (intro w hSw; (try dsimp only at hSw); (try (go_split_ands)); go_simp; try with_reducible rfl)
      try simp only [Act.put, List.setIfInBounds_toArray, List.set_cons_zero, List.set_cons_succ]
      try rw [hw1.out]
      try rw [hw2.out]
      clear hHeld
      refine wpAnyH_ready (rs := [12]) (by kernel_rfl) (by simp) ?_
      refine AllReadyH.cons (o := { dst := none, op := Op.store 2 (Operand.tmp 85) (Operand.tmp 83), type := 0, pos := "ref.go:20", after := #[{ on := 11, ground := Ground.data }, { on := 9, ground := Ground.data }, { on := 0, ground := Ground.phase }, { on := 1, ground := Ground.phase }, { on := 2, ground := Ground.phase }, { on := 3, ground := Ground.phase }, { on := 4, ground := Ground.phase }, { on := 5, ground := Ground.phase }, { on := 6, ground := Ground.phase }, { on := 7, ground := Ground.phase }, { on := 8, ground := Ground.phase }, { on := 9, ground := Ground.phase }], guard := none }) rfl (fun K hK => ?_) AllReadyH.nil
      go_simp
      refine hK.out _ _ ?_ (fun hHeld => ?_)
      · exact (World.cell?_setCell_other _ _ _ _ (fun e => by simp only [Addr.mk.injEq] at e; omega)).trans hd.out
      clear hK K
      try simp only [Act.put]
      refine wpAnyH_done (by kernel_rfl) ?_ _
      refine NoPanic.normal ?_
      clear hHeld kk zz hd
      generalize (wd.setCell ⟨b, 0, none⟩ (.int .i64 (b1 + p1 / 1000000000))).drew = we at *
      have hR := hR2
      have hC := hC2
      clear hR2 hC2
      clear hw1 hw2
      have k0 := hR.out.c0
      have k1 := hR.out.c1
      have k2 := hR.out.c2
      have k3 := hR.out.c3
      have z0 := hR.out.fz 0
      have z1 := hR.out.fz 1
      have hb2 : 0 ≤ b1 + p1 / 1000000000 ∧ b1 + p1 / 1000000000 ≤ 20000010000 := by omega
      generalize hb2e : b1 + p1 / 1000000000 = b2 at *
      replace hb2e := hide hb2e
      go_wp2_with fail
      generalize hp2e : p1 % 1000000000 = p2 at *
      have hR2 : Hid (BR (((we.setCell ⟨b, 1, none⟩ (.int .i64 p2)).setCell ⟨b, 0, none⟩ (.int .i64 (b2 + H / 1000000))).setCell ⟨b, 1, none⟩ (.int .i64 (p2 + H % 1000000 * 1000))) b (b2 + H / 1000000) (p2 + H % 1000000 * 1000) r m) := ((hR.out.set1 _).set0 _).set1 _
      have hC2 : Hid (Ch (· = b) w (((we.setCell ⟨b, 1, none⟩ (.int .i64 p2)).setCell ⟨b, 0, none⟩ (.int .i64 (b2 + H / 1000000))).setCell ⟨b, 1, none⟩ (.int .i64 (p2 + H % 1000000 * 1000)))) := ((hC.out.set _).set _).set _
      clear hR hC k0 k1 k2 k3 z0 z1
      have hR := hR2
      have hC := hC2
      clear hR2 hC2
      generalize (((we.setCell ⟨b, 1, none⟩ (.int .i64 p2)).setCell ⟨b, 0, none⟩ (.int .i64 (b2 + H / 1000000))).setCell ⟨b, 1, none⟩ (.int .i64 (p2 + H % 1000000 * 1000))) = wf at *
      have hp2 : 0 ≤ p2 ∧ p2 < 1000000000 := by omega
      replace hp2e := hide hp2e
      have hb3 : 0 ≤ b2 + H / 1000000 ∧ b2 + H / 1000000 ≤ 40000000000 := by omega
      have hp3 : 0 ≤ p2 + H % 1000000 * 1000 ∧ p2 + H % 1000000 * 1000 ≤ 2000000000 := by omega
      generalize hb3e : b2 + H / 1000000 = b3 at *
      replace hb3e := hide hb3e
      generalize hp3e : p2 + H % 1000000 * 1000 = p3 at *
      replace hp3e := hide hp3e
      have hm5 := hide (fun b4 => hm4.out b4 p3 rfl)
      clear hm4
      have k0 := hR.out.c0
      have k1 := hR.out.c1
      have k2 := hR.out.c2
      have k3 := hR.out.c3
      have z0 := hR.out.fz 0
      have z1 := hR.out.fz 1
      have hw1 : Hid (IntKind.i64.wrap (p3.tdiv 1000000000) = p3 / 1000000000) := IntWalk.i64_quo _ _ (by omega)
      have hw2 : Hid (IntKind.i64.wrap (b3 + p3 / 1000000000) = b3 + p3 / 1000000000) := IntWalk.i64_in _ (by omega)
      go_wp2_with fail
      have hd : Hid (wf.drew.cell? ⟨b, 1, none⟩ = some (.int .i64 p3)) := k1
      have kk : wf.drew.cell? ⟨b, 0, none⟩ = some (.int .i64 b3) := k0
      have zz : wf.drew.frozen? ⟨b, 0, none⟩ = false := z0
      have hR2 : Hid (BR (wf.setCell ⟨b, 0, none⟩ (.int .i64 (b3 + p3 / 1000000000))).drew b (b3 + p3 / 1000000000) p3 r m) := BR.set0 (w := wf.drew) hR.out _
      have hC2 : Hid (Ch (· = b) w (wf.setCell ⟨b, 0, none⟩ (.int .i64 (b3 + p3 / 1000000000))).drew) := hC.out.drew.set _
      clear hR hC k0 k1 k2 k3 z0 z1
      refine wp_region_noPanic ?_
      refine wp_region_held_drew (S := fun W => W.cell? ⟨b, 1, none⟩ = some (.int .i64 p3)) (by kernel_rfl) hd.out (fun hHeld => ?_)
      refine wpAnyH_take (i := 0) (oi := { dst := some 116, op := Op.move (Operand.tmp 0), type := 66, pos := "ref.go:25", after := #[], guard := none }) (v := ?v92) rfl (by kernel_rfl) (by kernel_rfl) (by kernel_rfl) (fun _ _ _ h => h) (Or.inl ⟨by rfl, ?y92⟩) (by assumption) ?r92
      case y92 => (intro w hSw; (try dsimp only at hSw); (try (go_split_ands)); go_simp; try with_reducible rfl)
      try simp only [Act.put, List.setIfInBounds_toArray, List.set_cons_zero, List.set_cons_succ]
      refine wpAnyH_take (i := 1) (oi := { dst := some 117, op := Op.nilCheck (Operand.tmp 116), type := 0, pos := "ref.go:25", after := #[{ on := 0, ground := Ground.data }], guard := none }) (v := ?v93) rfl (by kernel_rfl) (by kernel_rfl) (by kernel_rfl) (fun _ _ _ h => h) (Or.inl ⟨by rfl, ?y93⟩) (by assumption) ?r93
      case y93 => (intro w hSw; (try dsimp only at hSw); (try (go_split_ands)); go_simp; try with_reducible rfl)
      try simp only [Act.put, List.setIfInBounds_toArray, List.set_cons_zero, List.set_cons_succ]
      refine wpAnyH_take (i := 2) (oi := { dst := some 118, op := Op.fieldAddr 32 (Operand.tmp 117) 0, type := 0, pos := "ref.go:25", after := #[{ on := 1, ground := Ground.data }], guard := none }) (v := ?v94) rfl (by kernel_rfl) (by kernel_rfl) (by kernel_rfl) (fun _ _ _ h => h) (Or.inl ⟨by rfl, ?y94⟩) (by assumption) ?r94
      case y94 => (intro w hSw; (try dsimp only at hSw); (try (go_split_ands)); go_simp; try with_reducible rfl)
      try simp only [Act.put, List.setIfInBounds_toArray, List.set_cons_zero, List.set_cons_succ]
      refine wpAnyH_take (i := 4) (oi := { dst := some 120, op := Op.move (Operand.tmp 0), type := 66, pos := "ref.go:25", after := #[], guard := none }) (v := ?v95) rfl (by kernel_rfl) (by kernel_rfl) (by kernel_rfl) (fun _ _ _ h => h) (Or.inl ⟨by rfl, ?y95⟩) (by assumption) ?r95
      case y95 => (intro w hSw; (try dsimp only at hSw); (try (go_split_ands)); go_simp; try with_reducible rfl)
      try simp only [Act.put, List.setIfInBounds_toArray, List.set_cons_zero, List.set_cons_succ]
      refine wpAnyH_take (i := 5) (oi := { dst := some 121, op := Op.nilCheck (Operand.tmp 120), type := 0, pos := "ref.go:25", after := #[{ on := 4, ground := Ground.data }], guard := none }) (v := ?v96) rfl (by kernel_rfl) (by kernel_rfl) (by kernel_rfl) (fun _ _ _ h => h) (Or.inl ⟨by rfl, ?y96⟩) (by assumption) ?r96
      case y96 => (intro w hSw; (try dsimp only at hSw); (try (go_split_ands)); go_simp; try with_reducible rfl)
      try simp only [Act.put, List.setIfInBounds_toArray, List.set_cons_zero, List.set_cons_succ]
      refine wpAnyH_take (i := 6) (oi := { dst := some 122, op := Op.fieldAddr 32 (Operand.tmp 121) 1, type := 0, pos := "ref.go:25", after := #[{ on := 5, ground := Ground.data }], guard := none }) (v := ?v97) rfl (by kernel_rfl) (by kernel_rfl) (by kernel_rfl) (fun _ _ _ h => h) (Or.inl ⟨by rfl, ?y97⟩) (by assumption) ?r97
      case y97 => (intro w hSw; (try dsimp only at hSw); (try (go_split_ands)); go_simp; try with_reducible rfl)
      try simp only [Act.put, List.setIfInBounds_toArray, List.set_cons_zero, List.set_cons_succ]
      refine wpAnyH_take (i := 7) (oi := { dst := some 123, op := Op.load 2 (Operand.tmp 122), type := 2, pos := "ref.go:25", after := #[{ on := 6, ground := Ground.data }], guard := none }) (v := ?v98) rfl (by kernel_rfl) (by kernel_rfl) (by kernel_rfl) (fun _ _ _ h => h) (Or.inl ⟨by rfl, ?y98⟩) (by assumption) ?r98
      case y98 => (intro w hSw; (try dsimp only at hSw); (try (go_split_ands)); go_simp; try with_reducible rfl)
      try simp only [Act.put, List.setIfInBounds_toArray, List.set_cons_zero, List.set_cons_succ]
      refine wpAnyH_take (i := 8) (oi := { dst := some 124, op := Op.binOp BinOp.quo 2 (Operand.tmp 123) (Operand.const (Value.int IntKind.i64 1000000000)) 2, type := 2, pos := "ref.go:25", after := #[{ on := 7, ground := Ground.data }], guard := none }) (v := ?v99) rfl (by kernel_rfl) (by kernel_rfl) (by kernel_rfl) (fun _ _ _ h => h) (Or.inl ⟨by rfl, ?y99⟩) (by assumption) ?r99
      case y99 => (intro w hSw; (try dsimp only at hSw); (try (go_split_ands)); go_simp; try with_reducible rfl)
      try simp only [Act.put, List.setIfInBounds_toArray, List.set_cons_zero, List.set_cons_succ]
      clear hHeld
      refine wpAnyH_ready (rs := [3]) (by kernel_rfl) (by simp) ?_
      refine AllReadyH.cons (o := { dst := some 119, op := Op.load 2 (Operand.tmp 118), type := 2, pos := "ref.go:25", after := #[{ on := 2, ground := Ground.data }], guard := none }) rfl (fun K hK => ?_) AllReadyH.nil
      go_simp
      refine hK.out _ _ hd.out (fun hHeld => ?_)
      clear hK K
      try simp only [Act.put, List.setIfInBounds_toArray, List.set_cons_zero, List.set_cons_succ]
      refine wpAnyH_take (i := 9) (oi := { dst := some 125, op := Op.binOp BinOp.add 2 (Operand.tmp 119) (Operand.tmp 124) 2, type := 2, pos := "ref.go:25", after := #[{ on := 3, ground := Ground.data }, { on := 8, ground := Ground.data }], guard := none }) (v := ?v100) rfl (by kernel_rfl) (by kernel_rfl) (by kernel_rfl) (fun _ _ _ h => h) (Or.inl ⟨by rfl, ?y100⟩) (by assumption) ?r100
      case y100 => (intro w hSw; (try dsimp only at hSw); (try (go_split_ands)); go_simp; try with_reducible rfl)
      try simp only [Act.put, List.setIfInBounds_toArray, List.set_cons_zero, List.set_cons_succ]
      refine wpAnyH_take (i := 10) (oi := { dst := some 126, op := Op.nilCheck (Operand.tmp 116), type := 0, pos := "ref.go:25", after := #[{ on := 0, ground := Ground.data }, { on := 0, ground := Ground.phase }, { on := 1, ground := Ground.phase }, { on := 2, ground := Ground.phase }, { on := 3, ground := Ground.phase }, { on := 4, ground := Ground.phase }, { on := 5, ground := Ground.phase }, { on := 6, ground := Ground.phase }, { on := 7, ground := Ground.phase }, { on := 8, ground := Ground.phase }, { on := 9, ground := Ground.phase }], guard := none }) (v := ?v101) rfl (by kernel_rfl) (by kernel_rfl) (by kernel_rfl) (fun _ _ _ h => h) (Or.inl ⟨by rfl, ?y101⟩) (by assumption) ?r101
      case y101 => (intro w hSw; (try dsimp only at hSw); (try (go_split_ands)); go_simp; try with_reducible rfl)
      try simp only [Act.put, List.setIfInBounds_toArray, List.set_cons_zero, List.set_cons_succ]
      refine wpAnyH_take (i := 11) (oi := { dst := some 127, op := Op.fieldAddr 32 (Operand.tmp 126) 0, type := 0, pos := "ref.go:25", after := #[{ on := 10, ground := Ground.data }, { on := 0, ground := Ground.phase }, { on := 1, ground := Ground.phase }, { on := 2, ground := Ground.phase }, { on := 3, ground := Ground.phase }, { on := 4, ground := Ground.phase }, { on := 5, ground := Ground.phase }, { on := 6, ground := Ground.phase }, { on := 7, ground := Ground.phase }, { on := 8, ground := Ground.phase }, { on := 9, ground := Ground.phase }], guard := none }) (v := ?v102) rfl (by kernel_rfl) (by kernel_rfl) (by kernel_rfl) (fun _ _ _ h => h) (Or.inl ⟨by rfl, ?y102⟩) (by assumption) ?r102
      case y102 => (intro w hSw; (try dsimp only at hSw); (try (go_split_ands)); go_simp; try with_reducible rfl)
      try simp only [Act.put, List.setIfInBounds_toArray, List.set_cons_zero, List.set_cons_succ]
      try rw [hw1.out]
      try rw [hw2.out]
      clear hHeld
      refine wpAnyH_ready (rs := [12]) (by kernel_rfl) (by simp) ?_
      refine AllReadyH.cons (o := { dst := none, op := Op.store 2 (Operand.tmp 127) (Operand.tmp 125), type := 0, pos := "ref.go:25", after := #[{ on := 11, ground := Ground.data }, { on := 9, ground := Ground.data }, { on := 0, ground := Ground.phase }, { on := 1, ground := Ground.phase }, { on := 2, ground := Ground.phase }, { on := 3, ground := Ground.phase }, { on := 4, ground := Ground.phase }, { on := 5, ground := Ground.phase }, { on := 6, ground := Ground.phase }, { on := 7, ground := Ground.phase }, { on := 8, ground := Ground.phase }, { on := 9, ground := Ground.phase }], guard := none }) rfl (fun K hK => ?_) AllReadyH.nil
      go_simp
      refine hK.out _ _ ?_ (fun hHeld => ?_)
      · exact (World.cell?_setCell_other _ _ _ _ (fun e => by simp only [Addr.mk.injEq] at e; omega)).trans hd.out
      clear hK K
      try simp only [Act.put]
      refine wpAnyH_done (by kernel_rfl) ?_ _
      refine NoPanic.normal ?_
      clear hHeld kk zz hd
      generalize (wf.setCell ⟨b, 0, none⟩ (.int .i64 (b3 + p3 / 1000000000))).drew = wg at *
      have hR := hR2
      have hC := hC2
      clear hR2 hC2
      have hm6 := hide (hm5.out _ rfl)
      clear hm5 hw1 hw2
      have k0 := hR.out.c0
      have k1 := hR.out.c1
      have k2 := hR.out.c2
      have k3 := hR.out.c3
      have z0 := hR.out.fz 0
      have z1 := hR.out.fz 1
      generalize hb4e : b3 + p3 / 1000000000 = b4 at *
      replace hb4e := hide hb4e
      go_wp2_with fail
      generalize hp4e : p3 % 1000000000 = p4 at *
      replace hp4e := hide hp4e
      have hR2 : Hid (BR (wg.setCell ⟨b, 1, none⟩ (.int .i64 p4)) b b4 p4 r m) := hR.out.set1 _
      have hC2 : Hid (Ch (· = b) w (wg.setCell ⟨b, 1, none⟩ (.int .i64 p4))) := hC.out.set _
      clear hR hC k0 k1 k2 k3 z0 z1
      have hR := hR2
      have hC := hC2
      clear hR2 hC2
      generalize (wg.setCell ⟨b, 1, none⟩ (.int .i64 p4)) = wh at *
      have k0 := hR.out.c0
      have k1 := hR.out.c1
      have k2 := hR.out.c2
      have k3 := hR.out.c3
      have z0 := hR.out.fz 0
      have z1 := hR.out.fz 1
      go_quiet (fail)
      have hC2 : Hid (Ch (· = b) w (wh.drewN nq)) := hC.out.trans (Ch.of_below (below_drewN (Below.refl _ _) nq))
      have hR2 : Hid (BR (wh.drewN nq) b b4 p4 r m) := hR.out
      clear hR hC k0 k1 k2 k3 z0 z1
      have hR := hR2
      have hC := hC2
      clear hR2 hC2
      generalize wh.drewN nq = wi at *
      have k0 := hR.out.c0
      have k1 := hR.out.c1
      have k2 := hR.out.c2
      have k3 := hR.out.c3
      have z0 := hR.out.fz 0
      have z1 := hR.out.fz 1
      by_cases hge : m ≤ b4
      · obtain ⟨v1, v2⟩ := hm6.out
        rw [if_pos hge] at v1 v2
        have hR3 : Hid (BR ((wi.setCell ⟨b, 0, none⟩ (.int .i64 m)).setCell ⟨b, 1, none⟩ (.int .i64 0)) b m 0 r m) := (hR.out.set0 _).set1 _
        have hC3 : Hid (Ch (· = b) w ((wi.setCell ⟨b, 0, none⟩ (.int .i64 m)).setCell ⟨b, 1, none⟩ (.int .i64 0))) := (hC.out.set _).set _
        replace v1 := hide v1
        replace v2 := hide v2
        clear hR hC hm6
        go_wp2
        exact v_end rfl rfl ⟨rfl, by rw [← v1.out, ← v2.out]; exact hR3.out, hC3.out⟩
      · obtain ⟨v1, v2⟩ := hm6.out
        rw [if_neg hge] at v1 v2
        replace v1 := hide v1
        replace v2 := hide v2
        clear hm6
        go_wp2
        exact v_end rfl rfl ⟨rfl, by rw [← v1.out, ← v2.out]; exact hR.out, hC.out⟩
end Go.Proofs.Ytmacdghkbmjdmaa
