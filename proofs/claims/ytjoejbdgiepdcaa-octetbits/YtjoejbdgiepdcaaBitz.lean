/-
  The walk of the statement OctetBits: whatever the number and the places, it answers true and writes nothing that was there.
-/
import Derived.Test.YtjoejbdgiepdcaaLays
import Derived.OpenShut
namespace Go.Proofs.Ytjoejbdgiepdcaa
open Go.RowKit

theorem bits_step (x : Int) (j : Nat) (h : 0 ≤ x) : x / 2 % 2 ^ j * 2 + x % 2 = x % 2 ^ (j + 1) := by
  obtain ⟨x, rfl⟩ := Int.eq_ofNat_of_zero_le h
  have : x / 2 % 2 ^ j * 2 + x % 2 = x % 2 ^ (j + 1) := by
    rw [Nat.pow_succ, Nat.mul_comm (2 ^ j) 2, Nat.mod_mul]
    omega
  have h2 := congrArg (Nat.cast (R := Int)) this
  push_cast at h2
  exact h2
theorem emod_pow_lt (x : Int) (j : Nat) (hj : j ≤ 63) : 0 ≤ x % 2 ^ j ∧ x % 2 ^ j < 9223372036854775808 := by
  have h1 := pow2_pos j
  have h2 : (2 : Int) ^ j ≤ 2 ^ 63 := by
    have : (2 : Nat) ^ j ≤ 2 ^ 63 := Nat.pow_le_pow_right (by decide) hj
    exact_mod_cast this
  have h3 : (2 : Int) ^ 63 = 9223372036854775808 := by decide
  have h4 := Int.emod_lt_of_pos x h1
  have h5 := Int.emod_nonneg x (show (2 : Int) ^ j ≠ 0 by omega)
  omega
/-- One round of the loop: 'want*2 + bits[i]'. -/
theorem want_step (n : Int) (t j : Nat) (h0 : 0 ≤ n) (hj : j < t) (ht : t ≤ 64) :
    IntKind.u64.wrap (IntKind.u64.wrap (n / 2 ^ (t - j) % 2 ^ j * 2) + n / 2 ^ (t - 1 - j) % 2) = n / 2 ^ (t - (j + 1)) % 2 ^ (j + 1) := by
  have hx : 0 ≤ n / 2 ^ (t - 1 - j) := Int.ediv_nonneg h0 (Int.le_of_lt (pow2_pos _))
  have e1 : n / 2 ^ (t - j) = n / 2 ^ (t - 1 - j) / 2 := by
    rw [show t - j = (t - 1 - j) + 1 by omega, Int.pow_succ, Int.ediv_ediv_of_nonneg (Int.le_of_lt (pow2_pos _))]
  rw [e1, show t - (j + 1) = t - 1 - j by omega, ← bits_step _ j hx]
  generalize n / 2 ^ (t - 1 - j) = x at *
  have hb := emod_pow_lt (x / 2) j (by omega)
  rw [IntKind.wrap_u64, IntKind.wrap_u64, Int.emod_eq_of_lt (a := x / 2 % 2 ^ j * 2) (by omega) (by omega), Int.emod_eq_of_lt (by omega) (by omega)]
theorem bitRow_at (n : Int) (i : Nat) (h : i < 64) : (bitRow n 64)[i]? = some (.int .u64 (n / 2 ^ i % 2)) := by
  rw [List.getElem?_eq_getElem (by rw [bitRow_length]; exact h)]
  simp only [bitRow, List.getElem_map, List.getElem_range]
  rw [if_pos h]

theorem Try.size64 : (Try.prog.info? 37).map (·.size) = some 64 := by kernel_rfl
theorem bitRow_size (n : Int) : (Try.prog.info? 37).map (·.size) = some (bitRow n 64).toArray.size := by rw [List.size_toArray, bitRow_length]; exact Try.size64
theorem bitRow_all (n : Int) : (bitRow n 64).toArray.all (·.oneCell') = true := by
  rw [Array.all_eq_true_iff_forall_mem]
  intro v hv
  simp only [bitRow, List.mem_toArray, List.mem_map] at hv
  obtain ⟨p, _, rfl⟩ := hv
  split <;> rfl
theorem zeros_size (n : Int) : zeros64.size = (bitRow n 64).toArray.size := by simp [zeros64, bitRow_length]

/-- A whole array stored into a block that was just laid: what the world is good for behind it. -/
theorem wpList_store_fresh {P : Program} {ops : Array Oper} {rest : List Oper} {o : Oper} {a : Act} {w2 : World} {Q : Exit → Act → World → Prop} (hgd : o.guard = none) (ty : TypeId) (x y : Operand) (ho : o.op = .store ty x y)
    (cells old : Array Value) (hx : a.eval x = .pointer (some ⟨w2.heap.size, 0, none⟩)) (hy : a.eval y = .agg cells)
    (t : TypeId) (hi : (P.info? ty).map (·.size) = some cells.size) (hold : old.size = cells.size) (h1 : cells.all (·.oneCell') = true)
    (h : ∀ w3 : World, w3.heap[w2.heap.size]? = some (.cells cells t (0, 0)) → Below w2.heap.size w2 w3 → wpList P ops Q rest (a.put o.dst undef) w3) : wpList P ops Q (o :: rest) a (w2.alloc (.cells old t)) := by
  refine wpList_store_row hgd ty x y ho w2.heap.size cells hx hy t old (heap_alloc_new w2 _) hi hold h1 ?_
  exact h _ (setRow_heap _ _ _ _ _ _ (heap_alloc_new w2 _)) (below_setRow ((Below.refl _ _).alloc (Nat.le_refl _) _) (Nat.le_refl _) _)

set_option maxRecDepth 10000 in
set_option maxHeartbeats 1000000 in
theorem Bitz_walk (n a b : Int) (w : World) (h0 : 0 ≤ n) (hn : n < 18446744073709551616) (ha1 : -9223372036854775808 ≤ a) (ha2 : a ≤ 9223372036854775807) (hb1 : -9223372036854775808 ≤ b) (hb2 : b ≤ 9223372036854775807) :
    Calls Try.prog 5 #[.int .u64 n, .int .i64 a, .int .i64 b] w fun e w' => e = .returned (.bool true) ∧ Below w.heap.size w w' := by
  go_enter Try.func5, Try.ntmps5
  go_wp2_with fail
  refine (lays_any w).mono ?_
  rintro e w1 ⟨rfl, hw1⟩
  go_wp2_with fail
  refine (RBits_any n _ h0 hn).mono ?_
  rintro e w2 ⟨rfl, hw2⟩
  have hw : Below w.heap.size w w2 := hw1.trans (hw2.mono hw1.size)
  have HW := hide hw
  clear hw hw1 hw2
  go_wp2_with ((refine wpList_store_fresh rfl 37 _ _ rfl (bitRow n 64).toArray _ rfl rfl 37 (bitRow_size n) (zeros_size n) (bitRow_all n) ?_); intro w3 hG hb3)
  have hW3 := hide (HW.out.trans (hb3.mono HW.out.size))
  have hcell : ∀ i : Nat, i < 64 → w3.cell? ⟨w2.heap.size, i, none⟩ = some (.int .u64 (n / 2 ^ i % 2)) := fun i hi => by
    rw [cell_of_row _ _ _ _ _ _ hG, List.getElem?_toArray, bitRow_at n i hi]
  have HC := hide hcell
  clear hcell hG hb3 HW
  rcases (show (a < 0 ∨ 64 ≤ a) ∨ (0 ≤ a ∧ a < 64) from by omega) with hout | ⟨hin, hin2⟩
  · refine (Bit_out n a _ hout).mono ?_
    rintro e w3' ⟨rfl, rfl⟩
    have hO := hide (Bits_out n a b w3' (by omega))
    rcases (show a < 0 ∨ (0 ≤ a ∧ 64 ≤ a ∧ 64 < b) ∨ (0 ≤ a ∧ 64 ≤ a ∧ b ≤ 64 ∧ b ≤ a) from by omega) with hc | ⟨hc, hc1, hc2⟩ | ⟨hc, hc1, hc2, hc3⟩
    all_goals
      clear hout
      go_wp2_with fail
      refine hO.out.mono ?_
      rintro e w3'' ⟨rfl, rfl⟩
      go_wp2
      go_ret
      exact ⟨rfl, hW3.out⟩
  · obtain ⟨a, rfl⟩ := Int.eq_ofNat_of_zero_le hin
    have hca := HC.out a (by omega)
    refine (Bit_in n a _ h0 hn (by omega)).mono ?_
    rintro e w3' ⟨rfl, rfl⟩
    have hO := fun h => hide (Bits_out n a b w3' h)
    have hI : Hid (∀ k : Nat, a < k → k ≤ 64 → Calls Try.prog 17 #[.int .u64 n, .int .i64 a, .int .i64 (k : Int)] w3' fun e w' => e = .returned (.int .u64 (n / 2 ^ a % 2 ^ (k - a))) ∧ w' = w3') := fun k h1 h2 => Bits_in n a k w3' h0 hn h1 h2
    rcases (show (64 < b ∨ (b ≤ 64 ∧ b ≤ (a : Int))) ∨ ((a : Int) < b ∧ b ≤ 64) from by omega) with hc | ⟨hc, hc1⟩
    · have hO' := hO (by omega)
      clear hO hI
      by_cases ha0 : a = 0
      · subst ha0
        rcases hc with hc | ⟨hc, hc1⟩
        all_goals
          go_wp2_with fail
          refine hO'.out.mono ?_
          rintro e w3'' ⟨rfl, rfl⟩
          go_wp2
          go_ret
          exact ⟨rfl, hW3.out⟩
      · have hap : 0 < (a : Int) := by omega
        rcases hc with hc | ⟨hc, hc1⟩
        all_goals
          go_wp2_with fail
          refine hO'.out.mono ?_
          rintro e w3'' ⟨rfl, rfl⟩
          go_wp2
          go_ret
          exact ⟨rfl, hW3.out⟩
    · obtain ⟨b, rfl⟩ := Int.eq_ofNat_of_zero_le (show 0 ≤ b by omega)
      have hI' := hide (hI.out b (by omega) (by omega))
      clear hO hI
      by_cases ha0 : a = 0
      · subst ha0
        go_wp2_with fail
        refine hI'.out.mono ?_
        rintro e w3'' ⟨rfl, rfl⟩
        go_wp2
        go_loop [9, 10] (fun x i => ∃ j : Nat, j ≤ b - 0 ∧ i = .int .i64 ((b : Int) - 1 - j) ∧ x = .int .u64 (n / 2 ^ (b - j) % 2 ^ j)) (fun _ i => (intOf i + 1).toNat)
        case atStart => exact ⟨0, Nat.zero_le _, by simp, by simp⟩
        case round =>
          obtain ⟨j, hj, rfl, rfl⟩ := hrel
          by_cases hlt : j < b - 0
          · have hcj := HC.out (b - 1 - j) (by omega)
            have ht : ((b : Int) - 1 - j).toNat = b - 1 - j := by omega
            go_wp2
            rw [want_step n b j h0 (by omega) (by omega)]
            go_round
            case rel => exact ⟨j + 1, by omega, by congr 1; omega, rfl⟩
            case measure => simp [intOf]; omega
          · go_wp2
            go_ret
            have e1 : b - j = 0 := by omega
            have e2 : j = b - 0 := by omega
            exact ⟨by rw [e1, e2]; simp, hW3.out⟩
      · have hap : 0 < (a : Int) := by omega
        go_wp2_with fail
        refine hI'.out.mono ?_
        rintro e w3'' ⟨rfl, rfl⟩
        go_wp2
        go_loop [9, 10] (fun x i => ∃ j : Nat, j ≤ b - a ∧ i = .int .i64 ((b : Int) - 1 - j) ∧ x = .int .u64 (n / 2 ^ (b - j) % 2 ^ j)) (fun _ i => (intOf i + 1).toNat)
        case atStart => exact ⟨0, Nat.zero_le _, by simp, by simp⟩
        case round =>
          obtain ⟨j, hj, rfl, rfl⟩ := hrel
          by_cases hlt : j < b - a
          · have hcj := HC.out (b - 1 - j) (by omega)
            have ht : ((b : Int) - 1 - j).toNat = b - 1 - j := by omega
            go_wp2
            rw [want_step n b j h0 (by omega) (by omega)]
            go_round
            case rel => exact ⟨j + 1, by omega, by congr 1; omega, rfl⟩
            case measure => simp [intOf]; omega
          · go_wp2
            go_ret
            have e1 : b - j = a := by omega
            have e2 : j = b - a := by omega
            exact ⟨by rw [e1, ← e2]; simp, hW3.out⟩
end Go.Proofs.Ytjoejbdgiepdcaa
