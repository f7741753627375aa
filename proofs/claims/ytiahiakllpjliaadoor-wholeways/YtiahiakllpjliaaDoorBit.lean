
/-
  Contracts of octet.Bit, octet.Bits, and of the document's own Bits. Conditions: those that each theorem names.
-/
import Derived.Test.YtiahiakllpjliaaDoorRd
import Derived.Laws.Tables
import Derived.Laws.CopyOwn
namespace Go.Proofs.YtiahiakllpjliaaDoor
open Go.RowKit

theorem pow2_pos (i : Nat) : (0 : Int) < 2 ^ i := Int.pow_pos (by decide)
theorem toNat_pow2 (i : Nat) : ((2 : Int) ^ i).toNat = 2 ^ i := by
  have : ((2 : Int) ^ i) = ((2 ^ i : Nat) : Int) := by push_cast; rfl
  rw [this]; rfl
theorem and_one (x : Int) (h0 : 0 ≤ x) (h : x < 18446744073709551616) : bits .and .u64 x 1 = x % 2 := by
  rw [u64_and _ _ h0 h (by decide) (by decide)]
  rw [show (1 : Int).toNat = 1 from rfl, nat_mask1]
  omega
theorem and_mask (x : Int) (k : Nat) (hk : k ≤ 64) (h0 : 0 ≤ x) (h : x < 18446744073709551616) :
    bits .and .u64 x (IntKind.u64.wrap (IntKind.u64.wrap (2 ^ k) - 1)) = x % 2 ^ k := by
  have e : IntKind.u64.wrap (IntKind.u64.wrap (2 ^ k) - 1) = 2 ^ k - 1 := by
    rw [IntKind.wrap_u64, IntKind.wrap_u64]
    by_cases hk' : k = 64
    · subst hk'; decide
    · have h1 : (2 : Int) ^ k ≤ 2 ^ 63 := by
        have : (2 : Nat) ^ k ≤ 2 ^ 63 := Nat.pow_le_pow_right (by decide) (by omega)
        exact_mod_cast this
      have h2 := pow2_pos k
      have h3 : (2 : Int) ^ 63 = 9223372036854775808 := by decide
      rw [Int.emod_eq_of_lt (by omega) (by omega), Int.emod_eq_of_lt (by omega) (by omega)]
  have h1 : (2 : Int) ^ k ≤ 2 ^ 64 := by
    have : (2 : Nat) ^ k ≤ 2 ^ 64 := Nat.pow_le_pow_right (by decide) hk
    exact_mod_cast this
  have h2 := pow2_pos k
  have h3 : (2 : Int) ^ 64 = 18446744073709551616 := by decide
  rw [e, u64_and _ _ h0 h (by omega) (by omega)]
  have e2 : ((2 : Int) ^ k - 1).toNat = 2 ^ k - 1 := by
    have := toNat_pow2 k
    omega
  rw [e2, Nat.and_two_pow_sub_one_eq_mod]
  obtain ⟨m, rfl⟩ := Int.eq_ofNat_of_zero_le h0
  rw [Int.toNat_natCast]
  push_cast
  rfl
theorem div_pow_range (n : Int) (i : Nat) (h0 : 0 ≤ n) (h : n < 18446744073709551616) : 0 ≤ n / 2 ^ i ∧ n / 2 ^ i < 18446744073709551616 := by
  have h1 : 0 ≤ n / 2 ^ i := Int.ediv_nonneg h0 (Int.le_of_lt (pow2_pos i))
  have h2 : n / 2 ^ i ≤ n := Int.ediv_le_self _ h0
  omega

theorem Bit_out (n at_ : Int) (w : World) (h : at_ < 0 ∨ 64 ≤ at_) :
    Calls Tryd.prog 73 #[.int .u64 n, .int .i64 at_] w fun e w' => e = .returned (.bool false) ∧ w' = w := by
  by_cases h1 : at_ < 0
  · clear h
    go_enter Tryd.func73, Tryd.ntmps73
    go_wp2
    go_ret
    exact ⟨by simp, rfl⟩
  · have h2 : 64 ≤ at_ := by omega
    clear h
    go_enter Tryd.func73, Tryd.ntmps73
    go_wp2
    go_ret
    exact ⟨by simp, rfl⟩
theorem Bit_in (n : Int) (k : Nat) (w : World) (h0 : 0 ≤ n) (hn : n < 18446744073709551616) (hk : k < 64) :
    Calls Tryd.prog 73 #[.int .u64 n, .int .i64 k] w fun e w' => e = .returned (.bool (n / 2 ^ k % 2 == 1)) ∧ w' = w := by
  have hr := div_pow_range n k h0 hn
  have ha := and_one _ hr.1 hr.2
  go_enter Tryd.func73, Tryd.ntmps73
  go_wp2
  go_ret
  exact ⟨by simp, rfl⟩
theorem Bits_out (n a b : Int) (w : World) (h : a < 0 ∨ 64 < b ∨ b ≤ a) :
    Calls Tryd.prog 72 #[.int .u64 n, .int .i64 a, .int .i64 b] w fun e w' => e = .returned (.int .u64 0) ∧ w' = w := by
  by_cases h1 : a < 0
  · clear h
    go_enter Tryd.func72, Tryd.ntmps72
    go_wp2
    go_ret
    exact ⟨rfl, rfl⟩
  · by_cases h2 : 64 < b
    · clear h
      go_enter Tryd.func72, Tryd.ntmps72
      go_wp2
      go_ret
      exact ⟨rfl, rfl⟩
    · have h3 : b ≤ a := by omega
      clear h
      go_enter Tryd.func72, Tryd.ntmps72
      go_wp2
      go_ret
      exact ⟨rfl, rfl⟩
theorem Bits_in (n : Int) (a b : Nat) (w : World) (h0 : 0 ≤ n) (hn : n < 18446744073709551616) (hab : a < b) (hb : b ≤ 64) :
    Calls Tryd.prog 72 #[.int .u64 n, .int .i64 a, .int .i64 b] w fun e w' => e = .returned (.int .u64 (n / 2 ^ a % 2 ^ (b - a))) ∧ w' = w := by
  have hr := div_pow_range n a h0 hn
  have ha := and_mask _ (b - a) (by omega) hr.1 hr.2
  have HA := hide ha
  clear ha
  go_enter Tryd.func72, Tryd.ntmps72
  go_wp2
  go_ret
  exact ⟨by rw [← HA.out]; rfl, rfl⟩

/-! The document's own Bits -/
/-- The bits of a number, of which the lowest j are there. -/
def bitRow (n : Int) (j : Nat) : List Value := (List.range 64).map fun p => if p < j then .int .u64 (n / 2 ^ p % 2) else .int .u64 0
theorem bitRow_length (n : Int) (j : Nat) : (bitRow n j).length = 64 := by simp [bitRow]
theorem bitRow_set (n : Int) (j : Nat) (_h : j < 64) : (bitRow n j).set j (.int .u64 (n / 2 ^ j % 2)) = bitRow n (j + 1) := by
  apply List.ext_getElem
  · simp [bitRow]
  · intro p h1 h2
    rw [List.getElem_set]
    simp only [bitRow, List.getElem_map, List.getElem_range]
    by_cases e : j = p
    · subst e; rw [if_pos rfl, if_pos (by omega)]
    · rw [if_neg e]
      by_cases e1 : p < j
      · rw [if_pos e1, if_pos (by omega)]
      · rw [if_neg e1, if_neg (by omega)]
def zeros64 : Array Value := (bitRow 0 0).toArray
theorem zeros64_eq (n : Int) : (bitRow n 0).toArray = zeros64 := rfl
theorem zeros64_lit : zeros64 = #[.int .u64 0, .int .u64 0, .int .u64 0, .int .u64 0, .int .u64 0, .int .u64 0, .int .u64 0, .int .u64 0, .int .u64 0, .int .u64 0, .int .u64 0, .int .u64 0, .int .u64 0, .int .u64 0, .int .u64 0, .int .u64 0, .int .u64 0, .int .u64 0, .int .u64 0, .int .u64 0, .int .u64 0, .int .u64 0, .int .u64 0, .int .u64 0, .int .u64 0, .int .u64 0, .int .u64 0, .int .u64 0, .int .u64 0, .int .u64 0, .int .u64 0, .int .u64 0, .int .u64 0, .int .u64 0, .int .u64 0, .int .u64 0, .int .u64 0, .int .u64 0, .int .u64 0, .int .u64 0, .int .u64 0, .int .u64 0, .int .u64 0, .int .u64 0, .int .u64 0, .int .u64 0, .int .u64 0, .int .u64 0, .int .u64 0, .int .u64 0, .int .u64 0, .int .u64 0, .int .u64 0, .int .u64 0, .int .u64 0, .int .u64 0, .int .u64 0, .int .u64 0, .int .u64 0, .int .u64 0, .int .u64 0, .int .u64 0, .int .u64 0, .int .u64 0] := rfl
theorem quo2_step (n : Int) (j : Nat) (h0 : 0 ≤ n) (h : n < 18446744073709551616) : IntKind.u64.wrap ((n / 2 ^ j).tdiv 2) = n / 2 ^ (j + 1) := by
  have h1 := div_pow_range n j h0 h
  rw [IntKind.wrap_u64, Int.tdiv_eq_ediv_of_nonneg h1.1, Int.emod_eq_of_lt (by omega) (by omega), Int.pow_succ, Int.ediv_ediv_of_nonneg (Int.le_of_lt (pow2_pos j))]
end Go.Proofs.YtiahiakllpjliaaDoor
