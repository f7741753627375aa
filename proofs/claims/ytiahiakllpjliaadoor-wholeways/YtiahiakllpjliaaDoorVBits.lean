
/-
  Sets of ports as numbers: what 'and not' tells of them. No Go text. Conditions: those that each theorem names.
-/
import Derived.Test.YtiahiakllpjliaaDoorGMap
import Derived.Laws.BitsLemmas
namespace Go.Proofs.YtiahiakllpjliaaDoor
open Go.RowKit
set_option linter.unusedVariables false

theorem bv_sub_iff (x y : BitVec 64) : x &&& ~~~y = 0#64 ↔ x &&& y = x := by
  constructor
  · intro h
    apply BitVec.eq_of_getLsbD_eq
    intro i hi
    have := congrArg (fun z => z.getLsbD i) h
    simp only [BitVec.getLsbD_and, BitVec.getLsbD_not, hi, decide_true, Bool.true_and, BitVec.getLsbD_zero] at this
    rw [BitVec.getLsbD_and]
    cases hx : x.getLsbD i <;> cases hy : y.getLsbD i <;> simp_all
  · intro h
    apply BitVec.eq_of_getLsbD_eq
    intro i hi
    have := congrArg (fun z => z.getLsbD i) h
    simp only [BitVec.getLsbD_and] at this
    rw [BitVec.getLsbD_and, BitVec.getLsbD_not, BitVec.getLsbD_zero]
    cases hx : x.getLsbD i <;> cases hy : y.getLsbD i <;> simp_all
theorem wrap_nat_zero (n : Nat) (h : n < 18446744073709551616) : IntKind.i64.wrap (n : Int) = 0 ↔ n = 0 := by
  rw [IntKind.wrap_i64]; omega
theorem ofInt_toNat (x : Int) (h : I64G x) : (BitVec.ofInt 64 x).toNat = if 0 ≤ x then x.toNat else (x + 18446744073709551616).toNat := by
  rw [BitVec.toNat_ofInt]
  split <;> omega
theorem andNot_iff (p m : Int) : bits .andNot .i64 p m = 0 ↔ BitVec.ofInt 64 p &&& BitVec.ofInt 64 m = BitVec.ofInt 64 p := by
  rw [← bv_sub_iff]
  have : bits .andNot .i64 p m = IntKind.i64.wrap ((BitVec.ofInt 64 p &&& ~~~(BitVec.ofInt 64 m)).toNat : Nat) := rfl
  rw [this, wrap_nat_zero _ (BitVec.isLt _)]
  constructor
  · intro h; exact BitVec.eq_of_toNat_eq (by rw [h]; rfl)
  · intro h; rw [h]; rfl
theorem and_iff (p m : Int) (hp : I64G p) : bits .and .i64 p m = p ↔ BitVec.ofInt 64 p &&& BitVec.ofInt 64 m = BitVec.ofInt 64 p := by
  have : bits .and .i64 p m = IntKind.i64.wrap ((BitVec.ofInt 64 p &&& BitVec.ofInt 64 m).toNat : Nat) := rfl
  rw [this]
  have hl := (BitVec.ofInt 64 p &&& BitVec.ofInt 64 m).isLt
  have hq := ofInt_toNat p hp
  constructor
  · intro h
    apply BitVec.eq_of_toNat_eq
    rw [IntKind.wrap_i64] at h
    rw [hq]
    split <;> omega
  · intro h
    rw [h, hq, IntKind.wrap_i64]
    split <;> omega
theorem pow16 {n : Nat} (h : n ≤ 16) : (2 : Nat) ^ n ≤ 65536 := Nat.pow_le_pow_right (n := 2) (by decide) h
theorem sub_all {n : Nat} (h : n ≤ 16) (m : Int) (hm : I64G m) : bits .andNot .i64 m (2 ^ n - 1) = 0 ↔ 0 ≤ m ∧ m < 2 ^ n := by
  have h1 := pow16 h
  have h2 := Nat.two_pow_pos n
  have hc : ((2 : Int) ^ n - 1) = ((2 ^ n - 1 : Nat) : Int) := by rw [Int.natCast_sub h2]; simp
  have hc' : ((2 : Int) ^ n) = ((2 ^ n : Nat) : Int) := by simp
  rw [andNot_iff, hc, BitVec.ofInt_natCast, hc']
  have hq := ofInt_toNat m hm
  have ht : (BitVec.ofInt 64 m &&& BitVec.ofNat 64 (2 ^ n - 1)).toNat = (BitVec.ofInt 64 m).toNat % 2 ^ n := by
    rw [BitVec.toNat_and, BitVec.toNat_ofNat, Nat.mod_eq_of_lt (by omega), Nat.and_two_pow_sub_one_eq_mod]
  constructor
  · intro e
    have e' := congrArg BitVec.toNat e
    rw [ht] at e'
    have := Nat.mod_lt (BitVec.ofInt 64 m).toNat h2
    rw [e', hq] at this
    split at this <;> omega
  · intro ⟨ha, hb⟩
    apply BitVec.eq_of_toNat_eq
    rw [ht]
    apply Nat.mod_eq_of_lt
    rw [hq, if_pos ha]
    omega
theorem sub_of {n : Nat} (h : n ≤ 16) (p m : Int) (hp : I64G p) (hm0 : 0 ≤ m) (hm : m < 2 ^ n) : bits .andNot .i64 p m = 0 ↔ 0 ≤ p ∧ bits .and .i64 p m = p := by
  rw [and_iff p m hp, andNot_iff]
  constructor
  · intro e
    refine ⟨?_, e⟩
    have e' := congrArg BitVec.toNat e
    rw [BitVec.toNat_and] at e'
    have h1 := pow16 h
    have hc' : ((2 : Int) ^ n) = ((2 ^ n : Nat) : Int) := by simp
    have hM := ofInt_toNat m ⟨by omega, by omega⟩
    rw [if_pos hm0] at hM
    have hle : (BitVec.ofInt 64 p).toNat &&& (BitVec.ofInt 64 m).toNat ≤ (BitVec.ofInt 64 m).toNat := Nat.and_le_right
    rw [e', ofInt_toNat p hp, hM] at hle
    split at hle <;> omega
  · exact fun e => e.2
theorem sub_self (m : Int) (h0 : 0 ≤ m) (h : m < 65536) : bits .andNot .i64 m m = 0 := by
  rw [andNot_iff]
  exact BitVec.and_self
end Go.Proofs.YtiahiakllpjliaaDoor
