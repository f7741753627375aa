/-
  Plain mathematics of the document's own division (no Go text): a row of bits that is divided by the polynomial, told by the register of the sum. Conditions: those that each theorem names.
-/
import Derived.Test.YtiimppbfigikfaaDoorCrcBit
namespace Go.Proofs.YtiimppbfigikfaaDoor

def b2i (b : Bool) : Int := if b then 1 else 0
theorem b2i_range (b : Bool) : b2i b = 0 ∨ b2i b = 1 := by cases b <;> simp [b2i]
/-- The bit of bytes at a place, each byte's lowest first; none beyond. -/
def mb (l : List Int) (i : Nat) : Bool := ((l.getD (i / 8) 0).toNat).testBit (i % 8)
theorem mb_beyond (l : List Int) (i : Nat) (h : 8 * l.length ≤ i) : mb l i = false := by
  unfold mb
  rw [List.getD_eq_getElem?_getD, List.getElem?_eq_none (show l.length ≤ i / 8 by omega)]
  simp
/-- The register behind i bits. -/
def reg (l : List Int) : Nat → B32
  | 0 => 0xFFFFFFFF#32
  | i + 1 => step1 (reg l i ^^^ (if mb l i then 1#32 else 0#32))
/-- What stands at a place of the row, i bits being divided. -/
def rowBit (l : List Int) (i p : Nat) : Int := b2i ((reg l i).getLsbD (p - i) ^^ mb l p)

theorem one_getLsbD (b : Bool) (k : Nat) : (if b then 1#32 else 0#32 : B32).getLsbD k = (b && decide (k = 0)) := by
  cases b
  · simp
  · simp
theorem reg_succ_getLsbD (l : List Int) (i k : Nat) : (reg l (i + 1)).getLsbD k = ((reg l i).getLsbD (k + 1) ^^ (((reg l i).getLsbD 0 ^^ mb l i) && poly.getLsbD k)) := by
  show (step1 _).getLsbD k = _
  unfold step1
  rw [BitVec.getLsbD_xor, BitVec.getLsbD_ushiftRight, BitVec.getLsbD_xor, BitVec.getLsbD_xor, one_getLsbD, one_getLsbD, Nat.add_comm 1 k, show decide (k + 1 = 0) = false by simp, show decide ((0 : Nat) = 0) = true by simp]
  simp only [Bool.and_false, Bool.xor_false, Bool.and_true]
  cases ((reg l i).getLsbD 0 ^^ mb l i) <;> simp

def polyL : List Int := [1, 0, 0, 0, 0, 0, 1, 0, 0, 1, 1, 0, 0, 0, 0, 0, 1, 0, 0, 0, 1, 1, 1, 0, 1, 1, 0, 1, 1, 0, 1, 1, 1]
theorem polyL_bit : ∀ k, k < 32 → polyL.getD (k + 1) 0 = b2i (poly.getLsbD k) := by decide
theorem rowBit_head (l : List Int) (i : Nat) : rowBit l i i = b2i ((reg l i).getLsbD 0 ^^ mb l i) := by unfold rowBit; rw [Nat.sub_self]
/-- One step of the division, where a 1 stands. -/
theorem rowBit_yes (l : List Int) (i k : Nat) (h1 : 1 ≤ k) (hk : k ≤ 32) (hx : rowBit l i i = 1) : rowBit l (i + 1) (i + k) = (rowBit l i (i + k) + polyL.getD k 0) % 2 := by
  obtain ⟨k, rfl⟩ : ∃ j, k = j + 1 := ⟨k - 1, by omega⟩
  rw [rowBit_head] at hx
  have hx' : ((reg l i).getLsbD 0 ^^ mb l i) = true := by
    cases h : ((reg l i).getLsbD 0 ^^ mb l i) with
    | true => rfl
    | false => rw [h] at hx; simp [b2i] at hx
  rw [polyL_bit k (by omega)]
  unfold rowBit
  rw [show i + (k + 1) - (i + 1) = k by omega, show i + (k + 1) - i = k + 1 by omega, reg_succ_getLsbD, hx']
  cases (reg l i).getLsbD (k + 1) <;> cases poly.getLsbD k <;> cases mb l (i + (k + 1)) <;> decide
/-- Beyond the polynomial nothing changes. -/
theorem rowBit_far (l : List Int) (i p : Nat) (h : i + 32 < p) : rowBit l (i + 1) p = rowBit l i p := by
  unfold rowBit
  rw [BitVec.getLsbD_of_ge _ _ (by omega), BitVec.getLsbD_of_ge _ _ (by omega)]
theorem rowBit_no (l : List Int) (i p : Nat) (h : i < p) (hx : rowBit l i i = 0) : rowBit l (i + 1) p = rowBit l i p := by
  rw [rowBit_head] at hx
  have hx' : ((reg l i).getLsbD 0 ^^ mb l i) = false := by
    cases h : ((reg l i).getLsbD 0 ^^ mb l i) with
    | false => rfl
    | true => rw [h] at hx; simp [b2i] at hx
  unfold rowBit
  rw [show p - i = p - (i + 1) + 1 by omega, reg_succ_getLsbD, hx']
  simp
theorem rowBit_zero (l : List Int) (p : Nat) : rowBit l 0 p = if p < 32 then 1 - b2i (mb l p) else b2i (mb l p) := by
  unfold rowBit
  rw [Nat.sub_zero]
  show b2i ((0xFFFFFFFF#32 : B32).getLsbD p ^^ mb l p) = _
  by_cases h : p < 32
  · have e : (0xFFFFFFFF#32 : B32).getLsbD p = true := by
      have : ∀ q, q < 32 → (0xFFFFFFFF#32 : B32).getLsbD q = true := by decide
      exact this p h
    rw [e, if_pos h]
    cases mb l p <;> rfl
  · rw [BitVec.getLsbD_of_ge _ _ (by omega), if_neg h]
    simp

/-! A byte's eight bits are the sum's one step -/
theorem shift_split (y : B32) (t : Nat) : y >>> t = (if y.getLsbD t then 1#32 else 0#32) ^^^ ((y >>> (t + 1)) <<< 1) := by
  apply BitVec.eq_of_getLsbD_eq
  intro i hi
  rw [BitVec.getLsbD_xor, one_getLsbD, BitVec.getLsbD_shiftLeft, BitVec.getLsbD_ushiftRight, BitVec.getLsbD_ushiftRight]
  match i with
  | 0 => simp
  | i + 1 =>
    simp only [Nat.add_sub_cancel]
    rw [show t + (i + 1) = t + 1 + i by omega]
    simp [hi]
theorem step1_shl (y : B32) (t : Nat) : step1 ((y >>> (t + 1)) <<< 1) = y >>> (t + 1) := by
  rw [step1_even _ (by rw [BitVec.getLsbD_shiftLeft]; simp)]
  apply BitVec.eq_of_getLsbD_eq
  intro i hi
  rw [BitVec.getLsbD_ushiftRight, BitVec.getLsbD_shiftLeft, BitVec.getLsbD_ushiftRight]
  simp only [show 1 + i - 1 = i by omega]
  by_cases h : i + 1 < 32
  · simp [show 1 + i < 32 by omega]
  · have e : y.getLsbD (t + 1 + i) = false := BitVec.getLsbD_of_ge y _ (by omega)
    simp [e]
theorem it_succ' (t : Nat) (c : B32) : it (t + 1) c = step1 (it t c) := by rw [it_add]; rfl
theorem reg_byte (l : List Int) (j : Nat) (y : B32) (hy : ∀ t, t < 8 → y.getLsbD t = mb l (8 * j + t)) : ∀ t, t ≤ 8 → reg l (8 * j + t) ^^^ (y >>> t) = it t (reg l (8 * j) ^^^ y) := by
  intro t
  induction t with
  | zero => intro _; simp [it]
  | succ t ih =>
    intro ht
    rw [it_succ', ← ih (by omega)]
    conv => rhs; rw [shift_split y t, ← BitVec.xor_assoc, step1_xor, step1_shl]
    rw [hy t (by omega)]
    rfl
theorem byteOf_bit (l : List Int) (j t : Nat) (ht : t < 8) : (byteOf (l.getD j 0)).getLsbD t = mb l (8 * j + t) := by
  unfold byteOf mb
  rw [show (8 * j + t) / 8 = j by omega, show (8 * j + t) % 8 = t by omega, BitVec.getLsbD, BitVec.toNat_ofNat, Nat.testBit_mod_two_pow]
  simp [show t < 32 by omega]
theorem byteOf_high (x : Int) (h : 0 ≤ x ∧ x ≤ 255) : byteOf x >>> 8 = 0#32 := by
  apply BitVec.eq_of_toNat_eq
  unfold byteOf
  rw [BitVec.toNat_ushiftRight, BitVec.toNat_ofNat, Nat.shiftRight_eq_div_pow]
  simp
  omega
theorem reg_bytes (l : List Int) (hb : Byte l) : ∀ j, j ≤ l.length → reg l (8 * j) = crcD 0xFFFFFFFF#32 (l.take j) := by
  intro j
  induction j with
  | zero => intro _; rfl
  | succ j ih =>
    intro hj
    have h := reg_byte l j (byteOf (l.getD j 0)) (fun t ht => byteOf_bit l j t ht) 8 (by omega)
    rw [byteOf_high _ (hb.getD j)] at h
    rw [take_snocD l j (by omega), crcD_append, ← ih (by omega), show 8 * (j + 1) = 8 * j + 8 by omega, crcD_cons, stepB_it, ← h]
    simp
    rfl
/-- What is left behind all. -/
theorem rowBit_last (l : List Int) (hb : Byte l) (k : Nat) (hk : k < 32) : 1 - rowBit l (8 * l.length) (8 * l.length + k) = b2i ((crcSum l).getLsbD k) := by
  unfold rowBit
  rw [mb_beyond l _ (by omega), show 8 * l.length + k - 8 * l.length = k by omega, reg_bytes l hb _ (Nat.le_refl _), List.take_length]
  have e : (crcSum l).getLsbD k = !((crcD 0xFFFFFFFF#32 l).getLsbD k) := by
    show (~~~ (crcD 0xFFFFFFFF#32 l)).getLsbD k = _
    rw [BitVec.getLsbD_not]
    simp [hk]
  rw [e]
  cases (crcD 0xFFFFFFFF#32 l).getLsbD k <;> rfl
theorem bits_down (x : B32) (j : Nat) : ((x.toNat / 2 ^ j : Nat) : Int) = ((x.toNat / 2 ^ (j + 1) : Nat) : Int) * 2 + b2i (x.getLsbD j) := by
  have e : x.getLsbD j = decide (x.toNat / 2 ^ j % 2 = 1) := by rw [BitVec.getLsbD, Nat.testBit_eq_decide_div_mod_eq]
  have h2 : x.toNat / 2 ^ (j + 1) = x.toNat / 2 ^ j / 2 := by rw [Nat.pow_succ, Nat.div_div_eq_div_mul]
  rw [e, h2]
  generalize x.toNat / 2 ^ j = q
  unfold b2i
  by_cases h : q % 2 = 1
  · rw [if_pos (by simpa using h)]; omega
  · rw [if_neg (by simpa using h)]; omega
end Go.Proofs.YtiimppbfigikfaaDoor
