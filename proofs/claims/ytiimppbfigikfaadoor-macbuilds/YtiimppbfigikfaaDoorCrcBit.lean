/-
  Plain mathematics of the sum, bit by bit (no Go text): a register's step for one bit, what a turned bit does to the sum, and that up to 32 turned bits in a row are seen. Conditions: those that each theorem names.
-/
import Derived.Test.YtiimppbfigikfaaDoorCrcMath
namespace Go.Proofs.YtiimppbfigikfaaDoor

def poly : B32 := 0xEDB88320#32
/-- One bit's step. -/
def step1 (c : B32) : B32 := (c >>> 1) ^^^ (if c.getLsbD 0 then poly else 0#32)
def it : Nat → B32 → B32
  | 0, c => c
  | n + 1, c => it n (step1 c)
theorem it_add (m n : Nat) : ∀ c : B32, it (m + n) c = it n (it m c) := by
  induction m with
  | zero => intro c; simp [it]
  | succ m ih => intro c; rw [show m + 1 + n = (m + n) + 1 by omega]; show it (m + n) (step1 c) = it n (it m (step1 c)); exact ih _
theorem step1_xor (a b : B32) : step1 (a ^^^ b) = step1 a ^^^ step1 b := by
  unfold step1
  rw [BitVec.ushiftRight_xor_distrib, BitVec.getLsbD_xor]
  cases a.getLsbD 0 <;> cases b.getLsbD 0
  · simp
  · simp; ac_rfl
  · simp; ac_rfl
  · have e : a >>> 1 ^^^ poly ^^^ (b >>> 1 ^^^ poly) = a >>> 1 ^^^ b >>> 1 ^^^ (poly ^^^ poly) := by ac_rfl
    simp only [if_true]
    rw [e, BitVec.xor_self]
    simp
theorem it_xor (n : Nat) : ∀ a b : B32, it n (a ^^^ b) = it n a ^^^ it n b := by
  induction n with
  | zero => intro a b; rfl
  | succ n ih => intro a b; show it n (step1 (a ^^^ b)) = it n (step1 a) ^^^ it n (step1 b); rw [step1_xor, ih]
theorem it_zero (n : Nat) : it n 0#32 = 0#32 := by
  induction n with
  | zero => rfl
  | succ n ih => show it n (step1 0#32) = 0#32; rw [show step1 0#32 = 0#32 by decide, ih]
theorem step1_eq_zero (z : B32) (h : step1 z = 0#32) : z = 0#32 := by
  unfold step1 at h
  cases h0 : z.getLsbD 0 with
  | true =>
    rw [h0] at h
    have h1 := congrArg (fun x : B32 => x.getLsbD 31) h
    simp only [if_true, BitVec.getLsbD_xor, BitVec.getLsbD_ushiftRight] at h1
    rw [show z.getLsbD (1 + 31) = false from BitVec.getLsbD_of_ge _ _ (by omega)] at h1
    exfalso
    revert h1
    decide
  | false =>
    rw [h0] at h
    have h1 : z >>> 1 = 0#32 := by simpa using h
    apply BitVec.eq_of_getLsbD_eq
    intro i hi
    rw [show (0#32 : B32).getLsbD i = false by simp]
    match i with
    | 0 => exact h0
    | i + 1 =>
      have h2 := congrArg (fun x : B32 => x.getLsbD i) h1
      simp only [BitVec.getLsbD_ushiftRight] at h2
      rw [Nat.add_comm] at h2
      simpa using h2
theorem it_eq_zero (n : Nat) : ∀ z : B32, it n z = 0#32 → z = 0#32 := by
  induction n with
  | zero => intro z h; exact h
  | succ n ih => intro z h; exact step1_eq_zero z (ih _ h)
theorem step1_pow : ∀ k, k < 31 → step1 (BitVec.ofNat 32 (2 ^ (k + 1))) = BitVec.ofNat 32 (2 ^ k) := by decide
theorem it_pow (k : Nat) (h : k ≤ 31) : it k (BitVec.ofNat 32 (2 ^ k)) = 1#32 := by
  induction k with
  | zero => rfl
  | succ k ih => show it k (step1 (BitVec.ofNat 32 (2 ^ (k + 1)))) = 1#32; rw [step1_pow k (by omega)]; exact ih (by omega)
theorem it_pow_le (k n : Nat) (h : k ≤ 31) (hn : k ≤ n) : it n (BitVec.ofNat 32 (2 ^ k)) = it (n - k) 1#32 := by
  obtain ⟨d, rfl⟩ := Nat.exists_eq_add_of_le hn
  rw [it_add, it_pow k h, show k + d - k = d by omega]

/-! Half a byte is four bits -/
theorem it4_low : ∀ i, i < 16 → it 4 (BitVec.ofNat 32 i) = tab i := by decide
theorem step1_even (x : B32) (h : x.getLsbD 0 = false) : step1 x = x >>> 1 := by
  unfold step1; rw [h]; simp
theorem it4_high (y : B32) (h : ∀ i, i < 4 → y.getLsbD i = false) : it 4 y = y >>> 4 := by
  show step1 (step1 (step1 (step1 y))) = y >>> 4
  rw [step1_even y (h 0 (by decide))]
  rw [step1_even (y >>> 1) (by rw [BitVec.getLsbD_ushiftRight]; exact h 1 (by decide))]
  rw [step1_even (y >>> 1 >>> 1) (by rw [BitVec.getLsbD_ushiftRight, BitVec.getLsbD_ushiftRight]; exact h 2 (by decide))]
  rw [step1_even (y >>> 1 >>> 1 >>> 1) (by rw [BitVec.getLsbD_ushiftRight, BitVec.getLsbD_ushiftRight, BitVec.getLsbD_ushiftRight]; exact h 3 (by decide))]
  apply BitVec.eq_of_getLsbD_eq
  intro i _
  simp only [BitVec.getLsbD_ushiftRight]
  congr 1
  omega
theorem half_it (c : B32) : half c = it 4 c := by
  have hlow : (BitVec.ofNat 32 (c.toNat % 16)).toNat = c.toNat % 16 := by
    rw [BitVec.toNat_ofNat]; exact Nat.mod_eq_of_lt (by omega)
  have hl : ∀ i, (BitVec.ofNat 32 (c.toNat % 16)).getLsbD i = (decide (i < 4) && c.getLsbD i) := by
    intro i
    rw [BitVec.getLsbD, hlow, show (16 : Nat) = 2 ^ 4 from rfl, Nat.testBit_mod_two_pow]
    rfl
  have hc : c = (c ^^^ BitVec.ofNat 32 (c.toNat % 16)) ^^^ BitVec.ofNat 32 (c.toNat % 16) := by
    rw [BitVec.xor_assoc, BitVec.xor_self, BitVec.xor_zero]
  have hhi : ∀ i, i < 4 → (c ^^^ BitVec.ofNat 32 (c.toNat % 16)).getLsbD i = false := by
    intro i hi
    rw [BitVec.getLsbD_xor, hl i]
    simp [hi]
  conv => rhs; rw [hc]
  rw [it_xor, it4_high _ hhi, it4_low _ (Nat.mod_lt _ (by decide))]
  unfold half
  congr 1
  apply BitVec.eq_of_getLsbD_eq
  intro i _
  rw [BitVec.getLsbD_ushiftRight, BitVec.getLsbD_ushiftRight, BitVec.getLsbD_xor, hl]
  rw [show decide (4 + i < 4) = false from by simp, Bool.false_and, Bool.xor_false]
theorem stepB_it (c : B32) (x : Int) : stepB c x = it 8 (c ^^^ byteOf x) := by
  unfold stepB
  rw [half_it, half_it, ← it_add]

/-! A bit that is turned -/
theorem crcD_lin (l : List Int) : ∀ s d : B32, crcD (s ^^^ d) l = crcD s l ^^^ it (8 * l.length) d := by
  induction l with
  | nil => intro s d; rfl
  | cons x l ih =>
    intro s d
    rw [crcD_cons, crcD_cons, stepB_it, stepB_it, show s ^^^ d ^^^ byteOf x = (s ^^^ byteOf x) ^^^ d by ac_rfl, it_xor, ih, ← it_add]
    rw [List.length_cons, show 8 + 8 * l.length = 8 * (l.length + 1) by omega]
theorem byteOf_pow (r : Nat) (_h : r < 8) : byteOf (2 ^ r) = BitVec.ofNat 32 (2 ^ r) := by
  unfold byteOf
  congr 1
theorem pow_byte (r : Nat) (h : r < 8) : 0 ≤ (2 : Int) ^ r ∧ (2 : Int) ^ r ≤ 255 := by
  match r, h with
  | 0, _ => decide
  | 1, _ => decide
  | 2, _ => decide
  | 3, _ => decide
  | 4, _ => decide
  | 5, _ => decide
  | 6, _ => decide
  | 7, _ => decide
theorem crcD_flip (c : B32) (b : List Int) (i r : Nat) (hi : i < b.length) (hr : r < 8) (hb : Byte b) :
    crcD c (b.set i (bits .xor .u8 (b.getD i 0) (2 ^ r))) = crcD c b ^^^ it (8 * b.length - (8 * i + r)) 1#32 := by
  have e1 : b.set i (bits .xor .u8 (b.getD i 0) (2 ^ r)) = b.take i ++ bits .xor .u8 (b.getD i 0) (2 ^ r) :: b.drop (i + 1) := List.set_eq_take_append_cons_drop.trans (by rw [if_pos hi])
  have e2 : b = b.take i ++ b.getD i 0 :: b.drop (i + 1) := by
    rw [List.getD_eq_getElem?_getD, List.getElem?_eq_getElem hi]
    simp
  have hx := byte_xor (b.getD i 0) (2 ^ r) (hb.getD i) (pow_byte r hr)
  rw [e1, crcD_append, crcD_cons]
  conv => rhs; rw [e2]; rw [crcD_append, crcD_cons]
  rw [stepB_it, hx.2, stepB_it, ← BitVec.xor_assoc, it_xor, crcD_lin, byteOf_pow r hr, it_pow_le r 8 (by omega) (by omega), ← it_add]
  congr 2
  simp
  omega

/-! Up to 32 bits in a row -/
def low (ch : B32) (j : Nat) : B32 := BitVec.ofNat 32 (ch.toNat % 2 ^ j)
theorem low_zero (ch : B32) : low ch 0 = 0#32 := by simp [low, Nat.mod_one]
theorem low_all (ch : B32) : low ch 32 = ch := by
  unfold low
  rw [Nat.mod_eq_of_lt ch.isLt]
  exact BitVec.eq_of_toNat_eq (by rw [BitVec.toNat_ofNat]; exact Nat.mod_eq_of_lt ch.isLt)
theorem low_getLsbD (ch : B32) (j i : Nat) (_hj : j ≤ 32) : (low ch j).getLsbD i = (decide (i < j) && ch.getLsbD i) := by
  unfold low
  have : (BitVec.ofNat 32 (ch.toNat % 2 ^ j)).toNat = ch.toNat % 2 ^ j := by
    rw [BitVec.toNat_ofNat]
    exact Nat.mod_eq_of_lt (Nat.lt_of_le_of_lt (Nat.mod_le _ _) ch.isLt)
  rw [BitVec.getLsbD, this, Nat.testBit_mod_two_pow]
  rfl
theorem pow_getLsbD (j i : Nat) (hj : j < 32) : (BitVec.ofNat 32 (2 ^ j)).getLsbD i = decide (i = j) := by
  rw [BitVec.getLsbD, BitVec.toNat_ofNat, Nat.mod_eq_of_lt (Nat.pow_lt_pow_right (by decide) hj), Nat.testBit_two_pow]
  rw [decide_eq_decide]
  exact ⟨fun h => h.symm, fun h => h.symm⟩
theorem low_succ (ch : B32) (j : Nat) (hj : j < 32) : low ch (j + 1) = low ch j ^^^ (if ch.getLsbD j then BitVec.ofNat 32 (2 ^ j) else 0#32) := by
  apply BitVec.eq_of_getLsbD_eq
  intro i hi
  rw [BitVec.getLsbD_xor, low_getLsbD ch (j + 1) i (by omega), low_getLsbD ch j i (by omega)]
  by_cases hij : i = j
  · subst hij
    cases h : ch.getLsbD i
    · simp
    · simp [pow_getLsbD i i hj]
  · by_cases hlt : i < j
    · cases ch.getLsbD j
      · simp [hlt, show i < j + 1 by omega]
      · simp [hlt, show i < j + 1 by omega, pow_getLsbD j i hj, hij]
    · cases ch.getLsbD j
      · simp [show ¬ i < j + 1 by omega, hlt]
      · simp [show ¬ i < j + 1 by omega, hlt, pow_getLsbD j i hj, hij]
end Go.Proofs.YtiimppbfigikfaaDoor
