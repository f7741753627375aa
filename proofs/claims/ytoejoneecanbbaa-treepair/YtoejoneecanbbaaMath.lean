
/-
  Plain mathematics of numbers in bytes (no Go text): a number's digits to the base 256, and the number of digits. Conditions: those that each theorem names.
-/
import Derived.Laws.BitsAllLaws
import Derived.Laws.Shifts
namespace Go.Proofs.Ytoejoneecanbbaa

/-- The number of digits to the base 256, the highest first. -/
def num (l : List Int) : Int := l.foldl (fun a x => a * 256 + x) 0
/-- The digit of a number at a place, from the lowest on. -/
def dig (n : Int) (i : Nat) : Int := n / 256 ^ i % 256
/-- So many places, from the last one on filled by f up to the i-th. -/
def rowF (f : Nat → Int) (k i : Nat) : List Int := (List.range k).map fun p => if k - 1 - p < i then f (k - 1 - p) else 0
/-- So many digits of a number, of which the lowest 'i' are there yet, the highest first. -/
def rowAt (n : Int) (k i : Nat) : List Int := rowF (dig n) k i
def digs (n : Int) (k : Nat) : List Int := rowAt n k k
/-- Bytes. -/
def Byte (l : List Int) : Prop := ∀ z ∈ l, 0 ≤ z ∧ z ≤ 255

theorem dig_range (n : Int) (i : Nat) : 0 ≤ dig n i ∧ dig n i ≤ 255 := by unfold dig; omega
theorem rowF_length (f : Nat → Int) (k i : Nat) : (rowF f k i).length = k := by simp [rowF]
theorem rowF_zero (f : Nat → Int) (k : Nat) : rowF f k 0 = List.replicate k 0 := by
  apply List.ext_getElem <;> simp [rowF]
theorem rowF_byte (f : Nat → Int) (hf : ∀ i, 0 ≤ f i ∧ f i ≤ 255) (k i : Nat) : Byte (rowF f k i) := by
  intro z hz
  simp only [rowF, List.mem_map] at hz
  obtain ⟨p, _, rfl⟩ := hz
  have := hf (k - 1 - p)
  split <;> omega
theorem rowF_set (f : Nat → Int) (k i : Nat) (h : i < k) : (rowF f k i).set (k - 1 - i) (f i) = rowF f k (i + 1) := by
  apply List.ext_getElem
  · simp [rowF]
  · intro p h1 h2
    simp only [List.length_set, rowF_length] at h1
    rw [List.getElem_set]
    simp only [rowF, List.getElem_map, List.getElem_range]
    by_cases e : k - 1 - i = p
    · rw [if_pos e, if_pos (by omega)]
      rw [show k - 1 - p = i by omega]
    · rw [if_neg e]
      by_cases e1 : k - 1 - p < i
      · rw [if_pos e1, if_pos (by omega)]
      · rw [if_neg e1, if_neg (by omega)]
theorem rowF_reverse (l : List Int) : rowF (fun i => l.getD i 0) l.length l.length = l.reverse := by
  apply List.ext_getElem
  · simp [rowF]
  · intro p h1 h2
    simp only [rowF_length] at h1
    simp only [rowF, List.getElem_map, List.getElem_range]
    rw [if_pos (by omega), List.getElem_reverse, List.getD_eq_getElem?_getD, List.getElem?_eq_getElem (by omega)]
    rfl
theorem rowAt_length (n : Int) (k i : Nat) : (rowAt n k i).length = k := rowF_length _ k i
theorem digs_length (n : Int) (k : Nat) : (digs n k).length = k := rowAt_length n k k
theorem digs_byte (n : Int) (k : Nat) : Byte (digs n k) := rowF_byte _ (dig_range n) k k

theorem num_nil : num [] = 0 := rfl
theorem num_snoc (l : List Int) (x : Int) : num (l ++ [x]) = num l * 256 + x := by simp [num, List.foldl_append]
theorem Byte.nil : Byte [] := by intro z hz; cases hz
theorem Byte.append {a b : List Int} (ha : Byte a) (hb : Byte b) : Byte (a ++ b) := by
  intro z hz
  rcases List.mem_append.1 hz with h | h
  · exact ha z h
  · exact hb z h
theorem Byte.take {a : List Int} (ha : Byte a) (n : Nat) : Byte (a.take n) := fun z hz => ha z (List.mem_of_mem_take hz)
theorem Byte.drop {a : List Int} (ha : Byte a) (n : Nat) : Byte (a.drop n) := fun z hz => ha z (List.mem_of_mem_drop hz)
theorem Byte.reverse {a : List Int} (ha : Byte a) : Byte a.reverse := fun z hz => ha z (List.mem_reverse.1 hz)
theorem Byte.getD {a : List Int} (ha : Byte a) (i : Nat) : 0 ≤ a.getD i 0 ∧ a.getD i 0 ≤ 255 := by
  by_cases h : i < a.length
  · rw [List.getD_eq_getElem?_getD, List.getElem?_eq_getElem h]; exact ha _ (List.getElem_mem h)
  · rw [List.getD_eq_getElem?_getD, List.getElem?_eq_none (by omega)]; simp
theorem Byte.set {a : List Int} (ha : Byte a) (i : Nat) (x : Int) (hx : 0 ≤ x ∧ x ≤ 255) : Byte (a.set i x) := by
  intro z hz
  rcases List.mem_or_eq_of_mem_set hz with h | h
  · exact ha z h
  · subst h; exact hx

theorem num_bound (l : List Int) (h : Byte l) : 0 ≤ num l ∧ num l < 256 ^ l.length := by
  suffices H : ∀ r : List Int, Byte r.reverse → 0 ≤ num r.reverse ∧ num r.reverse < 256 ^ r.length by
    have := H l.reverse (by simpa using h)
    simpa using this
  intro r
  induction r with
  | nil => intro _; simp [num]
  | cons x r ih =>
    intro hb
    rw [List.reverse_cons, num_snoc]
    have h1 := ih (fun z hz => hb z (by simp at hz ⊢; exact .inl hz))
    have h2 := hb x (by simp)
    rw [List.length_cons, Int.pow_succ]
    omega
theorem pow256_mono {i j : Nat} (h : i ≤ j) : (256 : Int) ^ i ≤ 256 ^ j := by
  obtain ⟨d, rfl⟩ := Nat.exists_eq_add_of_le h
  rw [Int.pow_add]
  have h1 : (0 : Int) < 256 ^ i := Int.pow_pos (by decide)
  have h2 : (0 : Int) < 256 ^ d := Int.pow_pos (by decide)
  have := Int.mul_le_mul_of_nonneg_left (show (1 : Int) ≤ 256 ^ d by omega) (Int.le_of_lt h1)
  omega
theorem num_bound8 (l : List Int) (h : Byte l) (hl : l.length ≤ 8) : 0 ≤ num l ∧ num l < 18446744073709551616 := by
  have h1 := num_bound l h
  have h2 := pow256_mono hl
  have h3 : (256 : Int) ^ 8 = 18446744073709551616 := by decide
  omega

/-- The digits from the highest one on: of the first j of k the number. -/
theorem num_digs_take (n : Int) (k : Nat) (h0 : 0 ≤ n) (hn : n < 256 ^ k) : ∀ j, j ≤ k → num ((digs n k).take j) = n / 256 ^ (k - j) := by
  intro j
  induction j with
  | zero =>
    intro _
    rw [List.take_zero, num_nil, Nat.sub_zero]
    exact (Int.ediv_eq_zero_of_lt h0 hn).symm
  | succ j ih =>
    intro hj
    have hlt : j < (digs n k).length := by rw [digs_length]; omega
    rw [List.take_succ_eq_append_getElem hlt, num_snoc, ih (by omega)]
    have e1 : (digs n k)[j] = n / 256 ^ (k - 1 - j) % 256 := by
      simp only [digs, rowAt, rowF, List.getElem_map, List.getElem_range, dig]
      rw [if_pos (by omega)]
    rw [e1, show k - (j + 1) = k - 1 - j by omega, show k - j = (k - 1 - j) + 1 by omega, Int.pow_succ]
    rw [← Int.ediv_ediv_of_nonneg (Int.le_of_lt (Int.pow_pos (by decide)))]
    have := Int.emod_add_mul_ediv (n / 256 ^ (k - 1 - j)) 256
    omega
theorem num_digs (n : Int) (k : Nat) (h0 : 0 ≤ n) (hn : n < 256 ^ k) : num (digs n k) = n := by
  have := num_digs_take n k h0 hn k (Nat.le_refl _)
  rw [List.take_of_length_le (by rw [digs_length]; exact Nat.le_refl _), Nat.sub_self] at this
  simpa using this
theorem pow_2_8 (i : Nat) : (2 : Int) ^ (8 * i) = 256 ^ i := by rw [Int.pow_mul]; rfl
theorem div_zero_iff (n : Int) (k : Nat) (h0 : 0 ≤ n) : n / 256 ^ k = 0 ↔ n < 256 ^ k := by
  have hp : (0 : Int) < 256 ^ k := Int.pow_pos (by decide)
  constructor
  · intro h
    have := Int.lt_mul_ediv_self_add (x := n) hp
    rw [h] at this; omega
  · intro h; exact Int.ediv_eq_zero_of_lt h0 h
theorem div_succ (n : Int) (i : Nat) : n / 256 ^ i / 256 = n / 256 ^ (i + 1) := by
  rw [Int.pow_succ, Int.ediv_ediv_of_nonneg (Int.le_of_lt (Int.pow_pos (by decide)))]
/-- 'n<<8 | b', where there is room. -/
theorem or_step (a b : Int) (ha : 0 ≤ a) (hm : a * 256 + 255 < 18446744073709551616) (hb : 0 ≤ b ∧ b ≤ 255) :
    bits .or .u64 (IntKind.u64.wrap (a * 256)) (IntKind.u64.wrap b) = a * 256 + b := by
  rw [IntKind.wrap_u64, IntKind.wrap_u64, Int.emod_eq_of_lt (by omega) (by omega), Int.emod_eq_of_lt (by omega) (by omega)]
  rw [u64_or _ _ (by omega) (by omega) (by omega) (by omega)]
  rw [nat_join 8 _ _ (by omega) (by omega)]
  omega
/-- 'n / 256' on a uint64. -/
theorem quo256 (a : Int) (h0 : 0 ≤ a) (h : a < 18446744073709551616) : IntKind.u64.wrap (a.tdiv 256) = a / 256 := by
  rw [IntKind.wrap_u64, Int.tdiv_eq_ediv_of_nonneg h0]
  exact Int.emod_eq_of_lt (by omega) (by omega)
theorem quo256_step (n : Int) (j : Nat) (h0 : 0 ≤ n) (h : n < 18446744073709551616) : IntKind.u64.wrap ((n / 256 ^ j).tdiv 256) = n / 256 ^ (j + 1) := by
  have h1 : 0 ≤ n / 256 ^ j := Int.ediv_nonneg h0 (Int.le_of_lt (Int.pow_pos (by decide)))
  have h2 : n / 256 ^ j ≤ n := Int.ediv_le_self _ h0
  rw [quo256 _ h1 (by omega), div_succ]
/-- 'n*256 + b' on a uint64, where there is room. -/
theorem mul_step (a b : Int) (ha : 0 ≤ a) (hm : a * 256 + 255 < 18446744073709551616) (hb : 0 ≤ b ∧ b ≤ 255) :
    IntKind.u64.wrap (IntKind.u64.wrap (a * 256) + IntKind.u64.wrap b) = a * 256 + b := by
  rw [IntKind.wrap_u64, IntKind.wrap_u64, IntKind.wrap_u64, Int.emod_eq_of_lt (by omega) (by omega), Int.emod_eq_of_lt (a := b) (by omega) (by omega), Int.emod_eq_of_lt (by omega) (by omega)]

end Go.Proofs.Ytoejoneecanbbaa
