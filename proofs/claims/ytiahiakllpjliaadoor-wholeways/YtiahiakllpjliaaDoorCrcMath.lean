
/-
  Plain mathematics of the sum: a register of 32 bits, half a byte a step (no Go text). Conditions: those that each theorem names.
-/
import Derived.Test.YtiahiakllpjliaaDoorMath
namespace Go.Proofs.YtiahiakllpjliaaDoor

abbrev B32 := BitVec 32
/-- What the division leaves of each half byte. -/
def tabL : List B32 := [0x00000000#32, 0x1DB71064#32, 0x3B6E20C8#32, 0x26D930AC#32, 0x76DC4190#32, 0x6B6B51F4#32, 0x4DB26158#32, 0x5005713C#32, 0xEDB88320#32, 0xF00F9344#32, 0xD6D6A3E8#32, 0xCB61B38C#32, 0x9B64C2B0#32, 0x86D3D2D4#32, 0xA00AE278#32, 0xBDBDF21C#32]
def tab (i : Nat) : B32 := tabL.getD i 0#32
/-- Half a byte's step. -/
def half (c : B32) : B32 := (c >>> 4) ^^^ tab (c.toNat % 16)
def byteOf (x : Int) : B32 := BitVec.ofNat 32 x.toNat
def stepB (c : B32) (x : Int) : B32 := half (half (c ^^^ byteOf x))
/-- The division goes on with more bytes. -/
def crcD (c : B32) (l : List Int) : B32 := l.foldl stepB c
def ones : B32 := 0xFFFFFFFF#32
def crcSum (l : List Int) : B32 := ~~~ crcD ones l

theorem crcD_nil (c : B32) : crcD c [] = c := rfl
theorem crcD_snoc (c : B32) (l : List Int) (x : Int) : crcD c (l ++ [x]) = stepB (crcD c l) x := by simp [crcD, List.foldl_append]
theorem crcD_append (c : B32) (a b : List Int) : crcD c (a ++ b) = crcD (crcD c a) b := by simp [crcD, List.foldl_append]
theorem crcD_cons (c : B32) (x : Int) (l : List Int) : crcD c (x :: l) = crcD (stepB c x) l := rfl

/-! As the walk spells it -/
theorem sp_xor (x y : B32) : bits .xor .u32 (x.toNat : Int) (y.toNat : Int) = ((x ^^^ y).toNat : Int) := by
  rw [u32_xor_nat _ _ x.isLt y.isLt, BitVec.toNat_xor]
theorem sp_shr4 (x : B32) : (x.toNat : Int) / (16 : Int) = ((x >>> 4).toNat : Int) := by
  rw [BitVec.toNat_ushiftRight, Nat.shiftRight_eq_div_pow]
  simp
theorem sp_and15 (x : B32) : bits .and .u32 (x.toNat : Int) 15 = ((x.toNat % 16 : Nat) : Int) := by
  have := u32_and_nat x.toNat 15 x.isLt (by decide)
  rw [nat_mask4] at this
  exact this
theorem sp_byte (x : Int) (h : 0 ≤ x ∧ x ≤ 255) : x = ((byteOf x).toNat : Int) := by
  unfold byteOf
  rw [BitVec.toNat_ofNat, Nat.mod_eq_of_lt (by omega)]
  omega

theorem sp_not (x : B32) : bits .xor .u32 IntKind.u32.max (x.toNat : Int) = ((~~~ x).toNat : Int) := by
  have e : IntKind.u32.max = (((0xFFFFFFFF#32 : B32).toNat : Nat) : Int) := by decide
  rw [e, sp_xor, BitVec.xor_comm, show (0xFFFFFFFF#32 : B32) = BitVec.allOnes 32 from by decide, BitVec.xor_allOnes]

/-! It is straight -/
theorem tab_xor : ∀ i, i < 16 → ∀ j, j < 16 → tab (i ^^^ j) = tab i ^^^ tab j := by decide
theorem xor_mod16 (a b : B32) : (a ^^^ b).toNat % 16 = (a.toNat % 16) ^^^ (b.toNat % 16) := by
  rw [BitVec.toNat_xor, show (16 : Nat) = 2 ^ 4 from rfl, Nat.xor_mod_two_pow]
theorem half_xor (a b : B32) : half (a ^^^ b) = half a ^^^ half b := by
  unfold half
  rw [xor_mod16, tab_xor _ (Nat.mod_lt _ (by decide)) _ (Nat.mod_lt _ (by decide)), BitVec.ushiftRight_xor_distrib]
  ac_rfl
theorem half_zero : half 0#32 = 0#32 := by decide
/-- No two registers come to one. -/
theorem tab_top : ∀ i, i < 16 → (tab i).toNat / 268435456 = 0 → i = 0 := by decide
theorem half_eq_zero (z : B32) (h : half z = 0#32) : z = 0#32 := by
  unfold half at h
  have h1 : z >>> 4 = tab (z.toNat % 16) := by
    have := congrArg (· ^^^ tab (z.toNat % 16)) h
    simpa [BitVec.xor_assoc] using this
  have h2 : (tab (z.toNat % 16)).toNat / 268435456 = 0 := by
    rw [← h1, BitVec.toNat_ushiftRight, Nat.shiftRight_eq_div_pow]
    have := z.isLt
    omega
  have h3 := tab_top _ (Nat.mod_lt _ (by decide)) h2
  rw [h3] at h1
  have h4 : (z >>> 4).toNat = 0 := by rw [h1]; decide
  rw [BitVec.toNat_ushiftRight, Nat.shiftRight_eq_div_pow] at h4
  apply BitVec.eq_of_toNat_eq
  have := z.isLt
  simp only [BitVec.toNat_ofNat]
  omega
theorem xor_eq_zero {a b : B32} (h : a ^^^ b = 0#32) : a = b := by
  have := congrArg (· ^^^ b) h
  simpa [BitVec.xor_assoc] using this
theorem half_inj {a b : B32} (h : half a = half b) : a = b := by
  apply xor_eq_zero
  apply half_eq_zero
  rw [half_xor, h, BitVec.xor_self]
theorem xor_right_inj {a b c : B32} (h : a ^^^ c = b ^^^ c) : a = b := by
  have := congrArg (· ^^^ c) h
  simpa [BitVec.xor_assoc] using this
theorem stepB_inj {a b : B32} {x : Int} (h : stepB a x = stepB b x) : a = b := xor_right_inj (half_inj (half_inj h))
theorem crcD_inj {l : List Int} : ∀ {a b : B32}, crcD a l = crcD b l → a = b := by
  induction l with
  | nil => intro a b h; exact h
  | cons x l ih => intro a b h; exact stepB_inj (ih h)
theorem byteOf_inj {x y : Int} (hx : 0 ≤ x ∧ x ≤ 255) (hy : 0 ≤ y ∧ y ≤ 255) (h : byteOf x = byteOf y) : x = y := by
  have := congrArg (fun z : B32 => (z.toNat : Int)) h
  rwa [← sp_byte x hx, ← sp_byte y hy] at this
/-- One byte that is another one makes another sum. -/
theorem stepB_byte {c : B32} {x y : Int} (hx : 0 ≤ x ∧ x ≤ 255) (hy : 0 ≤ y ∧ y ≤ 255) (h : stepB c x = stepB c y) : x = y := by
  have := half_inj (half_inj h)
  rw [BitVec.xor_comm c, BitVec.xor_comm c] at this
  exact byteOf_inj hx hy (xor_right_inj this)
theorem crcSum_inj {a b : List Int} (h : crcSum a = crcSum b) : crcD ones a = crcD ones b := by
  have := congrArg (~~~ ·) h
  simpa [crcSum] using this

/-- The sum's four bytes, the lowest first. -/
def sumBytes (c : B32) : List Int := (List.range 4).map fun i => (c.toNat : Int) / 256 ^ i % 256
def sealL (l : List Int) : List Int := l ++ sumBytes (crcSum l)
theorem sumBytes_length (c : B32) : (sumBytes c).length = 4 := by simp [sumBytes]
theorem sumBytes_byte (c : B32) : Byte (sumBytes c) := by
  intro z hz
  simp only [sumBytes, List.mem_map] at hz
  obtain ⟨i, _, rfl⟩ := hz
  omega
theorem sealL_length (l : List Int) : (sealL l).length = l.length + 4 := by simp [sealL, sumBytes_length]
theorem sealL_byte {l : List Int} (h : Byte l) : Byte (sealL l) := h.append (sumBytes_byte _)
theorem sumBytes_inj {a b : B32} (h : sumBytes a = sumBytes b) : a = b := by
  simp only [sumBytes, List.range, List.range.loop, List.map_cons, List.map_nil, List.cons.injEq, and_true] at h
  obtain ⟨h0, h1, h2, h3⟩ := h
  apply BitVec.eq_of_toNat_eq
  have ha := a.isLt
  have hb := b.isLt
  simp only [Int.pow_zero, Int.ediv_one, show (256 : Int) ^ 1 = 256 from rfl, show (256 : Int) ^ 2 = 65536 from rfl, show (256 : Int) ^ 3 = 16777216 from rfl] at h0 h1 h2 h3
  omega

/-- One byte that is another one makes another sum. -/
theorem crcSum_set (b : List Int) (p : Nat) (y : Int) (hp : p < b.length) (hb : Byte b) (hy : 0 ≤ y ∧ y ≤ 255) (hne : y ≠ b.getD p 0) : crcSum (b.set p y) ≠ crcSum b := by
  intro h
  have h1 := crcSum_inj h
  have e1 : b.set p y = b.take p ++ y :: b.drop (p + 1) := List.set_eq_take_append_cons_drop.trans (by rw [if_pos hp])
  have e2 : b = b.take p ++ b.getD p 0 :: b.drop (p + 1) := by
    rw [List.getD_eq_getElem?_getD, List.getElem?_eq_getElem hp]
    simp
  rw [e1] at h1
  conv at h1 => rhs; rw [e2]
  rw [crcD_append, crcD_append, crcD_cons, crcD_cons] at h1
  exact hne (stepB_byte hy (hb.getD p) (crcD_inj h1))
/-- Sealed bytes of which one is another one aren't sealed. -/
theorem sealL_changed (b : List Int) (p : Nat) (y : Int) (hp : p < b.length + 4) (hb : Byte b) (hy : 0 ≤ y ∧ y ≤ 255) (hne : y ≠ (sealL b).getD p 0) : sealL (((sealL b).set p y).take b.length) ≠ (sealL b).set p y := by
  have hlen := sealL_length b
  by_cases h : p < b.length
  · have e1 : (sealL b).set p y = b.set p y ++ sumBytes (crcSum b) := by
      unfold sealL; rw [List.set_append_left _ _ h]
    have e2 : ((sealL b).set p y).take b.length = b.set p y := by
      rw [e1, List.take_append_of_le_length (by simp), List.take_of_length_le (by simp)]
    have e3 : (sealL b).getD p 0 = b.getD p 0 := by
      unfold sealL
      rw [List.getD_eq_getElem?_getD, List.getElem?_append_left h, List.getD_eq_getElem?_getD]
    rw [e2, e1]
    intro he
    unfold sealL at he
    have := List.append_cancel_left he
    exact crcSum_set b p y h hb hy (by rw [← e3]; exact hne) (sumBytes_inj this)
  · have e2 : ((sealL b).set p y).take b.length = b := by
      rw [List.take_set_of_le (by omega)]
      unfold sealL
      rw [List.take_append_of_le_length (Nat.le_refl _), List.take_of_length_le (Nat.le_refl _)]
    rw [e2]
    intro he
    apply hne
    have h3 := congrArg (fun l => l.getD p 0) he
    simp only [List.getD_eq_getElem?_getD] at h3 ⊢
    rw [h3, List.getElem?_set_self (by omega)]
    rfl

/-! Three texts together -/
/-- Places filled by f up to the i-th. -/
def rowUp (f : Nat → Int) (k i : Nat) : List Int := (List.range k).map fun p => if p < i then f p else 0
theorem rowUp_length (f : Nat → Int) (k i : Nat) : (rowUp f k i).length = k := by simp [rowUp]
theorem rowUp_zero (f : Nat → Int) (k : Nat) : rowUp f k 0 = List.replicate k 0 := by
  apply List.ext_getElem <;> simp [rowUp]
theorem rowUp_set (f : Nat → Int) (k i : Nat) : (rowUp f k i).set i (f i) = rowUp f k (i + 1) := by
  apply List.ext_getElem
  · simp [rowUp]
  · intro p h1 h2
    rw [List.getElem_set]
    simp only [rowUp, List.getElem_map, List.getElem_range]
    by_cases e : i = p
    · subst e; rw [if_pos rfl, if_pos (by omega)]
    · rw [if_neg e]
      by_cases e1 : p < i
      · rw [if_pos e1, if_pos (by omega)]
      · rw [if_neg e1, if_neg (by omega)]
theorem rowUp_getD (f : Nat → Int) (k p : Nat) (h : p < k) : (rowUp f k k).getD p 0 = f p := by
  rw [List.getD_eq_getElem?_getD, List.getElem?_eq_getElem (by rw [rowUp_length]; exact h)]
  simp [rowUp, h]
theorem rowUp_byte (f : Nat → Int) (hf : ∀ i, 0 ≤ f i ∧ f i ≤ 255) (k i : Nat) : Byte (rowUp f k i) := by
  intro z hz
  simp only [rowUp, List.mem_map] at hz
  obtain ⟨p, _, rfl⟩ := hz
  have := hf p
  split <;> omega
theorem byte_xor (x y : Int) (hx : 0 ≤ x ∧ x ≤ 255) (hy : 0 ≤ y ∧ y ≤ 255) : (0 ≤ bits .xor .u8 x y ∧ bits .xor .u8 x y ≤ 255) ∧ byteOf (bits .xor .u8 x y) = byteOf x ^^^ byteOf y := by
  obtain ⟨x, rfl⟩ := Int.eq_ofNat_of_zero_le hx.1
  obtain ⟨y, rfl⟩ := Int.eq_ofNat_of_zero_le hy.1
  rw [u8_xor_nat x y (by omega) (by omega)]
  have h1 : x ^^^ y < 2 ^ 8 := Nat.xor_lt_two_pow (by omega) (by omega)
  refine ⟨⟨by omega, by omega⟩, ?_⟩
  apply BitVec.eq_of_toNat_eq
  simp only [byteOf, BitVec.toNat_xor, BitVec.toNat_ofNat, Int.toNat_natCast]
  rw [Nat.mod_eq_of_lt (by omega), Nat.mod_eq_of_lt (by omega), Nat.mod_eq_of_lt (by omega)]
theorem stepB_xor (a b : B32) (x y : Int) (hx : 0 ≤ x ∧ x ≤ 255) (hy : 0 ≤ y ∧ y ≤ 255) : stepB (a ^^^ b) (bits .xor .u8 x y) = stepB a x ^^^ stepB b y := by
  unfold stepB
  rw [← half_xor, ← half_xor, (byte_xor x y hx hy).2]
  congr 2
  ac_rfl
def xor3 (a b c : List Int) (i : Nat) : Int := bits .xor .u8 (bits .xor .u8 (a.getD i 0) (b.getD i 0)) (c.getD i 0)
theorem xor3_range {a b c : List Int} (ha : Byte a) (hb : Byte b) (hc : Byte c) (i : Nat) : 0 ≤ xor3 a b c i ∧ xor3 a b c i ≤ 255 :=
  (byte_xor _ _ (byte_xor _ _ (ha.getD i) (hb.getD i)).1 (hc.getD i)).1
theorem take_snocD (l : List Int) (j : Nat) (h : j < l.length) : l.take (j + 1) = l.take j ++ [l.getD j 0] := by
  rw [List.take_succ_eq_append_getElem h]
  simp [h]
theorem crcD_xor3 {a b c d : List Int} {k : Nat} (ha : Byte a) (hb : Byte b) (hc : Byte c) (la : a.length = k) (lb : b.length = k) (lc : c.length = k) (ld : d.length = k) (hd : ∀ p, p < k → d.getD p 0 = xor3 a b c p) :
    ∀ j, j ≤ k → crcD ones (d.take j) = crcD ones (a.take j) ^^^ crcD ones (b.take j) ^^^ crcD ones (c.take j) := by
  intro j
  induction j with
  | zero => intro _; rw [List.take_zero, List.take_zero, List.take_zero, List.take_zero]; decide
  | succ j ih =>
    intro hj
    rw [take_snocD d j (by omega), take_snocD a j (by omega), take_snocD b j (by omega), take_snocD c j (by omega), crcD_snoc, crcD_snoc, crcD_snoc, crcD_snoc, ih (by omega), hd j (by omega)]
    unfold xor3
    rw [stepB_xor _ _ _ _ (byte_xor _ _ (ha.getD j) (hb.getD j)).1 (hc.getD j), stepB_xor _ _ _ _ (ha.getD j) (hb.getD j)]
theorem not_xor3 (x y z : B32) : ~~~ (x ^^^ y ^^^ z) = ~~~ x ^^^ ~~~ y ^^^ ~~~ z := by
  apply BitVec.eq_of_getElem_eq
  intro i hi
  simp only [BitVec.getElem_not, BitVec.getElem_xor]
  cases x[i] <;> cases y[i] <;> cases z[i] <;> rfl
theorem crcSum_xor3 {a b c : List Int} {k : Nat} (ha : Byte a) (hb : Byte b) (hc : Byte c) (la : a.length = k) (lb : b.length = k) (lc : c.length = k) :
    crcSum (rowUp (xor3 a b c) k k) = crcSum a ^^^ crcSum b ^^^ crcSum c := by
  have h := crcD_xor3 (d := rowUp (xor3 a b c) k k) ha hb hc la lb lc (rowUp_length _ _ _) (fun p hp => rowUp_getD _ k p hp) k (Nat.le_refl _)
  rw [List.take_of_length_le (by rw [rowUp_length]; exact Nat.le_refl _), List.take_of_length_le (by omega), List.take_of_length_le (by omega), List.take_of_length_le (by omega)] at h
  unfold crcSum
  rw [h, not_xor3]

end Go.Proofs.YtiahiakllpjliaaDoor
