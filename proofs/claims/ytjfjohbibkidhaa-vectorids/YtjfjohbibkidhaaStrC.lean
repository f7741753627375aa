/-
  string(b) of a slice of bytes: its bytes; and two such texts are the same just if the bytes are. Condition: none beyond what each theorem names.
-/
import Derived.Test.YtjfjohbibkidhaaMem
import Derived.Laws.IdiomStrings
import Derived.Lib.SlBytesConst
namespace Go.Proofs.Ytjfjohbibkidhaa
open Go.RowKit

theorem Bs.newsP {w : World} {a : Option Addr} {l : List Int}
    (h : ∀ i, i < l.length → ∃ b off, a = some ⟨b, off, none⟩ ∧ w.cell? ⟨b, off + i, none⟩ = some (.int .u8 (l.getD i 0))) :
    ∀ ad, a = some ad → ∀ t u, (l.map (Value.int .u8))[t]? = some u → w.cell? (ad.add t) = some u := by
  intro ad had t u hu
  have ht : t < l.length := by
    have := (List.getElem?_eq_some_iff.1 hu).1
    simpa using this
  obtain ⟨b, off, e, hc⟩ := h t ht
  rw [had] at e
  cases e
  rw [getElem?_map_u8 l t ht] at hu
  cases hu
  by_cases h0 : t = 0
  · subst h0; simpa [Addr.add] using hc
  · simpa [Addr.add, h0] using hc
/-- Bytes as a text. -/
def bstr (l : List Int) : ByteArray := ⟨(l.map fun z => UInt8.ofNat z.toNat).toArray⟩

theorem foldl_push_bstr : ∀ (l : List Int) (r : ByteArray), l.foldl (fun r n => r.push (UInt8.ofNat n.toNat)) r = ⟨r.data ++ (bstr l).data⟩
  | [], r => by simp [bstr]
  | b :: l, r => by
    rw [List.foldl_cons, foldl_push_bstr l]
    simp [ByteArray.push, bstr]
theorem conv_str {P : Program} {w : World} {v : Value} {l : List Int} (src dst e : TypeId) (hs : P.underlying src = some (.slice e)) (he : P.underlying e = some (.int .u8)) (hd : P.underlying dst = some .string) (h : Bs w v l) :
    (convert src dst v).run P w = .ok (.string (bstr l)) w := by
  obtain ⟨_, a, cap, rfl, h1, h2, h3, h4⟩ := h
  rw [run_convert_bytes_string w src dst e a l.length cap hs he hd]
  cases a with
  | none =>
    have hc := h3 rfl
    have : l = [] := List.eq_nil_of_length_eq_zero (by omega)
    subst this
    simp [Conv.bytesToString, bstr]
    rfl
  | some x =>
    have hl := run_loadCells_list (P := P) w x (l.map (Value.int .u8)) (Bs.newsP h4 x rfl)
    simp only [List.length_map] at hl
    rw [run_bytesToString w x l.length cap l hl, foldl_push_bstr]
    have he0 : ByteArray.empty.data = #[] := rfl
    rw [he0]
    simp
theorem bstr_inj {a b : List Int} (ha : Byte a) (hb : Byte b) (h : bstr a = bstr b) : a = b := by
  have h1 : (a.map fun z => UInt8.ofNat z.toNat) = b.map fun z => UInt8.ofNat z.toNat := by
    have := congrArg (fun x => x.data.toList) h
    simpa [bstr] using this
  have hback : ∀ l : List Int, Byte l → (l.map fun z => UInt8.ofNat z.toNat).map (fun u => (u.toNat : Int)) = l := by
    intro l hl
    rw [List.map_map]
    conv => rhs; rw [← List.map_id l]
    apply List.map_congr_left
    intro z hz
    have := hl z hz
    simp
    omega
  rw [← hback a ha, ← hback b hb, h1]
theorem foldl_num : ∀ (l : List Int) (a : Int), l.foldl (fun a x => a * 256 + x) a = a * 256 ^ l.length + num l
  | [], a => by simp [num]
  | x :: l, a => by
    have h2 : num (x :: l) = (0 * 256 + x) * 256 ^ l.length + num l := by
      show (x :: l).foldl _ 0 = _
      rw [List.foldl_cons, foldl_num l]
    rw [List.foldl_cons, foldl_num l, h2, List.length_cons, Int.pow_succ, Int.add_mul, Int.mul_comm (256 ^ l.length) 256, ← Int.mul_assoc, Int.zero_mul, Int.zero_add, Int.add_assoc]
theorem num_cons7 (x : Int) (l : List Int) : num (x :: l) = x * 256 ^ l.length + num l := by
  rw [num, List.foldl_cons, foldl_num]
  simp
theorem less_num : ∀ (a b : List Int), Byte a → Byte b → a.length = b.length → Op.bytesLess (a.map fun z => UInt8.ofNat z.toNat) (b.map fun z => UInt8.ofNat z.toNat) = decide (num a < num b)
  | [], [], _, _, _ => by simp [Op.bytesLess, num]
  | [], _ :: _, _, _, h => by simp at h
  | _ :: _, [], _, _, h => by simp at h
  | x :: a, y :: b, ha, hb, h => by
    have hx := ha x (by simp)
    have hy := hb y (by simp)
    have ha' : Byte a := fun z hz => ha z (by simp [hz])
    have hb' : Byte b := fun z hz => hb z (by simp [hz])
    have ih := less_num a b ha' hb' (by simpa using h)
    have na := num_bound a ha'
    have nb := num_bound b hb'
    have hl : a.length = b.length := by simpa using h
    rw [num_cons7, num_cons7, hl]
    rw [hl] at na
    have hp : (0 : Int) < 256 ^ b.length := Int.pow_pos (by decide)
    generalize (256 : Int) ^ b.length = P at *
    simp only [List.map_cons, Op.bytesLess]
    rw [ih]
    have e1 : (UInt8.ofNat x.toNat < UInt8.ofNat y.toNat) ↔ x < y := by
      rw [UInt8.lt_iff_toNat_lt]
      simp
      omega
    have e2 : (UInt8.ofNat x.toNat == UInt8.ofNat y.toNat) = decide (x = y) := by
      rw [Bool.eq_iff_iff, beq_iff_eq, decide_eq_true_eq]
      constructor
      · intro h
        have := congrArg UInt8.toNat h
        simp at this
        omega
      · intro h; rw [h]
    rw [e2]
    rcases Int.lt_trichotomy x y with h1 | h1 | h1
    · have : x * P + num a < y * P + num b := by
        have h2 : (x + 1) * P ≤ y * P := Int.mul_le_mul_of_nonneg_right (by omega) (by omega)
        rw [Int.add_mul] at h2
        omega
      simp [e1, h1, this]
    · subst h1
      have : (x * P + num a < x * P + num b) ↔ num a < num b := by omega
      simp [e1, this]
    · have : ¬ x * P + num a < y * P + num b := by
        have h2 : (y + 1) * P ≤ x * P := Int.mul_le_mul_of_nonneg_right (by omega) (by omega)
        rw [Int.add_mul] at h2
        omega
      simp [e1, this, show ¬ x < y by omega, show ¬ x = y by omega]
end Go.Proofs.Ytjfjohbibkidhaa
