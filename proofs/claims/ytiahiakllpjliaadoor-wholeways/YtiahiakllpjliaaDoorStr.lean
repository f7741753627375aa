
/-
  string(b) of a slice of bytes: its bytes; and two such texts are the same just if the bytes are. Condition: none beyond what each theorem names.
-/
import Derived.Test.YtiahiakllpjliaaDoorRd
import Derived.Laws.IdiomStrings
import Derived.Lib.SlBytesConst
namespace Go.Proofs.YtiahiakllpjliaaDoor
open Go.RowKit

/-- Bytes as a text. -/
def bstr (l : List Int) : ByteArray := ⟨(l.map fun z => UInt8.ofNat z.toNat).toArray⟩

theorem foldl_push_bstr : ∀ (l : List Int) (r : ByteArray), l.foldl (fun r n => r.push (UInt8.ofNat n.toNat)) r = ⟨r.data ++ (bstr l).data⟩
  | [], r => by simp [bstr]
  | b :: l, r => by
    rw [List.foldl_cons, foldl_push_bstr l]
    simp [ByteArray.push, bstr]
theorem conv_str {P : Program} {w : World} {v : Value} {l : List Int} (src dst e : TypeId) (hs : P.underlying src = some (.slice e)) (he : P.underlying e = some (.int .u8)) (hd : P.underlying dst = some .string) (h : Bs w v l) :
    (convert src dst v).run P w = .ok (.string (bstr l)) w := by
  obtain ⟨_, a, cap, rfl, h1, h2, h3, h4⟩ := h
  rw [run_convert_bytes_string w src dst e a l.length cap hs he hd]
  cases a with
  | none =>
    have hc := h3 rfl
    have : l = [] := List.eq_nil_of_length_eq_zero (by omega)
    subst this
    simp [Conv.bytesToString, bstr]
    rfl
  | some x =>
    have hl := run_loadCells_list (P := P) w x (l.map (Value.int .u8)) (Bs.news h4 x rfl)
    simp only [List.length_map] at hl
    rw [run_bytesToString w x l.length cap l hl, foldl_push_bstr]
    have he0 : ByteArray.empty.data = #[] := rfl
    rw [he0]
    simp
theorem bstr_inj {a b : List Int} (ha : Byte a) (hb : Byte b) (h : bstr a = bstr b) : a = b := by
  have h1 : (a.map fun z => UInt8.ofNat z.toNat) = b.map fun z => UInt8.ofNat z.toNat := by
    have := congrArg (fun x => x.data.toList) h
    simpa [bstr] using this
  have hback : ∀ l : List Int, Byte l → (l.map fun z => UInt8.ofNat z.toNat).map (fun u => (u.toNat : Int)) = l := by
    intro l hl
    rw [List.map_map]
    conv => rhs; rw [← List.map_id l]
    apply List.map_congr_left
    intro z hz
    have := hl z hz
    simp
    omega
  rw [← hback a ha, ← hback b hb, h1]
end Go.Proofs.YtiahiakllpjliaaDoor
