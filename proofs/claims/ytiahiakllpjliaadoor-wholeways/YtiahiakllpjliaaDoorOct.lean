
/-
  Contracts of package octet's functions on numbers and bytes, and of the document's own (Digits, Number). Conditions: those that each theorem names.
-/
import Derived.Test.YtiahiakllpjliaaDoorMem
import Derived.Test.YtiahiakllpjliaaDoorChecked
namespace Go.Proofs.YtiahiakllpjliaaDoor
open Go.RowKit

theorem Tryd.infoU8 : (Tryd.prog.info? 5).map (fun i => (i.zero, i.size, i.bytes)) = some (some (.int .u8 0), 1, 1) := by kernel_rfl
theorem ret2 {a b : Value} {c d : Value} (h : a = c) (k : b = d) : Ending.returned (.tuple #[a, b]) = .returned (.tuple #[c, d]) := by rw [h, k]
theorem u64_eq {a b : Int} (h : a = b) : Value.int .u64 a = .int .u64 b := by rw [h]

/-! isSize -/
theorem isSize_yes (n : Int) (w : World) (h1 : 1 ≤ n) (h8 : n ≤ 8) : Calls Tryd.prog 69 #[.int .i64 n] w fun e w' => e = .returned (.bool true) ∧ w' = w := by
  go_enter Tryd.func69, Tryd.ntmps69
  go_wp2
  go_ret
  exact ⟨by simp, rfl⟩
theorem isSize_no (n : Int) (w : World) (h : n < 1 ∨ 8 < n) : Calls Tryd.prog 69 #[.int .i64 n] w fun e w' => e = .returned (.bool false) ∧ w' = w := by
  by_cases h1 : 1 ≤ n
  · have h8 : 8 < n := by omega
    clear h
    go_enter Tryd.func69, Tryd.ntmps69
    go_wp2
    go_ret
    exact ⟨by simp; omega, rfl⟩
  · have h1' : n < 1 := by omega
    clear h h1
    go_enter Tryd.func69, Tryd.ntmps69
    go_wp2
    go_ret
    exact ⟨by simp, rfl⟩

/-! Get -/
theorem Get_range (v : Value) (at_ k : Int) (w : World) (h : (k < 1 ∨ 8 < k) ∨ at_ < 0) :
    Calls Tryd.prog 71 #[v, .int .i64 at_, .int .i64 k] w fun e w' => e = .returned (.tuple #[.int .u64 0, .int .i64 1]) ∧ w' = w := by
  by_cases hk : k < 1 ∨ 8 < k
  · clear h
    go_enter Tryd.func71, Tryd.ntmps71
    go_wp2_with (go_at_call 69; refine (isSize_no _ _ hk).mono ?_; rintro e w' ⟨rfl, rfl⟩)
    go_ret2
    exact ⟨rfl, rfl⟩
  · have h1 : 1 ≤ k := by omega
    have h8 : k ≤ 8 := by omega
    have h0 : at_ < 0 := by omega
    clear h hk
    go_enter Tryd.func71, Tryd.ntmps71
    go_wp2_with (go_at_call 69; refine (isSize_yes _ _ h1 h8).mono ?_; rintro e w' ⟨rfl, rfl⟩)
    go_ret2
    exact ⟨rfl, rfl⟩
theorem Get_short (a : Option Addr) (len cap : Nat) (at_ k : Int) (w : World) (h1 : 1 ≤ k) (h8 : k ≤ 8) (h0 : 0 ≤ at_) (hm : len ≤ 4611686018427387904) (h : (len : Int) - at_ < k) (hx : at_ < 9223372036854775808) :
    Calls Tryd.prog 71 #[.slice a len cap, .int .i64 at_, .int .i64 k] w fun e w' => e = .returned (.tuple #[.int .u64 0, .int .i64 2]) ∧ w' = w := by
  go_enter Tryd.func71, Tryd.ntmps71
  go_wp2_with (go_at_call 69; refine (isSize_yes _ _ h1 h8).mono ?_; rintro e w' ⟨rfl, rfl⟩)
  go_ret2
  exact ⟨rfl, rfl⟩
theorem Get_at (b off cap at_ k len : Nat) (l : List Int) (w : World) (h1 : 1 ≤ k) (h8 : k ≤ 8) (hlen : l.length = len) (hl : at_ + k ≤ len) (hm : len ≤ 4611686018427387904)
    (hc : ∀ i, i < len → w.cell? ⟨b, off + i, none⟩ = some (.int .u8 (l.getD i 0))) (hb : Byte l) :
    Calls Tryd.prog 71 #[.slice (some ⟨b, off, none⟩) len cap, .int .i64 at_, .int .i64 k] w fun e w' => e = .returned (.tuple #[.int .u64 (num ((l.drop at_).take k)), .int .i64 0]) ∧ w' = w := by
  go_enter Tryd.func71, Tryd.ntmps71
  go_wp2_with (go_at_call 69; refine (isSize_yes _ _ (by omega) (by omega)).mono ?_; rintro e w' ⟨rfl, rfl⟩)
  go_loop [8, 24] (fun n i => ∃ j : Nat, j ≤ k ∧ i = .int .i64 j ∧ n = .int .u64 (num ((l.drop at_).take j))) (fun _ i => k - (intOf i).toNat)
  case atStart => exact ⟨0, Nat.zero_le _, rfl, rfl⟩
  case round =>
    obtain ⟨j, hj, rfl, rfl⟩ := hrel
    by_cases hlt : j < k
    · have hcj := hc (at_ + j) (by omega)
      have hbj := hb.getD (at_ + j)
      go_wp2
      go_round
      case rel =>
        refine ⟨j + 1, by omega, by go_num, u64_eq ?_⟩
        have e1 : (l.drop at_).take (j + 1) = (l.drop at_).take j ++ [l.getD (at_ + j) 0] := by
          rw [List.take_succ_eq_append_getElem (by simp; omega)]
          simp [show at_ + j < l.length by omega]
        have e2 : ((l.drop at_).take j).length = j := by simp; omega
        have e3 := num_bound _ ((hb.drop at_).take j)
        have e4 := pow256_mono (show j ≤ 7 by omega)
        have e5 : (256 : Int) ^ 7 = 72057594037927936 := by decide
        rw [e2] at e3
        rw [e1, num_snoc, ← List.getD_eq_getElem?_getD, or_step _ _ e3.1 (by omega) hbj]
      case measure => simp [intOf]; omega
    · go_wp2
      go_ret2
      have : j = k := by omega
      subst this
      exact ⟨rfl, rfl⟩
/-- Get, of any bytes, within them. -/
theorem Get_ok {v : Value} {l : List Int} {w : World} (hv : Bs w v l) (at_ k : Int) (h0 : 0 ≤ at_) (h1 : 1 ≤ k) (h8 : k ≤ 8) (hl : at_ + k ≤ l.length) (hm : l.length ≤ 4611686018427387904) :
    Calls Tryd.prog 71 #[v, .int .i64 at_, .int .i64 k] w fun e w' => e = .returned (.tuple #[.int .u64 (num ((l.drop at_.toNat).take k.toNat)), .int .i64 0]) ∧ w' = w := by
  obtain ⟨at_, rfl⟩ := Int.eq_ofNat_of_zero_le h0
  obtain ⟨k, rfl⟩ := Int.eq_ofNat_of_zero_le (show 0 ≤ k by omega)
  rcases hv.cases with ⟨rfl, _⟩ | ⟨b, off, cap, rfl, _, h3, h4, hc⟩
  · simp at hl; omega
  · exact Get_at b off cap at_ k _ l w (by omega) (by omega) rfl (by omega) hm hc hv.byte
theorem Get_less {v : Value} {l : List Int} {w : World} (hv : Bs w v l) (at_ k : Int) (h0 : 0 ≤ at_) (hx : at_ < 9223372036854775808) (h1 : 1 ≤ k) (h8 : k ≤ 8) (hl : l.length < at_ + k) (hm : l.length ≤ 4611686018427387904) :
    Calls Tryd.prog 71 #[v, .int .i64 at_, .int .i64 k] w fun e w' => e = .returned (.tuple #[.int .u64 0, .int .i64 2]) ∧ w' = w := by
  obtain ⟨_, a, cap, rfl, _⟩ := hv
  exact Get_short a _ cap at_ k w h1 h8 h0 hm (by omega) hx

/-! Put -/
theorem Put_range (n k : Int) (w : World) (h : k < 1 ∨ 8 < k) :
    Calls Tryd.prog 50 #[.int .u64 n, .int .i64 k] w fun e w' => e = .returned (.tuple #[.slice none 0 0, .int .i64 1]) ∧ w' = w := by
  go_enter Tryd.func50, Tryd.ntmps50
  go_wp2_with (go_at_call 69; refine (isSize_no _ _ h).mono ?_; rintro e w' ⟨rfl, rfl⟩)
  go_ret2
  exact ⟨rfl, rfl⟩
theorem Put_great (n : Int) (k : Nat) (w : World) (h0 : 0 ≤ n) (h1 : 1 ≤ k) (h8 : k ≤ 8) (h : 256 ^ k ≤ n) :
    Calls Tryd.prog 50 #[.int .u64 n, .int .i64 k] w fun e w' => e = .returned (.tuple #[.slice none 0 0, .int .i64 1]) ∧ w' = w := by
  have ht : (n / 2 ^ (8 * k) != 0) = true := by
    rw [bne_iff_ne, pow_2_8]
    intro e
    have := (div_zero_iff n k h0).1 e
    omega
  clear h
  go_enter Tryd.func50, Tryd.ntmps50
  go_wp2_with (go_at_call 69; refine (isSize_yes _ _ (by omega) (by omega)).mono ?_; rintro e w' ⟨rfl, rfl⟩)
  go_ret2
  exact ⟨rfl, rfl⟩
theorem Put_fits (n : Int) (k : Nat) (w : World) (h0 : 0 ≤ n) (h1 : 1 ≤ k) (h8 : k ≤ 8) (h : n < 256 ^ k) :
    Calls Tryd.prog 50 #[.int .u64 n, .int .i64 k] w fun e w' => e = .returned (.tuple #[.slice (some ⟨w.heap.size, 0, none⟩) k k, .int .i64 0]) ∧ Bs w' (.slice (some ⟨w.heap.size, 0, none⟩) k k) (digs n k) ∧ Below w.heap.size w w' := by
  have ht : (n / 2 ^ (8 * k) != 0) = false := by
    rw [bne_eq_false_iff_eq, pow_2_8]
    exact (div_zero_iff n k h0).2 h
  obtain ⟨i0, hi, hz0, hz1, hz2⟩ := info_parts Tryd.infoU8
  have HN : Hid (n < 256 ^ k) := h
  clear h
  go_enter Tryd.func50, Tryd.ntmps50
  go_wp2_with (first | (go_at_call 69; refine (isSize_yes _ _ (by omega) (by omega)).mono ?_; rintro e w' ⟨rfl, rfl⟩) | (at_make; refine wpList_make_full _ rfl _ _ 26 rfl w'.heap.size 5 i0 (.int .u8 0) 1 Tryd.underlying26 hi hz0 hz1 _ _ _ _ k rfl rfl rfl rfl (by rw [hz2]; omega) (by unfold maxLen; omega) (Nat.le_refl _) ?_; intro w1 hown hgrow))
  have hbel : Below w'.heap.size w' w1 := (Below.refl _ _).grown hgrow (Nat.le_refl _) (fun _ e => by cases e)
  have hown0 : w1.ownsRow w'.heap.size 5 1 (.slice (some ⟨w'.heap.size, 0, none⟩) k k) k ((rowAt n k 0).map (Value.int .u8)) := by
    rw [rowAt, rowF_zero, List.map_replicate, ← toList_madeCells_one]
    simpa [Value.cells] using hown
  clear hown hgrow ht
  go_loopw [21] (fun i wr => ∃ j : Nat, j ≤ k ∧ i = .int .i64 j ∧ wr.ownsRow w'.heap.size 5 1 (.slice (some ⟨w'.heap.size, 0, none⟩) k k) k ((rowAt n k j).map (Value.int .u8)) ∧ Below w'.heap.size w' wr) (fun i _ => k - (intOf i).toNat)
  case atStart => exact ⟨0, Nat.zero_le _, rfl, hown0, hbel⟩
  case round =>
    obtain ⟨j, hj, rfl, hown, hbl⟩ := hrel
    clear hown0 hbel
    by_cases hlt : j < k
    · have hcell : wr.cell? ⟨w'.heap.size, k - 1 - j, none⟩ = some (.int .u8 ((rowAt n k j).getD (k - 1 - j) 0)) := by
        rw [hown.cellAt (k - 1 - j) (by omega), getElem?_map_u8 _ _ (by rw [rowAt_length]; omega)]
      have hfz := hown.frozenAt (k - 1 - j)
      have hst := hown.stored (k - 1 - j) (.int .u8 (dig n j))
      rw [← List.map_set, rowAt, rowF_set (dig n) k j hlt] at hst
      have HS := hide hst
      clear hst
      go_wp2
      rw [pow_2_8]
      go_roundw
      case rel => exact ⟨j + 1, by omega, by go_num, HS.out.1, hbl.setCell (Nat.le_refl _) _⟩
      case measure => simp [intOf]; omega
    · go_wp2
      go_ret2
      have : j = k := by omega
      subst this
      refine ⟨rfl, ?_, hbl⟩
      have := Bs.own (l := digs n j) (by rw [digs_length]; exact hown) (digs_byte n j)
      rw [digs_length] at this
      exact this

end Go.Proofs.YtiahiakllpjliaaDoor
