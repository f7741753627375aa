/-
  Contracts of the document's own sum (bargateref02): the bits of bytes, the polynomial, and the sum by division.
-/
import Derived.Test.YtiimppbfigikfaaDoorCrcRef
import Derived.Test.YtiimppbfigikfaaDoorCrc
import Derived.RegionTactic
import Derived.ChangeAlike
import Derived.BigRegion
import Derived.Outline
namespace Go.Proofs.YtiimppbfigikfaaDoor
open Go.RowKit
set_option linter.unusedVariables false

theorem Tryd.infoInt : (Tryd.prog.info? 3).map (fun i => (i.zero, i.size, i.bytes)) = some (some (.int .i64 0), 1, 8) := by kernel_rfl
/-- A row by its places. -/
def rowB (f : Nat → Int) (n : Nat) : List Int := (List.range n).map f
theorem rowB_length (f : Nat → Int) (n : Nat) : (rowB f n).length = n := by simp [rowB]
theorem rowB_succ (f : Nat → Int) (n : Nat) : rowB f (n + 1) = rowB f n ++ [f n] := by simp [rowB, List.range_succ]
theorem rowB_getD (f : Nat → Int) (n i : Nat) (h : i < n) : (rowB f n).getD i 0 = f i := by simp [rowB, List.getD_eq_getElem?_getD, h]
theorem rowB_congr {f g : Nat → Int} {n : Nat} (h : ∀ i, i < n → f i = g i) : rowB f n = rowB g n := by
  unfold rowB
  refine List.map_congr_left fun i hi => h i (by simpa using hi)
theorem rowB_set (f : Nat → Int) (n j : Nat) (z : Int) : (rowB f n).set j z = rowB (fun i => if i = j then z else f i) n := by
  apply List.ext_getElem
  · simp [rowB]
  · intro i h1 h2
    simp only [rowB, List.getElem_set, List.getElem_map, List.getElem_range]
    by_cases h : j = i
    · simp [h]
    · simp [h, show ¬ i = j from fun e => h e.symm]
theorem getElem?_map_i64 (l : List Int) (i : Nat) (h : i < l.length) : (l.map (Value.int .i64))[i]? = some (.int .i64 (l.getD i 0)) := by
  rw [List.getElem?_map, List.getElem?_eq_getElem h, List.getD_eq_getElem?_getD, List.getElem?_eq_getElem h]; rfl
theorem byte_bit (x : Int) (t : Nat) (h : 0 ≤ x) : x / 2 ^ t % 2 = b2i (x.toNat.testBit t) := by
  obtain ⟨n, rfl⟩ := Int.eq_ofNat_of_zero_le h
  rw [Int.toNat_natCast, Nat.testBit_eq_decide_div_mod_eq]
  have e : ((n : Int) / 2 ^ t) = ((n / 2 ^ t : Nat) : Int) := by simp
  rw [e]
  generalize n / 2 ^ t = q
  unfold b2i
  by_cases h : q % 2 = 1
  · rw [if_pos (by simpa using h)]; omega
  · rw [if_neg (by simpa using h)]; omega
theorem mb_bit (l : List Int) (j t : Nat) (ht : t < 8) (h : 0 ≤ l.getD j 0) : l.getD j 0 / 2 ^ t % 2 = b2i (mb l (8 * j + t)) := by
  rw [byte_bit _ t h]
  unfold mb
  rw [show (8 * j + t) / 8 = j by omega, show (8 * j + t) % 8 = t by omega]


theorem Bs.spotB {w : World} {a : Option Addr} {len cap : Nat} {l : List Int} (h : Bs w (.slice a len cap) l) (hl : l.length = len) (j : Nat) (hj : j < len) :
    ∃ b off, a = some ⟨b, off, none⟩ ∧ w.cell? ⟨b, off + j, none⟩ = some (.int .u8 (l.getD j 0)) := by
  obtain ⟨_, a', cap', e, _, _, _, h4⟩ := h
  simp only [Value.slice.injEq] at e
  rw [e.1]
  exact h4 j (by omega)

theorem bit_val (x : Int) (t : Nat) (h0 : 0 ≤ x) (h1 : x ≤ 255) : (wrap64 (x / 2 ^ t)).tmod 2 = x / 2 ^ t % 2 := by
  have e0 : 0 ≤ x / 2 ^ t := Int.ediv_nonneg h0 (Int.le_of_lt (Int.pow_pos (by decide)))
  have e1 : x / 2 ^ t ≤ x := Int.ediv_le_self _ h0
  rw [show wrap64 (x / 2 ^ t) = x / 2 ^ t by unfold wrap64; omega, Int.tmod_eq_emod_of_nonneg e0]
def bitsF (l : List Int) (i : Nat) : Int := b2i (mb l i)
set_option maxHeartbeats 2000000 in
set_option maxRecDepth 20000 in
theorem Bits_any {v : Value} {l : List Int} {w : World} (hv : Bs w v l) (hm : l.length ≤ 1000000) :
    Calls Tryd.prog 71 #[v] w fun e w' => ∃ r, e = .returned r ∧ w'.ownsRow w.heap.size 3 1 r (8 * l.length) ((rowB (bitsF l) (8 * l.length)).map (Value.int .i64)) ∧ Below w.heap.size w w' := by
  have HV := hide hv
  obtain ⟨hby, ad, cap, rfl, _⟩ := hv
  have HBy := hide hby
  generalize hlen : l.length = len at *
  have HL := hide hlen
  clear hlen
  obtain ⟨i0, hi, hz0, hz1, hz2⟩ := info_parts Tryd.infoInt
  go_enter Tryd.func71, Tryd.ntmps71
  go_wp2
  go_loopw [3, 4] (fun x i wr => ∃ j : Nat, j ≤ len ∧ i = .int .i64 j ∧ Hid (wr.ownsRow w.heap.size 3 1 x (8 * j) ((rowB (bitsF l) (8 * j)).map (Value.int .i64))) ∧ Hid (Below w.heap.size w wr)) (fun _ i _ => len - (intOf i).toNat)
  case atStart => exact ⟨0, Nat.zero_le _, rfl, World.ownsRow_nil _ _ _ _, Below.refl _ _⟩
  case round =>
    obtain ⟨j, hj, rfl, HO, HB⟩ := hrel
    by_cases hlt : j < len
    · go_wp2
      go_loopw [3, 5] (fun x i wr => ∃ t : Nat, t ≤ 8 ∧ i = .int .i64 t ∧ Hid (wr.ownsRow w.heap.size 3 1 x (8 * j + t) ((rowB (bitsF l) (8 * j + t)).map (Value.int .i64))) ∧ Hid (Below w.heap.size w wr)) (fun _ i _ => 8 - (intOf i).toNat)
      case atStart => exact ⟨0, Nat.zero_le _, rfl, HO, HB⟩
      case round =>
        clear HO HB
        obtain ⟨t, ht, rfl, HO, HB⟩ := hrel
        by_cases ht8 : t < 8
        · obtain ⟨b, off, rfl, hc⟩ := (HV.out.below HB.out).spotB HL.out j hlt
          have hx := HBy.out.getD j
          have hbit := hide (mb_bit l j t ht8 hx.1)
          generalize l.getD j 0 = x at *
          go_wp2_with (at_builtin; refine wpList_append_own _ rfl _ _ 63 rfl w.heap.size 3 i0 _ 1 8 Tryd.underlying63 hi hz0 hz1 hz2 rfl (by decide) _ (8 * j + t) _ rfl (HO.out.alloc _) _ 1 1 _ rfl rfl (cell_one_new _ _ _) (by intro u hu; simp at hu; subst hu; rfl) (by unfold maxLen; omega) (by omega) (by have := HB.out.size; simp; omega) ?_; intro v4 w4 hown4 hgrow4 _)
          have hv4 : (wrap64 (x / 2 ^ t)).tmod 2 = bitsF l (8 * j + t) := by rw [bit_val x t hx.1 hx.2]; exact hbit.out
          have H4 : Hid (w4.ownsRow w.heap.size 3 1 v4 (8 * j + (t + 1)) ((rowB (bitsF l) (8 * j + (t + 1))).map (Value.int .i64))) := by
            show w4.ownsRow _ _ _ _ _ _
            rw [show 8 * j + (t + 1) = 8 * j + t + 1 by omega, rowB_succ, List.map_append]
            rw [hv4] at hown4
            exact hown4
          have hb4 : Below w.heap.size w w4 := (HB.out.alloc HB.out.size _).grown hgrow4 (by have := HB.out.size; simp; omega) (fun k e => (HO.out.lt k e).1)
          clear hown4 hgrow4 hv4
          go_roundw
          case rel => exact ⟨t + 1, by omega, by go_num, H4, hb4⟩
          case measure => simp [intOf]; omega
        · obtain rfl : t = 8 := by omega
          go_wp2
          go_roundw
          case rel => exact ⟨j + 1, by omega, by go_num, HO, HB⟩
          case measure => simp [intOf]; omega
    · obtain rfl : j = len := by omega
      go_wp2
      go_ret
      exact ⟨_, rfl, HO.out, HB.out⟩

set_option maxHeartbeats 2000000 in
theorem Poly_any (w : World) :
    Calls Tryd.prog 72 #[] w fun e w' => e = .returned (.slice (some ⟨w.heap.size, 0, none⟩) 33 33) ∧ (∀ k, k < 33 → w'.cell? ⟨w.heap.size, k, none⟩ = some (.int .i64 (polyL.getD k 0))) ∧ Below w.heap.size w w' ∧ w.heap.size < w'.heap.size := by
  go_enter Tryd.func72, Tryd.ntmps72
  go_wp2
  go_ret
  refine ⟨rfl, fun k hk => ?_, (Below.refl _ _).alloc (Nat.le_refl _) _, by simp⟩
  rw [World.cell?_alloc_new]
  show ((polyL.map (Value.int .i64)).toArray)[k]? = _
  rw [List.getElem?_toArray]
  exact getElem?_map_i64 polyL k hk
end Go.Proofs.YtiimppbfigikfaaDoor
