/-
  Contract of the document's own sum (bargateref02.Sum): what the division leaves is the sum. Condition: not more than 100000 bytes.
-/
import Derived.Test.YtiimppbfigikfaaDoorRefSum
namespace Go.Proofs.YtiimppbfigikfaaDoor
open Go.RowKit
set_option linter.unusedVariables false

theorem World.ownsRow_place {w : World} {base e n : Nat} {v : Value} {xs : List Value} (h : w.ownsRow base e 1 v n xs) (hn : 0 < n) : ∃ g cap, v = .slice (some ⟨g, 0, none⟩) n cap ∧ base ≤ g ∧ g < w.heap.size ∧ n ≤ cap ∧ cap ≤ maxLen := by
  rcases h.2 with ⟨_, h0⟩ | ⟨g, cap, cur, rfl, hb, hg, h1, h2, _⟩
  · omega
  · exact ⟨g, cap, rfl, hb, (Array.getElem?_eq_some_iff.1 hg).1, h1, h2⟩
theorem World.ownsRow_keptB {w w' : World} {base e n : Nat} {v : Value} {xs : List Value} (h : w.ownsRow base e 1 v n xs) (hb : Below w.heap.size w w') : w'.ownsRow base e 1 v n xs := by
  obtain ⟨h1, h2⟩ := h
  refine ⟨h1, ?_⟩
  rcases h2 with h2 | ⟨g', cap', cur, hv, hg, hh, r⟩
  · exact .inl h2
  · exact .inr ⟨g', cap', cur, hv, hg, by rw [hb.block g' (Array.getElem?_eq_some_iff.1 hh).1]; exact hh, r⟩
def flipF (l : List Int) (j p : Nat) : Int := if p < j then 1 - bitsF l p else bitsF l p
theorem flipF_set (l : List Int) (n j : Nat) : (rowB (flipF l j) n).set j (1 - bitsF l j) = rowB (flipF l (j + 1)) n := by
  rw [rowB_set]
  refine rowB_congr fun i _ => ?_
  unfold flipF
  by_cases h : i = j
  · subst h; simp
  · by_cases h2 : i < j
    · simp [h, h2, show i < j + 1 by omega]
    · simp [h, h2, show ¬ i < j + 1 by omega]
theorem flipF_all (l : List Int) (n : Nat) : rowB (flipF l 32) n = rowB (rowBit l 0) n := rowB_congr fun i _ => by
  rw [rowBit_zero]; rfl

set_option maxRecDepth 100000 in
set_option maxHeartbeats 4000000 in
set_option maxRecDepth 20000 in
theorem RSum_any {v : Value} {l : List Int} {w : World} (hv : Bs w v l) (hm : l.length ≤ 100000) :
    Calls Tryd.prog 51 #[v] w fun e w' => e = .returned (.int .u32 ((crcSum l).toNat : Int)) ∧ Below w.heap.size w w' := by
  have HBy := hide hv.byte
  have hbits := hide (Bits_any hv (by omega))
  obtain ⟨_, ad, cap0, rfl, _⟩ := hv
  generalize hlen : l.length = len at *
  have HL := hide hlen
  clear hlen
  obtain ⟨i0, hi, hz0, hz1, hz2⟩ := info_parts Tryd.infoInt
  go_enter Tryd.func51, Tryd.ntmps51
  go_wp2_with fail
  refine hbits.out.mono ?_
  rintro e w1 ⟨r, rfl, hO1, hb1⟩
  have HO1 := hide hO1
  have HB1 := hide hb1
  clear hbits hO1 hb1
  go_wp2
  go_loopw [3, 4] (fun x i wr => ∃ j : Nat, j ≤ 32 ∧ i = .int .i64 j ∧ Hid (wr.ownsRow w.heap.size 3 1 x (8 * len + j) ((rowB (bitsF l) (8 * len + j)).map (Value.int .i64))) ∧ Hid (Below w.heap.size w wr)) (fun _ i _ => 32 - (intOf i).toNat)
  case atStart => exact ⟨0, Nat.zero_le _, rfl, HO1, HB1⟩
  case round =>
    obtain ⟨j, hj, rfl, HO, HB⟩ := hrel
    clear HO1 HB1
    by_cases hlt : j < 32
    · have hzero : Hid (bitsF l (8 * len + j) = 0) := by
        show bitsF l _ = 0
        unfold bitsF
        rw [mb_beyond l _ (by rw [HL.out]; omega)]
        rfl
      go_wp2_with (at_builtin; refine wpList_append_own _ rfl _ _ 63 rfl w.heap.size 3 i0 _ 1 8 Tryd.underlying63 hi hz0 hz1 hz2 rfl (by decide) _ (8 * len + j) _ rfl (HO.out.alloc _) _ 1 1 _ rfl rfl (cell_one_new _ _ _) (by intro u hu; simp at hu; subst hu; rfl) (by unfold maxLen; omega) (by omega) (by have := HB.out.size; simp; omega) ?_; intro v4 w4 hown4 hgrow4 _)
      have H4 : Hid (w4.ownsRow w.heap.size 3 1 v4 (8 * len + (j + 1)) ((rowB (bitsF l) (8 * len + (j + 1))).map (Value.int .i64))) := by
        show w4.ownsRow _ _ _ _ _ _
        rw [show 8 * len + (j + 1) = 8 * len + j + 1 by omega, rowB_succ, List.map_append, hzero.out]
        exact hown4
      have hb4 : Below w.heap.size w w4 := (HB.out.alloc HB.out.size _).grown hgrow4 (by have := HB.out.size; simp; omega) (fun k e => (HO.out.lt k e).1)
      clear hown4 hgrow4
      go_roundw
      case rel => exact ⟨j + 1, by omega, by go_num, H4, hb4⟩
      case measure => simp [intOf]; omega
    · obtain rfl : j = 32 := by omega
      obtain ⟨g, cap, rfl, hg0, hg1, hN1, hN2⟩ := World.ownsRow_place HO.out (by omega)
      have HO0 : Hid (wr.ownsRow w.heap.size 3 1 (.slice (some ⟨g, 0, none⟩) (8 * len + 32) cap) (8 * len + 32) ((rowB (flipF l 0) (8 * len + 32)).map (Value.int .i64))) := by
        have e : rowB (flipF l 0) (8 * len + 32) = rowB (bitsF l) (8 * len + 32) := rowB_congr fun i _ => by simp [flipF]
        show wr.ownsRow _ _ _ _ _ _
        rw [e]; exact HO.out
      have HB0 := HB
      clear HO HB
      generalize hNN : 8 * len + 32 = N at *
      go_wp2
      go_loopw [5] (fun i wr => ∃ j : Nat, j ≤ 32 ∧ i = .int .i64 j ∧ Hid (wr.ownsRow w.heap.size 3 1 (.slice (some ⟨g, 0, none⟩) N cap) N ((rowB (flipF l j) N).map (Value.int .i64))) ∧ Hid (Below w.heap.size w wr)) (fun i _ => 32 - (intOf i).toNat)
      case atStart => exact ⟨0, Nat.zero_le _, rfl, HO0, HB0⟩
      case round =>
        clear HO0 HB0
        obtain ⟨j, hj, rfl, HO, HB⟩ := hrel
        by_cases hlt : j < 32
        · have hjN : j < N := by omega
          have cd : wr.cell? ⟨g, j, none⟩ = some (.int .i64 (bitsF l j)) := by
            rw [HO.out.cellAt j (by omega), getElem?_map_i64 _ _ (by rw [rowB_length]; omega), rowB_getD _ _ _ hjN]
            simp [flipF]
          have fd := HO.out.frozenAt j
          have hst := HO.out.stored j (.int .i64 (1 - bitsF l j))
          rw [← List.map_set, flipF_set] at hst
          have HS := hide hst
          have hwr : IntKind.i64.wrap (1 - bitsF l j) = 1 - bitsF l j := by
            unfold bitsF
            rcases b2i_range (mb l j) with h | h <;> rw [h] <;> decide
          generalize bitsF l j = z at *
          clear hst
          go_wp2
          go_roundw
          case rel => exact ⟨j + 1, by omega, by go_num, HS.out.1, HB.out.setCell (p := ⟨g, j, none⟩) hg0 _⟩
          case measure => simp [intOf]; omega
        · obtain rfl : j = 32 := by omega
          rw [flipF_all] at HO
          go_wp2_with fail
          refine (Poly_any _).mono ?_
          rintro e wp ⟨rfl, hPc, hbp, hps⟩
          have HOp := hide (World.ownsRow_keptB HO.out hbp)
          have HBp := hide (HB.out.trans (hbp.mono HB.out.size))
          have hgp : g < wr.heap.size := by
            obtain ⟨g', cap', e, _, h, _⟩ := World.ownsRow_place HO.out (by omega)
            cases e; exact h
          have HPc := hide hPc
          generalize wr.heap.size = gp at *
          clear hPc hbp hps HO HB
          have hne : (some gp : Option Nat) ≠ some g := by intro e; cases e; omega
          have HNE := hide hne
          clear hne
          go_wp2
          go_loopw [7] (fun i wr => ∃ j : Nat, j ≤ 8 * len ∧ i = .int .i64 j ∧ (∃ f : Nat → Int, Hid (∀ p, j ≤ p → f p = rowBit l j p) ∧ Hid (wr.ownsRow w.heap.size 3 1 (.slice (some ⟨g, 0, none⟩) N cap) N ((rowB f N).map (Value.int .i64)))) ∧ Hid (∀ k, k < 33 → wr.cell? ⟨gp, k, none⟩ = some (.int .i64 (polyL.getD k 0))) ∧ Hid (Below w.heap.size w wr)) (fun i _ => 8 * len - (intOf i).toNat)
          case atStart => exact ⟨0, Nat.zero_le _, rfl, ⟨rowBit l 0, fun _ _ => rfl, HOp⟩, HPc, HBp⟩
          case round =>
            clear HOp HPc HBp
            obtain ⟨j, hj, rfl, ⟨f, HF, HO⟩, HP, HB⟩ := hrel
            by_cases hlt : j < 8 * len
            · have hjN : j < N := by omega
              have hjN2 : (j : Int) + 32 < (N : Int) := by omega
              have cd : wr.cell? ⟨g, j, none⟩ = some (.int .i64 (f j)) := by
                rw [HO.out.cellAt j (by omega), getElem?_map_i64 _ _ (by rw [rowB_length]; omega), rowB_getD _ _ _ hjN]
              have hfj := HF.out j (Nat.le_refl _)
              have hfr : f j = 0 ∨ f j = 1 := by rw [hfj]; exact b2i_range _
              have HFJ := hide hfj
              clear hfj
              rcases hfr with hz | hz
              · rw [hz] at cd
                have H1 : Hid (∀ p, j + 1 ≤ p → f p = rowBit l (j + 1) p) := fun p hp => by
                  rw [HF.out p (by omega), rowBit_no l j p (by omega) (by rw [← HFJ.out]; exact hz)]
                clear hz
                go_wp2
                go_roundw
                case rel => exact ⟨j + 1, by omega, by go_num, ⟨f, H1, HO⟩, HP, HB⟩
                case measure => simp [intOf]; omega
              · rw [hz] at cd
                have HX : Hid (rowBit l j j = 1) := by show rowBit l j j = 1; rw [← HFJ.out]; exact hz
                clear hz
                go_wp2
                go_loopw [8] (fun i wr => ∃ t : Nat, t ≤ 33 ∧ i = .int .i64 t ∧ (∃ f : Nat → Int, Hid (∀ p, j < p → p < j + t → f p = rowBit l (j + 1) p) ∧ Hid (∀ p, j + t ≤ p → f p = rowBit l j p) ∧ Hid (wr.ownsRow w.heap.size 3 1 (.slice (some ⟨g, 0, none⟩) N cap) N ((rowB f N).map (Value.int .i64)))) ∧ Hid (∀ k, k < 33 → wr.cell? ⟨gp, k, none⟩ = some (.int .i64 (polyL.getD k 0))) ∧ Hid (Below w.heap.size w wr)) (fun i _ => 33 - (intOf i).toNat)
                case atStart => exact ⟨0, Nat.zero_le _, rfl, ⟨f, fun p h1 h2 => by omega, fun p hp => HF.out p hp, HO⟩, HP, HB⟩
                case round =>
                  clear HO HP HB HF HFJ cd
                  obtain ⟨t, ht, rfl, ⟨f, HF1, HF2, HO⟩, HP, HB⟩ := hrel
                  by_cases ht3 : t < 33
                  · have hjt : j + t < N := by omega
                    have hjt1 : (j : Int) + (t : Int) < (N : Int) := by omega
                    have hjt0 : 0 ≤ (j : Int) + (t : Int) := by omega
                    have hjtn : ((j : Int) + (t : Int)).toNat = j + t := by omega
                    have hjtw : IntKind.i64.wrap ((j : Int) + (t : Int)) = (j : Int) + (t : Int) := by rw [IntKind.wrap_i64]; omega
                    have cd : wr.cell? ⟨g, j + t, none⟩ = some (.int .i64 (f (j + t))) := by
                      rw [HO.out.cellAt (j + t) (by omega), getElem?_map_i64 _ _ (by rw [rowB_length]; omega), rowB_getD _ _ _ hjt]
                    have cp := HP.out t ht3
                    have fd := HO.out.frozenAt (j + t)
                    have hfv : f (j + t) = rowBit l j (j + t) := HF2.out _ (Nat.le_refl _)
                    have hfr : f (j + t) = 0 ∨ f (j + t) = 1 := by rw [hfv]; exact b2i_range _
                    have hpr : polyL.getD t 0 = 0 ∨ polyL.getD t 0 = 1 := by
                      have : ∀ t, t < 33 → polyL.getD t 0 = 0 ∨ polyL.getD t 0 = 1 := by decide
                      exact this t ht3
                    obtain ⟨y, hy⟩ : ∃ y, y = (f (j + t) + polyL.getD t 0) % 2 := ⟨_, rfl⟩
                    have hst := HO.out.stored (j + t) (.int .i64 y)
                    rw [← List.map_set, rowB_set] at hst
                    have HS := hide hst
                    have H1 : Hid (∀ p, j < p → p < j + (t + 1) → (fun i => if i = j + t then y else f i) p = rowBit l (j + 1) p) := fun p h1 h2 => by
                      show (if p = j + t then y else f p) = _
                      by_cases e : p = j + t
                      · subst e
                        rw [if_pos rfl, hy, hfv, rowBit_yes l j t (by omega) (by omega) HX.out]
                      · rw [if_neg e]; exact HF1.out p h1 (by omega)
                    have H2 : Hid (∀ p, j + (t + 1) ≤ p → (fun i => if i = j + t then y else f i) p = rowBit l j p) := fun p h1 => by
                      show (if p = j + t then y else f p) = _
                      rw [if_neg (by omega)]; exact HF2.out p (by omega)
                    have hP' : Hid (∀ k, k < 33 → (wr.setCell ⟨g, j + t, none⟩ (.int .i64 y)).cell? ⟨gp, k, none⟩ = some (.int .i64 (polyL.getD k 0))) := fun k hk => HS.out.2.cell (HP.out k hk) HNE.out
                    have hyv : Hid ((wrap64 (f (j + t) + polyL.getD t 0)).tmod 2 = y) := by
                      show _ = y
                      rw [hy]
                      rcases hfr with h | h <;> rcases hpr with h' | h' <;> rw [h, h'] <;> simp [wrap64]
                    generalize f (j + t) = z at *
                    generalize polyL.getD t 0 = q at *
                    clear hst hfv hfr hpr hy
                    go_wp2
                    go_region
                    go_wp2
                    rw [hyv.out]
                    go_roundw
                    case rel => exact ⟨t + 1, by omega, by go_num, ⟨_, H1, H2, HS.out.1⟩, hP', (HB.out.setCell (p := ⟨g, j + t, none⟩) hg0 _).drew⟩
                    case measure => simp [intOf]; omega
                  · obtain rfl : t = 33 := by omega
                    have H1 : Hid (∀ p, j + 1 ≤ p → f p = rowBit l (j + 1) p) := fun p hp => by
                      by_cases h : p < j + 33
                      · exact HF1.out p (by omega) h
                      · rw [HF2.out p (by omega), rowBit_far l j p (by omega)]
                    go_wp2
                    go_roundw
                    case rel => exact ⟨j + 1, by omega, by go_num, ⟨f, H1, HO⟩, HP, HB⟩
                    case measure => simp [intOf]; omega
            · obtain rfl : j = 8 * len := by omega
              have hN0 : (N : Int) - 32 = ((8 * len : Nat) : Int) := by omega
              have hN3 : N - 8 * len = 32 := by omega
              have hNw : IntKind.i64.wrap ((N : Int) - 32) = (N : Int) - 32 := by rw [IntKind.wrap_i64]; omega
              have hNl : (N : Int) - 32 ≤ N := by omega
              have hNz : 0 ≤ (N : Int) - 32 := by omega
              have hNt : ((N : Int) - 32).toNat = 8 * len := by omega
              have hNn : ¬ N = 8 * len := by omega
              go_wp2
              go_loopw [9, 11] (fun n i wr' => wr' = wr ∧ ∃ j : Nat, j ≤ 32 ∧ i = .int .i64 ((j : Int) - 1) ∧ n = .int .u32 (((crcSum l).toNat / 2 ^ j : Nat) : Int)) (fun _ i _ => (intOf i + 1).toNat)
              case atStart =>
                refine ⟨rfl, 32, by omega, rfl, ?_⟩
                rw [Nat.div_eq_of_lt (crcSum l).isLt]; rfl
              case round =>
                obtain ⟨rfl, j, hj, rfl, rfl⟩ := hrel
                by_cases hj0 : 0 < j
                · obtain ⟨k, rfl⟩ : ∃ k, j = k + 1 := ⟨j - 1, by omega⟩
                  rw [show ((k + 1 : Nat) : Int) - 1 = (k : Int) by omega]
                  have hk : k < 32 := by omega
                  have hk0 : 0 ≤ (k : Int) := by omega
                  have hk32 : (k : Int) < 32 := by omega
                  have hrb := HF.out (8 * len + k) (by omega)
                  have hlast := rowBit_last l HBy.out k hk
                  rw [HL.out, ← hrb] at hlast
                  have hdown := bits_down (crcSum l) k
                  rw [← hlast] at hdown
                  have cd : wr.cell? ⟨g, 8 * len + k, none⟩ = some (.int .i64 (f (8 * len + k))) := by
                    rw [HO.out.cellAt (8 * len + k) (by omega), getElem?_map_i64 _ _ (by rw [rowB_length]; omega), rowB_getD _ _ _ (by omega)]
                  have hfr : f (8 * len + k) = 0 ∨ f (8 * len + k) = 1 := by rw [hrb]; exact b2i_range _
                  have hlt32 : (((crcSum l).toNat / 2 ^ k : Nat) : Int) < 4294967296 := by
                    have h1 : (crcSum l).toNat / 2 ^ k ≤ (crcSum l).toNat := Nat.div_le_self _ _
                    have h2 := (crcSum l).isLt
                    omega
                  have hn1 : 0 ≤ (((crcSum l).toNat / 2 ^ (k + 1) : Nat) : Int) := Int.natCast_nonneg _
                  have HN1 := hide hn1
                  clear hn1
                  have HD := hide hdown
                  have HFR := hide hfr
                  have HLT := hide hlt32
                  generalize f (8 * len + k) = z at *
                  generalize (((crcSum l).toNat / 2 ^ (k + 1) : Nat) : Int) = n1 at *
                  generalize hn0 : (((crcSum l).toNat / 2 ^ k : Nat) : Int) = n0 at *
                  have HN0 := hide hn0
                  clear hrb hlast hdown hfr hlt32 hn0
                  go_wp2
                  have hval : (n1 * 2 % 4294967296 + wrap64 (1 - z) % 4294967296) % 4294967296 = n0 := by
                    have h1 := HD.out
                    have h2 := HLT.out
                    have h3 := HN1.out
                    unfold wrap64
                    rcases HFR.out with h | h <;> rw [h] at h1 ⊢ <;> omega
                  go_roundw
                  case rel => exact ⟨trivial, k, by omega, rfl, by rw [HN0.out, hval]⟩
                  case measure => simp [intOf]
                · obtain rfl : j = 0 := by omega
                  go_wp2
                  go_ret
                  exact ⟨by rw [Nat.pow_zero, Nat.div_one]; rfl, HB.out⟩
end Go.Proofs.YtiimppbfigikfaaDoor
