/-
  The walk of the statement CrcAdds: whatever the three texts, it answers true and writes nothing that was there. Condition: the table lies as the program's text lays it.
-/
import Derived.Test.YtjoejbdgiepdcaaDoorSums
import Derived.Test.YtjoejbdgiepdcaaDoorCame
import Derived.RegionTactic
import Derived.ChangeAlike
import Derived.BigRegion
namespace Go.Proofs.YtjoejbdgiepdcaaDoor
open Go.RowKit
set_option linter.unusedVariables false

theorem Bs.spot {w : World} {a : Option Addr} {len cap : Nat} {l : List Int} (h : Bs w (.slice a len cap) l) (hl : l.length = len) (j : Nat) (hj : j < len) :
    ∃ b off, a = some ⟨b, off, none⟩ ∧ w.cell? ⟨b, off + j, none⟩ = some (.int .u8 (l.getD j 0)) := by
  obtain ⟨_, a', cap', e, _, _, _, h4⟩ := h
  simp only [Value.slice.injEq] at e
  rw [e.1]
  exact h4 j (by omega)

set_option maxRecDepth 100000 in
set_option maxHeartbeats 2000000 in
theorem Adds_walk {va vb vc : Value} {a b c : List Int} {w : World} (ha : Bs w va a) (hb : Bs w vb b) (hc : Bs w vc c) (hT : Tab w) (hma : a.length ≤ maxLen) (hmb : b.length ≤ maxLen) (hmc : c.length ≤ maxLen) :
    Calls Tryd.prog 6 #[va, vb, vc] w fun e w' => e = .returned (.bool true) ∧ Below w.heap.size w w' := by
  have HA := hide ha
  have HB := hide hb
  have HC := hide hc
  have HT := hide hT
  have bya := hide ha.byte
  have byb := hide hb.byte
  have byc := hide hc.byte
  obtain ⟨_, aa, capa, rfl, _⟩ := ha
  obtain ⟨_, ab, capb, rfl, _⟩ := hb
  obtain ⟨_, ac, capc, rfl, _⟩ := hc
  unfold maxLen at hma hmb hmc
  clear hT
  by_cases hcond : 300 < a.length ∨ b.length ≠ a.length ∨ c.length ≠ a.length
  · rcases (show 300 < a.length ∨ (a.length ≤ 300 ∧ b.length ≠ a.length) ∨ (a.length ≤ 300 ∧ b.length = a.length ∧ c.length ≠ a.length) from by omega) with h1 | ⟨h1, h2⟩ | ⟨h1, h2, h3⟩
    · clear hcond
      go_enter Tryd.func6, Tryd.ntmps6
      go_wp2_with fail
      refine (sums_any w HT.out).mono ?_
      rintro e w1 ⟨rfl, hb1⟩
      go_wp2
      go_ret
      exact ⟨rfl, hb1⟩
    · have h2' : ((b.length : Int) != (a.length : Int)) = true := by rw [bne_iff_ne]; omega
      clear hcond h2
      go_enter Tryd.func6, Tryd.ntmps6
      go_wp2_with fail
      refine (sums_any w HT.out).mono ?_
      rintro e w1 ⟨rfl, hb1⟩
      go_wp2
      go_ret
      exact ⟨rfl, hb1⟩
    · have h2' : ((b.length : Int) != (a.length : Int)) = false := by rw [bne_eq_false_iff_eq]; omega
      have h3' : ((c.length : Int) != (a.length : Int)) = true := by rw [bne_iff_ne]; omega
      clear hcond h2 h3
      go_enter Tryd.func6, Tryd.ntmps6
      go_wp2_with fail
      refine (sums_any w HT.out).mono ?_
      rintro e w1 ⟨rfl, hb1⟩
      go_wp2
      go_ret
      exact ⟨rfl, hb1⟩
  · have hlb : b.length = a.length := by omega
    have hlc : c.length = a.length := by omega
    rw [hlb] at HB
    rw [hlc] at HC
    have hs3 := hide (crcSum_xor3 bya.out byb.out byc.out rfl hlb hlc)
    have hrg := hide (xor3_range bya.out byb.out byc.out)
    rw [hlb, hlc]
    have h3 : a.length ≤ 300 := by omega
    clear hcond
    generalize hla : a.length = len at *
    have HLA := hide hla
    have HLB := hide hlb
    have HLC := hide hlc
    clear hla hlb hlc hmb hmc hma
    obtain ⟨i0, hi, hz0, hz1, hz2⟩ := info_parts Tryd.infoU8
    go_enter Tryd.func6, Tryd.ntmps6
    go_wp2_with fail
    refine (sums_any w HT.out).mono ?_
    rintro e w1 ⟨rfl, hb1⟩
    go_wp2_with (at_make; refine wpList_make_full _ rfl _ _ 24 rfl w1.heap.size 5 i0 (.int .u8 0) 1 Tryd.underlying24 hi hz0 hz1 _ _ _ _ len rfl rfl rfl rfl (by rw [hz2]; omega) (by unfold maxLen; omega) (Nat.le_refl _) ?_; intro w2 hown hgrow)
    have hb2 : Below w1.heap.size w1 w2 := (Below.refl _ _).grown hgrow (Nat.le_refl _) (fun _ e => by cases e)
    have H0 : Hid (w2.ownsRow w1.heap.size 5 1 (.slice (some ⟨w1.heap.size, 0, none⟩) len len) len ((rowUp (xor3 a b c) len 0).map (Value.int .u8))) := by
      show w2.ownsRow _ _ _ _ _ _
      rw [rowUp_zero, List.map_replicate, ← toList_madeCells_one]
      simpa [Value.cells] using hown
    have HB2 := hide (hb1.trans (hb2.mono hb1.size))
    have hgs := hb1.size
    generalize w1.heap.size = g at *
    clear hown hgrow hb1 hb2
    go_loopw [33] (fun i wr => ∃ j : Nat, j ≤ len ∧ i = .int .i64 j ∧ Hid (wr.ownsRow g 5 1 (.slice (some ⟨g, 0, none⟩) len len) len ((rowUp (xor3 a b c) len j).map (Value.int .u8))) ∧ Hid (Below w.heap.size w wr)) (fun i _ => len - (intOf i).toNat)
    case atStart => exact ⟨0, Nat.zero_le _, rfl, H0, HB2⟩
    case round =>
      obtain ⟨j, hj, rfl, HO, HBr⟩ := hrel
      clear H0 HB2
      by_cases hlt : j < len
      · obtain ⟨ba, oa, rfl, ca⟩ := (HA.out.below HBr.out).spot HLA.out j hlt
        obtain ⟨bb, ob, rfl, cb⟩ := (HB.out.below HBr.out).spot HLB.out j hlt
        obtain ⟨bc, oc, rfl, cc⟩ := (HC.out.below HBr.out).spot HLC.out j hlt
        have cd : wr.cell? ⟨g, j, none⟩ = some (.int .u8 ((rowUp (xor3 a b c) len j).getD j 0)) := by
          rw [HO.out.cellAt j (by omega), getElem?_map_u8 _ _ (by rw [rowUp_length]; omega)]
        have fd := HO.out.frozenAt j
        have hst := HO.out.stored j (.int .u8 (xor3 a b c j))
        rw [← List.map_set, rowUp_set] at hst
        have HS := hide hst
        have hx : Hid (bits .xor .u8 (bits .xor .u8 (a.getD j 0) (b.getD j 0)) (c.getD j 0) = xor3 a b c j) := rfl
        generalize (rowUp (xor3 a b c) len j).getD j 0 = zd at *
        generalize xor3 a b c j = yx at *
        generalize a.getD j 0 = xa at *
        generalize b.getD j 0 = xb at *
        generalize c.getD j 0 = xc at *
        clear hst
        go_wp2
        go_region
        go_wp2
        rw [hx.out]
        go_roundw
        case rel => exact ⟨j + 1, by omega, by go_num, HS.out.1, (HBr.out.setCell (p := ⟨g, j, none⟩) hgs _).drew⟩
        case measure => simp [intOf]; omega
      · have hown := HO.out
        have hfj : rowUp (xor3 a b c) len j = rowUp (xor3 a b c) len len := by rw [show j = len by omega]
        rw [hfj] at hown
        have hD : Bs wr (.slice (some ⟨g, 0, none⟩) len len) (rowUp (xor3 a b c) len len) := by
          have := Bs.own (l := rowUp (xor3 a b c) len len) (by rw [rowUp_length]; exact hown) (rowUp_byte _ hrg.out len len)
          rwa [rowUp_length] at this
        have HD := hide hD
        have hld : (rowUp (xor3 a b c) len len).length = len := rowUp_length _ _ _
        have HLD := hide hld
        have hfin : ((bits .xor .u32 (bits .xor .u32 ((crcSum a).toNat : Int) ((crcSum b).toNat : Int)) ((crcSum c).toNat : Int)) == ((crcSum (rowUp (xor3 a b c) len len)).toNat : Int)) = true := by
          rw [sp_xor, sp_xor, hs3.out, beq_self_eq_true]
        clear hown hfj hD hld
        generalize hsa : crcSum a = sa at *
        generalize hsb : crcSum b = sb at *
        generalize hsc : crcSum c = sc at *
        generalize hsd : crcSum (rowUp (xor3 a b c) len len) = sd at *
        have KA := hide hsa
        have KB := hide hsb
        have KC := hide hsc
        have KD := hide hsd
        clear hsa hsb hsc hsd
        have HTr := hide (HT.out.later HBr.out)
        go_wp2_with fail
        refine (Sum_one (HA.out.below HBr.out) HTr.out (by rw [HLA.out]; omega)).mono ?_
        rintro e wa ⟨rfl, hba⟩
        rw [KA.out]
        have HBa := hide (HBr.out.trans (hba.mono HBr.out.size))
        have HDa := hide (HD.out.below hba)
        clear hba
        go_wp2_with fail
        refine (Sum_one (HB.out.below HBa.out) (HT.out.later HBa.out) (by rw [HLB.out]; omega)).mono ?_
        rintro e wb ⟨rfl, hbb⟩
        rw [KB.out]
        have HBb := hide (HBa.out.trans (hbb.mono HBa.out.size))
        have HDb := hide (HDa.out.below hbb)
        clear hbb
        go_wp2_with fail
        refine (Sum_one (HC.out.below HBb.out) (HT.out.later HBb.out) (by rw [HLC.out]; omega)).mono ?_
        rintro e wc ⟨rfl, hbc⟩
        rw [KC.out]
        have HBc := hide (HBb.out.trans (hbc.mono HBb.out.size))
        have HDc := hide (HDb.out.below hbc)
        clear hbc
        go_wp2_with fail
        refine (Sum_one HDc.out (HT.out.later HBc.out) (by rw [HLD.out]; omega)).mono ?_
        rintro e wd ⟨rfl, hbd⟩
        rw [KD.out]
        have HBd := hide (HBc.out.trans (hbd.mono HBc.out.size))
        clear hbd
        go_wp2
        go_ret
        exact ⟨rfl, HBd.out⟩
end Go.Proofs.YtjoejbdgiepdcaaDoor
