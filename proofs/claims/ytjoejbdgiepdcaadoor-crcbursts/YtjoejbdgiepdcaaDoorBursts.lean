/-
  The walk of the statement CrcBursts: whatever the bytes, the place and the change, it answers true and writes nothing that was there. Condition: the table lies as the program's text lays it.
-/
import Derived.Test.YtjoejbdgiepdcaaDoorSums
import Derived.Test.YtjoejbdgiepdcaaDoorCame
import Derived.Test.YtjoejbdgiepdcaaDoorCrcBit
import Derived.RegionTactic
import Derived.ChangeAlike
import Derived.BigRegion
namespace Go.Proofs.YtjoejbdgiepdcaaDoor
open Go.RowKit
set_option linter.unusedVariables false

theorem Bs.place {w : World} {a : Option Addr} {len cap : Nat} {l : List Int} (h : Bs w (.slice a len cap) l) (hl : l.length = len) (h0 : 0 < len) :
    ∃ b off, a = some ⟨b, off, none⟩ ∧ ∀ i, i < len → w.cell? ⟨b, off + i, none⟩ = some (.int .u8 (l.getD i 0)) := by
  rcases h.cases with ⟨rfl, _⟩ | ⟨b, off, cap', e, _, _, _, hc⟩
  · simp at hl; omega
  · simp only [Value.slice.injEq] at e
    exact ⟨b, off, e.1, by rw [← hl]; exact hc⟩
/-- The text after j bits: the register, and what it is. -/
def Flip (b : List Int) (at_ : Nat) (ch : B32) (j : Nat) (cur : List Int) : Prop :=
  cur.length = b.length ∧ Byte cur ∧ crcD ones cur = crcD ones b ^^^ it (8 * b.length - at_) (low ch j)
theorem Flip.start (b : List Int) (at_ : Nat) (ch : B32) (hb : Byte b) : Flip b at_ ch 0 b := ⟨rfl, hb, by rw [low_zero, it_zero, BitVec.xor_zero]⟩
theorem Flip.skip {b cur : List Int} {at_ j : Nat} {ch : B32} (h : Flip b at_ ch j cur) (hj : j < 32) (hbit : ch.getLsbD j = false) : Flip b at_ ch (j + 1) cur := by
  obtain ⟨h1, h2, h3⟩ := h
  refine ⟨h1, h2, ?_⟩
  rw [low_succ ch j hj, hbit, h3]
  simp
theorem Flip.turn {b cur : List Int} {at_ j : Nat} {ch : B32} (h : Flip b at_ ch j cur) (hj : j < 32) (hbit : ch.getLsbD j = true) (hat : at_ + 32 ≤ 8 * b.length) :
    Flip b at_ ch (j + 1) (cur.set ((at_ + j) / 8) (bits .xor .u8 (cur.getD ((at_ + j) / 8) 0) (2 ^ ((at_ + j) % 8)))) := by
  obtain ⟨h1, h2, h3⟩ := h
  have hr : (at_ + j) % 8 < 8 := Nat.mod_lt _ (by decide)
  refine ⟨by rw [List.length_set, h1], h2.set _ _ (byte_xor _ _ (h2.getD _) (pow_byte _ hr)).1, ?_⟩
  rw [crcD_flip ones cur _ _ (by omega) hr h2, h3, low_succ ch j hj, hbit]
  simp only [if_true]
  rw [it_xor, it_pow_le j _ (by omega) (by omega), BitVec.xor_assoc, h1]
  congr 3
  omega
theorem Flip.seen {b cur : List Int} {at_ : Nat} {ch : B32} (h : Flip b at_ ch 32 cur) (hch : ch ≠ 0#32) : crcSum b ≠ crcSum cur := by
  intro he
  have h1 := crcSum_inj he
  rw [h.2.2, low_all] at h1
  have h2 : it (8 * b.length - at_) ch = 0#32 := by
    have := congrArg (crcD ones b ^^^ ·) h1
    simp only [← BitVec.xor_assoc, BitVec.xor_self, BitVec.zero_xor] at this
    exact this.symm
  exact hch (it_eq_zero _ _ h2)

theorem bit_test (ch : Int) (j : Nat) (h0 : 0 ≤ ch) (h1 : ch ≤ 4294967295) : bits .and .u32 (ch / 2 ^ j) 1 = if (BitVec.ofNat 32 ch.toNat).getLsbD j then 1 else 0 := by
  obtain ⟨n, rfl⟩ := Int.eq_ofNat_of_zero_le h0
  have hle : n / 2 ^ j ≤ n := Nat.div_le_self _ _
  have e : ((n : Int) / 2 ^ j) = ((n / 2 ^ j : Nat) : Int) := by push_cast; rfl
  have := u32_and_nat (n / 2 ^ j) 1 (by omega) (by decide)
  rw [nat_mask1] at this
  rw [e]
  refine this.trans ?_
  rw [Int.toNat_natCast, BitVec.getLsbD, BitVec.toNat_ofNat, Nat.mod_eq_of_lt (show n < 2 ^ 32 by omega), Nat.testBit_eq_decide_div_mod_eq]
  by_cases h : n / 2 ^ j % 2 = 1
  · simp [h]
  · simp [h]; omega
theorem bit_yes (ch : Int) (j : Nat) (h0 : 0 ≤ ch) (h1 : ch ≤ 4294967295) (h : (BitVec.ofNat 32 ch.toNat).getLsbD j = true) : (bits .and .u32 (ch / 2 ^ j) 1 == 1) = true := by rw [bit_test ch j h0 h1, h]; rfl
theorem bit_no (ch : Int) (j : Nat) (h0 : 0 ≤ ch) (h1 : ch ≤ 4294967295) (h : (BitVec.ofNat 32 ch.toNat).getLsbD j = false) : (bits .and .u32 (ch / 2 ^ j) 1 == 1) = false := by rw [bit_test ch j h0 h1, h]; rfl

set_option maxRecDepth 100000 in
set_option maxHeartbeats 2000000 in
theorem Bursts_walk {v : Value} {b : List Int} {w : World} (hv : Bs w v b) (hT : Tab w) (a ch : Int) (ha1 : -9223372036854775808 ≤ a) (ha2 : a ≤ 9223372036854775807) (hc1 : 0 ≤ ch) (hc2 : ch ≤ 4294967295) (hm : b.length ≤ maxLen) :
    Calls Tryd.prog 7 #[v, .int .i64 a, .int .u32 ch] w fun e w' => e = .returned (.bool true) ∧ Below w.heap.size w w' := by
  have HV := hide hv
  have HT := hide hT
  have hby := hide hv.byte
  obtain ⟨_, ad, cap, rfl, hcap⟩ := hv
  have hcap1 := hcap.1
  clear hcap hT
  unfold maxLen at hm
  generalize hlen : b.length = len at *
  have HL := hide hlen
  clear hlen
  by_cases hcond : 300 < len ∨ ch = 0 ∨ a < 0 ∨ 8 * (len : Int) - 32 < a
  · rcases (show 300 < len ∨ (len ≤ 300 ∧ ch = 0) ∨ (len ≤ 300 ∧ ch ≠ 0 ∧ a < 0) ∨ (len ≤ 300 ∧ ch ≠ 0 ∧ 0 ≤ a ∧ 8 * (len : Int) - 32 < a) from by omega) with h1 | ⟨h1, h2⟩ | ⟨h1, h2, h3⟩ | ⟨h1, h2, h3, h4⟩
    · clear hcond
      go_enter Tryd.func7, Tryd.ntmps7
      go_wp2_with fail
      refine (sums_any w HT.out).mono ?_
      rintro e w1 ⟨rfl, hb1⟩
      go_wp2
      go_ret
      exact ⟨rfl, hb1⟩
    · subst h2
      clear hcond
      go_enter Tryd.func7, Tryd.ntmps7
      go_wp2_with fail
      refine (sums_any w HT.out).mono ?_
      rintro e w1 ⟨rfl, hb1⟩
      go_wp2
      go_ret
      exact ⟨rfl, hb1⟩
    · have h2' : (ch == 0) = false := by rw [beq_eq_false_iff_ne]; exact h2
      clear hcond h2
      go_enter Tryd.func7, Tryd.ntmps7
      go_wp2_with fail
      refine (sums_any w HT.out).mono ?_
      rintro e w1 ⟨rfl, hb1⟩
      go_wp2
      go_ret
      exact ⟨rfl, hb1⟩
    · have h2' : (ch == 0) = false := by rw [beq_eq_false_iff_ne]; exact h2
      clear hcond h2
      go_enter Tryd.func7, Tryd.ntmps7
      go_wp2_with fail
      refine (sums_any w HT.out).mono ?_
      rintro e w1 ⟨rfl, hb1⟩
      go_wp2
      go_ret
      exact ⟨rfl, hb1⟩
  · have h3 : len ≤ 300 := by omega
    have hch0 : ch ≠ 0 := by omega
    have ha0 : 0 ≤ a := by omega
    have ha8 : a ≤ 8 * (len : Int) - 32 := by omega
    have h2' : (ch == 0) = false := by rw [beq_eq_false_iff_ne]; exact hch0
    have HCH := hide hch0
    clear hcond hch0 hm
    obtain ⟨a, rfl⟩ := Int.eq_ofNat_of_zero_le ha0
    obtain ⟨b0, o0, rfl, hcb⟩ : ∃ b1 off, ad = some ⟨b1, off, none⟩ ∧ ∀ i, i < len → w.cell? ⟨b1, off + i, none⟩ = some (.int .u8 (b.getD i 0)) := Bs.place HV.out HL.out (by omega)
    have HCB := hide hcb
    clear hcb
    obtain ⟨i0, hi, hz0, hz1, hz2⟩ := info_parts Tryd.infoU8
    go_enter Tryd.func7, Tryd.ntmps7
    go_wp2_with fail
    refine (sums_any w HT.out).mono ?_
    rintro e w1 ⟨rfl, hb1⟩
    have hgs := hb1.size
    have hba : Below w.heap.size w (w1.alloc (.cells #[] 5)) := hb1.alloc hgs _
    have hown0 : (w1.alloc (.cells #[] 5)).ownsRow w1.heap.size 5 1 (.slice (some ⟨w1.heap.size, 0, none⟩) 0 0) 0 [] := World.ownsRow_made w1 #[] 0 (Nat.le_refl _) (by simp [maxLen]) rfl
    have hnews : ∀ t u, (b.map (Value.int .u8))[t]? = some u → (w1.alloc (.cells #[] 5)).cell? ((⟨b0, o0, none⟩ : Addr).add t) = some u := by
      obtain ⟨_, a', cap', e, _, _, _, h6⟩ := HV.out.below hba
      simp only [Value.slice.injEq] at e
      obtain ⟨rfl, _, _⟩ := e
      exact Bs.news h6 _ rfl
    have hone := ints_oneCell .u8 b
    have hnl : (b.map (Value.int .u8)).length = len * 1 := by rw [List.length_map, HL.out, Nat.mul_one]
    have HO0 := hide hown0
    have HN := hide hnews
    have HON := hide hone
    have HNL := hide hnl
    have HBA := hide hba
    have HB1 := hide hb1
    clear hown0 hnews hone hnl hba hb1
    go_wp2_with (at_builtin; refine wpList_append_own _ rfl _ _ 24 rfl w1.heap.size 5 i0 (.int .u8 0) 1 1 Tryd.underlying24 hi hz0 hz1 hz2 rfl (by decide) (.slice (some ⟨w1.heap.size, 0, none⟩) 0 0) 0 [] rfl HO0.out ⟨b0, o0, none⟩ len cap (b.map (Value.int .u8)) rfl HNL.out HN.out HON.out (by unfold maxLen; omega) (by omega) (by simp) ?_; intro v2 w2 hown2 hgrow2 _; simp only [Nat.zero_add, List.nil_append] at hown2)
    have hb2 : Below w.heap.size w w2 := HBA.out.grown hgrow2 HBA.out.size (fun k e => by cases e; exact hgs)
    obtain ⟨g, cap2, rfl, hgg⟩ : ∃ g cap2, v2 = .slice (some ⟨g, 0, none⟩) len cap2 ∧ w1.heap.size ≤ g := by
      rcases hown2.2 with ⟨_, h0⟩ | ⟨g, cap', cur, hv, hg, _⟩
      · omega
      · exact ⟨g, cap', hv, hg⟩
    have HO2 := hide hown2
    have HB2 := hide hb2
    have hgw : w.heap.size ≤ g := Nat.le_trans hgs hgg
    generalize w1.heap.size = base at *
    clear hown2 hgrow2 hb2 HO0 HN HON HNL HBA HB1
    go_wp2
    obtain ⟨CH, hCH⟩ : ∃ CH : B32, CH = BitVec.ofNat 32 ch.toNat := ⟨_, rfl⟩
    have HC := hide hCH
    clear hCH
    go_loopw [33] (fun i wr => ∃ j : Nat, j ≤ 32 ∧ i = .int .i64 j ∧ (∃ cur, Hid (Flip b a CH j cur) ∧ Hid (wr.ownsRow base 5 1 (.slice (some ⟨g, 0, none⟩) len cap2) len (cur.map (Value.int .u8)))) ∧ Hid (Below w.heap.size w wr)) (fun i _ => 32 - (intOf i).toNat)
    case atStart => exact ⟨0, Nat.zero_le _, rfl, ⟨b, Flip.start b a CH hby.out, HO2⟩, HB2⟩
    case round =>
      obtain ⟨j, hj, rfl, ⟨cur, HF, HO⟩, HBr⟩ := hrel
      clear HO2 HB2
      have hcl := HF.out.1
      rw [HL.out] at hcl
      by_cases hlt : j < 32
      · cases hbit : CH.getLsbD j with
        | true =>
          have ht := bit_yes ch j hc1 hc2 (by rw [← HC.out]; exact hbit)
          have hix : (a + j) / 8 < len := by omega
          have hcell : wr.cell? ⟨g, (a + j) / 8, none⟩ = some (.int .u8 (cur.getD ((a + j) / 8) 0)) := by
            rw [HO.out.cellAt _ (by omega), getElem?_map_u8 _ _ (by omega)]
          have hfz := HO.out.frozenAt ((a + j) / 8)
          have hst := HO.out.stored ((a + j) / 8) (.int .u8 (bits .xor .u8 (cur.getD ((a + j) / 8) 0) (2 ^ ((a + j) % 8))))
          rw [← List.map_set] at hst
          have HS := hide hst
          have HF2 := hide (HF.out.turn hlt hbit (by rw [HL.out]; omega))
          generalize cur.getD ((a + j) / 8) 0 = x at *
          clear hst hbit hcl
          go_wp2
          go_region
          go_wp2
          rw [Int.emod_eq_of_lt (pow_byte ((a + j) % 8) (Nat.mod_lt _ (by decide))).1 (by have := (pow_byte ((a + j) % 8) (Nat.mod_lt _ (by decide))).2; omega)]
          go_roundw
          case rel => exact ⟨j + 1, by omega, by go_num, ⟨_, HF2, HS.out.1.drew⟩, (HBr.out.setCell (p := ⟨g, (a + j) / 8, none⟩) hgw _).drew⟩
          case measure => simp [intOf]; omega
        | false =>
          have ht := bit_no ch j hc1 hc2 (by rw [← HC.out]; exact hbit)
          have HF2 := hide (HF.out.skip hlt hbit)
          clear hbit hcl
          go_wp2
          go_roundw
          case rel => exact ⟨j + 1, by omega, by go_num, ⟨cur, HF2, HO⟩, HBr⟩
          case measure => simp [intOf]; omega
      · have hj32 : j = 32 := by omega
        have HF32 := HF.out
        rw [hj32] at HF32
        have hne := HF32.seen (by
          intro h0
          apply HCH.out
          have := congrArg BitVec.toNat h0
          rw [HC.out, BitVec.toNat_ofNat] at this
          simp at this
          omega)
        have hcby := HF32.2.1
        have hC : Bs wr (.slice (some ⟨g, 0, none⟩) len cap2) cur := by
          have := Bs.own (l := cur) (by rw [hcl]; exact HO.out) hcby
          rwa [hcl] at this
        have hneq : (((crcSum b).toNat : Int) != ((crcSum cur).toNat : Int)) = true := by
          rw [bne_iff_ne]
          intro h
          exact hne (BitVec.eq_of_toNat_eq (by omega))
        have HCu := hide hC
        have HLC := hide hcl
        generalize hsb : crcSum b = sb at *
        generalize hsc : crcSum cur = sc at *
        have KB := hide hsb
        have KC := hide hsc
        clear hsb hsc hC hne HF32 hcby hcl
        go_wp2_with fail
        refine (Sum_one (HV.out.below HBr.out) (HT.out.later HBr.out) (by rw [HL.out]; omega)).mono ?_
        rintro e wa ⟨rfl, hba⟩
        rw [KB.out]
        have HBa := hide (HBr.out.trans (hba.mono HBr.out.size))
        have HCa := hide (HCu.out.below hba)
        clear hba
        go_wp2_with fail
        refine (Sum_one HCa.out (HT.out.later HBa.out) (by rw [HLC.out]; omega)).mono ?_
        rintro e wb ⟨rfl, hbb⟩
        rw [KC.out]
        have HBb := hide (HBa.out.trans (hbb.mono HBa.out.size))
        clear hbb
        go_wp2
        go_ret
        exact ⟨rfl, HBb.out⟩
end Go.Proofs.YtjoejbdgiepdcaaDoor
