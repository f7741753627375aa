/-
  The walk of the statement CrcOpens: whatever the bytes, it answers true and writes nothing that was there. Condition: the table lies as the program's text lays it.
-/
import Derived.Test.YtjoejbdgiepdcaaDoorRefSum2
import Derived.Test.YtjoejbdgiepdcaaDoorSums
import Derived.Test.YtjoejbdgiepdcaaDoorCame
import Derived.BigQuiet
import Derived.Deep.QuietTactic
import Derived.Deep.DrawnRows
import Derived.Outline
namespace Go.Proofs.YtjoejbdgiepdcaaDoor
open Go.RowKit
set_option linter.unusedVariables false

theorem sumBytes_four (s : B32) : sumBytes s = [(s.toNat : Int) % 256, (s.toNat : Int) / 256 % 256, (s.toNat : Int) / 65536 % 256, (s.toNat : Int) / 16777216 % 256] := by
  simp [sumBytes, List.range_succ]
theorem num_four (a b c d : Int) : num [d, c, b, a] = ((d * 256 + c) * 256 + b) * 256 + a := by simp [num]
theorem four_of {t : List Int} (h : t.length = 4) : ∃ a b c d, t = [a, b, c, d] := by
  match t, h with
  | [a, b, c, d], _ => exact ⟨a, b, c, d, rfl⟩
/-- The sum stands behind, just if it is sealed. -/
theorem open_iff (l : List Int) (m : Nat) (hb : Byte l) (hl : l.length = m + 4) : num (l.drop m).reverse = ((crcSum (l.take m)).toNat : Int) ↔ sealL (l.take m) = l := by
  obtain ⟨a, b, c, d, ht⟩ := four_of (t := l.drop m) (by simp [hl])
  have hby := hb.drop m
  rw [ht] at hby
  have h1 := hby a (by simp)
  have h2 := hby b (by simp)
  have h3 := hby c (by simp)
  have h4 := hby d (by simp)
  have hs := (crcSum (l.take m)).isLt
  have hsplit : l = l.take m ++ [a, b, c, d] := by rw [← ht, List.take_append_drop]
  have e : sealL (l.take m) = l ↔ sumBytes (crcSum (l.take m)) = [a, b, c, d] := by
    unfold sealL
    constructor
    · intro h
      rw [hsplit] at h
      have hx : (l.take m ++ [a, b, c, d]).take m = l.take m := by rw [← hsplit]
      rw [hx] at h
      exact List.append_cancel_left h
    · intro h; rw [h]; exact hsplit.symm
  rw [e, ht, sumBytes_four, show [a, b, c, d].reverse = [d, c, b, a] from rfl, num_four]
  generalize ((crcSum (l.take m)).toNat) = s at *
  constructor
  · intro h
    simp only [List.cons.injEq, and_true]
    omega
  · intro h
    simp only [List.cons.injEq, and_true] at h
    omega

set_option maxRecDepth 100000 in
set_option maxHeartbeats 4000000 in
theorem Opens_walk {v : Value} {l : List Int} {w : World} (hv : Bs w v l) (hT : Tab w) (hm : l.length ≤ maxLen) :
    Calls Tryd.prog 5 #[v] w fun e w' => e = .returned (.bool true) ∧ Below w.heap.size w w' := by
  have HV := hide hv
  have HT := hide hT
  have HBy := hide hv.byte
  unfold maxLen at hm
  clear hT
  by_cases h2 : 200 < l.length
  · obtain ⟨_, ad, cap, rfl, _⟩ := hv
    go_enter Tryd.func5, Tryd.ntmps5
    go_wp2_with fail
    refine (sums_any w HT.out).mono ?_
    rintro e w1 ⟨rfl, hb1⟩
    go_wp2
    go_ret
    exact ⟨rfl, hb1⟩
  · by_cases h4 : l.length < 4
    · obtain ⟨_, ad, cap, rfl, _⟩ := hv
      go_enter Tryd.func5, Tryd.ntmps5
      go_wp2_with fail
      refine (sums_any w HT.out).mono ?_
      rintro e w1 ⟨rfl, hb1⟩
      have hv1 := HV.out.below hb1
      go_wp2_with fail
      refine (Open_short hv1 h4).mono ?_
      rintro e w2 ⟨rfl, rfl⟩
      clear hv1
      go_wp2
      go_ret
      exact ⟨rfl, hb1⟩
    · obtain ⟨m, hlm⟩ : ∃ m, l.length = m + 4 := ⟨l.length - 4, by omega⟩
      rcases hv.cases with ⟨rfl, _⟩ | ⟨b, off, cap, rfl, _, hcap, hmx, _⟩
      · simp at hlm
      have hiff := hide (open_iff l m HBy.out hlm)
      rw [hlm] at HV hcap h2 h4 hm ⊢
      have HL := hide hlm
      clear hlm hv
      go_enter Tryd.func5, Tryd.ntmps5
      go_wp2_with fail
      refine (sums_any w HT.out).mono ?_
      rintro e w1 ⟨rfl, hb1⟩
      have hV1 := HV.out.below hb1
      have hop := Open_long hV1 (HT.out.later hb1) (by rw [HL.out]; omega) (by rw [HL.out]; omega)
      rw [HL.out, show m + 4 - 4 = m by omega] at hop
      have HOP := hide hop
      have HB1 := hide hb1
      clear hV1 hop hb1
      go_wp2_with fail
      refine HOP.out.mono ?_
      clear HOP
      have hpieces : Hid (∀ W, Below w.heap.size w W → Bs W (.slice (some ⟨b, off + m, none⟩) 4 (cap - m)) (l.drop m) ∧ Bs W (.slice (some ⟨b, off, none⟩) m cap) (l.take m)) := fun W hW => by
        have hB := HV.out.below hW
        rcases hB.cases with ⟨e, _⟩ | ⟨b', off', cap', e, _, hc1, hc2, hcell⟩
        · rw [e] at HL; have := HL.out; simp at this
        simp only [Value.slice.injEq, Option.some.injEq, Addr.mk.injEq, and_true] at e
        obtain ⟨⟨rfl, rfl⟩, _, rfl⟩ := e
        constructor
        · have := Bs.piece HBy.out hc1 hc2 hcell m (m + 4) (by omega) (by rw [HL.out]; exact Nat.le_refl _)
          rw [show m + 4 - m = 4 by omega, List.take_of_length_le (by rw [List.length_drop, HL.out]; omega)] at this
          exact this
        · have := Bs.piece HBy.out hc1 hc2 hcell 0 m (by omega) (by rw [HL.out]; omega)
          simpa using this
      have hIm : (m : Int) ≤ (m : Int) + 4 := by omega
      have hm0 : ¬ m + 4 = m := by omega
      have hsub : m + 4 - m = 4 := by omega
      have hcm : m ≤ cap := by omega
      have hsame : Hid (((l.drop m).reverse).length = 4) := by show _ = 4; simp [HL.out]
      have hnb : Hid (0 ≤ num (l.drop m).reverse ∧ num (l.drop m).reverse < 4294967296) := by
        have hby : Byte (l.drop m).reverse := fun z hz => (HBy.out.drop m) z (by simpa using hz)
        have := num_bound _ hby
        rw [hsame.out] at this
        exact ⟨this.1, by have := this.2; simpa using this⟩
      rintro e w2 ⟨h3 | h3, hb2⟩
      · obtain ⟨hsq, rfl, hBc⟩ := h3
        have HB2 := hide (HB1.out.trans (hb2.mono HB1.out.size))
        have HC := hide hBc
        have heqn : Hid (num (l.drop m).reverse = ((crcSum (l.take m)).toNat : Int)) := hiff.out.2 hsq
        clear hBc hsq hb2
        generalize w1.heap.size = gc at *
        go_wp2_with fail
        refine (Turn_any (hpieces.out _ HB2.out).1 (by rw [List.length_drop, HL.out]; omega)).mono ?_
        rw [show (l.drop m).length = 4 by rw [List.length_drop, HL.out]; omega]
        rintro e w3 ⟨rfl, hBt, hb3⟩
        have HB3 := hide (HB2.out.trans (hb3.mono HB2.out.size))
        have HC3 := hide (HC.out.below hb3)
        have HTn := hide hBt
        clear hBt hb3 HC
        go_wp2_with fail
        refine (Get_ok HTn.out 0 4 (by omega) (by omega) (by omega) (by rw [hsame.out]; decide) (by rw [hsame.out]; decide)).mono ?_
        rintro e w3' ⟨rfl, rfl⟩
        rw [show (((l.drop m).reverse.drop (0 : Int).toNat).take (4 : Int).toNat) = (l.drop m).reverse from List.take_of_length_le (by rw [List.length_drop, hsame.out]; decide)]
        rw [heqn.out]
        have hrs := RSum_any (hpieces.out _ HB3.out).2 (by rw [List.length_take, HL.out]; omega)
        have hmod : (((crcSum (l.take m)).toNat : Int)) % 4294967296 = ((crcSum (l.take m)).toNat : Int) := by
          have := (crcSum (l.take m)).isLt
          omega
        have HRS := hide hrs
        clear hrs
        generalize ((crcSum (l.take m)).toNat : Int) = sm at *
        go_wp2_with fail
        refine HRS.out.mono ?_
        rintro e w4 ⟨rfl, hb4⟩
        have HB4 := hide (HB3.out.trans (hb4.mono HB3.out.size))
        have HC4 := hide (HC3.out.below hb4)
        clear hb4 HC3 HTn HRS
        obtain ⟨S, hS⟩ : ∃ S, S = bstr (l.take m) := ⟨_, rfl⟩
        obtain ⟨S2, hS2⟩ : ∃ S2, S2 = bstr (l.take m) := ⟨_, rfl⟩
        have hne : (S2.toList == S.toList) = true := by rw [hS, hS2]; simp
        have q1 : ∀ nq, (convert 24 9 (.slice (some ⟨gc, 0, none⟩) m m)).run Tryd.prog (w4.drewN nq) = .ok (.string S2) (w4.drewN nq) := fun nq => by rw [hS2]; exact conv_str 24 9 5 Tryd.underlying24 Tryd.underlying5 Tryd.underlying9 (HC4.out.below (below_drewN (Below.refl _ _) nq))
        have q2 : ∀ nq, (convert 24 9 (.slice (some ⟨b, off, none⟩) m cap)).run Tryd.prog (w4.drewN nq) = .ok (.string S) (w4.drewN nq) := fun nq => by rw [hS]; exact conv_str 24 9 5 Tryd.underlying24 Tryd.underlying5 Tryd.underlying9 ((hpieces.out _ HB4.out).2.below (below_drewN (Below.refl _ _) nq))
        clear hS hS2
        go_wp2_with fail
        go_quiet (fail)
        go_wp2
        go_ret
        exact ⟨rfl, below_drewN HB4.out _⟩
      · obtain ⟨hsq, rfl⟩ := h3
        have HB2 := hide (HB1.out.trans (hb2.mono HB1.out.size))
        have heqn : ¬ num (l.drop m).reverse = ((crcSum (l.take m)).toNat : Int) := fun h => hsq (hiff.out.1 h)
        have HNE := hide heqn
        clear heqn hsq hb2
        go_wp2_with fail
        refine (Turn_any (hpieces.out _ HB2.out).1 (by rw [List.length_drop, HL.out]; omega)).mono ?_
        rw [show (l.drop m).length = 4 by rw [List.length_drop, HL.out]; omega]
        rintro e w3 ⟨rfl, hBt, hb3⟩
        have HB3 := hide (HB2.out.trans (hb3.mono HB2.out.size))
        have HTn := hide hBt
        clear hBt hb3
        go_wp2_with fail
        refine (Get_ok HTn.out 0 4 (by omega) (by omega) (by omega) (by rw [hsame.out]; decide) (by rw [hsame.out]; decide)).mono ?_
        rintro e w3' ⟨rfl, rfl⟩
        rw [show (((l.drop m).reverse.drop (0 : Int).toNat).take (4 : Int).toNat) = (l.drop m).reverse from List.take_of_length_le (by rw [List.length_drop, hsame.out]; decide)]
        have hrs := RSum_any (hpieces.out _ HB3.out).2 (by rw [List.length_take, HL.out]; omega)
        have hmod : num (l.drop m).reverse % 4294967296 = num (l.drop m).reverse := by
          have := hnb.out
          omega
        have hbeq : (num (l.drop m).reverse == ((crcSum (l.take m)).toNat : Int)) = false := by rw [beq_eq_false_iff_ne]; exact HNE.out
        have HRS := hide hrs
        clear hrs
        generalize ((crcSum (l.take m)).toNat : Int) = sm at *
        generalize num (l.drop m).reverse = nm at *
        go_wp2_with fail
        refine HRS.out.mono ?_
        rintro e w4 ⟨rfl, hb4⟩
        have HB4 := hide (HB3.out.trans (hb4.mono HB3.out.size))
        clear hb4 HTn HRS
        go_wp2
        go_ret
        exact ⟨rfl, HB4.out⟩
end Go.Proofs.YtjoejbdgiepdcaaDoor
