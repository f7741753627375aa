/-
  A contract of the document's own Right: do bytes end with the sum of those ahead? Condition: those that each theorem names.
-/
import Derived.Test.YtiimppbfigikfaaDoorRefSum2
import Derived.Test.YtiimppbfigikfaaDoorMacG
namespace Go.Proofs.YtiimppbfigikfaaDoor
open Go.RowKit
set_option linter.unusedVariables false

theorem Bs.headAny0 {w : World} {a : Option Addr} {n c : Nat} {l : List Int} (h : Bs w (.slice a n c) l) (k : Nat) (hk : k ≤ l.length) : Bs w (.slice a k c) (l.take k) := by
  have e : l = l.take k ++ l.drop k := (List.take_append_drop k l).symm
  rw [e] at h
  have h1 := h.front_of.1
  have e2 : (l.take k).length = k := by simp; omega
  rwa [e2] at h1
theorem quo256_u32 (x : Int) (h0 : 0 ≤ x) (h : x < 4294967296) : IntKind.u32.wrap (x.tdiv 256) = x / 256 := by
  rw [IntKind.wrap_u32, Int.tdiv_eq_ediv_of_nonneg h0, Int.emod_eq_of_lt (by omega) (by omega)]
theorem list4 (l : List Int) (h : l.length = 4) : l = [l.getD 0 0, l.getD 1 0, l.getD 2 0, l.getD 3 0] := by
  match l, h with
  | [a, b, c, d], _ => rfl
theorem seal_iff (l : List Int) (m : Nat) (h : l.length = m + 4) : sealL (l.take m) = l ↔ ∀ t, t < 4 → l.getD (m + t) 0 = ((crcSum (l.take m)).toNat : Int) / 256 ^ t % 256 := by
  have e : l = l.take m ++ l.drop m := (List.take_append_drop m l).symm
  have hd : (l.drop m).length = 4 := by simp; omega
  have hg : ∀ t, (l.drop m).getD t 0 = l.getD (m + t) 0 := fun t => by simp [List.getD_eq_getElem?_getD]
  have h4 := list4 _ hd
  rw [hg, hg, hg, hg] at h4
  constructor
  · intro hs
    have h1 : sumBytes (crcSum (l.take m)) = l.drop m := by
      have h2 : l.take m ++ sumBytes (crcSum (l.take m)) = l.take m ++ l.drop m := by rw [← e]; exact hs
      exact List.append_cancel_left h2
    rw [h4] at h1
    simp only [sumBytes, List.range, List.range.loop, List.map_cons, List.map_nil, List.cons.injEq, and_true] at h1
    intro t ht
    rcases (show t = 0 ∨ t = 1 ∨ t = 2 ∨ t = 3 by omega) with rfl | rfl | rfl | rfl
    · exact h1.1.symm
    · exact h1.2.1.symm
    · exact h1.2.2.1.symm
    · exact h1.2.2.2.symm
  · intro ht
    have h1 : sumBytes (crcSum (l.take m)) = l.drop m := by
      rw [h4, ht 0 (by decide), ht 1 (by decide), ht 2 (by decide), ht 3 (by decide)]
      rfl
    unfold sealL
    rw [h1]
    exact e.symm
set_option maxRecDepth 20000 in
theorem Right_any {v : Value} {l : List Int} {w : World} (hv : Bs w v l) (h4 : 4 < l.length) (hm : l.length ≤ 100000) :
    Calls Tryd.prog 43 #[v] w fun e w' => e = .returned (.bool (decide (sealL (l.take (l.length - 4)) = l))) ∧ Below w.heap.size w w' := by
  obtain ⟨m, hlm⟩ : ∃ m, l.length = m + 4 := ⟨l.length - 4, by omega⟩
  have hiff := hide (seal_iff l m hlm)
  have em : l.length - 4 = m := by omega
  rw [em]
  generalize hdc : decide (sealL (l.take m) = l) = DC
  have hS := hide (fun (w : World) (a : Option Addr) (n c : Nat) (h : Bs w (.slice a n c) l) => RSum_any (h.headAny0 m (by omega)) (by simp; omega))
  have hcr : 0 ≤ ((crcSum (l.take m)).toNat : Int) ∧ ((crcSum (l.take m)).toNat : Int) < 4294967296 := ⟨by omega, by have := (crcSum (l.take m)).isLt; omega⟩
  have HDC := hide hdc
  generalize ((crcSum (l.take m)).toNat : Int) = C at *
  have HV := hide hv
  have hby := hide hv.byte
  rcases hv.cases with ⟨rfl, _⟩ | ⟨b, off, cap, rfl, _, h3, h4', hc⟩
  · simp at h4
  have HC := hide hc
  have hcm : (m : Int) ≤ (cap : Int) := by omega
  have HLM := hide hlm
  have hmb : (m : Int) ≤ 100000 := by omega
  clear hdc hc em hm
  generalize l.length = len at *
  subst hlm
  clear h4
  go_enter Tryd.func43, Tryd.ntmps43
  go_wp2_with fail
  refine (hS.out _ _ _ _ HV.out).mono ?_
  rintro e w1 ⟨rfl, hb1⟩
  have HW1 := hide hb1
  have hcl : Hid (∀ t, t < 4 → w1.cell? ⟨b, off + (m + t), none⟩ = some (.int .u8 (l.getD (m + t) 0))) := fun t ht => by
    have hl := HLM.out
    rw [hb1.cell (p := ⟨b, off + (m + t), none⟩) (block_lt_of_cell (HC.out (m + t) (by omega)))]
    exact HC.out (m + t) (by omega)
  clear hb1 HC hS
  go_wp2_with fail
  go_loop [4, 3] (fun i n => ∃ j : Nat, j ≤ 4 ∧ i = .int .i64 j ∧ n = .int .u32 (C / 256 ^ j) ∧ Hid (∀ t, t < j → l.getD (m + t) 0 = C / 256 ^ t % 256)) (fun i _ => 4 - (intOf i).toNat)
  case atStart => exact ⟨0, Nat.zero_le _, rfl, by simp, fun t ht => by omega⟩
  case round =>
    obtain ⟨j, hj, rfl, rfl, HJ⟩ := hrel
    by_cases hlt : j < 4
    · have hcj := hcl.out j hlt
      have hxr : 0 ≤ C / 256 ^ j ∧ C / 256 ^ j < 4294967296 := by
        refine ⟨Int.ediv_nonneg hcr.1 (Int.le_of_lt (Int.pow_pos (by decide))), ?_⟩
        have : C / 256 ^ j ≤ C := Int.ediv_le_self _ hcr.1
        omega
      have hnext : Hid (C / 256 ^ j / 256 = C / 256 ^ (j + 1)) := by
        show _ = _
        rw [Int.pow_succ, Int.ediv_ediv_of_nonneg (Int.le_of_lt (Int.pow_pos (by decide)))]
      have hyr := hby.out.getD (m + j)
      have hXd : ∃ X, X = C / 256 ^ j := ⟨_, rfl⟩
      obtain ⟨X, hX⟩ := hXd
      rw [← hX] at hxr hnext ⊢
      have HX := hide hX
      clear hX
      obtain ⟨x0, x1⟩ := hxr
      have hq := quo256_u32 X x0 x1
      have hj4 : (j : Int) < 4 := by omega
      have hYd : ∃ Y, Y = l.getD (m + j) 0 := ⟨_, rfl⟩
      obtain ⟨Y, hY⟩ := hYd
      rw [← hY] at hcj hyr
      have HY := hide hY
      clear hY
      by_cases hne : Y = X % 256
      · have hne' : (Y != X % 256) = false := by simpa using hne
        have HNE := hide hne
        clear hne
        go_wp2
        go_round
        case rel => exact ⟨j + 1, by omega, by go_num, by rw [hnext.out], fun t ht => by
          by_cases e : t = j
          · subst e; rw [← HY.out, HNE.out, HX.out]
          · exact HJ.out t (by omega)⟩
        case measure => simp [intOf]; omega
      · have hne' : (Y != X % 256) = true := by simpa using hne
        have HNE := hide hne
        clear hne
        go_wp2
        go_ret
        refine ⟨ret_bool ?_, HW1.out⟩
        rw [← HDC.out]
        symm
        rw [decide_eq_false_iff_not]
        intro hs
        apply HNE.out
        rw [HY.out, hiff.out.1 hs j hlt, HX.out]
    · obtain rfl : j = 4 := by omega
      go_wp2
      go_ret
      refine ⟨ret_bool ?_, HW1.out⟩
      rw [← HDC.out]
      symm
      rw [decide_eq_true_iff]
      exact hiff.out.2 HJ.out
end Go.Proofs.YtiimppbfigikfaaDoor
