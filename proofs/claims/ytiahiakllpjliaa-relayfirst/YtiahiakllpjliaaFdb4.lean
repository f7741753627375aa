/-
  Contract of slices.DeleteFunc at entries, walked. Conditions: those that each theorem names.
-/
import Derived.Test.YtiahiakllpjliaaFdb3
namespace Go.Proofs.Ytiahiakllpjliaa
open Go.RowKit Go.Maps
set_option linter.unusedVariables false
set_option maxRecDepth 20000

set_option maxHeartbeats 8000000 in
theorem Delete_any {B : Nat} {w : World} {v : Value} {l : List Fe} {F : FuncId} {caps : Array Value} {p : Fe → Bool} {ok : Fe → Prop} (h : Sl w v 46 9 fFe l) (hl : l.length ≤ 100000) (hok : ∀ e ∈ l, ok e) (hc : Hid (Cls B w F caps p ok)) (hgo : ∀ (args : Array Value) (w : World), (callFunc F args).run Try.prog w = .ok (.enter F args) w)
    (hB : ∀ b, v.ownBlock = some b → b < B) :
    Calls Try.prog 62 #[v, .func (.func F) #[] caps] w fun r w' => ∃ v', r = .returned v' ∧ Sl w' v' 46 9 fFe (l.filter (fun e => !p e)) ∧ v'.ownBlock = v.ownBlock ∧ Ch (fun k => v.ownBlock = some k) w w' := by
  have hI := hide (Index_any h hl hok hc hgo)
  obtain ⟨a, cap, rfl⟩ := h.shape
  go_enter Try.func62, Try.ntmps62
  go_wp2_with fail
  refine hI.out.mono ?_
  rintro _ w1 ⟨i, rfl, hb1, ⟨rfl, hno⟩ | ⟨k, rfl, hk, hpk, hno⟩⟩
  · have hS1 := hide (h.below hb1)
    have hf : l.filter (fun e => !p e) = l := by
      rw [List.filter_eq_self]
      intro e he
      obtain ⟨j, hj, rfl⟩ := List.getElem_of_mem he
      have := hno j hj
      rw [List.getD_eq_getElem?_getD, List.getElem?_eq_getElem hj] at this
      simp at this ⊢
      exact this
    have hC : Hid (Ch (fun k => (Value.slice a l.length cap).ownBlock = some k) w w1) := Ch.of_below hb1
    clear hI hno hc hb1 h
    replace hf := hide hf
    go_wp2
    go_ret
    exact ⟨_, rfl, by rw [hf.out]; exact hS1.out, rfl, hC.out⟩
  · have hkm : ((k : Int) == -1) = false := by rw [beq_eq_false_iff_ne]; omega
    rcases h.below hb1 with ⟨h0, h1⟩ | ⟨b, cap', sp, hv, hF, hlc, hcm, hnum⟩
    · rw [h1] at hk; simp at hk
    simp only [Value.slice.injEq, true_and] at hv
    obtain ⟨rfl, rfl⟩ := hv
    have hbB : Hid (b < B) := hB b rfl
    obtain ⟨hM0, hk0⟩ := Mid.start hk hpk hno
    have hC1 : Hid (Ch (· = b) w w1) := Ch.of_below hb1
    have hF1 := hide hF
    replace hM0 := hide hM0
    replace hk0 := hide hk0
    have hnum' := hide hnum
    have hcm' := hide hcm
    have hlc' := hide hlc
    clear hI hb1 hpk hno h hB hF hnum hcm hlc
    generalize hL : l.length = L at *
    replace hL := hide hL
    go_wp2_with fail
    go_loopw [5, 6] (fun j i wr => ∃ (q : Nat) (M : List Fe), k + 1 ≤ q ∧ q ≤ L ∧ i = .int .i64 q ∧ j = .int .i64 (keptL p l q).length ∧ Hid (Mid p l M q) ∧ Hid (Fl wr b 46 fFe M sp) ∧ Hid (Ch (· = b) w wr)) (fun _ i _ => L - (intOf i).toNat)
    case atStart => exact ⟨k + 1, l, Nat.le_refl _, hk, by go_num, by rw [hk0.out], hM0, hF1, hC1⟩
    case round =>
      obtain ⟨q, M, hq1, hq2, rfl, rfl, hM, hFr, hC⟩ := hrel
      clear hF1 hC1 hM0
      have hle := keptL_le p l q
      by_cases hlt : q < L
      · have hqM : q < M.length := by rw [hM.out.len, hL.out]; exact hlt
        have hrg := hide (hFr.out.range wide_Fe Fe.zero q hqM)
        rw [hM.out.back q (Nat.le_refl _) (by rw [hL.out]; exact hlt)] at hrg
        have hme : ok (l.getD q Fe.zero) := hok _ (by rw [List.getD_eq_getElem?_getD, List.getElem?_eq_getElem (by rw [hL.out]; exact hlt)]; exact List.getElem_mem _)
        go_wp2_with (first | ((with_reducible change wpList _ _ _ _ _ _); refine wpList_load_mid rfl 46 (.tmp 24) rfl b (q * 9) rfl (fFe (l.getD q Fe.zero)) _ hrg.out Try.underlying46 rfl (feLen _) ?_) | ((with_reducible change wpList _ _ _ _ _ _); refine stop_storeB 46 (.tmp 7) (.tmp 25) rfl ?_))
        refine hide (wpList_store_fresh rfl 46 (.tmp 7) (.tmp 25) rfl (fFe (l.getD q Fe.zero)).toArray (fFe Fe.zero).toArray rfl rfl 46 (feSize _) rfl (fe_all _) ?_)
        intro w3 h3 hb3
        have hF3 := hide (hFr.out.below hb3)
        have hC3 : Hid (Ch (· = b) w w3) := hC.out.trans (Ch.of_below hb3)
        have hbl : Hid (b < wr.heap.size) := hFr.out.lt
        have hcall := hide (hc.out w3 hC3.out.size (fun k' hk1 hk2 => hC3.out.block k' hk2 (by have := hbB.out; omega)) _ hme)
        replace h3 := hide h3
        clear hrg hme hFr hC hb3
        generalize hD : wr.heap.size = D at *
        clear hD wr
        go_wp2_with ((with_reducible change wpList _ _ _ _ _ _); refine wpList_load_row rfl 46 (.tmp 7) rfl D rfl 46 _ _ _ h3.out Try.underlying46 rfl (feSize _) ?_)
        refine hcall.out.mono ?_
        rintro _ w4 ⟨rfl, hb4⟩
        have hF4 := hide (hF3.out.below hb4)
        have hC4 : Hid (Ch (· = b) w w4) := hC3.out.trans (Ch.of_below hb4)
        have h4 := hide (heap_kept hb4 h3.out)
        clear hcall hF3 hC3 h3 hb4
        cases hpe : p (l.getD q Fe.zero)
        · obtain ⟨hM', hk'⟩ := hM.out.keep (by rw [hL.out]; exact hlt) hpe
          have hjM : (keptL p l q).length < M.length := by have := hM.out.lt; omega
          have hTh := hide (hF4.out.there wide_Fe Fe.zero (keptL p l q).length 0 9 hjM (by omega))
          have hF5 := hide (hF4.out.setn wide_Fe Fe.zero (keptL p l q).length 0 (fFe (l.getD q Fe.zero)) (l.getD q Fe.zero) hjM (by simp) rfl)
          have hjL : (keptL p l q).length < L := by have := hM.out.lt; omega
          replace hM' := hide hM'
          replace hk' := hide hk'
          clear hM hF4 hjM hle hpe
          generalize (keptL p l q).length = j at *
          generalize l.getD q Fe.zero = e at *
          go_wp2_with (first | ((with_reducible change wpList _ _ _ _ _ _); refine wpList_load_row rfl 46 (.tmp 7) rfl D rfl 46 _ _ _ h4.out Try.underlying46 rfl (feSize _) ?_) | ((with_reducible change wpList _ _ _ _ _ _); refine stop_storeB 46 (.tmp 33) (.tmp 32) rfl ?_))
          refine hide (wpList_store_mid rfl 46 (.tmp 33) (.tmp 32) rfl b (j * 9) (fFe e).toArray rfl rfl hTh.out (feSize _) (fe_all _) ?_)
          have hC5 : Hid (Ch (· = b) w (w4.setCells b (j * 9) (fFe e))) := hC4.out.trans (Ch.setCells _ _ _ _)
          clear hTh hC4 h4
          generalize w4.setCells b (j * 9) (fFe e) = w5 at *
          go_wp2
          go_roundw
          case rel => exact ⟨q + 1, _, by omega, by omega, by go_num, by rw [hk'.out]; go_num, hM', hF5, hC5⟩
          case measure => simp [intOf]; omega
        · obtain ⟨hM', hk'⟩ := hM.out.skip (by rw [hL.out]; exact hlt) hpe
          replace hM' := hide hM'
          replace hk' := hide hk'
          clear hM hle hpe h4
          generalize (keptL p l q).length = j at *
          go_wp2
          go_roundw
          case rel => exact ⟨q + 1, _, by omega, by omega, by go_num, by rw [hk'.out], hM', hF4, hC4⟩
          case measure => simp [intOf]; omega
      · obtain rfl : q = L := by omega
        have hMl := hM.out.len
        have hMf := hM.out.front
        have hjlt : (keptL p l q).length < q := hM.out.lt
        have hall : Hid (keptL p l q = l.filter (fun e => !p e)) := by rw [← hL.out]; exact keptL_all p l
        have hsplit : flat fFe M ++ sp = flat fFe (keptL p l q) ++ (flat fFe (M.drop (keptL p l q).length) ++ sp) := by
          rw [← List.append_assoc, ← flat_app]
          congr 2
          conv => lhs; rw [← List.take_append_drop (keptL p l q).length M, hMf]
        have hFk : Fl wr b 46 fFe (keptL p l q) (flat fFe (M.drop (keptL p l q).length) ++ sp) := by
          have h0 := hFr.out
          unfold Fl at h0 ⊢
          rw [← hsplit]; exact h0
        have hlen2 : (flat fFe (M.drop (keptL p l q).length) ++ sp).length = (q - (keptL p l q).length) * 9 + sp.length := by
          rw [List.length_append, flat_length wide_Fe, List.length_drop, hMl, hL.out]
        obtain ⟨w9, hcl, hC9, sp', hsp', hF9⟩ := clear_tail (P := Try.prog) (t := 43) hFk wide_Fe (by omega) Fe.zero fe_zero Try.underlying43 (q - (keptL p l q).length) (cap - (keptL p l q).length) (by rw [hlen2]; omega)
        rw [hlen2] at hsp'
        have hSf : Hid (Sl w9 (.slice (some ⟨b, 0, none⟩) (keptL p l q).length cap) 46 9 fFe (l.filter (fun e => !p e))) := by
          rw [← hall.out]
          exact .inr ⟨b, cap, sp', rfl, hF9, by have := hlc'.out; omega, hcm'.out, by have := hnum'.out; rw [hsp']; omega⟩
        have hCf : Hid (Ch (fun k => (Value.slice (some ⟨b, 0, none⟩) q cap).ownBlock = some k) w w9) := (hC.out.trans hC9).mono fun k e => by rw [e]; rfl
        have hqc : q ≤ cap := hlc'.out
        have hcm63 : cap ≤ 9223372036854775807 := by have := hcm'.out; simpa [maxLen] using this
        clear hM hMl hMf hall hsplit hFk hlen2 hC9 hsp' hF9 hFr hC hle
        generalize (keptL p l q).length = j at *
        have hjc : ¬ cap = j := by omega
        have hjc2 : ¬ j = cap := by omega
        go_wp2
        go_ret
        exact ⟨_, rfl, hSf.out, rfl, hCf.out⟩
end Go.Proofs.Ytiahiakllpjliaa
