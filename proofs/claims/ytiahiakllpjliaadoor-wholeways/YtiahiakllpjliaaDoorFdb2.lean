import Derived.Test.YtiahiakllpjliaaDoorFdb1
import Derived.Test.YtiahiakllpjliaaDoorSls
import Derived.Laws.IdiomCopy
/-
  A function that tells some entries ('Cls'); contract of slices.IndexFunc at entries. Conditions: those that each theorem names.
-/
namespace Go.Proofs.YtiahiakllpjliaaDoor
open Go.RowKit Go.Maps
set_option linter.unusedVariables false
set_option maxRecDepth 20000

/-- A function of entries that tells those of p, as long as the blocks from B on are as they are in w. -/
def Cls (B : Nat) (w : World) (F : FuncId) (caps : Array Value) (p : Fe → Bool) (ok : Fe → Prop) : Prop :=
  ∀ w' : World, w.heap.size ≤ w'.heap.size → (∀ k, B ≤ k → k < w.heap.size → w'.heap[k]? = w.heap[k]?) → ∀ e, ok e →
    Calls Tryd.prog F (#[.agg (fFe e).toArray] ++ caps) w' fun r w'' => r = .returned (.bool (p e)) ∧ Below w'.heap.size w' w''
theorem Cls.later {B : Nat} {w w1 : World} {F : FuncId} {caps : Array Value} {p : Fe → Bool} {ok : Fe → Prop} (h : Cls B w F caps p ok) (h1 : w.heap.size ≤ w1.heap.size) (h2 : ∀ k, B ≤ k → k < w.heap.size → w1.heap[k]? = w.heap[k]?) : Cls B w1 F caps p ok :=
  fun w' g1 g2 e he => h w' (by omega) (fun k k1 k2 => (g2 k k1 (by omega)).trans (h2 k k1 k2)) e he
set_option maxHeartbeats 4000000 in
theorem Index_any {B : Nat} {w : World} {v : Value} {l : List Fe} {F : FuncId} {caps : Array Value} {p : Fe → Bool} {ok : Fe → Prop} (h : Sl w v 123 9 fFe l) (hl : l.length ≤ 100000) (hok : ∀ e ∈ l, ok e) (hc : Hid (Cls B w F caps p ok)) (hgo : ∀ (args : Array Value) (w : World), (callFunc F args).run Tryd.prog w = .ok (.enter F args) w) :
    Calls Tryd.prog 78 #[v, .func (.func F) #[] caps] w fun r w' => ∃ i : Int, r = .returned (.int .i64 i) ∧ Below w.heap.size w w' ∧
      ((i = -1 ∧ ∀ j, j < l.length → p (l.getD j Fe.zero) = false) ∨ ∃ k : Nat, i = k ∧ k < l.length ∧ p (l.getD k Fe.zero) = true ∧ ∀ j, j < k → p (l.getD j Fe.zero) = false) := by
  obtain ⟨a, cap, rfl⟩ := h.shape
  have hS := hide h
  have hn : Hid (l.length = l.length) := rfl
  generalize hL : l.length = L at *
  replace hL := hide hL
  clear h hn
  go_enter Tryd.func78, Tryd.ntmps78
  go_wp2
  go_loopw [8] (fun i wr => ∃ j : Nat, j ≤ L ∧ i = .int .i64 j ∧ Hid (Below w.heap.size w wr) ∧ Hid (∀ k, k < j → p (l.getD k Fe.zero) = false)) (fun i _ => L - (intOf i).toNat)
  case atStart => exact ⟨0, Nat.zero_le _, rfl, Below.refl _ _, fun k hk => by omega⟩
  case round =>
    obtain ⟨j, hj, rfl, hB, hno⟩ := hrel
    by_cases hlt : j < L
    · have hSr := hS.out.below hB.out
      rw [← hL.out] at hSr
      obtain ⟨b, cap', sp, hv, hF, _, _⟩ := hSr.at_i (by rw [hL.out]; omega)
      simp only [Value.slice.injEq] at hv
      obtain ⟨rfl, _, rfl⟩ := hv
      have hrg := hide (hF.range wide_Fe Fe.zero j (by rw [hL.out]; exact hlt))
      have hme : ok (l.getD j Fe.zero) := hok _ (by rw [List.getD_eq_getElem?_getD, List.getElem?_eq_getElem (by rw [hL.out]; exact hlt)]; exact List.getElem_mem _)
      have hcall := hide (hc.out wr hB.out.size (fun k _ hk => hB.out.block k hk) _ hme)
      clear hF hSr hme
      generalize hpe : p (l.getD j Fe.zero) = pe at *
      generalize hee : l.getD j Fe.zero = e at *
      replace hee := hide hee
      go_wp2_with ((with_reducible change wpList _ _ _ _ _ _); refine wpList_load_mid rfl 123 (.tmp 14) rfl b (j * 9) rfl (fFe e) _ hrg.out Tryd.underlying123 rfl (feLen _) ?_)
      refine hcall.out.mono ?_
      rintro r w2 ⟨rfl, hb2⟩
      have hB2 : Hid (Below w.heap.size w w2) := hB.out.later hb2
      clear hcall hrg hb2
      cases pe
      · go_wp2
        go_roundw
        case rel => exact ⟨j + 1, by omega, by go_num, hB2, fun k hk => by
          rcases (show k < j ∨ k = j by omega) with h | rfl
          · exact hno.out k h
          · rw [hee.out]; exact hpe⟩
        case measure => simp [intOf]; omega
      · replace hpe := hide hpe
        go_wp2
        go_ret
        exact ⟨_, rfl, hB2.out, .inr ⟨j, rfl, hlt, by rw [hee.out]; exact hpe.out, fun k hk => hno.out k hk⟩⟩
    · obtain rfl : j = L := by omega
      go_wp2
      go_ret
      exact ⟨_, rfl, hB.out, .inl ⟨rfl, fun k hk => hno.out k hk⟩⟩
end Go.Proofs.YtiahiakllpjliaaDoor

/-
  Contract of slices.DeleteFunc at entries. Conditions: those that each theorem names.
-/
namespace Go.Proofs.YtiahiakllpjliaaDoor
open Go.RowKit Go.Maps
set_option linter.unusedVariables false
set_option maxRecDepth 20000

/-- What clear makes of the rest of a slice. -/
theorem clear_tail {α : Type} {P : Program} {w : World} {b : Nat} {t e : TypeId} {m : Nat} {f : α → List Value} {l : List α} {sp : List Value} (h : Fl w b e f l sp) (hf : WideF f m) (hm : 0 < m) (z : α) (hz : ∀ w, (zeroValue e).run P w = .ok (.agg (f z).toArray) w) (ht : P.underlying t = some (.slice e)) (n cap : Nat) (hn : n * m ≤ sp.length) :
    ∃ w', (∀ ty, (Builtin.clear_ #[t] ty #[.slice (some ⟨b, l.length * m, none⟩) n cap]).run P w = .ok (.tuple #[]) w') ∧ Ch (· = b) w w' ∧ ∃ sp', sp'.length = sp.length ∧ Fl w' b e f l sp' := by
  rcases Nat.eq_zero_or_pos n with h0 | h0
  · refine ⟨w, fun ty => ?_, Ch.refl _ _, sp, rfl, h⟩
    rw [h0]
    simp [Builtin.clear_, run_underlying ht]
  · have hzc : (Builtin.zeroCells (f z).toArray n).toList = flat f (List.replicate n z) := by
      have := made_flat hf z hm n
      unfold Builtin.zeroCells
      rw [show (f z).toArray.size = m by simp [hf.len]]
      rw [show (Array.map (fun i => (f z).toArray[i % m]!) (Array.range (n * m))) = madeCells (f z).toArray (n * m) by unfold madeCells; simp [hf.len], this]
    have hlt : ∀ j, j < (flat f (List.replicate n z)).length → l.length * m + j < (flat f l ++ sp).length := fun j hj => by
      rw [flat_length hf, List.length_replicate] at hj
      rw [List.length_append, flat_length hf]; omega
    have hst := run_storeCells_cells (P := P) b (l.length * m) (flat f (List.replicate n z)) 0 w (fun j hj => by
      simp only [Nat.add_zero]; rw [cell_of_row _ _ _ _ _ _ h, List.getElem?_toArray, List.getElem?_eq_getElem (hlt j hj)]; rfl) (fun j hj => h.frozen _) (flat_one hf _)
    simp only [Nat.add_zero] at hst
    refine ⟨w.setCells b (l.length * m) (flat f (List.replicate n z)), fun ty => ?_, Ch.setCells _ _ _ _, setL sp 0 (flat f (List.replicate n z)), setL_length _ _ _, ?_⟩
    · obtain ⟨k, hk⟩ : ∃ k, n = k + 1 := ⟨n - 1, by omega⟩
      rw [hk] at hzc hst ⊢
      simp [Builtin.clear_, run_underlying ht, hz, hzc, hst, Value.cells]
    · unfold Fl
      rw [heap_setCells b e _ _ w _ h]
      have := setL_mid (flat f (List.replicate n z)) (flat f l) sp [] 0 (by rw [flat_length hf, List.length_replicate]; omega)
      simp only [List.append_nil, Nat.add_zero, flat_length hf l] at this
      rw [this]
theorem fe_zero (w : World) : (zeroValue 123).run Tryd.prog w = .ok (.agg (fFe Fe.zero).toArray) w := by kernel_rfl
/-- What is kept of the first i. -/
def keptL (p : Fe → Bool) (l : List Fe) (i : Nat) : List Fe := (l.take i).filter (fun e => !p e)
theorem keptL_le (p : Fe → Bool) (l : List Fe) (i : Nat) : (keptL p l i).length ≤ i := Nat.le_trans (List.length_filter_le _ _) (by rw [List.length_take]; omega)
theorem keptL_succ (p : Fe → Bool) (l : List Fe) (i : Nat) (h : i < l.length) : keptL p l (i + 1) = keptL p l i ++ (if p (l.getD i Fe.zero) then [] else [l.getD i Fe.zero]) := by
  unfold keptL
  rw [List.take_add_one, List.filter_append, List.getD_eq_getElem?_getD, List.getElem?_eq_getElem h]
  simp only [Option.toList_some, Option.getD_some, List.filter_cons, List.filter_nil]
  cases p l[i] <;> rfl
theorem keptL_all (p : Fe → Bool) (l : List Fe) : keptL p l l.length = l.filter (fun e => !p e) := by unfold keptL; rw [List.take_length]
/-- The rows on the way. -/
structure Mid (p : Fe → Bool) (l M : List Fe) (i : Nat) : Prop where
  len : M.length = l.length
  front : M.take (keptL p l i).length = keptL p l i
  back : ∀ q, i ≤ q → q < l.length → M.getD q Fe.zero = l.getD q Fe.zero
  lt : (keptL p l i).length < i
theorem Mid.start {p : Fe → Bool} {l : List Fe} {k : Nat} (hk : k < l.length) (h1 : p (l.getD k Fe.zero) = true) (h2 : ∀ j, j < k → p (l.getD j Fe.zero) = false) : Mid p l l (k + 1) ∧ (keptL p l (k + 1)).length = k := by
  have hkk : keptL p l k = l.take k := by
    unfold keptL
    rw [List.filter_eq_self]
    intro e he
    obtain ⟨j, hj, rfl⟩ := List.getElem_of_mem he
    rw [List.length_take] at hj
    have := h2 j (by omega)
    rw [List.getD_eq_getElem?_getD, List.getElem?_eq_getElem (by omega)] at this
    simp at this ⊢
    exact this
  have hk1 : keptL p l (k + 1) = l.take k := by rw [keptL_succ p l k hk, h1, hkk]; simp
  have hl : (l.take k).length = k := by rw [List.length_take]; omega
  refine ⟨⟨rfl, by rw [hk1, hl], fun _ _ _ => rfl, by rw [hk1, hl]; omega⟩, by rw [hk1, hl]⟩
theorem Mid.skip {p : Fe → Bool} {l M : List Fe} {i : Nat} (h : Mid p l M i) (hi : i < l.length) (hp : p (l.getD i Fe.zero) = true) : Mid p l M (i + 1) ∧ (keptL p l (i + 1)).length = (keptL p l i).length := by
  have e : keptL p l (i + 1) = keptL p l i := by rw [keptL_succ p l i hi, hp]; simp
  have := h.lt
  exact ⟨⟨h.len, by rw [e]; exact h.front, fun q hq hl => h.back q (by omega) hl, by rw [e]; omega⟩, by rw [e]⟩
theorem Mid.keep {p : Fe → Bool} {l M : List Fe} {i : Nat} (h : Mid p l M i) (hi : i < l.length) (hp : p (l.getD i Fe.zero) = false) : Mid p l (M.set (keptL p l i).length (l.getD i Fe.zero)) (i + 1) ∧ (keptL p l (i + 1)).length = (keptL p l i).length + 1 := by
  have e : keptL p l (i + 1) = keptL p l i ++ [l.getD i Fe.zero] := by rw [keptL_succ p l i hi, hp]; simp
  have hlt := h.lt
  have hj : (keptL p l i).length < M.length := by rw [h.len]; omega
  refine ⟨⟨by rw [List.length_set]; exact h.len, ?_, fun q hq hl => ?_, by rw [e, List.length_append]; simp; omega⟩, by rw [e, List.length_append]; rfl⟩
  · rw [e, List.length_append, List.length_singleton, List.take_add_one, List.take_set_of_le (Nat.le_refl _), h.front, List.getElem?_set, if_pos rfl, if_pos hj]
    rfl
  · rw [getD_set _ _ _ _ _ hj, if_neg (by omega)]
    exact h.back q (by omega) hl
end Go.Proofs.YtiahiakllpjliaaDoor

/-
  Contract of slices.DeleteFunc at entries, walked. Conditions: those that each theorem names.
-/
namespace Go.Proofs.YtiahiakllpjliaaDoor
open Go.RowKit Go.Maps
set_option linter.unusedVariables false
set_option maxRecDepth 20000

set_option maxHeartbeats 8000000 in
theorem Delete_any {B : Nat} {w : World} {v : Value} {l : List Fe} {F : FuncId} {caps : Array Value} {p : Fe → Bool} {ok : Fe → Prop} (h : Sl w v 123 9 fFe l) (hl : l.length ≤ 100000) (hok : ∀ e ∈ l, ok e) (hc : Hid (Cls B w F caps p ok)) (hgo : ∀ (args : Array Value) (w : World), (callFunc F args).run Tryd.prog w = .ok (.enter F args) w)
    (hB : ∀ b, v.ownBlock = some b → b < B) :
    Calls Tryd.prog 75 #[v, .func (.func F) #[] caps] w fun r w' => ∃ v', r = .returned v' ∧ Sl w' v' 123 9 fFe (l.filter (fun e => !p e)) ∧ v'.ownBlock = v.ownBlock ∧ Ch (fun k => v.ownBlock = some k) w w' := by
  have hI := hide (Index_any h hl hok hc hgo)
  obtain ⟨a, cap, rfl⟩ := h.shape
  go_enter Tryd.func75, Tryd.ntmps75
  go_wp2_with fail
  refine hI.out.mono ?_
  rintro _ w1 ⟨i, rfl, hb1, ⟨rfl, hno⟩ | ⟨k, rfl, hk, hpk, hno⟩⟩
  · have hS1 := hide (h.below hb1)
    have hf : l.filter (fun e => !p e) = l := by
      rw [List.filter_eq_self]
      intro e he
      obtain ⟨j, hj, rfl⟩ := List.getElem_of_mem he
      have := hno j hj
      rw [List.getD_eq_getElem?_getD, List.getElem?_eq_getElem hj] at this
      simp at this ⊢
      exact this
    have hC : Hid (Ch (fun k => (Value.slice a l.length cap).ownBlock = some k) w w1) := Ch.of_below hb1
    clear hI hno hc hb1 h
    replace hf := hide hf
    go_wp2
    go_ret
    exact ⟨_, rfl, by rw [hf.out]; exact hS1.out, rfl, hC.out⟩
  · have hkm : ((k : Int) == -1) = false := by rw [beq_eq_false_iff_ne]; omega
    rcases h.below hb1 with ⟨h0, h1⟩ | ⟨b, cap', sp, hv, hF, hlc, hcm, hnum⟩
    · rw [h1] at hk; simp at hk
    simp only [Value.slice.injEq, true_and] at hv
    obtain ⟨rfl, rfl⟩ := hv
    have hbB : Hid (b < B) := hB b rfl
    obtain ⟨hM0, hk0⟩ := Mid.start hk hpk hno
    have hC1 : Hid (Ch (· = b) w w1) := Ch.of_below hb1
    have hF1 := hide hF
    replace hM0 := hide hM0
    replace hk0 := hide hk0
    have hnum' := hide hnum
    have hcm' := hide hcm
    have hlc' := hide hlc
    clear hI hb1 hpk hno h hB hF hnum hcm hlc
    generalize hL : l.length = L at *
    replace hL := hide hL
    go_wp2_with fail
    go_loopw [5, 6] (fun j i wr => ∃ (q : Nat) (M : List Fe), k + 1 ≤ q ∧ q ≤ L ∧ i = .int .i64 q ∧ j = .int .i64 (keptL p l q).length ∧ Hid (Mid p l M q) ∧ Hid (Fl wr b 123 fFe M sp) ∧ Hid (Ch (· = b) w wr)) (fun _ i _ => L - (intOf i).toNat)
    case atStart => exact ⟨k + 1, l, Nat.le_refl _, hk, by go_num, by rw [hk0.out], hM0, hF1, hC1⟩
    case round =>
      obtain ⟨q, M, hq1, hq2, rfl, rfl, hM, hFr, hC⟩ := hrel
      clear hF1 hC1 hM0
      have hle := keptL_le p l q
      by_cases hlt : q < L
      · have hqM : q < M.length := by rw [hM.out.len, hL.out]; exact hlt
        have hrg := hide (hFr.out.range wide_Fe Fe.zero q hqM)
        rw [hM.out.back q (Nat.le_refl _) (by rw [hL.out]; exact hlt)] at hrg
        have hme : ok (l.getD q Fe.zero) := hok _ (by rw [List.getD_eq_getElem?_getD, List.getElem?_eq_getElem (by rw [hL.out]; exact hlt)]; exact List.getElem_mem _)
        go_wp2_with (first | ((with_reducible change wpList _ _ _ _ _ _); refine wpList_load_mid rfl 123 (.tmp 24) rfl b (q * 9) rfl (fFe (l.getD q Fe.zero)) _ hrg.out Tryd.underlying123 rfl (feLen _) ?_) | ((with_reducible change wpList _ _ _ _ _ _); refine stop_storeB 123 (.tmp 7) (.tmp 25) rfl ?_))
        refine hide (wpList_store_fresh rfl 123 (.tmp 7) (.tmp 25) rfl (fFe (l.getD q Fe.zero)).toArray (fFe Fe.zero).toArray rfl rfl 123 (feSize _) rfl (fe_all _) ?_)
        intro w3 h3 hb3
        have hF3 := hide (hFr.out.below hb3)
        have hC3 : Hid (Ch (· = b) w w3) := hC.out.trans (Ch.of_below hb3)
        have hbl : Hid (b < wr.heap.size) := hFr.out.lt
        have hcall := hide (hc.out w3 hC3.out.size (fun k' hk1 hk2 => hC3.out.block k' hk2 (by have := hbB.out; omega)) _ hme)
        replace h3 := hide h3
        clear hrg hme hFr hC hb3
        generalize hD : wr.heap.size = D at *
        clear hD wr
        go_wp2_with ((with_reducible change wpList _ _ _ _ _ _); refine wpList_load_row rfl 123 (.tmp 7) rfl D rfl 123 _ _ _ h3.out Tryd.underlying123 rfl (feSize _) ?_)
        refine hcall.out.mono ?_
        rintro _ w4 ⟨rfl, hb4⟩
        have hF4 := hide (hF3.out.below hb4)
        have hC4 : Hid (Ch (· = b) w w4) := hC3.out.trans (Ch.of_below hb4)
        have h4 := hide (heap_kept hb4 h3.out)
        clear hcall hF3 hC3 h3 hb4
        cases hpe : p (l.getD q Fe.zero)
        · obtain ⟨hM', hk'⟩ := hM.out.keep (by rw [hL.out]; exact hlt) hpe
          have hjM : (keptL p l q).length < M.length := by have := hM.out.lt; omega
          have hTh := hide (hF4.out.there wide_Fe Fe.zero (keptL p l q).length 0 9 hjM (by omega))
          have hF5 := hide (hF4.out.setn wide_Fe Fe.zero (keptL p l q).length 0 (fFe (l.getD q Fe.zero)) (l.getD q Fe.zero) hjM (by simp) rfl)
          have hjL : (keptL p l q).length < L := by have := hM.out.lt; omega
          replace hM' := hide hM'
          replace hk' := hide hk'
          clear hM hF4 hjM hle hpe
          generalize (keptL p l q).length = j at *
          generalize l.getD q Fe.zero = e at *
          go_wp2_with (first | ((with_reducible change wpList _ _ _ _ _ _); refine wpList_load_row rfl 123 (.tmp 7) rfl D rfl 123 _ _ _ h4.out Tryd.underlying123 rfl (feSize _) ?_) | ((with_reducible change wpList _ _ _ _ _ _); refine stop_storeB 123 (.tmp 33) (.tmp 32) rfl ?_))
          refine hide (wpList_store_mid rfl 123 (.tmp 33) (.tmp 32) rfl b (j * 9) (fFe e).toArray rfl rfl hTh.out (feSize _) (fe_all _) ?_)
          have hC5 : Hid (Ch (· = b) w (w4.setCells b (j * 9) (fFe e))) := hC4.out.trans (Ch.setCells _ _ _ _)
          clear hTh hC4 h4
          generalize w4.setCells b (j * 9) (fFe e) = w5 at *
          go_wp2
          go_roundw
          case rel => exact ⟨q + 1, _, by omega, by omega, by go_num, by rw [hk'.out]; go_num, hM', hF5, hC5⟩
          case measure => simp [intOf]; omega
        · obtain ⟨hM', hk'⟩ := hM.out.skip (by rw [hL.out]; exact hlt) hpe
          replace hM' := hide hM'
          replace hk' := hide hk'
          clear hM hle hpe h4
          generalize (keptL p l q).length = j at *
          go_wp2
          go_roundw
          case rel => exact ⟨q + 1, _, by omega, by omega, by go_num, by rw [hk'.out], hM', hF4, hC4⟩
          case measure => simp [intOf]; omega
      · obtain rfl : q = L := by omega
        have hMl := hM.out.len
        have hMf := hM.out.front
        have hjlt : (keptL p l q).length < q := hM.out.lt
        have hall : Hid (keptL p l q = l.filter (fun e => !p e)) := by rw [← hL.out]; exact keptL_all p l
        have hsplit : flat fFe M ++ sp = flat fFe (keptL p l q) ++ (flat fFe (M.drop (keptL p l q).length) ++ sp) := by
          rw [← List.append_assoc, ← flat_app]
          congr 2
          conv => lhs; rw [← List.take_append_drop (keptL p l q).length M, hMf]
        have hFk : Fl wr b 123 fFe (keptL p l q) (flat fFe (M.drop (keptL p l q).length) ++ sp) := by
          have h0 := hFr.out
          unfold Fl at h0 ⊢
          rw [← hsplit]; exact h0
        have hlen2 : (flat fFe (M.drop (keptL p l q).length) ++ sp).length = (q - (keptL p l q).length) * 9 + sp.length := by
          rw [List.length_append, flat_length wide_Fe, List.length_drop, hMl, hL.out]
        obtain ⟨w9, hcl, hC9, sp', hsp', hF9⟩ := clear_tail (P := Tryd.prog) (t := 86) hFk wide_Fe (by omega) Fe.zero fe_zero Tryd.underlying86 (q - (keptL p l q).length) (cap - (keptL p l q).length) (by rw [hlen2]; omega)
        rw [hlen2] at hsp'
        have hSf : Hid (Sl w9 (.slice (some ⟨b, 0, none⟩) (keptL p l q).length cap) 123 9 fFe (l.filter (fun e => !p e))) := by
          rw [← hall.out]
          exact .inr ⟨b, cap, sp', rfl, hF9, by have := hlc'.out; omega, hcm'.out, by have := hnum'.out; rw [hsp']; omega⟩
        have hCf : Hid (Ch (fun k => (Value.slice (some ⟨b, 0, none⟩) q cap).ownBlock = some k) w w9) := (hC.out.trans hC9).mono fun k e => by rw [e]; rfl
        have hqc : q ≤ cap := hlc'.out
        have hcm63 : cap ≤ 9223372036854775807 := by have := hcm'.out; simpa [maxLen] using this
        clear hM hMl hMf hall hsplit hFk hlen2 hC9 hsp' hF9 hFr hC hle
        generalize (keptL p l q).length = j at *
        have hjc : ¬ cap = j := by omega
        have hjc2 : ¬ j = cap := by omega
        go_wp2
        go_ret
        exact ⟨_, rfl, hSf.out, rfl, hCf.out⟩
end Go.Proofs.YtiahiakllpjliaaDoor
