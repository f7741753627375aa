/-
  Contracts of the document's own Edges and Next (of layer 16). Conditions: those that each theorem names.
-/
import Derived.Test.YtmacdghkbmjdmaaGu2
namespace Go.Proofs.Ytmacdghkbmjdmaa
open Go.RowKit
set_option linter.unusedVariables false
set_option maxRecDepth 20000

theorem built_J {w : World} {x : Int} (j : Nat) (u : Value) (h : (flat fJ [x])[j]? = some u) : (w.alloc (.cells #[.int .i64 x] 2)).cell? ((⟨w.heap.size, 0, none⟩ : Addr).add j) = some u := by
  rw [Addr.add_lit, Nat.zero_add, cell_of_row _ _ _ _ _ _ (heap_alloc_new w _)]
  rcases j with _ | j
  · exact h
  · simp [flat_J] at h
set_option maxHeartbeats 4000000 in
theorem Edges_any {L : Ls} {a : Option Addr} {cap : Nat} {w : World} (hE : Ent w a L.es) (hm : L.may = true) :
    Calls Try.prog 43 #[.agg (lRow L a L.es.length cap)] w fun r w' => ∃ v', r = .returned v' ∧ Sl w' v' 2 1 fJ (outN L.cyc L.es (L.es.length - 1) ++ [L.cyc]) ∧ Below w.heap.size w w' := by
  have hb1 := below1 w (.cells (lRow L a L.es.length cap) 47)
  have hr1 := heap_alloc_new w (.cells (lRow L a L.es.length cap) 47)
  obtain ⟨⟨m1, m2⟩, ⟨a1, a2⟩, ⟨y1, y2⟩, -, -⟩ := L.may_iff.1 hm
  have hcell : Hid (∀ w', Below (w.alloc (.cells (lRow L a L.es.length cap) 47)).heap.size (w.alloc (.cells (lRow L a L.es.length cap) 47)) w' → w'.cell? ⟨w.heap.size, 1, none⟩ = some (.int .i64 L.cyc) ∧ w'.cell? ⟨w.heap.size, 3, none⟩ = some (.slice a L.es.length cap)) := fun w' h => ⟨(cell_of_row _ _ _ _ _ _ (heap_kept h hr1)).trans rfl, (cell_of_row _ _ _ _ _ _ (heap_kept h hr1)).trans rfl⟩
  have hEn : Hid (∀ w', Below (w.alloc (.cells (lRow L a L.es.length cap) 47)).heap.size (w.alloc (.cells (lRow L a L.es.length cap) 47)) w' → Ent w' a L.es) := fun w' h => hE.below (hb1.later h) (fun _ => by simp)
  have hpi := hide (preN_in (es := L.es) (fun j hj => (Ls.entry hm hj).2))
  have hen := hide (fun j (hj : j < L.es.length) => (Ls.entry hm hj).2)
  have hnx : Hid (∀ i, preN L.es (i + 1) = preN L.es i + (L.es.getD i En.zero).ns) := fun i => rfl
  have hou := hide (outN_succ L.cyc L.es)
  have hoz := hide (outN_zero (show 0 < L.cyc by omega) L.es)
  have hol := hide (outN_len L.cyc L.es)
  have hp0 : Hid (preN L.es 0 = 0) := rfl
  generalize hR : lRow L a L.es.length cap = R at *
  clear hR hE hm hr1
  generalize outN L.cyc L.es = O at *
  generalize preN L.es = pre at *
  obtain ⟨ba, cy, ex, es⟩ := L
  dsimp only at *
  generalize hn : es.length = n at *
  replace hn := hide hn
  replace hb1 := hide hb1
  have hS0 : Hid (Sl ((w.alloc (.cells R 47)).alloc (.cells #[.int .i64 0] 2)) (.slice (some ⟨w.heap.size + 1, 0, none⟩) 1 1) 2 1 fJ (O 0)) := by
    rw [hoz.out]
    refine .inr ⟨w.heap.size + 1, 1, [], rfl, ?_, Nat.le_refl _, by simp [maxLen], rfl⟩
    have := heap_alloc_new (w.alloc (.cells R 47)) (.cells #[.int .i64 0] 2)
    rw [World.size_alloc] at this
    exact this
  have hB0 := hide (below1 (w.alloc (.cells R 47)) (.cells #[.int .i64 0] 2))
  have hF0 : Hid (∀ b, (Value.slice (some ⟨w.heap.size + 1, 0, none⟩) 1 1).ownBlock = some b → (w.alloc (.cells R 47)).heap.size ≤ b) := fun b hb => by
    rw [World.size_alloc]; exact Nat.le_of_eq (Option.some.inj hb)
  go_enter Try.func43, Try.ntmps43
  go_wp2_with fail
  generalize w.alloc (.cells R 47) = w1 at *
  go_loopw [3, 4, 5] (fun v x i wr => ∃ j : Nat, j + 1 ≤ n ∧ i = .int .i64 j ∧ x = .int .i64 (pre j) ∧ Hid (Sl wr v 2 1 fJ (O j)) ∧ Hid (Below w1.heap.size w1 wr) ∧ Hid (∀ b, v.ownBlock = some b → w1.heap.size ≤ b)) (fun _ _ i _ => n - (intOf i).toNat)
  case atStart => exact ⟨0, m1, rfl, by rw [hp0.out], hS0, hB0, hF0⟩
  case round =>
    obtain ⟨j, hj, rfl, rfl, hS, hB, hF⟩ := hrel
    clear hS0 hB0 hF0
    obtain ⟨c1, c3⟩ := hcell.out wr hB.out
    obtain ⟨va, vc, rfl⟩ := hS.out.shape
    have hOl := hol.out j
    have hOn := hou.out j
    generalize hOj : O j = Oj at *
    replace hOj := hide hOj
    generalize hOj1 : O (j + 1) = Oj1 at *
    replace hOj1 := hide hOj1
    replace hOn := hide hOn
    have q1 := hpi.out j (by omega)
    generalize hln : Oj.length = ln at *
    replace hln := hide hln
    by_cases hlt : j + 1 < n
    · obtain ⟨eb, off, rfl, hrg⟩ := (hEn.out wr hB.out).at_i j (by rw [hn.out]; omega)
      have k1 := hrg 1 _ rfl
      have q2 := hen.out j (by omega)
      have hS1 := hide (hnx.out j)
      generalize (es.getD j En.zero).ns = ns at *
      generalize pre j = pj at *
      generalize hpk : pre (j + 1) = pk at *
      obtain rfl : pk = pj + ns := hS1.out
      replace hpk := hide hpk
      by_cases hc : pj + ns < cy
      · have hO2 : Hid (Oj1 = Oj ++ [pj + ns]) := by rw [hOn.out, if_pos hc]; exact rfl
        have hA := below1 wr (.cells #[.int .i64 (pj + ns)] 2)
        have hSA := hide (hS.out.below hA)
        have hms := hide (fun j u h => @built_J wr (pj + ns) j u h)
        have hBA := hide (hB.out.later hA)
        have hFs := hide (World.size_alloc wr (.cells #[.int .i64 (pj + ns)] 2))
        clear hrg hS1 hOn hA hS hB
        go_wp2_with (at_builtin; refine wpList_append_sl rfl (.tmp 27) (.tmp 29) rfl wide_J sty_J _ Oj rfl hSA.out ⟨wr.heap.size, 0, none⟩ 1 1 [pj + ns] rfl rfl hms.out (by rw [hln.out]; simp; omega) (by omega) ?_; intro v' w' hv hg ho)
        obtain ⟨va2, vc2, rfl⟩ := hv.shape
        have hB2 := hide (grown_below hg hBA.out hBA.out.size hF.out)
        have hF2 : Hid (∀ b, (Value.slice va2 (Oj ++ [pj + ns]).length vc2).ownBlock = some b → w1.heap.size ≤ b) := fun b e => by
          rcases ho with e' | e'
          · rw [e'] at e; exact hF.out b e
          · rw [e'] at e; have := Option.some.inj e; have := hBA.out.size; omega
        rw [← hO2.out] at hv hF2
        rw [← hO2.out]
        replace hv := hide hv
        clear hg ho hSA hms hBA hF hFs
        go_wp2
        go_roundw
        case rel => exact ⟨j + 1, by omega, by go_num, by rw [hpk.out], by rw [hOj1.out]; exact hv, hB2, hF2⟩
        case measure => simp [intOf]; omega
      · have hO2 : Hid (Oj1 = Oj) := by rw [hOn.out, if_neg hc, List.append_nil]; exact rfl
        clear hrg hS1 hOn
        go_wp2
        go_roundw
        case rel => exact ⟨j + 1, by omega, by go_num, by rw [hpk.out], by rw [hOj1.out, hO2.out]; exact hS, hB, hF⟩
        case measure => simp [intOf]; omega
    · have hjn : Hid (j = n - 1) := by show _ = _; omega
      have hA := below1 wr (.cells #[.int .i64 cy] 2)
      have hSA := hide (hS.out.below hA)
      have hms := hide (fun j u h => @built_J wr cy j u h)
      have hBA := hide (hB.out.later hA)
      clear hA hS hB hOn
      go_wp2_with (at_builtin; refine wpList_append_sl rfl (.tmp 31) (.tmp 34) rfl wide_J sty_J _ Oj rfl hSA.out ⟨wr.heap.size, 0, none⟩ 1 1 [cy] rfl rfl hms.out (by rw [hln.out]; simp; omega) (by omega) ?_; intro v' w' hv hg ho)
      obtain ⟨va2, vc2, rfl⟩ := hv.shape
      have hB2 := hide (hb1.out.later (grown_below hg hBA.out hBA.out.size hF.out))
      replace hv := hide hv
      clear hg ho hSA hms hBA hF
      go_wp2
      go_ret
      exact ⟨_, rfl, by rw [← hjn.out, hOj.out]; exact hv.out, hB2.out⟩
theorem Sl.cellJ {w : World} {v : Value} {l : List Int} (h : Sl w v 2 1 fJ l) {j : Nat} (hj : j < l.length) : ∃ b cap, v = .slice (some ⟨b, 0, none⟩) l.length cap ∧ w.cell? ⟨b, j, none⟩ = some (.int .i64 (l.getD j 0)) := by
  obtain ⟨b, cap, sp, h1, h2, _, _⟩ := h.at_i (by omega)
  refine ⟨b, cap, h1, ?_⟩
  have := h2.cell wide_J 0 j 0 hj (by omega)
  rw [Nat.mul_one, Nat.add_zero] at this
  exact this
set_option maxHeartbeats 4000000 in
theorem RNext_any {L : Ls} {a : Option Addr} {cap : Nat} {w : World} (hE : Ent w a L.es) (hm : L.may = true) (t : Int) (ht2 : t ≤ 9223372034000000000) :
    Calls Try.prog 27 #[.agg (lRow L a L.es.length cap), .int .i64 t] w fun r w' => r = .returned (.int .i64 (nextN L t)) ∧ Below w.heap.size w w' := by
  have hb1 := below1 w (.cells (lRow L a L.es.length cap) 47)
  have hr1 := heap_alloc_new w (.cells (lRow L a L.es.length cap) 47)
  obtain ⟨⟨m1, m2⟩, ⟨a1, a2⟩, ⟨y1, y2⟩, -, -⟩ := L.may_iff.1 hm
  have c0 : (w.alloc (.cells (lRow L a L.es.length cap) 47)).cell? ⟨w.heap.size, 0, none⟩ = some (.int .i64 L.base) := (cell_of_row _ _ _ _ _ _ hr1).trans rfl
  have c1 : (w.alloc (.cells (lRow L a L.es.length cap) 47)).cell? ⟨w.heap.size, 1, none⟩ = some (.int .i64 L.cyc) := (cell_of_row _ _ _ _ _ _ hr1).trans rfl
  have hz := lSize L a L.es.length cap
  by_cases hlt : t < L.base
  · have hV : Hid (nextN L t = L.base) := if_pos hlt
    generalize nextN L t = V at *
    generalize lRow L a L.es.length cap = R at *
    generalize hba : L.base = ba at *
    replace hba := hide hba
    replace hb1 := hide hb1
    clear hr1 hE c1
    go_enter Try.func27, Try.ntmps27
    go_wp2
    go_ret
    exact ⟨ret_i64 (by rw [hV.out]), hb1.out⟩
  have hEd := hide (Edges_any (cap := cap) (hE.below hb1 (fun _ => by simp)) hm)
  have hne := hide (fun j hj h1 h2 => @next_edge L hm t (by omega) j hj h1 h2)
  obtain ⟨i1, i2⟩ := intoN_in hm t
  have hlen := outN_len L.cyc L.es (L.es.length - 1)
  have hmem := hide (fun x => (@mem_outN L.cyc L.es (L.es.length - 1) x).1)
  have hin : Hid ((t - L.base) % L.cyc = intoN L t) := rfl
  have hbig : Hid (∀ k, k < (outN L.cyc L.es (L.es.length - 1) ++ [L.cyc]).length → 0 ≤ (outN L.cyc L.es (L.es.length - 1) ++ [L.cyc]).getD k 0 ∧ (outN L.cyc L.es (L.es.length - 1) ++ [L.cyc]).getD k 0 ≤ 1000000000) := fun k hk => by
    have hm' : (outN L.cyc L.es (L.es.length - 1) ++ [L.cyc]).getD k 0 ∈ (outN L.cyc L.es (L.es.length - 1) ++ [L.cyc]) := by
      rw [List.getD_eq_getElem?_getD, List.getElem?_eq_getElem hk]; exact List.getElem_mem _
    rw [List.mem_append, List.mem_singleton] at hm'
    rcases hm' with h | h
    · obtain ⟨q, g1, g2, g3⟩ := hmem.out _ h
      have := preN_in (es := L.es) (fun j hj => (Ls.entry hm hj).2) q (by omega)
      omega
    · omega
  have hlast : Hid ((outN L.cyc L.es (L.es.length - 1) ++ [L.cyc]).getD (outN L.cyc L.es (L.es.length - 1)).length 0 = L.cyc) := by
    show _ = _
    rw [List.getD_eq_getElem?_getD, List.getElem?_append_right (Nat.le_refl _)]; simp
  have hll : (outN L.cyc L.es (L.es.length - 1) ++ [L.cyc]).length = (outN L.cyc L.es (L.es.length - 1)).length + 1 := by simp
  clear hmem
  generalize (outN L.cyc L.es (L.es.length - 1)).length = ol at *
  generalize outN L.cyc L.es (L.es.length - 1) ++ [L.cyc] = EL at *
  generalize hel : EL.length = el at *
  replace hel := hide hel
  generalize nextN L t = V at *
  generalize hR : lRow L a L.es.length cap = R at *
  clear hR hE hm
  generalize intoN L t = at0 at *
  generalize L.base = ba at *
  generalize L.cyc = cy at *
  generalize L.es.length = n at *
  replace hr1 := hide hr1
  replace hb1 := hide hb1
  go_enter Try.func27, Try.ntmps27
  go_wp2_with ((with_reducible change wpList _ _ _ _ _ _); refine wpList_load_row rfl 47 (.tmp 2) rfl w.heap.size rfl 47 _ _ _ hr1.out Try.underlying47 rfl hz ?_)
  rw [hin.out]
  refine hEd.out.mono ?_
  rintro _ w2 ⟨v', rfl, hS, hb2⟩
  obtain ⟨va, vc, rfl⟩ := hS.shape
  rw [hel.out] at hS
  rw [hel.out]
  have hB := hide (hb1.out.later hb2)
  replace hS := hide hS
  clear hEd hb2 hr1 hb1 c0 c1 hin
  go_wp2_with fail
  go_loop [7] (fun x => ∃ j : Nat, j < el ∧ x = .int .i64 j ∧ Hid (∀ k, k < j → EL.getD k 0 ≤ at0)) (fun x => el - (intOf x).toNat)
  case atStart => exact ⟨0, by omega, rfl, hide (fun k hk => by omega)⟩
  case round =>
    obtain ⟨j, hj, rfl, hno⟩ := hrel
    obtain ⟨b, cp, hv, k0⟩ := hS.out.cellJ (j := j) (by rw [hel.out]; exact hj)
    simp only [Value.slice.injEq] at hv
    obtain ⟨rfl, -, rfl⟩ := hv
    have hbg := hbig.out j (by first | exact hj | (rw [hel.out]; exact hj))
    have hN := hide (fun h1 h2 => hne.out j (by first | exact hj | (rw [hel.out]; exact hj)) h1 h2)
    generalize hej : EL.getD j 0 = ej at *
    replace hej := hide hej
    by_cases hgt : at0 < ej
    · have hV := hide (hN.out hgt hno.out)
      clear hN hne
      go_wp2
      go_ret
      exact ⟨ret_i64 hV.out, hB.out⟩
    · have hj1 : j + 1 < el := by
        rcases (show j + 1 < el ∨ j = ol by omega) with h | rfl
        · exact h
        · have := hlast.out; rw [hej.out] at this; omega
      have hno2 : Hid (∀ k, k < j + 1 → EL.getD k 0 ≤ at0) := fun k hk => by
        rcases (show k < j ∨ k = j by omega) with h | rfl
        · exact hno.out k h
        · rw [hej.out]; omega
      clear hN hno
      go_wp2
      go_round
      case rel => exact ⟨j + 1, hj1, by go_num, hno2⟩
      case measure => simp [intOf]; omega
end Go.Proofs.Ytmacdghkbmjdmaa
