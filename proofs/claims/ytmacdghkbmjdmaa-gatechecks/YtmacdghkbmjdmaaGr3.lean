/-
  The walk of GateChecks. Conditions: those that each theorem names.
-/
import Derived.Test.YtmacdghkbmjdmaaGt9
namespace Go.Proofs.Ytmacdghkbmjdmaa
open Go.RowKit
set_option linter.unusedVariables false
set_option linter.unusedSimpArgs false
set_option maxRecDepth 20000

theorem take_bad {es : List En} {j : Nat} (h : j < es.length) : (es.take (j + 1)).any badE = ((es.take j).any badE || badE (es.getD j En.zero)) := by
  rw [List.take_add_one, List.any_append, List.getD_eq_getElem?_getD, List.getElem?_eq_getElem h]
  simp
theorem Sl.put {w : World} {v : Value} {es : List En} {j : Nat} (h : Sl w v 52 2 fEn es) (hj : j < es.length) : ∃ b cap, v = .slice (some ⟨b, 0, none⟩) es.length cap ∧ w.frozen? ⟨b, j * 2, none⟩ = false ∧ (∃ u, w.cell? ⟨b, j * 2, none⟩ = some (.int .i64 u)) ∧ b < w.heap.size ∧ ∀ x, ∃ es', es'.length = es.length ∧ Sl (w.setCell ⟨b, j * 2, none⟩ (.int .i64 x)) v 52 2 fEn es' := by
  rcases h with ⟨_, rfl⟩ | ⟨b, cap, sp, rfl, h1, h2, h3, h4⟩
  · simp at hj
  · refine ⟨b, cap, rfl, h1.frozen _, ⟨_, h1.cell wide_En En.zero j 0 hj (by omega)⟩, h1.lt, fun x => ⟨es.set j ⟨x, (es.getD j En.zero).ns⟩, by simp, .inr ⟨b, cap, sp, by simp, ?_, by simpa using h2, h3, by simpa using h4⟩⟩⟩
    have := h1.set wide_En En.zero j 0 (.int .i64 x) ⟨x, (es.getD j En.zero).ns⟩ hj (by omega) rfl
    simpa using this
set_option maxHeartbeats 16000000 in
theorem GChecks_walk (L : Ls) (a : Option Addr) (cap : Nat) (w : World) (hE : Ent w a L.es) (hn : L.es.length ≤ maxLen) :
    Calls Try.prog 11 #[.agg (lRow L a L.es.length cap)] w fun e w' => e = .returned (.bool true) ∧ Below w.heap.size w w' := by
  have hb := hide (below1 w (.cells (lRow L a L.es.length cap) 47))
  have hr := hide (heap_alloc_new w (.cells (lRow L a L.es.length cap) 47))
  have hz := lSize L a L.es.length cap
  have hLC : Hid (∀ w', Below w.heap.size w w' → Calls Try.prog 30 #[.agg (lRow L a L.es.length cap)] w' fun e w'' => e = .returned (.int .i64 (if L.may = true then 0 else 30)) ∧ Below w'.heap.size w' w'') := fun w' h => GCheck_any L a cap w' (hE.below h (fun _ => by simp)) hn
  have hCl : Hid (L.es.length ≤ 900000 → ∀ w', Below w.heap.size w w' → Calls Try.prog 29 #[.agg (lRow L a L.es.length cap)] w' fun r w'' => ∃ v', r = .returned (.agg #[.int .i64 L.base, .int .i64 L.cyc, .int .i64 L.ext, v']) ∧ Sl w'' v' 52 2 fEn L.es ∧ Below w'.heap.size w' w'' ∧ FreshG w'.heap.size v') := fun hl w' h => Clone_any (hE.below h (fun _ => by simp)) hl
  have hEn : Hid (∀ w', Below w.heap.size w w' → Ent w' a L.es) := fun w' h => hE.below h (fun _ => by simp)
  have hcell : Hid (∀ w', Below (w.alloc (.cells (lRow L a L.es.length cap) 47)).heap.size (w.alloc (.cells (lRow L a L.es.length cap) 47)) w' → w'.heap[w.heap.size]? = some (.cells (lRow L a L.es.length cap) 47 (0, 0)) ∧ w'.cell? ⟨w.heap.size, 0, none⟩ = some (.int .i64 L.base) ∧ w'.cell? ⟨w.heap.size, 1, none⟩ = some (.int .i64 L.cyc) ∧ w'.cell? ⟨w.heap.size, 2, none⟩ = some (.int .i64 L.ext) ∧ w'.cell? ⟨w.heap.size, 3, none⟩ = some (.slice a L.es.length cap)) := fun w' h => ⟨heap_kept h hr.out, (cell_of_row _ _ _ _ _ _ (heap_kept h hr.out)).trans rfl, (cell_of_row _ _ _ _ _ _ (heap_kept h hr.out)).trans rfl, (cell_of_row _ _ _ _ _ _ (heap_kept h hr.out)).trans rfl, (cell_of_row _ _ _ _ _ _ (heap_kept h hr.out)).trans rfl⟩
  have hk := hide (L.may_iff)
  have htb := hide (fun j (h : j < L.es.length) => take_bad h)
  have hta : Hid (L.es.take L.es.length = L.es) := List.take_length
  have hgn : Hid (w.heap.size < (w.alloc (.cells (lRow L a L.es.length cap) 47)).heap.size) := by rw [World.size_alloc]; exact Nat.lt_succ_self _
  have hz2 : Hid (∀ n' cap', ∀ v, (Try.prog.info? 47).map (·.size) = some (#[.int .i64 L.base, .int .i64 L.cyc, .int .i64 L.ext, .slice v n' cap'] : Array Value).size) := fun n' cap' v => lSize L v n' cap'
  generalize hR : lRow L a L.es.length cap = R at *
  clear hE hR
  obtain ⟨ba, cy, ex, es⟩ := L
  dsimp only at *
  unfold maxLen at hn
  generalize hmy : (Ls.mk ba cy ex es).may = my at *
  replace hmy := hide hmy
  generalize hnl : es.length = n at *
  replace hnl := hide hnl
  go_enter Try.func11, Try.ntmps11
  go_wp2_with fail
  generalize w.alloc (.cells R 47) = w1 at *
  refine (opens_any _).mono ?_
  rintro _ w2 ⟨rfl, hb2⟩
  have h12 := hide hb2
  clear hb2 hr
  obtain ⟨-, c0, c1, c2, c3⟩ := hcell.out w2 h12.out
  by_cases h200 : (200 : Int) < (n : Int)
  · have hB := hide (hb.out.later h12.out)
    clear hLC hCl hEn hcell hk htb hta hz2
    go_wp2
    go_ret
    exact ⟨rfl, hB.out⟩
  have h200q : decide ((200 : Int) < (n : Int)) = false := decide_eq_false h200
  by_cases h0 : (1 : Int) ≤ (n : Int)
  rotate_left
  · have hgood : Hid (my = false) := by show _ = _; rw [Bool.eq_false_iff]; intro hx; have := hk.out.1 hx; omega
    have hcd : decide ((1 : Int) ≤ (n : Int)) = false := decide_eq_false h0
    clear h0
    go_wp2_with fail
    clear c0 c1 c2 c3 hcd
    go_loopw [3, 57] (fun x i wr => ∃ j : Nat, j ≤ n ∧ i = .int .i64 j ∧ x = .bool false ∧ Hid (Below w1.heap.size w1 wr)) (fun _ i _ => n - (intOf i).toNat)
    case atStart => exact ⟨0, Nat.zero_le _, rfl, rfl, h12⟩
    case round =>
      obtain ⟨j, hj, rfl, rfl, hB1⟩ := hrel
      clear h12
      by_cases hlt : j < n
      · obtain ⟨eb, off, rfl, hrg⟩ := (hEn.out wr (hb.out.later hB1.out)).at_i j (by rw [hnl.out]; exact hlt)
        replace hrg := hide hrg
        have hT := hide (htb.out j hlt)
        generalize es.getD j En.zero = el at *
        go_wp2_with (first | ((with_reducible change wpList _ _ _ _ _ _); refine wpList_load_mid rfl 52 (.tmp 59) rfl eb (off + j * 2) rfl (fEn el) _ hrg.out Try.underlying52 rfl (enLen _) ?_) | ((with_reducible change wpList _ _ _ _ _ _); refine stop_storeB 52 (.tmp 5) (.tmp 60) rfl ?_))
        refine hide (wpList_store_fresh rfl 52 (.tmp 5) (.tmp 60) rfl (fEn el).toArray (fEn En.zero).toArray rfl rfl 52 (enSize _) rfl (en_all _) ?_)
        intro w5 h5 hb5
        have k0 : w5.cell? ⟨wr.heap.size, 0, none⟩ = some (.int .i64 el.op) := (cell_of_row _ _ _ _ _ _ h5).trans rfl
        have k1 : w5.cell? ⟨wr.heap.size, 1, none⟩ = some (.int .i64 el.ns) := (cell_of_row _ _ _ _ _ _ h5).trans rfl
        have hB5 := hide (hB1.out.later hb5)
        clear hB1 hrg h5 hb5
        clear hT
        go_wp2
        go_roundw
        case rel => exact ⟨j + 1, by omega, by go_num, rfl, hB5⟩
        case measure => simp [intOf]; omega
      · obtain rfl : n = j := by omega
        have hrr := hide (hcell.out wr hB1.out).1
        have hC := hide (hCl.out (by omega) wr (hb.out.later hB1.out))
        clear hCl
        go_wp2_with ((with_reducible change wpList _ _ _ _ _ _); refine wpList_load_row rfl 47 (.tmp 1) rfl w.heap.size rfl 47 _ _ _ hrr.out Try.underlying47 rfl hz ?_)
        refine hC.out.mono ?_
        rintro _ w5 ⟨v', rfl, hS5, hb5, hF5⟩
        obtain ⟨va, vc, rfl⟩ := hS5.shape
        have hB5 := hide (hB1.out.later hb5)
        rw [hnl.out] at hS5
        replace hF5 : Hid (∀ k, (Value.slice va es.length vc).ownBlock = some k → wr.heap.size ≤ k) := hF5
        replace hS5 := hide hS5
        rw [hnl.out] at hF5
        clear hC hrr hb5
        have h1r : Hid (w1.heap.size ≤ wr.heap.size) := hB1.out.size
        clear hB1
        rw [hnl.out]
        go_wp2_with ((with_reducible change wpList _ _ _ _ _ _); refine stop_storeB 47 (.tmp 6) (.tmp 84) rfl ?_)
        refine hide (wpList_store_fresh rfl 47 (.tmp 6) (.tmp 84) rfl #[.int .i64 ba, .int .i64 cy, .int .i64 ex, .slice va n vc] #[.int .i64 0, .int .i64 0, .int .i64 0, .slice none 0 0] rfl rfl 47 (hz2.out _ _ _) rfl (l_all ⟨ba, cy, ex, es⟩ va n vc) ?_)
        intro w6 h6 hb6
        have hB6 := hide (hB5.out.later hb6)
        have hS6 : Hid (∃ es', es'.length = n ∧ Sl w6 (.slice va n vc) 52 2 fEn es') := ⟨es, hnl.out, by have := hS5.out.below hb6; exact this⟩
        have hlt5 : Hid (∀ k, (Value.slice va n vc).ownBlock = some k → k < w5.heap.size) := fun k hk => hS5.out.lt hk
        have h15 : Hid (w1.heap.size ≤ w5.heap.size) := hB5.out.size
        replace h6 := hide h6
        clear hb6 hS5 hB5
        generalize w5.heap.size = C at *
        clear w5
        have d3 : w6.cell? ⟨C, 3, none⟩ = some (.slice va n vc) := (cell_of_row _ _ _ _ _ _ h6.out).trans rfl
        go_wp2_with fail
        clear d3
        go_loopw [88] (fun i wr => ∃ j : Nat, j ≤ n ∧ i = .int .i64 j ∧ Hid (Below w1.heap.size w1 wr) ∧ Hid (∃ es', es'.length = n ∧ Sl wr (.slice va n vc) 52 2 fEn es') ∧ Hid (wr.heap[C]? = some (.cells #[.int .i64 ba, .int .i64 cy, .int .i64 ex, .slice va n vc] 47 (0, 0)))) (fun i _ => n - (intOf i).toNat)
        case atStart => exact ⟨0, Nat.zero_le _, rfl, hB6, hS6, h6⟩
        case round =>
          obtain ⟨j, hj, rfl, hBr, hSr, hCr⟩ := hrel
          clear hB6 hS6 h6
          have d3 : wr.cell? ⟨C, 3, none⟩ = some (.slice va n vc) := (cell_of_row _ _ _ _ _ _ hCr.out).trans rfl
          by_cases hlt : j < n
          · obtain ⟨es', hl', hS'⟩ := hSr.out
            obtain ⟨vb, vcp, hv, z0, ⟨u0, k0⟩, hvb, hput⟩ := hS'.put (j := j) (by omega)
            rw [hl'] at hv
            simp only [Value.slice.injEq] at hv
            obtain ⟨rfl, -, rfl⟩ := hv
            have hbC : vb < C := hlt5.out vb rfl
            have hb1 : w1.heap.size ≤ vb := by have := hF5.out vb rfl; have := h1r.out; omega
            have hBn : Hid (Below w1.heap.size w1 (wr.setCell ⟨vb, j * 2, none⟩ (.int .i64 (-7)))) := hBr.out.setCell (p := ⟨vb, j * 2, none⟩) hb1 _
            have hSn : Hid (∃ es', es'.length = n ∧ Sl (wr.setCell ⟨vb, j * 2, none⟩ (.int .i64 (-7))) (.slice (some ⟨vb, 0, none⟩) n vc) 52 2 fEn es') := by
              obtain ⟨e2, l2, s2⟩ := hput (-7)
              exact ⟨e2, l2.trans hl', s2⟩
            have hCn : Hid ((wr.setCell ⟨vb, j * 2, none⟩ (.int .i64 (-7))).heap[C]? = some (.cells #[.int .i64 ba, .int .i64 cy, .int .i64 ex, .slice (some ⟨vb, 0, none⟩) n vc] 47 (0, 0))) := (heap_setCell_other wr ⟨vb, j * 2, none⟩ C _ (by show C ≠ vb; omega)).trans hCr.out
            clear hput hS' hSr hCr hBr hvb hl' hbC hb1
            go_wp2
            go_roundw
            case rel => exact ⟨j + 1, by omega, by go_num, hBn, hSn, hCn⟩
            case measure => simp [intOf]; omega
          · obtain rfl : j = n := by omega
            have e0 : wr.cell? ⟨C, 0, none⟩ = some (.int .i64 ba) := (cell_of_row _ _ _ _ _ _ hCr.out).trans rfl
            have hrr := hide (hcell.out wr hBr.out).1
            have hL := hide (hLC.out wr (hb.out.later hBr.out))
            rw [hgood.out] at hL
            simp only [Bool.false_eq_true, if_false] at hL
            clear d3 e0
            go_wp2_with ((with_reducible change wpList _ _ _ _ _ _); refine wpList_load_row rfl 47 (.tmp 1) rfl w.heap.size rfl 47 _ _ _ hrr.out Try.underlying47 rfl hz ?_)
            refine hL.out.mono ?_
            rintro _ w7 ⟨rfl, hb7⟩
            have hB7 := hide (hBr.out.later hb7)
            have hC7 := hide (heap_kept hb7 hCr.out)
            clear hL hb7 hBr hSr hCr hrr
            have hrr := hide (hcell.out w7 hB7.out).1
            have hL := hide (hLC.out w7 (hb.out.later hB7.out))
            rw [hgood.out] at hL
            simp only [Bool.false_eq_true, if_false] at hL
            go_wp2_with ((with_reducible change wpList _ _ _ _ _ _); refine wpList_load_row_on rfl 47 (.tmp 1) rfl w.heap.size rfl 47 _ _ _ hrr.out Try.underlying47 rfl hz ?_)
            refine hL.out.mono ?_
            rintro _ w8 ⟨rfl, hb8⟩
            have hB8 := hide (hB7.out.later hb8)
            have hC8 := hide (heap_kept hb8 hC7.out)
            clear hL hb8 hC7 hrr hB7
            obtain ⟨-, c0, c1, c2, c3⟩ := hcell.out w8 hB8.out
            have e0 : w8.cell? ⟨C, 0, none⟩ = some (.int .i64 ba) := (cell_of_row _ _ _ _ _ _ hC8.out).trans rfl
            have e3 : w8.cell? ⟨C, 3, none⟩ = some (.slice va j vc) := (cell_of_row _ _ _ _ _ _ hC8.out).trans rfl
            have eq1 : ((j : Int) == (j : Int)) = true := by simp
            have eq2 : (ba == ba) = true := by simp
            have hBf := hide (hb.out.later hB8.out)
            clear hcell hLC hC8 hB8
            go_wp2
            go_ret
            exact ⟨rfl, hBf.out⟩
  have hcd0 : decide ((1 : Int) ≤ (n : Int)) = true := decide_eq_true h0
  by_cases h1 : (n : Int) ≤ 64
  rotate_left
  · have hgood : Hid (my = false) := by show _ = _; rw [Bool.eq_false_iff]; intro hx; have := hk.out.1 hx; omega
    have hcd : decide ((n : Int) ≤ 64) = false := decide_eq_false h1
    clear h0 h1
    go_wp2_with fail
    clear c0 c1 c2 c3 hcd hcd0
    go_loopw [3, 57] (fun x i wr => ∃ j : Nat, j ≤ n ∧ i = .int .i64 j ∧ x = .bool false ∧ Hid (Below w1.heap.size w1 wr)) (fun _ i _ => n - (intOf i).toNat)
    case atStart => exact ⟨0, Nat.zero_le _, rfl, rfl, h12⟩
    case round =>
      obtain ⟨j, hj, rfl, rfl, hB1⟩ := hrel
      clear h12
      by_cases hlt : j < n
      · obtain ⟨eb, off, rfl, hrg⟩ := (hEn.out wr (hb.out.later hB1.out)).at_i j (by rw [hnl.out]; exact hlt)
        replace hrg := hide hrg
        have hT := hide (htb.out j hlt)
        generalize es.getD j En.zero = el at *
        go_wp2_with (first | ((with_reducible change wpList _ _ _ _ _ _); refine wpList_load_mid rfl 52 (.tmp 59) rfl eb (off + j * 2) rfl (fEn el) _ hrg.out Try.underlying52 rfl (enLen _) ?_) | ((with_reducible change wpList _ _ _ _ _ _); refine stop_storeB 52 (.tmp 5) (.tmp 60) rfl ?_))
        refine hide (wpList_store_fresh rfl 52 (.tmp 5) (.tmp 60) rfl (fEn el).toArray (fEn En.zero).toArray rfl rfl 52 (enSize _) rfl (en_all _) ?_)
        intro w5 h5 hb5
        have k0 : w5.cell? ⟨wr.heap.size, 0, none⟩ = some (.int .i64 el.op) := (cell_of_row _ _ _ _ _ _ h5).trans rfl
        have k1 : w5.cell? ⟨wr.heap.size, 1, none⟩ = some (.int .i64 el.ns) := (cell_of_row _ _ _ _ _ _ h5).trans rfl
        have hB5 := hide (hB1.out.later hb5)
        clear hB1 hrg h5 hb5
        clear hT
        go_wp2
        go_roundw
        case rel => exact ⟨j + 1, by omega, by go_num, rfl, hB5⟩
        case measure => simp [intOf]; omega
      · obtain rfl : n = j := by omega
        have hrr := hide (hcell.out wr hB1.out).1
        have hC := hide (hCl.out (by omega) wr (hb.out.later hB1.out))
        clear hCl
        go_wp2_with ((with_reducible change wpList _ _ _ _ _ _); refine wpList_load_row rfl 47 (.tmp 1) rfl w.heap.size rfl 47 _ _ _ hrr.out Try.underlying47 rfl hz ?_)
        refine hC.out.mono ?_
        rintro _ w5 ⟨v', rfl, hS5, hb5, hF5⟩
        obtain ⟨va, vc, rfl⟩ := hS5.shape
        have hB5 := hide (hB1.out.later hb5)
        rw [hnl.out] at hS5
        replace hF5 : Hid (∀ k, (Value.slice va es.length vc).ownBlock = some k → wr.heap.size ≤ k) := hF5
        replace hS5 := hide hS5
        rw [hnl.out] at hF5
        clear hC hrr hb5
        have h1r : Hid (w1.heap.size ≤ wr.heap.size) := hB1.out.size
        clear hB1
        rw [hnl.out]
        go_wp2_with ((with_reducible change wpList _ _ _ _ _ _); refine stop_storeB 47 (.tmp 6) (.tmp 84) rfl ?_)
        refine hide (wpList_store_fresh rfl 47 (.tmp 6) (.tmp 84) rfl #[.int .i64 ba, .int .i64 cy, .int .i64 ex, .slice va n vc] #[.int .i64 0, .int .i64 0, .int .i64 0, .slice none 0 0] rfl rfl 47 (hz2.out _ _ _) rfl (l_all ⟨ba, cy, ex, es⟩ va n vc) ?_)
        intro w6 h6 hb6
        have hB6 := hide (hB5.out.later hb6)
        have hS6 : Hid (∃ es', es'.length = n ∧ Sl w6 (.slice va n vc) 52 2 fEn es') := ⟨es, hnl.out, by have := hS5.out.below hb6; exact this⟩
        have hlt5 : Hid (∀ k, (Value.slice va n vc).ownBlock = some k → k < w5.heap.size) := fun k hk => hS5.out.lt hk
        have h15 : Hid (w1.heap.size ≤ w5.heap.size) := hB5.out.size
        replace h6 := hide h6
        clear hb6 hS5 hB5
        generalize w5.heap.size = C at *
        clear w5
        have d3 : w6.cell? ⟨C, 3, none⟩ = some (.slice va n vc) := (cell_of_row _ _ _ _ _ _ h6.out).trans rfl
        go_wp2_with fail
        clear d3
        go_loopw [88] (fun i wr => ∃ j : Nat, j ≤ n ∧ i = .int .i64 j ∧ Hid (Below w1.heap.size w1 wr) ∧ Hid (∃ es', es'.length = n ∧ Sl wr (.slice va n vc) 52 2 fEn es') ∧ Hid (wr.heap[C]? = some (.cells #[.int .i64 ba, .int .i64 cy, .int .i64 ex, .slice va n vc] 47 (0, 0)))) (fun i _ => n - (intOf i).toNat)
        case atStart => exact ⟨0, Nat.zero_le _, rfl, hB6, hS6, h6⟩
        case round =>
          obtain ⟨j, hj, rfl, hBr, hSr, hCr⟩ := hrel
          clear hB6 hS6 h6
          have d3 : wr.cell? ⟨C, 3, none⟩ = some (.slice va n vc) := (cell_of_row _ _ _ _ _ _ hCr.out).trans rfl
          by_cases hlt : j < n
          · obtain ⟨es', hl', hS'⟩ := hSr.out
            obtain ⟨vb, vcp, hv, z0, ⟨u0, k0⟩, hvb, hput⟩ := hS'.put (j := j) (by omega)
            rw [hl'] at hv
            simp only [Value.slice.injEq] at hv
            obtain ⟨rfl, -, rfl⟩ := hv
            have hbC : vb < C := hlt5.out vb rfl
            have hb1 : w1.heap.size ≤ vb := by have := hF5.out vb rfl; have := h1r.out; omega
            have hBn : Hid (Below w1.heap.size w1 (wr.setCell ⟨vb, j * 2, none⟩ (.int .i64 (-7)))) := hBr.out.setCell (p := ⟨vb, j * 2, none⟩) hb1 _
            have hSn : Hid (∃ es', es'.length = n ∧ Sl (wr.setCell ⟨vb, j * 2, none⟩ (.int .i64 (-7))) (.slice (some ⟨vb, 0, none⟩) n vc) 52 2 fEn es') := by
              obtain ⟨e2, l2, s2⟩ := hput (-7)
              exact ⟨e2, l2.trans hl', s2⟩
            have hCn : Hid ((wr.setCell ⟨vb, j * 2, none⟩ (.int .i64 (-7))).heap[C]? = some (.cells #[.int .i64 ba, .int .i64 cy, .int .i64 ex, .slice (some ⟨vb, 0, none⟩) n vc] 47 (0, 0))) := (heap_setCell_other wr ⟨vb, j * 2, none⟩ C _ (by show C ≠ vb; omega)).trans hCr.out
            clear hput hS' hSr hCr hBr hvb hl' hbC hb1
            go_wp2
            go_roundw
            case rel => exact ⟨j + 1, by omega, by go_num, hBn, hSn, hCn⟩
            case measure => simp [intOf]; omega
          · obtain rfl : j = n := by omega
            have e0 : wr.cell? ⟨C, 0, none⟩ = some (.int .i64 ba) := (cell_of_row _ _ _ _ _ _ hCr.out).trans rfl
            have hrr := hide (hcell.out wr hBr.out).1
            have hL := hide (hLC.out wr (hb.out.later hBr.out))
            rw [hgood.out] at hL
            simp only [Bool.false_eq_true, if_false] at hL
            clear d3 e0
            go_wp2_with ((with_reducible change wpList _ _ _ _ _ _); refine wpList_load_row rfl 47 (.tmp 1) rfl w.heap.size rfl 47 _ _ _ hrr.out Try.underlying47 rfl hz ?_)
            refine hL.out.mono ?_
            rintro _ w7 ⟨rfl, hb7⟩
            have hB7 := hide (hBr.out.later hb7)
            have hC7 := hide (heap_kept hb7 hCr.out)
            clear hL hb7 hBr hSr hCr hrr
            have hrr := hide (hcell.out w7 hB7.out).1
            have hL := hide (hLC.out w7 (hb.out.later hB7.out))
            rw [hgood.out] at hL
            simp only [Bool.false_eq_true, if_false] at hL
            go_wp2_with ((with_reducible change wpList _ _ _ _ _ _); refine wpList_load_row_on rfl 47 (.tmp 1) rfl w.heap.size rfl 47 _ _ _ hrr.out Try.underlying47 rfl hz ?_)
            refine hL.out.mono ?_
            rintro _ w8 ⟨rfl, hb8⟩
            have hB8 := hide (hB7.out.later hb8)
            have hC8 := hide (heap_kept hb8 hC7.out)
            clear hL hb8 hC7 hrr hB7
            obtain ⟨-, c0, c1, c2, c3⟩ := hcell.out w8 hB8.out
            have e0 : w8.cell? ⟨C, 0, none⟩ = some (.int .i64 ba) := (cell_of_row _ _ _ _ _ _ hC8.out).trans rfl
            have e3 : w8.cell? ⟨C, 3, none⟩ = some (.slice va j vc) := (cell_of_row _ _ _ _ _ _ hC8.out).trans rfl
            have eq1 : ((j : Int) == (j : Int)) = true := by simp
            have eq2 : (ba == ba) = true := by simp
            have hBf := hide (hb.out.later hB8.out)
            clear hcell hLC hC8 hB8
            go_wp2
            go_ret
            exact ⟨rfl, hBf.out⟩
  have hcd1 : decide ((n : Int) ≤ 64) = true := decide_eq_true h1
  by_cases h2 : 0 ≤ ba
  rotate_left
  · have hgood : Hid (my = false) := by show _ = _; rw [Bool.eq_false_iff]; intro hx; have := hk.out.1 hx; omega
    have hcd : decide (0 ≤ ba) = false := decide_eq_false h2
    clear h0 h1 h2
    go_wp2_with fail
    clear c0 c1 c2 c3 hcd hcd0 hcd1
    go_loopw [3, 57] (fun x i wr => ∃ j : Nat, j ≤ n ∧ i = .int .i64 j ∧ x = .bool false ∧ Hid (Below w1.heap.size w1 wr)) (fun _ i _ => n - (intOf i).toNat)
    case atStart => exact ⟨0, Nat.zero_le _, rfl, rfl, h12⟩
    case round =>
      obtain ⟨j, hj, rfl, rfl, hB1⟩ := hrel
      clear h12
      by_cases hlt : j < n
      · obtain ⟨eb, off, rfl, hrg⟩ := (hEn.out wr (hb.out.later hB1.out)).at_i j (by rw [hnl.out]; exact hlt)
        replace hrg := hide hrg
        have hT := hide (htb.out j hlt)
        generalize es.getD j En.zero = el at *
        go_wp2_with (first | ((with_reducible change wpList _ _ _ _ _ _); refine wpList_load_mid rfl 52 (.tmp 59) rfl eb (off + j * 2) rfl (fEn el) _ hrg.out Try.underlying52 rfl (enLen _) ?_) | ((with_reducible change wpList _ _ _ _ _ _); refine stop_storeB 52 (.tmp 5) (.tmp 60) rfl ?_))
        refine hide (wpList_store_fresh rfl 52 (.tmp 5) (.tmp 60) rfl (fEn el).toArray (fEn En.zero).toArray rfl rfl 52 (enSize _) rfl (en_all _) ?_)
        intro w5 h5 hb5
        have k0 : w5.cell? ⟨wr.heap.size, 0, none⟩ = some (.int .i64 el.op) := (cell_of_row _ _ _ _ _ _ h5).trans rfl
        have k1 : w5.cell? ⟨wr.heap.size, 1, none⟩ = some (.int .i64 el.ns) := (cell_of_row _ _ _ _ _ _ h5).trans rfl
        have hB5 := hide (hB1.out.later hb5)
        clear hB1 hrg h5 hb5
        clear hT
        go_wp2
        go_roundw
        case rel => exact ⟨j + 1, by omega, by go_num, rfl, hB5⟩
        case measure => simp [intOf]; omega
      · obtain rfl : n = j := by omega
        have hrr := hide (hcell.out wr hB1.out).1
        have hC := hide (hCl.out (by omega) wr (hb.out.later hB1.out))
        clear hCl
        go_wp2_with ((with_reducible change wpList _ _ _ _ _ _); refine wpList_load_row rfl 47 (.tmp 1) rfl w.heap.size rfl 47 _ _ _ hrr.out Try.underlying47 rfl hz ?_)
        refine hC.out.mono ?_
        rintro _ w5 ⟨v', rfl, hS5, hb5, hF5⟩
        obtain ⟨va, vc, rfl⟩ := hS5.shape
        have hB5 := hide (hB1.out.later hb5)
        rw [hnl.out] at hS5
        replace hF5 : Hid (∀ k, (Value.slice va es.length vc).ownBlock = some k → wr.heap.size ≤ k) := hF5
        replace hS5 := hide hS5
        rw [hnl.out] at hF5
        clear hC hrr hb5
        have h1r : Hid (w1.heap.size ≤ wr.heap.size) := hB1.out.size
        clear hB1
        rw [hnl.out]
        go_wp2_with ((with_reducible change wpList _ _ _ _ _ _); refine stop_storeB 47 (.tmp 6) (.tmp 84) rfl ?_)
        refine hide (wpList_store_fresh rfl 47 (.tmp 6) (.tmp 84) rfl #[.int .i64 ba, .int .i64 cy, .int .i64 ex, .slice va n vc] #[.int .i64 0, .int .i64 0, .int .i64 0, .slice none 0 0] rfl rfl 47 (hz2.out _ _ _) rfl (l_all ⟨ba, cy, ex, es⟩ va n vc) ?_)
        intro w6 h6 hb6
        have hB6 := hide (hB5.out.later hb6)
        have hS6 : Hid (∃ es', es'.length = n ∧ Sl w6 (.slice va n vc) 52 2 fEn es') := ⟨es, hnl.out, by have := hS5.out.below hb6; exact this⟩
        have hlt5 : Hid (∀ k, (Value.slice va n vc).ownBlock = some k → k < w5.heap.size) := fun k hk => hS5.out.lt hk
        have h15 : Hid (w1.heap.size ≤ w5.heap.size) := hB5.out.size
        replace h6 := hide h6
        clear hb6 hS5 hB5
        generalize w5.heap.size = C at *
        clear w5
        have d3 : w6.cell? ⟨C, 3, none⟩ = some (.slice va n vc) := (cell_of_row _ _ _ _ _ _ h6.out).trans rfl
        go_wp2_with fail
        clear d3
        go_loopw [88] (fun i wr => ∃ j : Nat, j ≤ n ∧ i = .int .i64 j ∧ Hid (Below w1.heap.size w1 wr) ∧ Hid (∃ es', es'.length = n ∧ Sl wr (.slice va n vc) 52 2 fEn es') ∧ Hid (wr.heap[C]? = some (.cells #[.int .i64 ba, .int .i64 cy, .int .i64 ex, .slice va n vc] 47 (0, 0)))) (fun i _ => n - (intOf i).toNat)
        case atStart => exact ⟨0, Nat.zero_le _, rfl, hB6, hS6, h6⟩
        case round =>
          obtain ⟨j, hj, rfl, hBr, hSr, hCr⟩ := hrel
          clear hB6 hS6 h6
          have d3 : wr.cell? ⟨C, 3, none⟩ = some (.slice va n vc) := (cell_of_row _ _ _ _ _ _ hCr.out).trans rfl
          by_cases hlt : j < n
          · obtain ⟨es', hl', hS'⟩ := hSr.out
            obtain ⟨vb, vcp, hv, z0, ⟨u0, k0⟩, hvb, hput⟩ := hS'.put (j := j) (by omega)
            rw [hl'] at hv
            simp only [Value.slice.injEq] at hv
            obtain ⟨rfl, -, rfl⟩ := hv
            have hbC : vb < C := hlt5.out vb rfl
            have hb1 : w1.heap.size ≤ vb := by have := hF5.out vb rfl; have := h1r.out; omega
            have hBn : Hid (Below w1.heap.size w1 (wr.setCell ⟨vb, j * 2, none⟩ (.int .i64 (-7)))) := hBr.out.setCell (p := ⟨vb, j * 2, none⟩) hb1 _
            have hSn : Hid (∃ es', es'.length = n ∧ Sl (wr.setCell ⟨vb, j * 2, none⟩ (.int .i64 (-7))) (.slice (some ⟨vb, 0, none⟩) n vc) 52 2 fEn es') := by
              obtain ⟨e2, l2, s2⟩ := hput (-7)
              exact ⟨e2, l2.trans hl', s2⟩
            have hCn : Hid ((wr.setCell ⟨vb, j * 2, none⟩ (.int .i64 (-7))).heap[C]? = some (.cells #[.int .i64 ba, .int .i64 cy, .int .i64 ex, .slice (some ⟨vb, 0, none⟩) n vc] 47 (0, 0))) := (heap_setCell_other wr ⟨vb, j * 2, none⟩ C _ (by show C ≠ vb; omega)).trans hCr.out
            clear hput hS' hSr hCr hBr hvb hl' hbC hb1
            go_wp2
            go_roundw
            case rel => exact ⟨j + 1, by omega, by go_num, hBn, hSn, hCn⟩
            case measure => simp [intOf]; omega
          · obtain rfl : j = n := by omega
            have e0 : wr.cell? ⟨C, 0, none⟩ = some (.int .i64 ba) := (cell_of_row _ _ _ _ _ _ hCr.out).trans rfl
            have hrr := hide (hcell.out wr hBr.out).1
            have hL := hide (hLC.out wr (hb.out.later hBr.out))
            rw [hgood.out] at hL
            simp only [Bool.false_eq_true, if_false] at hL
            clear d3 e0
            go_wp2_with ((with_reducible change wpList _ _ _ _ _ _); refine wpList_load_row rfl 47 (.tmp 1) rfl w.heap.size rfl 47 _ _ _ hrr.out Try.underlying47 rfl hz ?_)
            refine hL.out.mono ?_
            rintro _ w7 ⟨rfl, hb7⟩
            have hB7 := hide (hBr.out.later hb7)
            have hC7 := hide (heap_kept hb7 hCr.out)
            clear hL hb7 hBr hSr hCr hrr
            have hrr := hide (hcell.out w7 hB7.out).1
            have hL := hide (hLC.out w7 (hb.out.later hB7.out))
            rw [hgood.out] at hL
            simp only [Bool.false_eq_true, if_false] at hL
            go_wp2_with ((with_reducible change wpList _ _ _ _ _ _); refine wpList_load_row_on rfl 47 (.tmp 1) rfl w.heap.size rfl 47 _ _ _ hrr.out Try.underlying47 rfl hz ?_)
            refine hL.out.mono ?_
            rintro _ w8 ⟨rfl, hb8⟩
            have hB8 := hide (hB7.out.later hb8)
            have hC8 := hide (heap_kept hb8 hC7.out)
            clear hL hb8 hC7 hrr hB7
            obtain ⟨-, c0, c1, c2, c3⟩ := hcell.out w8 hB8.out
            have e0 : w8.cell? ⟨C, 0, none⟩ = some (.int .i64 ba) := (cell_of_row _ _ _ _ _ _ hC8.out).trans rfl
            have e3 : w8.cell? ⟨C, 3, none⟩ = some (.slice va j vc) := (cell_of_row _ _ _ _ _ _ hC8.out).trans rfl
            have eq1 : ((j : Int) == (j : Int)) = true := by simp
            have eq2 : (ba == ba) = true := by simp
            have hBf := hide (hb.out.later hB8.out)
            clear hcell hLC hC8 hB8
            go_wp2
            go_ret
            exact ⟨rfl, hBf.out⟩
  have hcd2 : decide (0 ≤ ba) = true := decide_eq_true h2
  by_cases h3 : ba < 4611686018427387904
  rotate_left
  · have hgood : Hid (my = false) := by show _ = _; rw [Bool.eq_false_iff]; intro hx; have := hk.out.1 hx; omega
    have hcd : decide (ba < 4611686018427387904) = false := decide_eq_false h3
    clear h0 h1 h2 h3
    go_wp2_with fail
    clear c0 c1 c2 c3 hcd hcd0 hcd1 hcd2
    go_loopw [3, 57] (fun x i wr => ∃ j : Nat, j ≤ n ∧ i = .int .i64 j ∧ x = .bool false ∧ Hid (Below w1.heap.size w1 wr)) (fun _ i _ => n - (intOf i).toNat)
    case atStart => exact ⟨0, Nat.zero_le _, rfl, rfl, h12⟩
    case round =>
      obtain ⟨j, hj, rfl, rfl, hB1⟩ := hrel
      clear h12
      by_cases hlt : j < n
      · obtain ⟨eb, off, rfl, hrg⟩ := (hEn.out wr (hb.out.later hB1.out)).at_i j (by rw [hnl.out]; exact hlt)
        replace hrg := hide hrg
        have hT := hide (htb.out j hlt)
        generalize es.getD j En.zero = el at *
        go_wp2_with (first | ((with_reducible change wpList _ _ _ _ _ _); refine wpList_load_mid rfl 52 (.tmp 59) rfl eb (off + j * 2) rfl (fEn el) _ hrg.out Try.underlying52 rfl (enLen _) ?_) | ((with_reducible change wpList _ _ _ _ _ _); refine stop_storeB 52 (.tmp 5) (.tmp 60) rfl ?_))
        refine hide (wpList_store_fresh rfl 52 (.tmp 5) (.tmp 60) rfl (fEn el).toArray (fEn En.zero).toArray rfl rfl 52 (enSize _) rfl (en_all _) ?_)
        intro w5 h5 hb5
        have k0 : w5.cell? ⟨wr.heap.size, 0, none⟩ = some (.int .i64 el.op) := (cell_of_row _ _ _ _ _ _ h5).trans rfl
        have k1 : w5.cell? ⟨wr.heap.size, 1, none⟩ = some (.int .i64 el.ns) := (cell_of_row _ _ _ _ _ _ h5).trans rfl
        have hB5 := hide (hB1.out.later hb5)
        clear hB1 hrg h5 hb5
        clear hT
        go_wp2
        go_roundw
        case rel => exact ⟨j + 1, by omega, by go_num, rfl, hB5⟩
        case measure => simp [intOf]; omega
      · obtain rfl : n = j := by omega
        have hrr := hide (hcell.out wr hB1.out).1
        have hC := hide (hCl.out (by omega) wr (hb.out.later hB1.out))
        clear hCl
        go_wp2_with ((with_reducible change wpList _ _ _ _ _ _); refine wpList_load_row rfl 47 (.tmp 1) rfl w.heap.size rfl 47 _ _ _ hrr.out Try.underlying47 rfl hz ?_)
        refine hC.out.mono ?_
        rintro _ w5 ⟨v', rfl, hS5, hb5, hF5⟩
        obtain ⟨va, vc, rfl⟩ := hS5.shape
        have hB5 := hide (hB1.out.later hb5)
        rw [hnl.out] at hS5
        replace hF5 : Hid (∀ k, (Value.slice va es.length vc).ownBlock = some k → wr.heap.size ≤ k) := hF5
        replace hS5 := hide hS5
        rw [hnl.out] at hF5
        clear hC hrr hb5
        have h1r : Hid (w1.heap.size ≤ wr.heap.size) := hB1.out.size
        clear hB1
        rw [hnl.out]
        go_wp2_with ((with_reducible change wpList _ _ _ _ _ _); refine stop_storeB 47 (.tmp 6) (.tmp 84) rfl ?_)
        refine hide (wpList_store_fresh rfl 47 (.tmp 6) (.tmp 84) rfl #[.int .i64 ba, .int .i64 cy, .int .i64 ex, .slice va n vc] #[.int .i64 0, .int .i64 0, .int .i64 0, .slice none 0 0] rfl rfl 47 (hz2.out _ _ _) rfl (l_all ⟨ba, cy, ex, es⟩ va n vc) ?_)
        intro w6 h6 hb6
        have hB6 := hide (hB5.out.later hb6)
        have hS6 : Hid (∃ es', es'.length = n ∧ Sl w6 (.slice va n vc) 52 2 fEn es') := ⟨es, hnl.out, by have := hS5.out.below hb6; exact this⟩
        have hlt5 : Hid (∀ k, (Value.slice va n vc).ownBlock = some k → k < w5.heap.size) := fun k hk => hS5.out.lt hk
        have h15 : Hid (w1.heap.size ≤ w5.heap.size) := hB5.out.size
        replace h6 := hide h6
        clear hb6 hS5 hB5
        generalize w5.heap.size = C at *
        clear w5
        have d3 : w6.cell? ⟨C, 3, none⟩ = some (.slice va n vc) := (cell_of_row _ _ _ _ _ _ h6.out).trans rfl
        go_wp2_with fail
        clear d3
        go_loopw [88] (fun i wr => ∃ j : Nat, j ≤ n ∧ i = .int .i64 j ∧ Hid (Below w1.heap.size w1 wr) ∧ Hid (∃ es', es'.length = n ∧ Sl wr (.slice va n vc) 52 2 fEn es') ∧ Hid (wr.heap[C]? = some (.cells #[.int .i64 ba, .int .i64 cy, .int .i64 ex, .slice va n vc] 47 (0, 0)))) (fun i _ => n - (intOf i).toNat)
        case atStart => exact ⟨0, Nat.zero_le _, rfl, hB6, hS6, h6⟩
        case round =>
          obtain ⟨j, hj, rfl, hBr, hSr, hCr⟩ := hrel
          clear hB6 hS6 h6
          have d3 : wr.cell? ⟨C, 3, none⟩ = some (.slice va n vc) := (cell_of_row _ _ _ _ _ _ hCr.out).trans rfl
          by_cases hlt : j < n
          · obtain ⟨es', hl', hS'⟩ := hSr.out
            obtain ⟨vb, vcp, hv, z0, ⟨u0, k0⟩, hvb, hput⟩ := hS'.put (j := j) (by omega)
            rw [hl'] at hv
            simp only [Value.slice.injEq] at hv
            obtain ⟨rfl, -, rfl⟩ := hv
            have hbC : vb < C := hlt5.out vb rfl
            have hb1 : w1.heap.size ≤ vb := by have := hF5.out vb rfl; have := h1r.out; omega
            have hBn : Hid (Below w1.heap.size w1 (wr.setCell ⟨vb, j * 2, none⟩ (.int .i64 (-7)))) := hBr.out.setCell (p := ⟨vb, j * 2, none⟩) hb1 _
            have hSn : Hid (∃ es', es'.length = n ∧ Sl (wr.setCell ⟨vb, j * 2, none⟩ (.int .i64 (-7))) (.slice (some ⟨vb, 0, none⟩) n vc) 52 2 fEn es') := by
              obtain ⟨e2, l2, s2⟩ := hput (-7)
              exact ⟨e2, l2.trans hl', s2⟩
            have hCn : Hid ((wr.setCell ⟨vb, j * 2, none⟩ (.int .i64 (-7))).heap[C]? = some (.cells #[.int .i64 ba, .int .i64 cy, .int .i64 ex, .slice (some ⟨vb, 0, none⟩) n vc] 47 (0, 0))) := (heap_setCell_other wr ⟨vb, j * 2, none⟩ C _ (by show C ≠ vb; omega)).trans hCr.out
            clear hput hS' hSr hCr hBr hvb hl' hbC hb1
            go_wp2
            go_roundw
            case rel => exact ⟨j + 1, by omega, by go_num, hBn, hSn, hCn⟩
            case measure => simp [intOf]; omega
          · obtain rfl : j = n := by omega
            have e0 : wr.cell? ⟨C, 0, none⟩ = some (.int .i64 ba) := (cell_of_row _ _ _ _ _ _ hCr.out).trans rfl
            have hrr := hide (hcell.out wr hBr.out).1
            have hL := hide (hLC.out wr (hb.out.later hBr.out))
            rw [hgood.out] at hL
            simp only [Bool.false_eq_true, if_false] at hL
            clear d3 e0
            go_wp2_with ((with_reducible change wpList _ _ _ _ _ _); refine wpList_load_row rfl 47 (.tmp 1) rfl w.heap.size rfl 47 _ _ _ hrr.out Try.underlying47 rfl hz ?_)
            refine hL.out.mono ?_
            rintro _ w7 ⟨rfl, hb7⟩
            have hB7 := hide (hBr.out.later hb7)
            have hC7 := hide (heap_kept hb7 hCr.out)
            clear hL hb7 hBr hSr hCr hrr
            have hrr := hide (hcell.out w7 hB7.out).1
            have hL := hide (hLC.out w7 (hb.out.later hB7.out))
            rw [hgood.out] at hL
            simp only [Bool.false_eq_true, if_false] at hL
            go_wp2_with ((with_reducible change wpList _ _ _ _ _ _); refine wpList_load_row_on rfl 47 (.tmp 1) rfl w.heap.size rfl 47 _ _ _ hrr.out Try.underlying47 rfl hz ?_)
            refine hL.out.mono ?_
            rintro _ w8 ⟨rfl, hb8⟩
            have hB8 := hide (hB7.out.later hb8)
            have hC8 := hide (heap_kept hb8 hC7.out)
            clear hL hb8 hC7 hrr hB7
            obtain ⟨-, c0, c1, c2, c3⟩ := hcell.out w8 hB8.out
            have e0 : w8.cell? ⟨C, 0, none⟩ = some (.int .i64 ba) := (cell_of_row _ _ _ _ _ _ hC8.out).trans rfl
            have e3 : w8.cell? ⟨C, 3, none⟩ = some (.slice va j vc) := (cell_of_row _ _ _ _ _ _ hC8.out).trans rfl
            have eq1 : ((j : Int) == (j : Int)) = true := by simp
            have eq2 : (ba == ba) = true := by simp
            have hBf := hide (hb.out.later hB8.out)
            clear hcell hLC hC8 hB8
            go_wp2
            go_ret
            exact ⟨rfl, hBf.out⟩
  have hcd3 : decide (ba < 4611686018427387904) = true := decide_eq_true h3
  by_cases h4 : 1 ≤ cy
  rotate_left
  · have hgood : Hid (my = false) := by show _ = _; rw [Bool.eq_false_iff]; intro hx; have := hk.out.1 hx; omega
    have hcd : decide (1 ≤ cy) = false := decide_eq_false h4
    clear h0 h1 h2 h3 h4
    go_wp2_with fail
    clear c0 c1 c2 c3 hcd hcd0 hcd1 hcd2 hcd3
    go_loopw [3, 57] (fun x i wr => ∃ j : Nat, j ≤ n ∧ i = .int .i64 j ∧ x = .bool false ∧ Hid (Below w1.heap.size w1 wr)) (fun _ i _ => n - (intOf i).toNat)
    case atStart => exact ⟨0, Nat.zero_le _, rfl, rfl, h12⟩
    case round =>
      obtain ⟨j, hj, rfl, rfl, hB1⟩ := hrel
      clear h12
      by_cases hlt : j < n
      · obtain ⟨eb, off, rfl, hrg⟩ := (hEn.out wr (hb.out.later hB1.out)).at_i j (by rw [hnl.out]; exact hlt)
        replace hrg := hide hrg
        have hT := hide (htb.out j hlt)
        generalize es.getD j En.zero = el at *
        go_wp2_with (first | ((with_reducible change wpList _ _ _ _ _ _); refine wpList_load_mid rfl 52 (.tmp 59) rfl eb (off + j * 2) rfl (fEn el) _ hrg.out Try.underlying52 rfl (enLen _) ?_) | ((with_reducible change wpList _ _ _ _ _ _); refine stop_storeB 52 (.tmp 5) (.tmp 60) rfl ?_))
        refine hide (wpList_store_fresh rfl 52 (.tmp 5) (.tmp 60) rfl (fEn el).toArray (fEn En.zero).toArray rfl rfl 52 (enSize _) rfl (en_all _) ?_)
        intro w5 h5 hb5
        have k0 : w5.cell? ⟨wr.heap.size, 0, none⟩ = some (.int .i64 el.op) := (cell_of_row _ _ _ _ _ _ h5).trans rfl
        have k1 : w5.cell? ⟨wr.heap.size, 1, none⟩ = some (.int .i64 el.ns) := (cell_of_row _ _ _ _ _ _ h5).trans rfl
        have hB5 := hide (hB1.out.later hb5)
        clear hB1 hrg h5 hb5
        clear hT
        go_wp2
        go_roundw
        case rel => exact ⟨j + 1, by omega, by go_num, rfl, hB5⟩
        case measure => simp [intOf]; omega
      · obtain rfl : n = j := by omega
        have hrr := hide (hcell.out wr hB1.out).1
        have hC := hide (hCl.out (by omega) wr (hb.out.later hB1.out))
        clear hCl
        go_wp2_with ((with_reducible change wpList _ _ _ _ _ _); refine wpList_load_row rfl 47 (.tmp 1) rfl w.heap.size rfl 47 _ _ _ hrr.out Try.underlying47 rfl hz ?_)
        refine hC.out.mono ?_
        rintro _ w5 ⟨v', rfl, hS5, hb5, hF5⟩
        obtain ⟨va, vc, rfl⟩ := hS5.shape
        have hB5 := hide (hB1.out.later hb5)
        rw [hnl.out] at hS5
        replace hF5 : Hid (∀ k, (Value.slice va es.length vc).ownBlock = some k → wr.heap.size ≤ k) := hF5
        replace hS5 := hide hS5
        rw [hnl.out] at hF5
        clear hC hrr hb5
        have h1r : Hid (w1.heap.size ≤ wr.heap.size) := hB1.out.size
        clear hB1
        rw [hnl.out]
        go_wp2_with ((with_reducible change wpList _ _ _ _ _ _); refine stop_storeB 47 (.tmp 6) (.tmp 84) rfl ?_)
        refine hide (wpList_store_fresh rfl 47 (.tmp 6) (.tmp 84) rfl #[.int .i64 ba, .int .i64 cy, .int .i64 ex, .slice va n vc] #[.int .i64 0, .int .i64 0, .int .i64 0, .slice none 0 0] rfl rfl 47 (hz2.out _ _ _) rfl (l_all ⟨ba, cy, ex, es⟩ va n vc) ?_)
        intro w6 h6 hb6
        have hB6 := hide (hB5.out.later hb6)
        have hS6 : Hid (∃ es', es'.length = n ∧ Sl w6 (.slice va n vc) 52 2 fEn es') := ⟨es, hnl.out, by have := hS5.out.below hb6; exact this⟩
        have hlt5 : Hid (∀ k, (Value.slice va n vc).ownBlock = some k → k < w5.heap.size) := fun k hk => hS5.out.lt hk
        have h15 : Hid (w1.heap.size ≤ w5.heap.size) := hB5.out.size
        replace h6 := hide h6
        clear hb6 hS5 hB5
        generalize w5.heap.size = C at *
        clear w5
        have d3 : w6.cell? ⟨C, 3, none⟩ = some (.slice va n vc) := (cell_of_row _ _ _ _ _ _ h6.out).trans rfl
        go_wp2_with fail
        clear d3
        go_loopw [88] (fun i wr => ∃ j : Nat, j ≤ n ∧ i = .int .i64 j ∧ Hid (Below w1.heap.size w1 wr) ∧ Hid (∃ es', es'.length = n ∧ Sl wr (.slice va n vc) 52 2 fEn es') ∧ Hid (wr.heap[C]? = some (.cells #[.int .i64 ba, .int .i64 cy, .int .i64 ex, .slice va n vc] 47 (0, 0)))) (fun i _ => n - (intOf i).toNat)
        case atStart => exact ⟨0, Nat.zero_le _, rfl, hB6, hS6, h6⟩
        case round =>
          obtain ⟨j, hj, rfl, hBr, hSr, hCr⟩ := hrel
          clear hB6 hS6 h6
          have d3 : wr.cell? ⟨C, 3, none⟩ = some (.slice va n vc) := (cell_of_row _ _ _ _ _ _ hCr.out).trans rfl
          by_cases hlt : j < n
          · obtain ⟨es', hl', hS'⟩ := hSr.out
            obtain ⟨vb, vcp, hv, z0, ⟨u0, k0⟩, hvb, hput⟩ := hS'.put (j := j) (by omega)
            rw [hl'] at hv
            simp only [Value.slice.injEq] at hv
            obtain ⟨rfl, -, rfl⟩ := hv
            have hbC : vb < C := hlt5.out vb rfl
            have hb1 : w1.heap.size ≤ vb := by have := hF5.out vb rfl; have := h1r.out; omega
            have hBn : Hid (Below w1.heap.size w1 (wr.setCell ⟨vb, j * 2, none⟩ (.int .i64 (-7)))) := hBr.out.setCell (p := ⟨vb, j * 2, none⟩) hb1 _
            have hSn : Hid (∃ es', es'.length = n ∧ Sl (wr.setCell ⟨vb, j * 2, none⟩ (.int .i64 (-7))) (.slice (some ⟨vb, 0, none⟩) n vc) 52 2 fEn es') := by
              obtain ⟨e2, l2, s2⟩ := hput (-7)
              exact ⟨e2, l2.trans hl', s2⟩
            have hCn : Hid ((wr.setCell ⟨vb, j * 2, none⟩ (.int .i64 (-7))).heap[C]? = some (.cells #[.int .i64 ba, .int .i64 cy, .int .i64 ex, .slice (some ⟨vb, 0, none⟩) n vc] 47 (0, 0))) := (heap_setCell_other wr ⟨vb, j * 2, none⟩ C _ (by show C ≠ vb; omega)).trans hCr.out
            clear hput hS' hSr hCr hBr hvb hl' hbC hb1
            go_wp2
            go_roundw
            case rel => exact ⟨j + 1, by omega, by go_num, hBn, hSn, hCn⟩
            case measure => simp [intOf]; omega
          · obtain rfl : j = n := by omega
            have e0 : wr.cell? ⟨C, 0, none⟩ = some (.int .i64 ba) := (cell_of_row _ _ _ _ _ _ hCr.out).trans rfl
            have hrr := hide (hcell.out wr hBr.out).1
            have hL := hide (hLC.out wr (hb.out.later hBr.out))
            rw [hgood.out] at hL
            simp only [Bool.false_eq_true, if_false] at hL
            clear d3 e0
            go_wp2_with ((with_reducible change wpList _ _ _ _ _ _); refine wpList_load_row rfl 47 (.tmp 1) rfl w.heap.size rfl 47 _ _ _ hrr.out Try.underlying47 rfl hz ?_)
            refine hL.out.mono ?_
            rintro _ w7 ⟨rfl, hb7⟩
            have hB7 := hide (hBr.out.later hb7)
            have hC7 := hide (heap_kept hb7 hCr.out)
            clear hL hb7 hBr hSr hCr hrr
            have hrr := hide (hcell.out w7 hB7.out).1
            have hL := hide (hLC.out w7 (hb.out.later hB7.out))
            rw [hgood.out] at hL
            simp only [Bool.false_eq_true, if_false] at hL
            go_wp2_with ((with_reducible change wpList _ _ _ _ _ _); refine wpList_load_row_on rfl 47 (.tmp 1) rfl w.heap.size rfl 47 _ _ _ hrr.out Try.underlying47 rfl hz ?_)
            refine hL.out.mono ?_
            rintro _ w8 ⟨rfl, hb8⟩
            have hB8 := hide (hB7.out.later hb8)
            have hC8 := hide (heap_kept hb8 hC7.out)
            clear hL hb8 hC7 hrr hB7
            obtain ⟨-, c0, c1, c2, c3⟩ := hcell.out w8 hB8.out
            have e0 : w8.cell? ⟨C, 0, none⟩ = some (.int .i64 ba) := (cell_of_row _ _ _ _ _ _ hC8.out).trans rfl
            have e3 : w8.cell? ⟨C, 3, none⟩ = some (.slice va j vc) := (cell_of_row _ _ _ _ _ _ hC8.out).trans rfl
            have eq1 : ((j : Int) == (j : Int)) = true := by simp
            have eq2 : (ba == ba) = true := by simp
            have hBf := hide (hb.out.later hB8.out)
            clear hcell hLC hC8 hB8
            go_wp2
            go_ret
            exact ⟨rfl, hBf.out⟩
  have hcd4 : decide (1 ≤ cy) = true := decide_eq_true h4
  by_cases h5 : cy ≤ 1000000000
  rotate_left
  · have hgood : Hid (my = false) := by show _ = _; rw [Bool.eq_false_iff]; intro hx; have := hk.out.1 hx; omega
    have hcd : decide (cy ≤ 1000000000) = false := decide_eq_false h5
    clear h0 h1 h2 h3 h4 h5
    go_wp2_with fail
    clear c0 c1 c2 c3 hcd hcd0 hcd1 hcd2 hcd3 hcd4
    go_loopw [3, 57] (fun x i wr => ∃ j : Nat, j ≤ n ∧ i = .int .i64 j ∧ x = .bool false ∧ Hid (Below w1.heap.size w1 wr)) (fun _ i _ => n - (intOf i).toNat)
    case atStart => exact ⟨0, Nat.zero_le _, rfl, rfl, h12⟩
    case round =>
      obtain ⟨j, hj, rfl, rfl, hB1⟩ := hrel
      clear h12
      by_cases hlt : j < n
      · obtain ⟨eb, off, rfl, hrg⟩ := (hEn.out wr (hb.out.later hB1.out)).at_i j (by rw [hnl.out]; exact hlt)
        replace hrg := hide hrg
        have hT := hide (htb.out j hlt)
        generalize es.getD j En.zero = el at *
        go_wp2_with (first | ((with_reducible change wpList _ _ _ _ _ _); refine wpList_load_mid rfl 52 (.tmp 59) rfl eb (off + j * 2) rfl (fEn el) _ hrg.out Try.underlying52 rfl (enLen _) ?_) | ((with_reducible change wpList _ _ _ _ _ _); refine stop_storeB 52 (.tmp 5) (.tmp 60) rfl ?_))
        refine hide (wpList_store_fresh rfl 52 (.tmp 5) (.tmp 60) rfl (fEn el).toArray (fEn En.zero).toArray rfl rfl 52 (enSize _) rfl (en_all _) ?_)
        intro w5 h5 hb5
        have k0 : w5.cell? ⟨wr.heap.size, 0, none⟩ = some (.int .i64 el.op) := (cell_of_row _ _ _ _ _ _ h5).trans rfl
        have k1 : w5.cell? ⟨wr.heap.size, 1, none⟩ = some (.int .i64 el.ns) := (cell_of_row _ _ _ _ _ _ h5).trans rfl
        have hB5 := hide (hB1.out.later hb5)
        clear hB1 hrg h5 hb5
        clear hT
        go_wp2
        go_roundw
        case rel => exact ⟨j + 1, by omega, by go_num, rfl, hB5⟩
        case measure => simp [intOf]; omega
      · obtain rfl : n = j := by omega
        have hrr := hide (hcell.out wr hB1.out).1
        have hC := hide (hCl.out (by omega) wr (hb.out.later hB1.out))
        clear hCl
        go_wp2_with ((with_reducible change wpList _ _ _ _ _ _); refine wpList_load_row rfl 47 (.tmp 1) rfl w.heap.size rfl 47 _ _ _ hrr.out Try.underlying47 rfl hz ?_)
        refine hC.out.mono ?_
        rintro _ w5 ⟨v', rfl, hS5, hb5, hF5⟩
        obtain ⟨va, vc, rfl⟩ := hS5.shape
        have hB5 := hide (hB1.out.later hb5)
        rw [hnl.out] at hS5
        replace hF5 : Hid (∀ k, (Value.slice va es.length vc).ownBlock = some k → wr.heap.size ≤ k) := hF5
        replace hS5 := hide hS5
        rw [hnl.out] at hF5
        clear hC hrr hb5
        have h1r : Hid (w1.heap.size ≤ wr.heap.size) := hB1.out.size
        clear hB1
        rw [hnl.out]
        go_wp2_with ((with_reducible change wpList _ _ _ _ _ _); refine stop_storeB 47 (.tmp 6) (.tmp 84) rfl ?_)
        refine hide (wpList_store_fresh rfl 47 (.tmp 6) (.tmp 84) rfl #[.int .i64 ba, .int .i64 cy, .int .i64 ex, .slice va n vc] #[.int .i64 0, .int .i64 0, .int .i64 0, .slice none 0 0] rfl rfl 47 (hz2.out _ _ _) rfl (l_all ⟨ba, cy, ex, es⟩ va n vc) ?_)
        intro w6 h6 hb6
        have hB6 := hide (hB5.out.later hb6)
        have hS6 : Hid (∃ es', es'.length = n ∧ Sl w6 (.slice va n vc) 52 2 fEn es') := ⟨es, hnl.out, by have := hS5.out.below hb6; exact this⟩
        have hlt5 : Hid (∀ k, (Value.slice va n vc).ownBlock = some k → k < w5.heap.size) := fun k hk => hS5.out.lt hk
        have h15 : Hid (w1.heap.size ≤ w5.heap.size) := hB5.out.size
        replace h6 := hide h6
        clear hb6 hS5 hB5
        generalize w5.heap.size = C at *
        clear w5
        have d3 : w6.cell? ⟨C, 3, none⟩ = some (.slice va n vc) := (cell_of_row _ _ _ _ _ _ h6.out).trans rfl
        go_wp2_with fail
        clear d3
        go_loopw [88] (fun i wr => ∃ j : Nat, j ≤ n ∧ i = .int .i64 j ∧ Hid (Below w1.heap.size w1 wr) ∧ Hid (∃ es', es'.length = n ∧ Sl wr (.slice va n vc) 52 2 fEn es') ∧ Hid (wr.heap[C]? = some (.cells #[.int .i64 ba, .int .i64 cy, .int .i64 ex, .slice va n vc] 47 (0, 0)))) (fun i _ => n - (intOf i).toNat)
        case atStart => exact ⟨0, Nat.zero_le _, rfl, hB6, hS6, h6⟩
        case round =>
          obtain ⟨j, hj, rfl, hBr, hSr, hCr⟩ := hrel
          clear hB6 hS6 h6
          have d3 : wr.cell? ⟨C, 3, none⟩ = some (.slice va n vc) := (cell_of_row _ _ _ _ _ _ hCr.out).trans rfl
          by_cases hlt : j < n
          · obtain ⟨es', hl', hS'⟩ := hSr.out
            obtain ⟨vb, vcp, hv, z0, ⟨u0, k0⟩, hvb, hput⟩ := hS'.put (j := j) (by omega)
            rw [hl'] at hv
            simp only [Value.slice.injEq] at hv
            obtain ⟨rfl, -, rfl⟩ := hv
            have hbC : vb < C := hlt5.out vb rfl
            have hb1 : w1.heap.size ≤ vb := by have := hF5.out vb rfl; have := h1r.out; omega
            have hBn : Hid (Below w1.heap.size w1 (wr.setCell ⟨vb, j * 2, none⟩ (.int .i64 (-7)))) := hBr.out.setCell (p := ⟨vb, j * 2, none⟩) hb1 _
            have hSn : Hid (∃ es', es'.length = n ∧ Sl (wr.setCell ⟨vb, j * 2, none⟩ (.int .i64 (-7))) (.slice (some ⟨vb, 0, none⟩) n vc) 52 2 fEn es') := by
              obtain ⟨e2, l2, s2⟩ := hput (-7)
              exact ⟨e2, l2.trans hl', s2⟩
            have hCn : Hid ((wr.setCell ⟨vb, j * 2, none⟩ (.int .i64 (-7))).heap[C]? = some (.cells #[.int .i64 ba, .int .i64 cy, .int .i64 ex, .slice (some ⟨vb, 0, none⟩) n vc] 47 (0, 0))) := (heap_setCell_other wr ⟨vb, j * 2, none⟩ C _ (by show C ≠ vb; omega)).trans hCr.out
            clear hput hS' hSr hCr hBr hvb hl' hbC hb1
            go_wp2
            go_roundw
            case rel => exact ⟨j + 1, by omega, by go_num, hBn, hSn, hCn⟩
            case measure => simp [intOf]; omega
          · obtain rfl : j = n := by omega
            have e0 : wr.cell? ⟨C, 0, none⟩ = some (.int .i64 ba) := (cell_of_row _ _ _ _ _ _ hCr.out).trans rfl
            have hrr := hide (hcell.out wr hBr.out).1
            have hL := hide (hLC.out wr (hb.out.later hBr.out))
            rw [hgood.out] at hL
            simp only [Bool.false_eq_true, if_false] at hL
            clear d3 e0
            go_wp2_with ((with_reducible change wpList _ _ _ _ _ _); refine wpList_load_row rfl 47 (.tmp 1) rfl w.heap.size rfl 47 _ _ _ hrr.out Try.underlying47 rfl hz ?_)
            refine hL.out.mono ?_
            rintro _ w7 ⟨rfl, hb7⟩
            have hB7 := hide (hBr.out.later hb7)
            have hC7 := hide (heap_kept hb7 hCr.out)
            clear hL hb7 hBr hSr hCr hrr
            have hrr := hide (hcell.out w7 hB7.out).1
            have hL := hide (hLC.out w7 (hb.out.later hB7.out))
            rw [hgood.out] at hL
            simp only [Bool.false_eq_true, if_false] at hL
            go_wp2_with ((with_reducible change wpList _ _ _ _ _ _); refine wpList_load_row_on rfl 47 (.tmp 1) rfl w.heap.size rfl 47 _ _ _ hrr.out Try.underlying47 rfl hz ?_)
            refine hL.out.mono ?_
            rintro _ w8 ⟨rfl, hb8⟩
            have hB8 := hide (hB7.out.later hb8)
            have hC8 := hide (heap_kept hb8 hC7.out)
            clear hL hb8 hC7 hrr hB7
            obtain ⟨-, c0, c1, c2, c3⟩ := hcell.out w8 hB8.out
            have e0 : w8.cell? ⟨C, 0, none⟩ = some (.int .i64 ba) := (cell_of_row _ _ _ _ _ _ hC8.out).trans rfl
            have e3 : w8.cell? ⟨C, 3, none⟩ = some (.slice va j vc) := (cell_of_row _ _ _ _ _ _ hC8.out).trans rfl
            have eq1 : ((j : Int) == (j : Int)) = true := by simp
            have eq2 : (ba == ba) = true := by simp
            have hBf := hide (hb.out.later hB8.out)
            clear hcell hLC hC8 hB8
            go_wp2
            go_ret
            exact ⟨rfl, hBf.out⟩
  have hcd5 : decide (cy ≤ 1000000000) = true := decide_eq_true h5
  by_cases h6 : 0 ≤ ex
  rotate_left
  · have hgood : Hid (my = false) := by show _ = _; rw [Bool.eq_false_iff]; intro hx; have := hk.out.1 hx; omega
    have hcd : decide (0 ≤ ex) = false := decide_eq_false h6
    clear h0 h1 h2 h3 h4 h5 h6
    go_wp2_with fail
    clear c0 c1 c2 c3 hcd hcd0 hcd1 hcd2 hcd3 hcd4 hcd5
    go_loopw [3, 57] (fun x i wr => ∃ j : Nat, j ≤ n ∧ i = .int .i64 j ∧ x = .bool false ∧ Hid (Below w1.heap.size w1 wr)) (fun _ i _ => n - (intOf i).toNat)
    case atStart => exact ⟨0, Nat.zero_le _, rfl, rfl, h12⟩
    case round =>
      obtain ⟨j, hj, rfl, rfl, hB1⟩ := hrel
      clear h12
      by_cases hlt : j < n
      · obtain ⟨eb, off, rfl, hrg⟩ := (hEn.out wr (hb.out.later hB1.out)).at_i j (by rw [hnl.out]; exact hlt)
        replace hrg := hide hrg
        have hT := hide (htb.out j hlt)
        generalize es.getD j En.zero = el at *
        go_wp2_with (first | ((with_reducible change wpList _ _ _ _ _ _); refine wpList_load_mid rfl 52 (.tmp 59) rfl eb (off + j * 2) rfl (fEn el) _ hrg.out Try.underlying52 rfl (enLen _) ?_) | ((with_reducible change wpList _ _ _ _ _ _); refine stop_storeB 52 (.tmp 5) (.tmp 60) rfl ?_))
        refine hide (wpList_store_fresh rfl 52 (.tmp 5) (.tmp 60) rfl (fEn el).toArray (fEn En.zero).toArray rfl rfl 52 (enSize _) rfl (en_all _) ?_)
        intro w5 h5 hb5
        have k0 : w5.cell? ⟨wr.heap.size, 0, none⟩ = some (.int .i64 el.op) := (cell_of_row _ _ _ _ _ _ h5).trans rfl
        have k1 : w5.cell? ⟨wr.heap.size, 1, none⟩ = some (.int .i64 el.ns) := (cell_of_row _ _ _ _ _ _ h5).trans rfl
        have hB5 := hide (hB1.out.later hb5)
        clear hB1 hrg h5 hb5
        clear hT
        go_wp2
        go_roundw
        case rel => exact ⟨j + 1, by omega, by go_num, rfl, hB5⟩
        case measure => simp [intOf]; omega
      · obtain rfl : n = j := by omega
        have hrr := hide (hcell.out wr hB1.out).1
        have hC := hide (hCl.out (by omega) wr (hb.out.later hB1.out))
        clear hCl
        go_wp2_with ((with_reducible change wpList _ _ _ _ _ _); refine wpList_load_row rfl 47 (.tmp 1) rfl w.heap.size rfl 47 _ _ _ hrr.out Try.underlying47 rfl hz ?_)
        refine hC.out.mono ?_
        rintro _ w5 ⟨v', rfl, hS5, hb5, hF5⟩
        obtain ⟨va, vc, rfl⟩ := hS5.shape
        have hB5 := hide (hB1.out.later hb5)
        rw [hnl.out] at hS5
        replace hF5 : Hid (∀ k, (Value.slice va es.length vc).ownBlock = some k → wr.heap.size ≤ k) := hF5
        replace hS5 := hide hS5
        rw [hnl.out] at hF5
        clear hC hrr hb5
        have h1r : Hid (w1.heap.size ≤ wr.heap.size) := hB1.out.size
        clear hB1
        rw [hnl.out]
        go_wp2_with ((with_reducible change wpList _ _ _ _ _ _); refine stop_storeB 47 (.tmp 6) (.tmp 84) rfl ?_)
        refine hide (wpList_store_fresh rfl 47 (.tmp 6) (.tmp 84) rfl #[.int .i64 ba, .int .i64 cy, .int .i64 ex, .slice va n vc] #[.int .i64 0, .int .i64 0, .int .i64 0, .slice none 0 0] rfl rfl 47 (hz2.out _ _ _) rfl (l_all ⟨ba, cy, ex, es⟩ va n vc) ?_)
        intro w6 h6 hb6
        have hB6 := hide (hB5.out.later hb6)
        have hS6 : Hid (∃ es', es'.length = n ∧ Sl w6 (.slice va n vc) 52 2 fEn es') := ⟨es, hnl.out, by have := hS5.out.below hb6; exact this⟩
        have hlt5 : Hid (∀ k, (Value.slice va n vc).ownBlock = some k → k < w5.heap.size) := fun k hk => hS5.out.lt hk
        have h15 : Hid (w1.heap.size ≤ w5.heap.size) := hB5.out.size
        replace h6 := hide h6
        clear hb6 hS5 hB5
        generalize w5.heap.size = C at *
        clear w5
        have d3 : w6.cell? ⟨C, 3, none⟩ = some (.slice va n vc) := (cell_of_row _ _ _ _ _ _ h6.out).trans rfl
        go_wp2_with fail
        clear d3
        go_loopw [88] (fun i wr => ∃ j : Nat, j ≤ n ∧ i = .int .i64 j ∧ Hid (Below w1.heap.size w1 wr) ∧ Hid (∃ es', es'.length = n ∧ Sl wr (.slice va n vc) 52 2 fEn es') ∧ Hid (wr.heap[C]? = some (.cells #[.int .i64 ba, .int .i64 cy, .int .i64 ex, .slice va n vc] 47 (0, 0)))) (fun i _ => n - (intOf i).toNat)
        case atStart => exact ⟨0, Nat.zero_le _, rfl, hB6, hS6, h6⟩
        case round =>
          obtain ⟨j, hj, rfl, hBr, hSr, hCr⟩ := hrel
          clear hB6 hS6 h6
          have d3 : wr.cell? ⟨C, 3, none⟩ = some (.slice va n vc) := (cell_of_row _ _ _ _ _ _ hCr.out).trans rfl
          by_cases hlt : j < n
          · obtain ⟨es', hl', hS'⟩ := hSr.out
            obtain ⟨vb, vcp, hv, z0, ⟨u0, k0⟩, hvb, hput⟩ := hS'.put (j := j) (by omega)
            rw [hl'] at hv
            simp only [Value.slice.injEq] at hv
            obtain ⟨rfl, -, rfl⟩ := hv
            have hbC : vb < C := hlt5.out vb rfl
            have hb1 : w1.heap.size ≤ vb := by have := hF5.out vb rfl; have := h1r.out; omega
            have hBn : Hid (Below w1.heap.size w1 (wr.setCell ⟨vb, j * 2, none⟩ (.int .i64 (-7)))) := hBr.out.setCell (p := ⟨vb, j * 2, none⟩) hb1 _
            have hSn : Hid (∃ es', es'.length = n ∧ Sl (wr.setCell ⟨vb, j * 2, none⟩ (.int .i64 (-7))) (.slice (some ⟨vb, 0, none⟩) n vc) 52 2 fEn es') := by
              obtain ⟨e2, l2, s2⟩ := hput (-7)
              exact ⟨e2, l2.trans hl', s2⟩
            have hCn : Hid ((wr.setCell ⟨vb, j * 2, none⟩ (.int .i64 (-7))).heap[C]? = some (.cells #[.int .i64 ba, .int .i64 cy, .int .i64 ex, .slice (some ⟨vb, 0, none⟩) n vc] 47 (0, 0))) := (heap_setCell_other wr ⟨vb, j * 2, none⟩ C _ (by show C ≠ vb; omega)).trans hCr.out
            clear hput hS' hSr hCr hBr hvb hl' hbC hb1
            go_wp2
            go_roundw
            case rel => exact ⟨j + 1, by omega, by go_num, hBn, hSn, hCn⟩
            case measure => simp [intOf]; omega
          · obtain rfl : j = n := by omega
            have e0 : wr.cell? ⟨C, 0, none⟩ = some (.int .i64 ba) := (cell_of_row _ _ _ _ _ _ hCr.out).trans rfl
            have hrr := hide (hcell.out wr hBr.out).1
            have hL := hide (hLC.out wr (hb.out.later hBr.out))
            rw [hgood.out] at hL
            simp only [Bool.false_eq_true, if_false] at hL
            clear d3 e0
            go_wp2_with ((with_reducible change wpList _ _ _ _ _ _); refine wpList_load_row rfl 47 (.tmp 1) rfl w.heap.size rfl 47 _ _ _ hrr.out Try.underlying47 rfl hz ?_)
            refine hL.out.mono ?_
            rintro _ w7 ⟨rfl, hb7⟩
            have hB7 := hide (hBr.out.later hb7)
            have hC7 := hide (heap_kept hb7 hCr.out)
            clear hL hb7 hBr hSr hCr hrr
            have hrr := hide (hcell.out w7 hB7.out).1
            have hL := hide (hLC.out w7 (hb.out.later hB7.out))
            rw [hgood.out] at hL
            simp only [Bool.false_eq_true, if_false] at hL
            go_wp2_with ((with_reducible change wpList _ _ _ _ _ _); refine wpList_load_row_on rfl 47 (.tmp 1) rfl w.heap.size rfl 47 _ _ _ hrr.out Try.underlying47 rfl hz ?_)
            refine hL.out.mono ?_
            rintro _ w8 ⟨rfl, hb8⟩
            have hB8 := hide (hB7.out.later hb8)
            have hC8 := hide (heap_kept hb8 hC7.out)
            clear hL hb8 hC7 hrr hB7
            obtain ⟨-, c0, c1, c2, c3⟩ := hcell.out w8 hB8.out
            have e0 : w8.cell? ⟨C, 0, none⟩ = some (.int .i64 ba) := (cell_of_row _ _ _ _ _ _ hC8.out).trans rfl
            have e3 : w8.cell? ⟨C, 3, none⟩ = some (.slice va j vc) := (cell_of_row _ _ _ _ _ _ hC8.out).trans rfl
            have eq1 : ((j : Int) == (j : Int)) = true := by simp
            have eq2 : (ba == ba) = true := by simp
            have hBf := hide (hb.out.later hB8.out)
            clear hcell hLC hC8 hB8
            go_wp2
            go_ret
            exact ⟨rfl, hBf.out⟩
  have hcd6 : decide (0 ≤ ex) = true := decide_eq_true h6
  by_cases h7 : ex ≤ 1000000000
  rotate_left
  · have hgood : Hid (my = false) := by show _ = _; rw [Bool.eq_false_iff]; intro hx; have := hk.out.1 hx; omega
    have hcd : decide (ex ≤ 1000000000) = false := decide_eq_false h7
    clear h0 h1 h2 h3 h4 h5 h6 h7
    go_wp2_with fail
    clear c0 c1 c2 c3 hcd hcd0 hcd1 hcd2 hcd3 hcd4 hcd5 hcd6
    go_loopw [3, 57] (fun x i wr => ∃ j : Nat, j ≤ n ∧ i = .int .i64 j ∧ x = .bool false ∧ Hid (Below w1.heap.size w1 wr)) (fun _ i _ => n - (intOf i).toNat)
    case atStart => exact ⟨0, Nat.zero_le _, rfl, rfl, h12⟩
    case round =>
      obtain ⟨j, hj, rfl, rfl, hB1⟩ := hrel
      clear h12
      by_cases hlt : j < n
      · obtain ⟨eb, off, rfl, hrg⟩ := (hEn.out wr (hb.out.later hB1.out)).at_i j (by rw [hnl.out]; exact hlt)
        replace hrg := hide hrg
        have hT := hide (htb.out j hlt)
        generalize es.getD j En.zero = el at *
        go_wp2_with (first | ((with_reducible change wpList _ _ _ _ _ _); refine wpList_load_mid rfl 52 (.tmp 59) rfl eb (off + j * 2) rfl (fEn el) _ hrg.out Try.underlying52 rfl (enLen _) ?_) | ((with_reducible change wpList _ _ _ _ _ _); refine stop_storeB 52 (.tmp 5) (.tmp 60) rfl ?_))
        refine hide (wpList_store_fresh rfl 52 (.tmp 5) (.tmp 60) rfl (fEn el).toArray (fEn En.zero).toArray rfl rfl 52 (enSize _) rfl (en_all _) ?_)
        intro w5 h5 hb5
        have k0 : w5.cell? ⟨wr.heap.size, 0, none⟩ = some (.int .i64 el.op) := (cell_of_row _ _ _ _ _ _ h5).trans rfl
        have k1 : w5.cell? ⟨wr.heap.size, 1, none⟩ = some (.int .i64 el.ns) := (cell_of_row _ _ _ _ _ _ h5).trans rfl
        have hB5 := hide (hB1.out.later hb5)
        clear hB1 hrg h5 hb5
        clear hT
        go_wp2
        go_roundw
        case rel => exact ⟨j + 1, by omega, by go_num, rfl, hB5⟩
        case measure => simp [intOf]; omega
      · obtain rfl : n = j := by omega
        have hrr := hide (hcell.out wr hB1.out).1
        have hC := hide (hCl.out (by omega) wr (hb.out.later hB1.out))
        clear hCl
        go_wp2_with ((with_reducible change wpList _ _ _ _ _ _); refine wpList_load_row rfl 47 (.tmp 1) rfl w.heap.size rfl 47 _ _ _ hrr.out Try.underlying47 rfl hz ?_)
        refine hC.out.mono ?_
        rintro _ w5 ⟨v', rfl, hS5, hb5, hF5⟩
        obtain ⟨va, vc, rfl⟩ := hS5.shape
        have hB5 := hide (hB1.out.later hb5)
        rw [hnl.out] at hS5
        replace hF5 : Hid (∀ k, (Value.slice va es.length vc).ownBlock = some k → wr.heap.size ≤ k) := hF5
        replace hS5 := hide hS5
        rw [hnl.out] at hF5
        clear hC hrr hb5
        have h1r : Hid (w1.heap.size ≤ wr.heap.size) := hB1.out.size
        clear hB1
        rw [hnl.out]
        go_wp2_with ((with_reducible change wpList _ _ _ _ _ _); refine stop_storeB 47 (.tmp 6) (.tmp 84) rfl ?_)
        refine hide (wpList_store_fresh rfl 47 (.tmp 6) (.tmp 84) rfl #[.int .i64 ba, .int .i64 cy, .int .i64 ex, .slice va n vc] #[.int .i64 0, .int .i64 0, .int .i64 0, .slice none 0 0] rfl rfl 47 (hz2.out _ _ _) rfl (l_all ⟨ba, cy, ex, es⟩ va n vc) ?_)
        intro w6 h6 hb6
        have hB6 := hide (hB5.out.later hb6)
        have hS6 : Hid (∃ es', es'.length = n ∧ Sl w6 (.slice va n vc) 52 2 fEn es') := ⟨es, hnl.out, by have := hS5.out.below hb6; exact this⟩
        have hlt5 : Hid (∀ k, (Value.slice va n vc).ownBlock = some k → k < w5.heap.size) := fun k hk => hS5.out.lt hk
        have h15 : Hid (w1.heap.size ≤ w5.heap.size) := hB5.out.size
        replace h6 := hide h6
        clear hb6 hS5 hB5
        generalize w5.heap.size = C at *
        clear w5
        have d3 : w6.cell? ⟨C, 3, none⟩ = some (.slice va n vc) := (cell_of_row _ _ _ _ _ _ h6.out).trans rfl
        go_wp2_with fail
        clear d3
        go_loopw [88] (fun i wr => ∃ j : Nat, j ≤ n ∧ i = .int .i64 j ∧ Hid (Below w1.heap.size w1 wr) ∧ Hid (∃ es', es'.length = n ∧ Sl wr (.slice va n vc) 52 2 fEn es') ∧ Hid (wr.heap[C]? = some (.cells #[.int .i64 ba, .int .i64 cy, .int .i64 ex, .slice va n vc] 47 (0, 0)))) (fun i _ => n - (intOf i).toNat)
        case atStart => exact ⟨0, Nat.zero_le _, rfl, hB6, hS6, h6⟩
        case round =>
          obtain ⟨j, hj, rfl, hBr, hSr, hCr⟩ := hrel
          clear hB6 hS6 h6
          have d3 : wr.cell? ⟨C, 3, none⟩ = some (.slice va n vc) := (cell_of_row _ _ _ _ _ _ hCr.out).trans rfl
          by_cases hlt : j < n
          · obtain ⟨es', hl', hS'⟩ := hSr.out
            obtain ⟨vb, vcp, hv, z0, ⟨u0, k0⟩, hvb, hput⟩ := hS'.put (j := j) (by omega)
            rw [hl'] at hv
            simp only [Value.slice.injEq] at hv
            obtain ⟨rfl, -, rfl⟩ := hv
            have hbC : vb < C := hlt5.out vb rfl
            have hb1 : w1.heap.size ≤ vb := by have := hF5.out vb rfl; have := h1r.out; omega
            have hBn : Hid (Below w1.heap.size w1 (wr.setCell ⟨vb, j * 2, none⟩ (.int .i64 (-7)))) := hBr.out.setCell (p := ⟨vb, j * 2, none⟩) hb1 _
            have hSn : Hid (∃ es', es'.length = n ∧ Sl (wr.setCell ⟨vb, j * 2, none⟩ (.int .i64 (-7))) (.slice (some ⟨vb, 0, none⟩) n vc) 52 2 fEn es') := by
              obtain ⟨e2, l2, s2⟩ := hput (-7)
              exact ⟨e2, l2.trans hl', s2⟩
            have hCn : Hid ((wr.setCell ⟨vb, j * 2, none⟩ (.int .i64 (-7))).heap[C]? = some (.cells #[.int .i64 ba, .int .i64 cy, .int .i64 ex, .slice (some ⟨vb, 0, none⟩) n vc] 47 (0, 0))) := (heap_setCell_other wr ⟨vb, j * 2, none⟩ C _ (by show C ≠ vb; omega)).trans hCr.out
            clear hput hS' hSr hCr hBr hvb hl' hbC hb1
            go_wp2
            go_roundw
            case rel => exact ⟨j + 1, by omega, by go_num, hBn, hSn, hCn⟩
            case measure => simp [intOf]; omega
          · obtain rfl : j = n := by omega
            have e0 : wr.cell? ⟨C, 0, none⟩ = some (.int .i64 ba) := (cell_of_row _ _ _ _ _ _ hCr.out).trans rfl
            have hrr := hide (hcell.out wr hBr.out).1
            have hL := hide (hLC.out wr (hb.out.later hBr.out))
            rw [hgood.out] at hL
            simp only [Bool.false_eq_true, if_false] at hL
            clear d3 e0
            go_wp2_with ((with_reducible change wpList _ _ _ _ _ _); refine wpList_load_row rfl 47 (.tmp 1) rfl w.heap.size rfl 47 _ _ _ hrr.out Try.underlying47 rfl hz ?_)
            refine hL.out.mono ?_
            rintro _ w7 ⟨rfl, hb7⟩
            have hB7 := hide (hBr.out.later hb7)
            have hC7 := hide (heap_kept hb7 hCr.out)
            clear hL hb7 hBr hSr hCr hrr
            have hrr := hide (hcell.out w7 hB7.out).1
            have hL := hide (hLC.out w7 (hb.out.later hB7.out))
            rw [hgood.out] at hL
            simp only [Bool.false_eq_true, if_false] at hL
            go_wp2_with ((with_reducible change wpList _ _ _ _ _ _); refine wpList_load_row_on rfl 47 (.tmp 1) rfl w.heap.size rfl 47 _ _ _ hrr.out Try.underlying47 rfl hz ?_)
            refine hL.out.mono ?_
            rintro _ w8 ⟨rfl, hb8⟩
            have hB8 := hide (hB7.out.later hb8)
            have hC8 := hide (heap_kept hb8 hC7.out)
            clear hL hb8 hC7 hrr hB7
            obtain ⟨-, c0, c1, c2, c3⟩ := hcell.out w8 hB8.out
            have e0 : w8.cell? ⟨C, 0, none⟩ = some (.int .i64 ba) := (cell_of_row _ _ _ _ _ _ hC8.out).trans rfl
            have e3 : w8.cell? ⟨C, 3, none⟩ = some (.slice va j vc) := (cell_of_row _ _ _ _ _ _ hC8.out).trans rfl
            have eq1 : ((j : Int) == (j : Int)) = true := by simp
            have eq2 : (ba == ba) = true := by simp
            have hBf := hide (hb.out.later hB8.out)
            clear hcell hLC hC8 hB8
            go_wp2
            go_ret
            exact ⟨rfl, hBf.out⟩
  have hcd7 : decide (ex ≤ 1000000000) = true := decide_eq_true h7
  have hmyx : Hid (my = !es.any badE) := by
    show _ = _
    cases hq : es.any badE
    · exact hk.out.2 ⟨by omega, by omega, by omega, by omega, hq⟩
    · have hmf : my = false := Bool.eq_false_iff.2 (fun hx => by have := (hk.out.1 hx).2.2.2.2; rw [hq] at this; simp at this)
      rw [hmf]; rfl
  go_wp2_with fail
  clear c0 c1 c2 c3 hcd0 hcd1 hcd2 hcd3 hcd4 hcd5 hcd6 hcd7
  go_loopw [3, 57] (fun x i wr => ∃ j : Nat, j ≤ n ∧ i = .int .i64 j ∧ x = .bool (!(es.take j).any badE) ∧ Hid (Below w1.heap.size w1 wr)) (fun _ i _ => n - (intOf i).toNat)
  case atStart => exact ⟨0, Nat.zero_le _, rfl, by simp, h12⟩
  case round =>
    obtain ⟨j, hj, rfl, rfl, hB1⟩ := hrel
    clear h12
    by_cases hlt : j < n
    · obtain ⟨eb, off, rfl, hrg⟩ := (hEn.out wr (hb.out.later hB1.out)).at_i j (by rw [hnl.out]; exact hlt)
      replace hrg := hide hrg
      have hT := hide (htb.out j hlt)
      generalize es.getD j En.zero = el at *
      go_wp2_with (first | ((with_reducible change wpList _ _ _ _ _ _); refine wpList_load_mid rfl 52 (.tmp 59) rfl eb (off + j * 2) rfl (fEn el) _ hrg.out Try.underlying52 rfl (enLen _) ?_) | ((with_reducible change wpList _ _ _ _ _ _); refine stop_storeB 52 (.tmp 5) (.tmp 60) rfl ?_))
      refine hide (wpList_store_fresh rfl 52 (.tmp 5) (.tmp 60) rfl (fEn el).toArray (fEn En.zero).toArray rfl rfl 52 (enSize _) rfl (en_all _) ?_)
      intro w5 h5 hb5
      have k0 : w5.cell? ⟨wr.heap.size, 0, none⟩ = some (.int .i64 el.op) := (cell_of_row _ _ _ _ _ _ h5).trans rfl
      have k1 : w5.cell? ⟨wr.heap.size, 1, none⟩ = some (.int .i64 el.ns) := (cell_of_row _ _ _ _ _ _ h5).trans rfl
      have hB5 := hide (hB1.out.later hb5)
      clear hB1 hrg h5 hb5
      generalize hX : (es.take j).any badE = X at *
      generalize hX2 : (es.take (j + 1)).any badE = X2 at *
      replace hX := hide hX
      replace hX2 := hide hX2
      have hbi := hide (badE_iff el)
      generalize badE el = be at *
      obtain ⟨eo, en⟩ := el
      dsimp only at k0 k1 hbi
      cases X
      rotate_left
      · obtain rfl : X2 = true := hT.out
        simp only [Bool.not_true]
        go_wp2
        go_roundw
        case rel => exact ⟨j + 1, by omega, by go_num, by rw [hX2.out]; rfl, hB5⟩
        case measure => simp [intOf]; omega
      have hT2 : Hid (X2 = be) := by show X2 = be; have := hT.out; simpa using this
      simp only [Bool.not_false]
      by_cases g0 : 0 ≤ eo
      rotate_left
      · have hgq : decide (0 ≤ eo) = false := decide_eq_false g0
        obtain rfl : be = true := hbi.out.2 (by omega)
        go_wp2
        go_roundw
        case rel => exact ⟨j + 1, by omega, by go_num, by rw [hX2.out, hT2.out]; rfl, hB5⟩
        case measure => simp [intOf]; omega
      have hgq0 : decide (0 ≤ eo) = true := decide_eq_true g0
      by_cases g1 : eo ≤ 255
      rotate_left
      · have hgq : decide (eo ≤ 255) = false := decide_eq_false g1
        obtain rfl : be = true := hbi.out.2 (by omega)
        go_wp2
        go_roundw
        case rel => exact ⟨j + 1, by omega, by go_num, by rw [hX2.out, hT2.out]; rfl, hB5⟩
        case measure => simp [intOf]; omega
      have hgq1 : decide (eo ≤ 255) = true := decide_eq_true g1
      by_cases g2 : 1 ≤ en
      rotate_left
      · have hgq : decide (1 ≤ en) = false := decide_eq_false g2
        obtain rfl : be = true := hbi.out.2 (by omega)
        go_wp2
        go_roundw
        case rel => exact ⟨j + 1, by omega, by go_num, by rw [hX2.out, hT2.out]; rfl, hB5⟩
        case measure => simp [intOf]; omega
      have hgq2 : decide (1 ≤ en) = true := decide_eq_true g2
      by_cases g3 : en ≤ 1000000000
      rotate_left
      · have hgq : decide (en ≤ 1000000000) = false := decide_eq_false g3
        obtain rfl : be = true := hbi.out.2 (by omega)
        go_wp2
        go_roundw
        case rel => exact ⟨j + 1, by omega, by go_num, by rw [hX2.out, hT2.out]; rfl, hB5⟩
        case measure => simp [intOf]; omega
      have hgq3 : decide (en ≤ 1000000000) = true := decide_eq_true g3
      obtain rfl : be = false := by rw [Bool.eq_false_iff]; intro hx; have := hbi.out.1 hx; omega
      go_wp2
      go_roundw
      case rel => exact ⟨j + 1, by omega, by go_num, by rw [hX2.out, hT2.out]; rfl, hB5⟩
      case measure => simp [intOf]; omega
    · obtain rfl : n = j := by omega
      have hall : Hid ((es.take n).any badE = es.any badE) := by rw [hta.out]; exact rfl
      rw [hall.out]
      clear hall
      cases hq : es.any badE
      · have hgood : Hid (my = true) := by rw [hmyx.out, hq]; exact rfl
        simp only [Bool.not_false]
        clear hq hmyx
        have hrr := hide (hcell.out wr hB1.out).1
        have hC := hide (hCl.out (by omega) wr (hb.out.later hB1.out))
        clear hCl
        go_wp2_with ((with_reducible change wpList _ _ _ _ _ _); refine wpList_load_row rfl 47 (.tmp 1) rfl w.heap.size rfl 47 _ _ _ hrr.out Try.underlying47 rfl hz ?_)
        refine hC.out.mono ?_
        rintro _ w5 ⟨v', rfl, hS5, hb5, hF5⟩
        obtain ⟨va, vc, rfl⟩ := hS5.shape
        have hB5 := hide (hB1.out.later hb5)
        rw [hnl.out] at hS5
        replace hF5 : Hid (∀ k, (Value.slice va es.length vc).ownBlock = some k → wr.heap.size ≤ k) := hF5
        replace hS5 := hide hS5
        rw [hnl.out] at hF5
        clear hC hrr hb5
        have h1r : Hid (w1.heap.size ≤ wr.heap.size) := hB1.out.size
        clear hB1
        rw [hnl.out]
        go_wp2_with ((with_reducible change wpList _ _ _ _ _ _); refine stop_storeB 47 (.tmp 6) (.tmp 84) rfl ?_)
        refine hide (wpList_store_fresh rfl 47 (.tmp 6) (.tmp 84) rfl #[.int .i64 ba, .int .i64 cy, .int .i64 ex, .slice va n vc] #[.int .i64 0, .int .i64 0, .int .i64 0, .slice none 0 0] rfl rfl 47 (hz2.out _ _ _) rfl (l_all ⟨ba, cy, ex, es⟩ va n vc) ?_)
        intro w6 h6 hb6
        have hB6 := hide (hB5.out.later hb6)
        have hS6 : Hid (∃ es', es'.length = n ∧ Sl w6 (.slice va n vc) 52 2 fEn es') := ⟨es, hnl.out, by have := hS5.out.below hb6; exact this⟩
        have hlt5 : Hid (∀ k, (Value.slice va n vc).ownBlock = some k → k < w5.heap.size) := fun k hk => hS5.out.lt hk
        have h15 : Hid (w1.heap.size ≤ w5.heap.size) := hB5.out.size
        replace h6 := hide h6
        clear hb6 hS5 hB5
        generalize w5.heap.size = C at *
        clear w5
        have d3 : w6.cell? ⟨C, 3, none⟩ = some (.slice va n vc) := (cell_of_row _ _ _ _ _ _ h6.out).trans rfl
        go_wp2_with fail
        clear d3
        go_loopw [88] (fun i wr => ∃ j : Nat, j ≤ n ∧ i = .int .i64 j ∧ Hid (Below w1.heap.size w1 wr) ∧ Hid (∃ es', es'.length = n ∧ Sl wr (.slice va n vc) 52 2 fEn es') ∧ Hid (wr.heap[C]? = some (.cells #[.int .i64 ba, .int .i64 cy, .int .i64 ex, .slice va n vc] 47 (0, 0)))) (fun i _ => n - (intOf i).toNat)
        case atStart => exact ⟨0, Nat.zero_le _, rfl, hB6, hS6, h6⟩
        case round =>
          obtain ⟨j, hj, rfl, hBr, hSr, hCr⟩ := hrel
          clear hB6 hS6 h6
          have d3 : wr.cell? ⟨C, 3, none⟩ = some (.slice va n vc) := (cell_of_row _ _ _ _ _ _ hCr.out).trans rfl
          by_cases hlt : j < n
          · obtain ⟨es', hl', hS'⟩ := hSr.out
            obtain ⟨vb, vcp, hv, z0, ⟨u0, k0⟩, hvb, hput⟩ := hS'.put (j := j) (by omega)
            rw [hl'] at hv
            simp only [Value.slice.injEq] at hv
            obtain ⟨rfl, -, rfl⟩ := hv
            have hbC : vb < C := hlt5.out vb rfl
            have hb1 : w1.heap.size ≤ vb := by have := hF5.out vb rfl; have := h1r.out; omega
            have hBn : Hid (Below w1.heap.size w1 (wr.setCell ⟨vb, j * 2, none⟩ (.int .i64 (-7)))) := hBr.out.setCell (p := ⟨vb, j * 2, none⟩) hb1 _
            have hSn : Hid (∃ es', es'.length = n ∧ Sl (wr.setCell ⟨vb, j * 2, none⟩ (.int .i64 (-7))) (.slice (some ⟨vb, 0, none⟩) n vc) 52 2 fEn es') := by
              obtain ⟨e2, l2, s2⟩ := hput (-7)
              exact ⟨e2, l2.trans hl', s2⟩
            have hCn : Hid ((wr.setCell ⟨vb, j * 2, none⟩ (.int .i64 (-7))).heap[C]? = some (.cells #[.int .i64 ba, .int .i64 cy, .int .i64 ex, .slice (some ⟨vb, 0, none⟩) n vc] 47 (0, 0))) := (heap_setCell_other wr ⟨vb, j * 2, none⟩ C _ (by show C ≠ vb; omega)).trans hCr.out
            clear hput hS' hSr hCr hBr hvb hl' hbC hb1
            go_wp2
            go_roundw
            case rel => exact ⟨j + 1, by omega, by go_num, hBn, hSn, hCn⟩
            case measure => simp [intOf]; omega
          · obtain rfl : j = n := by omega
            have e0 : wr.cell? ⟨C, 0, none⟩ = some (.int .i64 ba) := (cell_of_row _ _ _ _ _ _ hCr.out).trans rfl
            have hrr := hide (hcell.out wr hBr.out).1
            have hL := hide (hLC.out wr (hb.out.later hBr.out))
            rw [hgood.out] at hL
            simp only [if_true] at hL
            clear d3 e0
            go_wp2_with ((with_reducible change wpList _ _ _ _ _ _); refine wpList_load_row rfl 47 (.tmp 1) rfl w.heap.size rfl 47 _ _ _ hrr.out Try.underlying47 rfl hz ?_)
            refine hL.out.mono ?_
            rintro _ w7 ⟨rfl, hb7⟩
            have hB7 := hide (hBr.out.later hb7)
            have hC7 := hide (heap_kept hb7 hCr.out)
            clear hL hb7 hBr hSr hCr hrr
            obtain ⟨-, c0, c1, c2, c3⟩ := hcell.out w7 hB7.out
            have e0 : w7.cell? ⟨C, 0, none⟩ = some (.int .i64 ba) := (cell_of_row _ _ _ _ _ _ hC7.out).trans rfl
            have e3 : w7.cell? ⟨C, 3, none⟩ = some (.slice va j vc) := (cell_of_row _ _ _ _ _ _ hC7.out).trans rfl
            have eq1 : ((j : Int) == (j : Int)) = true := by simp
            have eq2 : (ba == ba) = true := by simp
            have hBf := hide (hb.out.later hB7.out)
            clear hcell hLC hC7 hB7
            go_wp2
            go_ret
            exact ⟨rfl, hBf.out⟩
      · have hgood : Hid (my = false) := by rw [hmyx.out, hq]; exact rfl
        simp only [Bool.not_true]
        clear hq hmyx
        have hrr := hide (hcell.out wr hB1.out).1
        have hC := hide (hCl.out (by omega) wr (hb.out.later hB1.out))
        clear hCl
        go_wp2_with ((with_reducible change wpList _ _ _ _ _ _); refine wpList_load_row rfl 47 (.tmp 1) rfl w.heap.size rfl 47 _ _ _ hrr.out Try.underlying47 rfl hz ?_)
        refine hC.out.mono ?_
        rintro _ w5 ⟨v', rfl, hS5, hb5, hF5⟩
        obtain ⟨va, vc, rfl⟩ := hS5.shape
        have hB5 := hide (hB1.out.later hb5)
        rw [hnl.out] at hS5
        replace hF5 : Hid (∀ k, (Value.slice va es.length vc).ownBlock = some k → wr.heap.size ≤ k) := hF5
        replace hS5 := hide hS5
        rw [hnl.out] at hF5
        clear hC hrr hb5
        have h1r : Hid (w1.heap.size ≤ wr.heap.size) := hB1.out.size
        clear hB1
        rw [hnl.out]
        go_wp2_with ((with_reducible change wpList _ _ _ _ _ _); refine stop_storeB 47 (.tmp 6) (.tmp 84) rfl ?_)
        refine hide (wpList_store_fresh rfl 47 (.tmp 6) (.tmp 84) rfl #[.int .i64 ba, .int .i64 cy, .int .i64 ex, .slice va n vc] #[.int .i64 0, .int .i64 0, .int .i64 0, .slice none 0 0] rfl rfl 47 (hz2.out _ _ _) rfl (l_all ⟨ba, cy, ex, es⟩ va n vc) ?_)
        intro w6 h6 hb6
        have hB6 := hide (hB5.out.later hb6)
        have hS6 : Hid (∃ es', es'.length = n ∧ Sl w6 (.slice va n vc) 52 2 fEn es') := ⟨es, hnl.out, by have := hS5.out.below hb6; exact this⟩
        have hlt5 : Hid (∀ k, (Value.slice va n vc).ownBlock = some k → k < w5.heap.size) := fun k hk => hS5.out.lt hk
        have h15 : Hid (w1.heap.size ≤ w5.heap.size) := hB5.out.size
        replace h6 := hide h6
        clear hb6 hS5 hB5
        generalize w5.heap.size = C at *
        clear w5
        have d3 : w6.cell? ⟨C, 3, none⟩ = some (.slice va n vc) := (cell_of_row _ _ _ _ _ _ h6.out).trans rfl
        go_wp2_with fail
        clear d3
        go_loopw [88] (fun i wr => ∃ j : Nat, j ≤ n ∧ i = .int .i64 j ∧ Hid (Below w1.heap.size w1 wr) ∧ Hid (∃ es', es'.length = n ∧ Sl wr (.slice va n vc) 52 2 fEn es') ∧ Hid (wr.heap[C]? = some (.cells #[.int .i64 ba, .int .i64 cy, .int .i64 ex, .slice va n vc] 47 (0, 0)))) (fun i _ => n - (intOf i).toNat)
        case atStart => exact ⟨0, Nat.zero_le _, rfl, hB6, hS6, h6⟩
        case round =>
          obtain ⟨j, hj, rfl, hBr, hSr, hCr⟩ := hrel
          clear hB6 hS6 h6
          have d3 : wr.cell? ⟨C, 3, none⟩ = some (.slice va n vc) := (cell_of_row _ _ _ _ _ _ hCr.out).trans rfl
          by_cases hlt : j < n
          · obtain ⟨es', hl', hS'⟩ := hSr.out
            obtain ⟨vb, vcp, hv, z0, ⟨u0, k0⟩, hvb, hput⟩ := hS'.put (j := j) (by omega)
            rw [hl'] at hv
            simp only [Value.slice.injEq] at hv
            obtain ⟨rfl, -, rfl⟩ := hv
            have hbC : vb < C := hlt5.out vb rfl
            have hb1 : w1.heap.size ≤ vb := by have := hF5.out vb rfl; have := h1r.out; omega
            have hBn : Hid (Below w1.heap.size w1 (wr.setCell ⟨vb, j * 2, none⟩ (.int .i64 (-7)))) := hBr.out.setCell (p := ⟨vb, j * 2, none⟩) hb1 _
            have hSn : Hid (∃ es', es'.length = n ∧ Sl (wr.setCell ⟨vb, j * 2, none⟩ (.int .i64 (-7))) (.slice (some ⟨vb, 0, none⟩) n vc) 52 2 fEn es') := by
              obtain ⟨e2, l2, s2⟩ := hput (-7)
              exact ⟨e2, l2.trans hl', s2⟩
            have hCn : Hid ((wr.setCell ⟨vb, j * 2, none⟩ (.int .i64 (-7))).heap[C]? = some (.cells #[.int .i64 ba, .int .i64 cy, .int .i64 ex, .slice (some ⟨vb, 0, none⟩) n vc] 47 (0, 0))) := (heap_setCell_other wr ⟨vb, j * 2, none⟩ C _ (by show C ≠ vb; omega)).trans hCr.out
            clear hput hS' hSr hCr hBr hvb hl' hbC hb1
            go_wp2
            go_roundw
            case rel => exact ⟨j + 1, by omega, by go_num, hBn, hSn, hCn⟩
            case measure => simp [intOf]; omega
          · obtain rfl : j = n := by omega
            have e0 : wr.cell? ⟨C, 0, none⟩ = some (.int .i64 ba) := (cell_of_row _ _ _ _ _ _ hCr.out).trans rfl
            have hrr := hide (hcell.out wr hBr.out).1
            have hL := hide (hLC.out wr (hb.out.later hBr.out))
            rw [hgood.out] at hL
            simp only [Bool.false_eq_true, if_false] at hL
            clear d3 e0
            go_wp2_with ((with_reducible change wpList _ _ _ _ _ _); refine wpList_load_row rfl 47 (.tmp 1) rfl w.heap.size rfl 47 _ _ _ hrr.out Try.underlying47 rfl hz ?_)
            refine hL.out.mono ?_
            rintro _ w7 ⟨rfl, hb7⟩
            have hB7 := hide (hBr.out.later hb7)
            have hC7 := hide (heap_kept hb7 hCr.out)
            clear hL hb7 hBr hSr hCr hrr
            have hrr := hide (hcell.out w7 hB7.out).1
            have hL := hide (hLC.out w7 (hb.out.later hB7.out))
            rw [hgood.out] at hL
            simp only [Bool.false_eq_true, if_false] at hL
            go_wp2_with ((with_reducible change wpList _ _ _ _ _ _); refine wpList_load_row_on rfl 47 (.tmp 1) rfl w.heap.size rfl 47 _ _ _ hrr.out Try.underlying47 rfl hz ?_)
            refine hL.out.mono ?_
            rintro _ w8 ⟨rfl, hb8⟩
            have hB8 := hide (hB7.out.later hb8)
            have hC8 := hide (heap_kept hb8 hC7.out)
            clear hL hb8 hC7 hrr hB7
            obtain ⟨-, c0, c1, c2, c3⟩ := hcell.out w8 hB8.out
            have e0 : w8.cell? ⟨C, 0, none⟩ = some (.int .i64 ba) := (cell_of_row _ _ _ _ _ _ hC8.out).trans rfl
            have e3 : w8.cell? ⟨C, 3, none⟩ = some (.slice va j vc) := (cell_of_row _ _ _ _ _ _ hC8.out).trans rfl
            have eq1 : ((j : Int) == (j : Int)) = true := by simp
            have eq2 : (ba == ba) = true := by simp
            have hBf := hide (hb.out.later hB8.out)
            clear hcell hLC hC8 hB8
            go_wp2
            go_ret
            exact ⟨rfl, hBf.out⟩
end Go.Proofs.Ytmacdghkbmjdmaa
