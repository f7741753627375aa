/-
  Contracts of slices.IndexFunc and ContainsFunc at filters; who makes the functions that tell filters. Conditions: those that each theorem names.
-/
import Derived.Test.YtiahiakllpjliaaSm1
namespace Go.Proofs.Ytiahiakllpjliaa
open Go.RowKit Go.Maps
set_option linter.unusedVariables false
set_option linter.unusedSimpArgs false
set_option maxRecDepth 20000

theorem Cl4.later {B : Nat} {w w1 : World} {F : FuncId} {caps : Array Value} {p : Sf → Bool} {ok : Sf → Prop} (h : Cl4 B w F caps p ok) (h1 : w.heap.size ≤ w1.heap.size) (h2 : ∀ k, B ≤ k → k < w.heap.size → w1.heap[k]? = w.heap[k]?) : Cl4 B w1 F caps p ok :=
  fun w' g1 g2 e he => h w' (by omega) (fun k k1 k2 => (g2 k k1 (by omega)).trans (h2 k k1 k2)) e he
set_option maxHeartbeats 4000000 in
theorem IndexF_any {B : Nat} {w : World} {v : Value} {l : List Sf} {F : FuncId} {caps : Array Value} {p : Sf → Bool} {ok : Sf → Prop} (h : Sl w v 71 9 fSf l) (hl : l.length ≤ 100000) (hok : ∀ e ∈ l, ok e) (hc : Hid (Cl4 B w F caps p ok)) (hgo : ∀ (args : Array Value) (w : World), (callFunc F args).run Try.prog w = .ok (.enter F args) w) :
    Calls Try.prog 54 #[v, .func (.func F) #[] caps] w fun r w' => ∃ i : Int, r = .returned (.int .i64 i) ∧ Below w.heap.size w w' ∧
      ((i = -1 ∧ ∀ j, j < l.length → p (l.getD j Sf.zero) = false) ∨ ∃ k : Nat, i = k ∧ k < l.length ∧ p (l.getD k Sf.zero) = true ∧ ∀ j, j < k → p (l.getD j Sf.zero) = false) := by
  obtain ⟨a, cap, rfl⟩ := h.shape
  have hS := hide h
  have hn : Hid (l.length = l.length) := rfl
  generalize hL : l.length = L at *
  replace hL := hide hL
  clear h hn
  go_enter Try.func54, Try.ntmps54
  go_wp2
  go_loopw [8] (fun i wr => ∃ j : Nat, j ≤ L ∧ i = .int .i64 j ∧ Hid (Below w.heap.size w wr) ∧ Hid (∀ k, k < j → p (l.getD k Sf.zero) = false)) (fun i _ => L - (intOf i).toNat)
  case atStart => exact ⟨0, Nat.zero_le _, rfl, Below.refl _ _, fun k hk => by omega⟩
  case round =>
    obtain ⟨j, hj, rfl, hB, hno⟩ := hrel
    by_cases hlt : j < L
    · have hSr := hS.out.below hB.out
      rw [← hL.out] at hSr
      obtain ⟨b, cap', sp, hv, hF, _, _⟩ := hSr.at_i (by rw [hL.out]; omega)
      simp only [Value.slice.injEq] at hv
      obtain ⟨rfl, _, rfl⟩ := hv
      have hrg := hide (hF.range wide_Sf Sf.zero j (by rw [hL.out]; exact hlt))
      have hme : ok (l.getD j Sf.zero) := hok _ (by rw [List.getD_eq_getElem?_getD, List.getElem?_eq_getElem (by rw [hL.out]; exact hlt)]; exact List.getElem_mem _)
      have hcall := hide (hc.out wr hB.out.size (fun k _ hk => hB.out.block k hk) _ hme)
      clear hF hSr hme
      generalize hpe : p (l.getD j Sf.zero) = pe at *
      generalize hee : l.getD j Sf.zero = e at *
      replace hee := hide hee
      go_wp2_with ((with_reducible change wpList _ _ _ _ _ _); refine wpList_load_mid rfl 71 (.tmp 14) rfl b (j * 9) rfl (fSf e) _ hrg.out Try.underlying71 rfl (sfLen _) ?_)
      refine hcall.out.mono ?_
      rintro r w2 ⟨rfl, hb2⟩
      have hB2 : Hid (Below w.heap.size w w2) := hB.out.later hb2
      clear hcall hrg hb2
      cases pe
      · go_wp2
        go_roundw
        case rel => exact ⟨j + 1, by omega, by go_num, hB2, fun k hk => by
          rcases (show k < j ∨ k = j by omega) with h | rfl
          · exact hno.out k h
          · rw [hee.out]; exact hpe⟩
        case measure => simp [intOf]; omega
      · replace hpe := hide hpe
        go_wp2
        go_ret
        exact ⟨_, rfl, hB2.out, .inr ⟨j, rfl, hlt, by rw [hee.out]; exact hpe.out, fun k hk => hno.out k hk⟩⟩
    · obtain rfl : j = L := by omega
      go_wp2
      go_ret
      exact ⟨_, rfl, hB.out, .inl ⟨rfl, fun k hk => hno.out k hk⟩⟩
/-- Is there one that it tells? -/
theorem ContainsF_any {B : Nat} {w : World} {v : Value} {l : List Sf} {F : FuncId} {caps : Array Value} {p : Sf → Bool} {ok : Sf → Prop} (h : Sl w v 71 9 fSf l) (hl : l.length ≤ 100000) (hok : ∀ e ∈ l, ok e) (hc : Hid (Cl4 B w F caps p ok)) (hgo : ∀ (args : Array Value) (w : World), (callFunc F args).run Try.prog w = .ok (.enter F args) w) :
    Calls Try.prog 52 #[v, .func (.func F) #[] caps] w fun r w' => r = .returned (.bool (l.any p)) ∧ Below w.heap.size w w' := by
  have hI := hide (IndexF_any h hl hok hc hgo)
  obtain ⟨a, cap, rfl⟩ := h.shape
  obtain ⟨R, hR⟩ : ∃ R, R = l.any p := ⟨_, rfl⟩
  rw [← hR]
  replace hR := hide hR
  go_enter Try.func52, Try.ntmps52
  go_wp2_with fail
  refine hI.out.mono ?_
  rintro _ w1 ⟨i, rfl, hb1, ⟨rfl, hno⟩ | ⟨k, rfl, hk, hpk, hno⟩⟩
  · obtain rfl : R = false := by
      rw [hR.out, List.any_eq_false]
      intro e he
      obtain ⟨j, hj, rfl⟩ := List.getElem_of_mem he
      have := hno j hj
      rw [List.getD_eq_getElem?_getD, List.getElem?_eq_getElem hj] at this
      simp at this
      rw [this]; decide
    have hB := hide hb1
    clear hI hno hb1 hc h
    go_wp2
    go_ret
    exact ⟨rfl, hB.out⟩
  · obtain rfl : R = true := by
      rw [hR.out, List.any_eq_true]
      refine ⟨l.getD k Sf.zero, ?_, hpk⟩
      rw [List.getD_eq_getElem?_getD, List.getElem?_eq_getElem hk]
      exact List.getElem_mem _
    have hB := hide hb1
    clear hI hno hb1 hc h hpk
    go_wp2
    go_ret
    exact ⟨rfl, hB.out⟩
theorem go_that (args : Array Value) (w : World) : (callFunc 70 args).run Try.prog w = .ok (.enter 70 args) w := by
  simp [callFunc, go_sem, Try.func70]
  rfl
theorem go_tells (args : Array Value) (w : World) : (callFunc 71 args).run Try.prog w = .ok (.enter 71 args) w := by
  simp [callFunc, go_sem, Try.func71]
  rfl
theorem cell_laterS {w w' : World} {b : Nat} (h : w'.heap[b]? = w.heap[b]?) (o : Nat) : w'.cell? ⟨b, o, none⟩ = w.cell? ⟨b, o, none⟩ := World.cell?_of_block (a := ⟨b, o, none⟩) h
theorem mkThat_any (kind vid : Int) (m : M6) (w : World) (hm : m.wf) : Calls Try.prog 53 #[.int .i64 kind, .agg m.row, .int .i64 vid] w fun r w' => ∃ caps, r = .returned (.func (.func 70) #[] caps) ∧ Below w.heap.size w w' ∧ Cl4 w.heap.size w' 70 caps (thatB kind m vid) (fun e => e.m.wf) := by
  have s1 : (w.alloc (.cells #[.int .i64 kind] 3)).heap.size = w.heap.size + 1 := World.size_alloc _ _
  have s2 : ((w.alloc (.cells #[.int .i64 kind] 3)).alloc (.cells m.row 28)).heap.size = w.heap.size + 1 + 1 := by rw [World.size_alloc, s1]
  have b1 := below1 w (.cells #[.int .i64 kind] 3)
  have b2 := below1 (w.alloc (.cells #[.int .i64 kind] 3)) (.cells m.row 28)
  have b3 := below1 ((w.alloc (.cells #[.int .i64 kind] 3)).alloc (.cells m.row 28)) (.cells #[.int .i64 vid] 3)
  have hb := hide ((b1.later b2).later b3)
  have hC : Hid (Cl4 w.heap.size (((w.alloc (.cells #[.int .i64 kind] 3)).alloc (.cells m.row 28)).alloc (.cells #[.int .i64 vid] 3)) 70 #[.pointer (some ⟨w.heap.size, 0, none⟩), .pointer (some ⟨w.heap.size + 1, 0, none⟩), .pointer (some ⟨w.heap.size + 1 + 1, 0, none⟩)] (thatB kind m vid) (fun e => e.m.wf)) := by
    intro w' h1 h2 e he
    have s3 : (((w.alloc (.cells #[.int .i64 kind] 3)).alloc (.cells m.row 28)).alloc (.cells #[.int .i64 vid] 3)).heap.size = w.heap.size + 1 + 1 + 1 := by rw [World.size_alloc, s2]
    have g1 := heap_kept b3 (heap_kept b2 (heap_alloc_new w (.cells #[.int .i64 kind] 3)))
    have g2 := heap_alloc_new (w.alloc (.cells #[.int .i64 kind] 3)) (.cells m.row 28)
    rw [s1] at g2
    replace g2 := heap_kept b3 g2
    have g3 := heap_alloc_new ((w.alloc (.cells #[.int .i64 kind] 3)).alloc (.cells m.row 28)) (.cells #[.int .i64 vid] 3)
    rw [s2] at g3
    have k1 : w'.cell? ⟨w.heap.size, 0, none⟩ = some (.int .i64 kind) := (cell_laterS (h2 w.heap.size (Nat.le_refl _) (by omega)) 0).trans (cell_of_row _ _ _ _ _ _ g1)
    have k3 : w'.cell? ⟨w.heap.size + 1 + 1, 0, none⟩ = some (.int .i64 vid) := (cell_laterS (h2 (w.heap.size + 1 + 1) (by omega) (by omega)) 0).trans (cell_of_row _ _ _ _ _ _ g3)
    exact that_any _ _ _ kind vid m e w' k1 ((h2 (w.heap.size + 1) (by omega) (by omega)).trans g2) k3 hm he
  clear s1 s2 b1 b2 b3
  go_enter Try.func53, Try.ntmps53
  go_wp2
  go_ret
  exact ⟨_, rfl, hb.out, hC.out⟩
theorem mkTells_any (cs : Array Value) (dst src : M6) (hH : HdMac cs dst src) (vid : Int) (w : World) (hd : dst.wf) (hs : src.wf) : Calls Try.prog 57 #[.agg cs, .int .i64 vid] w fun r w' => ∃ caps, r = .returned (.func (.func 71) #[] caps) ∧ Below w.heap.size w w' ∧ Cl4 w.heap.size w' 71 caps (tellB dst src vid) (fun e => e.m.wf) := by
  have s1 : (w.alloc (.cells cs 65)).heap.size = w.heap.size + 1 := World.size_alloc _ _
  have b1 := below1 w (.cells cs 65)
  have b2 := below1 (w.alloc (.cells cs 65)) (.cells #[.int .i64 vid] 3)
  have hb := hide (b1.later b2)
  have hC : Hid (Cl4 w.heap.size ((w.alloc (.cells cs 65)).alloc (.cells #[.int .i64 vid] 3)) 71 #[.pointer (some ⟨w.heap.size, 0, none⟩), .pointer (some ⟨w.heap.size + 1, 0, none⟩)] (tellB dst src vid) (fun e => e.m.wf)) := by
    intro w' h1 h2 e he
    have s2 : ((w.alloc (.cells cs 65)).alloc (.cells #[.int .i64 vid] 3)).heap.size = w.heap.size + 1 + 1 := by rw [World.size_alloc, s1]
    have g1 := heap_kept b2 (heap_alloc_new w (.cells cs 65))
    have g2 := heap_alloc_new (w.alloc (.cells cs 65)) (.cells #[.int .i64 vid] 3)
    rw [s1] at g2
    have k2 : w'.cell? ⟨w.heap.size + 1, 0, none⟩ = some (.int .i64 vid) := (cell_laterS (h2 (w.heap.size + 1) (by omega) (by omega)) 0).trans (cell_of_row _ _ _ _ _ _ g2)
    exact tell_any _ _ cs dst src hH vid e w' ((h2 w.heap.size (Nat.le_refl _) (by omega)).trans g1) k2 hd hs he
  have hone := hH.one
  clear s1 b1 b2
  go_enter Try.func57, Try.ntmps57
  go_wp2
  go_ret
  exact ⟨_, rfl, hb.out, hC.out⟩
end Go.Proofs.Ytiahiakllpjliaa
