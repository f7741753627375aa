/-
  Contracts of package pool's calls that take no frame (New, Room, Used, Holds, Size, Hold, Drop). Conditions: those that each theorem names.
-/
import Derived.Test.YtbdolfnnohdmhaaPool1
namespace Go.Proofs.Ytbdolfnnohdmhaa
open Go.RowKit

theorem pret_bool {a b : Bool} (h : a = b) : Ending.returned (.bool a) = .returned (.bool b) := by rw [h]
theorem pret_i64 {a b : Int} (h : a = b) : Ending.returned (.int .i64 a) = .returned (.int .i64 b) := by rw [h]
theorem Try.infoPlace : (Try.prog.info? 59).map (fun i => (i.zero, i.size, i.bytes)) = some (some (.agg #[.slice none 0 0, .int .i64 0]), 2, 32) := by kernel_rfl
theorem made_rep (n : Nat) : madeCells #[Value.slice none 0 0, .int .i64 0] (n * 2) = (rowOf (List.replicate n Pc.none)).toArray := by
  apply Array.ext
  · rw [size_madeCells, List.size_toArray, rowOf_length, List.length_replicate]
  · intro i h1 h2
    have hi : i < n * 2 := by simpa [size_madeCells] using h1
    have hr : (rowOf (List.replicate n Pc.none))[i]? = some (if i % 2 = 0 then Value.slice none 0 0 else .int .i64 0) := by
      rcases (show i = i / 2 * 2 ∨ i = i / 2 * 2 + 1 by omega) with h | h
      · rw [h, rowOf_v _ _ (by rw [List.length_replicate]; omega), if_pos (by omega)]
        simp [show i / 2 < n by omega]
      · rw [h, rowOf_h _ _ (by rw [List.length_replicate]; omega), if_neg (by omega)]
        simp [show i / 2 < n by omega]
    have hl : (madeCells #[Value.slice none 0 0, .int .i64 0] (n * 2))[i] = if i % 2 = 0 then Value.slice none 0 0 else .int .i64 0 := by
      simp only [madeCells, Array.getElem_map, Array.getElem_range]
      rcases Nat.mod_two_eq_zero_or_one i with h | h <;> simp [h]
    rw [hl]
    rw [List.getElem?_eq_getElem (by simpa using h2)] at hr
    simpa using hr.symm
theorem Pl_new (w : World) (n : Nat) (hn : n ≤ 4096) :
    Pl ((w.alloc (.cells (rowOf (List.replicate n Pc.none)).toArray 59)).alloc (.cells #[.slice (some ⟨w.heap.size, 0, none⟩) n n] 57)) (w.heap.size + 1) w.heap.size (List.replicate n Pc.none) := by
  refine ⟨by omega, by rw [List.length_replicate]; exact hn, ?_, ?_, fun p hp => ?_⟩
  · rw [List.length_replicate]
    have := heap_alloc_new (w.alloc (.cells (rowOf (List.replicate n Pc.none)).toArray 59)) (.cells #[.slice (some ⟨w.heap.size, 0, none⟩) n n] 57)
    simpa using this
  · rw [Below.heap_alloc _ _ _ (by simp)]
    exact heap_alloc_new w _
  · rw [List.eq_of_mem_replicate hp]
    exact ⟨Bs.nil _, Away.nil _ _⟩
theorem New_at (m : Int) (n : Nat) (w : World) (hm : (n : Int) = min (max m 0) 4096) :
    Calls Try.prog 22 #[.int .i64 m] w fun r w' => r = .returned (.pointer (some ⟨w.heap.size + 1, 0, none⟩)) ∧ Pl w' (w.heap.size + 1) w.heap.size (List.replicate n Pc.none) ∧ Below w.heap.size w w' := by
  obtain ⟨i0, hi, hz0, hz1, hz2⟩ := info_parts Try.infoPlace
  have hn : n ≤ 4096 := by omega
  have hP := hide (Pl_new w n hn)
  have hR : Hid (∀ c : Int, c = n → (Instr.makeSlice 55 (.int .i64 c) (.int .i64 c)).run Try.prog w = .ok (.slice (some ⟨w.heap.size, 0, none⟩) n n) (w.alloc (.cells (rowOf (List.replicate n Pc.none)).toArray 59))) := by
    rintro c rfl
    have hr := run_make (P := Try.prog) w 55 59 i0 _ Try.underlying55 hi hz0 .i64 .i64 n n (by omega) (by omega) (by rw [hz2]; omega) (by omega)
    rw [hz1] at hr
    simpa only [Int.toNat_natCast, Value.cells, made_rep] using hr
  have hB : Hid (Below w.heap.size w ((w.alloc (.cells (rowOf (List.replicate n Pc.none)).toArray 59)).alloc (.cells #[.slice (some ⟨w.heap.size, 0, none⟩) n n] 57))) :=
    ((Below.refl _ _).alloc (Nat.le_refl _) _).alloc (by simp) _
  clear hi hz0 hz1 hz2
  generalize rowOf (List.replicate n Pc.none) = R at *
  rcases (show (m < 0 ∧ n = 0) ∨ (m = 0 ∧ n = 0) ∨ (0 < m ∧ m ≤ 4096 ∧ m = (n : Int)) ∨ (4096 < m ∧ n = 4096) by omega) with ⟨h1, h2⟩ | ⟨rfl, h2⟩ | ⟨h1, h2, rfl⟩ | ⟨h1, h2⟩
  · have hr := hR.out 0 (by omega)
    clear hm h2 hn
    go_enter Try.func22, Try.ntmps22
    go_wp2
    go_ret
    exact ⟨rfl, hP.out, hB.out⟩
  · have hr := hR.out 0 (by omega)
    clear hm h2 hn
    go_enter Try.func22, Try.ntmps22
    go_wp2
    go_ret
    exact ⟨rfl, hP.out, hB.out⟩
  · have hr := hR.out n rfl
    clear hm
    go_enter Try.func22, Try.ntmps22
    go_wp2
    go_ret
    exact ⟨rfl, hP.out, hB.out⟩
  · have hr := hR.out 4096 (by omega)
    clear hm h2 hn
    go_enter Try.func22, Try.ntmps22
    go_wp2
    go_ret
    exact ⟨rfl, hP.out, hB.out⟩
theorem Room_any {w : World} {g b : Nat} {ps : List Pc} (h : Pl w g b ps) :
    Calls Try.prog 23 #[.pointer (some ⟨g, 0, none⟩)] w fun r w' => r = .returned (.int .i64 (ps.length : Nat)) ∧ w' = w := by
  have hg := h.cellG
  go_enter Try.func23, Try.ntmps23
  go_wp2
  go_ret
  exact ⟨rfl, rfl⟩
theorem free_any (b o : Nat) (h : Int) (w : World) (hc : w.cell? ⟨b, o + 1, none⟩ = some (.int .i64 h)) :
    Calls Try.prog 32 #[.pointer (some ⟨b, o, none⟩)] w fun r w' => r = .returned (.bool (h == 0)) ∧ w' = w := by
  go_enter Try.func32, Try.ntmps32
  go_wp2
  go_ret
  exact ⟨rfl, rfl⟩
/-- Is there a frame in a place of that number? -/
def hasB (ps : List Pc) (i : Int) : Bool := decide (0 ≤ i) && !((ps.getD i.toNat Pc.none).h == 0)
theorem hasB_nat (ps : List Pc) (k : Nat) : hasB ps k = !((ps.getD k Pc.none).h == 0) := by simp [hasB]
theorem has_any {w : World} {g b : Nat} {ps : List Pc} (h : Pl w g b ps) (i : Int) :
    Calls Try.prog 34 #[.pointer (some ⟨g, 0, none⟩), .int .i64 i] w fun r w' => r = .returned (.bool (hasB ps i)) ∧ w' = w := by
  have hg := h.cellG
  have hf := h.few
  rcases (show i < 0 ∨ (0 ≤ i ∧ (ps.length : Int) ≤ i) ∨ (0 ≤ i ∧ i < (ps.length : Int)) by omega) with h1 | ⟨h1, h2⟩ | ⟨h1, h2⟩
  · have e : hasB ps i = false := by simp [hasB]; omega
    rw [e]
    go_enter Try.func34, Try.ntmps34
    go_wp2
    go_ret
    exact ⟨rfl, rfl⟩
  · have e : hasB ps i = false := by
      have : (ps.getD i.toNat Pc.none) = Pc.none := by rw [List.getD_eq_getElem?_getD, List.getElem?_eq_none (by omega)]; rfl
      unfold hasB
      rw [this]
      simp
    rw [e]
    go_enter Try.func34, Try.ntmps34
    go_wp2
    go_ret
    exact ⟨rfl, rfl⟩
  · obtain ⟨k, rfl⟩ := Int.eq_ofNat_of_zero_le h1
    have hc := h.cellH k (by omega)
    have hc' := hide hc
    have e : hasB ps k = !(((ps.getD k Pc.none).h : Int) == 0) := by
      rw [hasB_nat]; congr 1; rw [Bool.eq_iff_iff]; simp
    rw [e]
    generalize ((ps.getD k Pc.none).h : Int) = H at *
    generalize ps.length = n at *
    clear hc h
    go_enter Try.func34, Try.ntmps34
    go_wp2_with (go_at_call 32; refine (free_any _ _ H _ hc'.out).mono ?_; rintro e w' ⟨rfl, rfl⟩)
    go_ret
    exact ⟨rfl, rfl⟩

theorem has_index {ps : List Pc} {i : Int} (h : hasB ps i = true) : ∃ k : Nat, i = k ∧ k < ps.length ∧ 0 < (ps.getD k Pc.none).h := by
  simp only [hasB, Bool.and_eq_true, decide_eq_true_eq, Bool.not_eq_true', beq_eq_false_iff_ne, ne_eq] at h
  obtain ⟨k, rfl⟩ := Int.eq_ofNat_of_zero_le h.1
  have h2 := h.2
  rw [Int.toNat_natCast] at h2
  refine ⟨k, rfl, ?_, by omega⟩
  rcases Nat.lt_or_ge k ps.length with hk | hk
  · exact hk
  · exfalso
    apply h2
    rw [List.getD_eq_getElem?_getD, List.getElem?_eq_none hk]
    rfl
theorem Hold_no {w : World} {g b : Nat} {ps : List Pc} (h : Pl w g b ps) (i : Int) (hi : hasB ps i = false) :
    Calls Try.prog 25 #[.pointer (some ⟨g, 0, none⟩), .int .i64 i] w fun r w' => r = .returned (.int .i64 21) ∧ w' = w := by
  have hH := hide (has_any h i)
  rw [hi] at hH
  clear h hi
  go_enter Try.func25, Try.ntmps25
  go_wp2_with (go_at_call 34; refine hH.out.mono ?_; rintro e w' ⟨rfl, rfl⟩)
  go_ret
  exact ⟨rfl, rfl⟩
theorem Hold_yes {w : World} {g b : Nat} {ps : List Pc} (h : Pl w g b ps) (k : Nat) (hi : hasB ps k = true) (hm : (ps.getD k Pc.none).h < 9223372036854775807) :
    Calls Try.prog 25 #[.pointer (some ⟨g, 0, none⟩), .int .i64 k] w fun r w' => r = .returned (.int .i64 0) ∧ Pl w' g b (ps.set k ⟨(ps.getD k Pc.none).v, (ps.getD k Pc.none).l, (ps.getD k Pc.none).h + 1⟩) ∧ But b w w' := by
  obtain ⟨k', e, hk, h0⟩ := has_index hi
  obtain rfl : k = k' := by omega
  have hH := hide (has_any h k)
  rw [hi] at hH
  have hg := h.cellG
  have hf := h.few
  have hc := h.cellH k hk
  have hz := h.frozenB (k * 2 + 1)
  have hS := hide (h.setH k ((ps.getD k Pc.none).h + 1) hk)
  have hB := hide (But.setCell b (k * 2 + 1) w (.int .i64 (((ps.getD k Pc.none).h + 1 : Nat) : Int)))
  generalize (ps.getD k Pc.none).h = H at *
  rw [show ((H + 1 : Nat) : Int) = (H : Int) + 1 by omega] at hS hB
  generalize ps.set k _ = qs at *
  generalize ps.length = n at *
  clear h hi e
  go_enter Try.func25, Try.ntmps25
  go_wp2_with (go_at_call 34; refine hH.out.mono ?_; rintro e w' ⟨rfl, rfl⟩)
  go_ret
  exact ⟨rfl, hS.out, hB.out⟩
theorem Drop_no {w : World} {g b : Nat} {ps : List Pc} (h : Pl w g b ps) (i : Int) (hi : hasB ps i = false) :
    Calls Try.prog 26 #[.pointer (some ⟨g, 0, none⟩), .int .i64 i] w fun r w' => r = .returned (.int .i64 21) ∧ w' = w := by
  have hH := hide (has_any h i)
  rw [hi] at hH
  clear h hi
  go_enter Try.func26, Try.ntmps26
  go_wp2_with (go_at_call 34; refine hH.out.mono ?_; rintro e w' ⟨rfl, rfl⟩)
  go_ret
  exact ⟨rfl, rfl⟩
/-- What a place is behind a drop. -/
def dropPc (p : Pc) : Pc := if p.h = 1 then Pc.none else ⟨p.v, p.l, p.h - 1⟩
theorem Drop_more {w : World} {g b : Nat} {ps : List Pc} (h : Pl w g b ps) (k : Nat) (hk : k < ps.length) (h2 : 1 < (ps.getD k Pc.none).h) (hm : (ps.getD k Pc.none).h ≤ 9223372036854775807) :
    Calls Try.prog 26 #[.pointer (some ⟨g, 0, none⟩), .int .i64 k] w fun r w' => r = .returned (.int .i64 0) ∧ Pl w' g b (ps.set k ⟨(ps.getD k Pc.none).v, (ps.getD k Pc.none).l, (ps.getD k Pc.none).h - 1⟩) ∧ But b w w' := by
  have hi : hasB ps k = true := by rw [hasB_nat]; simp; simp at h2; omega
  have hH := hide (has_any h k)
  rw [hi] at hH
  have hg := h.cellG
  have hf := h.few
  have hc := h.cellH k hk
  have hz := h.frozenB (k * 2 + 1)
  have hS := hide (h.setH k ((ps.getD k Pc.none).h - 1) hk)
  have hB := hide (But.setCell b (k * 2 + 1) w (.int .i64 (((ps.getD k Pc.none).h - 1 : Nat) : Int)))
  have hF : Hid (∀ x : Int, x = (((ps.getD k Pc.none).h - 1 : Nat) : Int) → Calls Try.prog 32 #[.pointer (some ⟨b, k * 2, none⟩)] (w.setCell ⟨b, k * 2 + 1, none⟩ (.int .i64 x)) fun r w' => r = .returned (.bool false) ∧ w' = w.setCell ⟨b, k * 2 + 1, none⟩ (.int .i64 x)) := by
    rintro x rfl
    have := free_any b (k * 2) (((ps.getD k Pc.none).h - 1 : Nat) : Int) (w.setCell ⟨b, k * 2 + 1, none⟩ (.int .i64 (((ps.getD k Pc.none).h - 1 : Nat) : Int))) (World.cell?_setCell_same' _ _ _ (by rw [hc]; rfl))
    rwa [show ((((ps.getD k Pc.none).h - 1 : Nat) : Int) == 0) = false by rw [beq_eq_false_iff_ne]; omega] at this
  generalize (ps.getD k Pc.none).h = H at *
  have hF' := hide (hF.out ((H : Int) - 1) (by omega))
  rw [show ((H - 1 : Nat) : Int) = (H : Int) - 1 by omega] at hS hB
  generalize ps.set k _ = qs at *
  generalize ps.length = n at *
  clear h hi hF
  go_enter Try.func26, Try.ntmps26
  go_wp2_with (first | (go_at_call 34; refine hH.out.mono ?_; rintro e w' ⟨rfl, rfl⟩) | (go_at_call 32; refine hF'.out.mono ?_; rintro e w' ⟨rfl, rfl⟩))
  go_ret
  exact ⟨rfl, hS.out, hB.out⟩
theorem Drop_last {w : World} {g b : Nat} {ps : List Pc} (h : Pl w g b ps) (k : Nat) (hk : k < ps.length) (h2 : (ps.getD k Pc.none).h = 1) :
    Calls Try.prog 26 #[.pointer (some ⟨g, 0, none⟩), .int .i64 k] w fun r w' => r = .returned (.int .i64 0) ∧ Pl w' g b (ps.set k Pc.none) ∧ But b w w' := by
  have hi : hasB ps k = true := by rw [hasB_nat, h2]; rfl
  have hH := hide (has_any h k)
  rw [hi] at hH
  have hg := h.cellG
  have hf := h.few
  have hc := h.cellH k hk
  have hz := h.frozenB (k * 2 + 1)
  have hS1 := h.setH k 0 hk
  have hz2 := hS1.frozenB (k * 2)
  have hcv := hS1.cellV k (by rw [List.length_set]; exact hk)
  have hg2 := hS1.cellG
  have hS := hS1.setV k (.slice none 0 0) [] (by rw [List.length_set]; exact hk) (Bs.nil _) (Away.nil _ _)
  have hB := hide ((But.setCell b (k * 2 + 1) w (.int .i64 ((0 : Nat) : Int))).trans (But.setCell b (k * 2) (w.setCell ⟨b, k * 2 + 1, none⟩ (.int .i64 ((0 : Nat) : Int))) (.slice none 0 0)))
  have hF := hide (free_any b (k * 2) ((0 : Nat) : Int) (w.setCell ⟨b, k * 2 + 1, none⟩ (.int .i64 ((0 : Nat) : Int))) (World.cell?_setCell_same' _ _ _ (by rw [hc]; rfl)))
  rw [show ((((0 : Nat) : Int) == 0)) = true by rfl] at hF
  rw [h2] at hc
  have hsh : ((ps.set k ⟨(ps.getD k Pc.none).v, (ps.getD k Pc.none).l, 0⟩).getD k Pc.none).h = 0 := by
    simp [List.getD_eq_getElem?_getD, hk]
  rw [hsh, List.set_set] at hS
  have hS' := hide hS
  rw [List.length_set] at hg2
  generalize ((ps.set k ⟨(ps.getD k Pc.none).v, (ps.getD k Pc.none).l, 0⟩).getD k Pc.none).v = vv at *
  clear hS1 hS hsh
  simp only [Int.natCast_zero, Int.natCast_one] at *
  generalize ps.set k _ = qs at *
  generalize ps.length = n at *
  clear h hi
  go_enter Try.func26, Try.ntmps26
  go_wp2_with (first | (go_at_call 34; refine hH.out.mono ?_; rintro e w' ⟨rfl, rfl⟩) | (go_at_call 32; refine hF.out.mono ?_; rintro e w' ⟨rfl, rfl⟩))
  go_ret
  exact ⟨rfl, hS'.out, hB.out⟩
theorem Drop_yes {w : World} {g b : Nat} {ps : List Pc} (h : Pl w g b ps) (k : Nat) (hi : hasB ps k = true) (hm : (ps.getD k Pc.none).h ≤ 9223372036854775807) :
    Calls Try.prog 26 #[.pointer (some ⟨g, 0, none⟩), .int .i64 k] w fun r w' => r = .returned (.int .i64 0) ∧ Pl w' g b (ps.set k (dropPc (ps.getD k Pc.none))) ∧ But b w w' := by
  obtain ⟨k', e, hk, h0⟩ := has_index hi
  obtain rfl : k = k' := by omega
  unfold dropPc
  split
  · exact Drop_last h k hk ‹_›
  · exact Drop_more h k hk (by omega) hm
theorem Size_any {w : World} {g b : Nat} {ps : List Pc} (h : Pl w g b ps) (i : Int) :
    Calls Try.prog 28 #[.pointer (some ⟨g, 0, none⟩), .int .i64 i] w fun r w' => r = .returned (.int .i64 (if hasB ps i = true then ((ps.getD i.toNat Pc.none).l.length : Int) else 0)) ∧ w' = w := by
  cases hi : hasB ps i
  · have hH := hide (has_any h i)
    rw [hi] at hH
    clear h hi
    simp only [Bool.false_eq_true, if_false]
    go_enter Try.func28, Try.ntmps28
    go_wp2_with (go_at_call 34; refine hH.out.mono ?_; rintro e w' ⟨rfl, rfl⟩)
    go_ret
    exact ⟨rfl, rfl⟩
  · obtain ⟨k, rfl, hk, h0⟩ := has_index hi
    have hH := hide (has_any h k)
    rw [hi] at hH
    have hg := h.cellG
    have hf := h.few
    have hc := h.cellV k hk
    obtain ⟨_, a, cap, hv, _⟩ := (h.frameAt k hk).1
    rw [hv] at hc
    simp only [Int.toNat_natCast, if_true]
    generalize (ps.getD k Pc.none).l.length = L at *
    generalize ps.length = n at *
    clear h hi hv h0
    go_enter Try.func28, Try.ntmps28
    go_wp2_with (go_at_call 34; refine hH.out.mono ?_; rintro e w' ⟨rfl, rfl⟩)
    go_ret
    exact ⟨rfl, rfl⟩
theorem Holds_any {w : World} {g b : Nat} {ps : List Pc} (h : Pl w g b ps) (hm : sumH ps ≤ 9223372036854775807) :
    Calls Try.prog 30 #[.pointer (some ⟨g, 0, none⟩)] w fun r w' => r = .returned (.int .i64 (sumH ps : Nat)) ∧ w' = w := by
  have hg := h.cellG
  have hf := h.few
  have HH := hide h
  clear h
  have HM := hide hm
  clear hm
  generalize hn : ps.length = n at *
  have HN := hide hn
  clear hn
  go_enter Try.func30, Try.ntmps30
  go_wp2
  go_loop [3, 10] (fun x i => ∃ j : Nat, j ≤ n ∧ i = .int .i64 j ∧ x = .int .i64 (sumH (ps.take j) : Nat)) (fun _ i => n - (intOf i).toNat)
  case atStart => exact ⟨0, Nat.zero_le _, rfl, rfl⟩
  case round =>
    obtain ⟨j, hj, rfl, rfl⟩ := hrel
    by_cases hlt : j < n
    · have hjp : j < ps.length := by rw [HN.out]; exact hlt
      have hc := HH.out.cellH j hjp
      have hS := hide (sumH_take ps j hjp)
      have hle := sumH_take_le ps (j + 1)
      rw [sumH_take ps j hjp] at hle
      have hmm := HM.out
      generalize (ps.getD j Pc.none).h = H at *
      generalize sumH (ps.take j) = s at *
      have hb1 : (s : Int) + (H : Int) ≤ 9223372036854775807 := by omega
      clear hle hmm hjp
      go_wp2
      go_round
      case rel => exact ⟨j + 1, by omega, by go_num, by rw [hS.out]; simp⟩
      case measure => simp [intOf]; omega
    · obtain rfl : j = n := by omega
      have e : ps.take j = ps := List.take_of_length_le (by rw [HN.out]; omega)
      go_wp2
      go_ret
      exact ⟨rfl, rfl⟩
theorem Used_any {w : World} {g b : Nat} {ps : List Pc} (h : Pl w g b ps) :
    Calls Try.prog 29 #[.pointer (some ⟨g, 0, none⟩)] w fun r w' => r = .returned (.int .i64 (usedN ps : Nat)) ∧ w' = w := by
  have hg := h.cellG
  have hf := h.few
  have HH := hide h
  clear h
  generalize hn : ps.length = n at *
  have HN := hide hn
  clear hn
  go_enter Try.func29, Try.ntmps29
  go_wp2
  go_loop [3, 10] (fun x i => ∃ j : Nat, j ≤ n ∧ i = .int .i64 j ∧ x = .int .i64 (usedN (ps.take j) : Nat)) (fun _ i => n - (intOf i).toNat)
  case atStart => exact ⟨0, Nat.zero_le _, rfl, rfl⟩
  case round =>
    obtain ⟨j, hj, rfl, rfl⟩ := hrel
    by_cases hlt : j < n
    · have hjp : j < ps.length := by rw [HN.out]; exact hlt
      have hc := HH.out.cellH j hjp
      have hc' := hide hc
      have hS := hide (usedN_take ps j hjp)
      have hle := usedN_le (ps.take j)
      rw [List.length_take] at hle
      generalize (ps.getD j Pc.none).h = H at *
      generalize usedN (ps.take j) = s at *
      have hb1 : (s : Int) ≤ 4096 := by omega
      clear hle hjp hc
      rcases Nat.eq_zero_or_pos H with rfl | h0
      · go_wp2_with (go_at_call 32; refine (free_any _ _ ((0 : Nat) : Int) _ hc'.out).mono ?_; rintro e w' ⟨rfl, rfl⟩)
        go_round
        case rel => exact ⟨j + 1, by omega, by go_num, by rw [hS.out]; simp⟩
        case measure => simp [intOf]; omega
      · have h0' : ((H : Int) == 0) = false := by rw [beq_eq_false_iff_ne]; omega
        go_wp2_with (go_at_call 32; refine (free_any _ _ (H : Int) _ hc'.out).mono ?_; rintro e w' ⟨rfl, rfl⟩; rw [h0'])
        go_round
        case rel => exact ⟨j + 1, by omega, by go_num, by rw [hS.out, if_neg (by omega)]; simp⟩
        case measure => simp [intOf]; omega
    · obtain rfl : j = n := by omega
      have e : ps.take j = ps := List.take_of_length_le (by rw [HN.out]; omega)
      go_wp2
      go_ret
      exact ⟨rfl, rfl⟩
end Go.Proofs.Ytbdolfnnohdmhaa
