/-
  The head of the statements of layer 1 ('lays') answers true, and writes nothing that was there. Condition: none.
-/
import Derived.Test.YtjoejbdgiepdcaaStr
namespace Go.Proofs.Ytjoejbdgiepdcaa
open Go.RowKit

theorem lays_put (w : World) : Calls Try.prog 9 #[.int .u64 66051, .int .i64 3] w fun e w' => e = .returned (.tuple #[.slice (some ⟨w.heap.size, 0, none⟩) 3 3, .int .i64 0]) ∧ Bs w' (.slice (some ⟨w.heap.size, 0, none⟩) 3 3) [1, 2, 3] ∧ Below w.heap.size w w' :=
  Put_fits 66051 3 w (by decide) (by decide) (by decide) (by decide)
theorem lays_get {w : World} {v : Value} (h : Bs w v [1, 2, 3]) : Calls Try.prog 12 #[v, .int .i64 1, .int .i64 2] w fun e w' => e = .returned (.tuple #[.int .u64 515, .int .i64 0]) ∧ w' = w :=
  Get_ok h 1 2 (by decide) (by decide) (by decide) (by decide) (by decide)
theorem lays_pack (w : World) : Calls Try.prog 18 #[.slice (some ⟨w.heap.size, 0, none⟩) 3 3] (w.alloc (.cells #[.int .u64 5, .int .u64 3, .int .u64 1, .int .u64 1, .int .u64 100, .int .u64 12] 44)) fun e w' => e = .returned (.tuple #[.int .u64 45156, .int .i64 0]) ∧ Below w.heap.size w w' := by
  have hp : Prs (w.alloc (.cells #[.int .u64 5, .int .u64 3, .int .u64 1, .int .u64 1, .int .u64 100, .int .u64 12] 44)) (.slice (some ⟨w.heap.size, 0, none⟩) 3 3) [(5, 3), (1, 1), (100, 12)] := by
    refine ⟨fun p hp => by simp at hp; rcases hp with rfl | rfl | rfl <;> decide, _, _, rfl, fun i hi => ⟨_, _, rfl, ?_⟩⟩
    rw [cell_of_row _ _ _ _ _ _ (heap_alloc_new w _), cell_of_row _ _ _ _ _ _ (heap_alloc_new w _)]
    match i, hi with
    | 0, _ => exact ⟨rfl, rfl⟩
    | 1, _ => exact ⟨rfl, rfl⟩
    | 2, _ => exact ⟨rfl, rfl⟩
  refine (Pack_any hp (by decide)).mono ?_
  rintro e w' ⟨rfl, hb⟩
  exact ⟨rfl, ((Below.refl _ _).alloc (Nat.le_refl _) _).trans (hb.mono (by simp))⟩
/-- A literal of bytes, in a new block. -/
theorem Bs.lit (w : World) (l : List Int) (hb : Byte l) (hm : l.length ≤ maxLen) (fr : Nat × Nat) : Bs (w.alloc (.cells (l.map (Value.int .u8)).toArray 5 fr)) (.slice (some ⟨w.heap.size, 0, none⟩) l.length l.length) l := by
  refine Bs.mk_at hb (Nat.le_refl _) hm fun i hi => ?_
  rw [cell_of_row _ _ _ _ _ _ (heap_alloc_new w _), Nat.zero_add, List.getElem?_toArray, getElem?_map_u8 l i hi]
theorem lays_read (w : World) : Calls Try.prog 19 #[.slice (some ⟨w.heap.size, 0, none⟩) 3 3] (w.alloc (.cells #[.int .u8 1, .int .u8 2, .int .u8 3] 5)) fun e w' => e = .returned (.pointer (some ⟨w.heap.size + 1, 0, none⟩)) ∧ Rd w' (w.heap.size + 1) [1, 2, 3] 0 ∧ Below w.heap.size w w' := by
  have hb := Bs.lit w [1, 2, 3] (by unfold Byte; decide) (by decide) (0, 0)
  refine (Read_any hb).mono ?_
  rintro e w' ⟨rfl, h1, h2⟩
  simp only [World.size_alloc] at h1 ⊢
  exact ⟨trivial, h1, ((Below.refl _ _).alloc (Nat.le_refl _) _).trans (h2.mono (by simp))⟩
theorem lays_number {w : World} {g : Nat} (h : Rd w g [1, 2, 3] 0) : Calls Try.prog 20 #[.pointer (some ⟨g, 0, none⟩), .int .i64 1] w fun e w' => e = .returned (.int .u64 1) ∧ Rd w' g [2, 3] 0 ∧ Below g w w' :=
  RNumber_ok h 1 (by decide) (by decide) (by decide) (by decide)
theorem lays_take {w : World} {g : Nat} (h : Rd w g [2, 3] 0) : Calls Try.prog 21 #[.pointer (some ⟨g, 0, none⟩), .int .i64 1] w fun e w' => ∃ v, e = .returned v ∧ Bs w' v [2] ∧ Rd w' g [3] 0 ∧ Below g w w' :=
  RTake_ok h 1 (by decide) (by decide)
theorem lays_turn (w : World) (fr : Nat × Nat) : Calls Try.prog 13 #[.slice (some ⟨w.heap.size, 0, none⟩) 2 2] (w.alloc (.cells #[.int .u8 97, .int .u8 98] 5 fr)) fun e w' => ∃ v, e = .returned v ∧ Bs w' v [98, 97] ∧ Below w.heap.size w w' := by
  have hb := Bs.lit w [97, 98] (by unfold Byte; decide) (by decide) fr
  refine (Turn_any hb (by decide)).mono ?_
  rintro e w' ⟨rfl, h1, h2⟩
  exact ⟨_, rfl, h1, ((Below.refl _ _).alloc (Nat.le_refl _) _).trans (h2.mono (by simp))⟩
theorem lays_join (w : World) (f1 f2 : Nat × Nat) : Calls Try.prog 11 #[.slice (some ⟨w.heap.size + 2, 0, none⟩) 2 2] (((w.alloc (.cells #[.int .u8 97] 5 f1)).alloc (.cells #[.int .u8 98] 5 f2)).alloc (.cells #[.slice (some ⟨w.heap.size, 0, none⟩) 1 1, .slice (some ⟨w.heap.size + 1, 0, none⟩) 1 1] 23)) fun e w' => ∃ v, e = .returned v ∧ Bs w' v [97, 98] ∧ Below w.heap.size w w' := by
  have h1 : Bs ((w.alloc (.cells #[.int .u8 97] 5 f1)).alloc (.cells #[.int .u8 98] 5 f2)) (.slice (some ⟨w.heap.size, 0, none⟩) 1 1) [97] :=
    (Bs.lit w [97] (by unfold Byte; decide) (by decide) f1).below ((Below.refl _ _).alloc (Nat.le_refl _) _)
  have h2 := Bs.lit (w.alloc (.cells #[.int .u8 97] 5 f1)) [98] (by unfold Byte; decide) (by decide) f2
  simp only [World.size_alloc] at h2
  have hb := BBs.lit [.slice (some ⟨w.heap.size, 0, none⟩) 1 1, .slice (some ⟨w.heap.size + 1, 0, none⟩) 1 1] [[97], [98]] rfl (by simp [maxLen]) (fun i hi => match i, hi with
    | 0, _ => h1
    | 1, _ => h2)
  simp only [World.size_alloc] at hb
  refine (Join_any hb (by decide) (by decide)).mono ?_
  rintro e w' ⟨rfl, h3, h4⟩
  refine ⟨_, rfl, h3, ?_⟩
  exact ((((Below.refl _ _).alloc (Nat.le_refl _) _).alloc (by simp) _).alloc (by simp; omega) _).trans (h4.mono (by simp; omega))
theorem lays_bit (w : World) : Calls Try.prog 16 #[.int .u64 4, .int .i64 2] w fun e w' => e = .returned (.bool true) ∧ w' = w :=
  Bit_in 4 2 w (by decide) (by decide) (by decide)
theorem lays_bits (w : World) : Calls Try.prog 17 #[.int .u64 240, .int .i64 4, .int .i64 6] w fun e w' => e = .returned (.int .u64 3) ∧ w' = w :=
  Bits_in 240 4 6 w (by decide) (by decide) (by decide) (by decide)

set_option maxHeartbeats 2000000 in
theorem lays_any (w : World) : Calls Try.prog 8 #[] w fun e w' => e = .returned (.bool true) ∧ Below w.heap.size w w' := by
  go_enter Try.func8, Try.ntmps8
  go_wp2_with fail
  refine (lays_put w).mono ?_
  rintro e w1 ⟨rfl, hB1, hb1⟩
  go_wp2_with fail
  refine (lays_get hB1).mono ?_
  rintro e w1' ⟨rfl, rfl⟩
  go_wp2_with fail
  refine (lays_pack _).mono ?_
  rintro e w2 ⟨rfl, hb2⟩
  have hB2 := hB1.below hb2
  clear hB1
  go_wp2_with fail
  refine (lays_read _).mono ?_
  rintro e w3 ⟨rfl, hR3, hb3⟩
  have hB3 := hB2.below hb3
  clear hB2
  have hs1 := hb1.size
  have hs2 := hb2.size
  have hbl : Bl (w2.heap.size + 1) (.slice (some ⟨w.heap.size, 0, none⟩) 3 3) := fun a n c e hn => by
    cases e; show w.heap.size < w2.heap.size + 1; omega
  go_wp2_with fail
  refine (lays_number hR3).mono ?_
  rintro e w4 ⟨rfl, hR4, hb4⟩
  have hB4 := hB3.belowAt hbl hb4
  clear hB3 hR3
  go_wp2_with fail
  refine (lays_take hR4).mono ?_
  rintro e w5 ⟨v5, rfl, hV5, hR5, hb5⟩
  have hB5 := hB4.belowAt hbl hb5
  clear hB4 hR4
  have hall : Below w.heap.size w w5 := ((hb1.trans (hb2.mono hs1)).trans (hb3.mono (by omega))).trans ((hb4.trans hb5).mono (by omega))
  have HA := hide hall
  clear hb1 hb2 hb3 hb4 hb5 hs1 hs2 hall hbl
  have q1 : (convert 23 9 (.slice (some ⟨w.heap.size, 0, none⟩) 3 3)).run Try.prog w5 = .ok (.string ⟨#[1, 2, 3]⟩) w5 := conv_str 23 9 5 Try.underlying23 Try.underlying5 Try.underlying9 hB5
  have q2 : (convert 23 9 v5).run Try.prog w5 = .ok (.string ⟨#[2]⟩) w5 := conv_str 23 9 5 Try.underlying23 Try.underlying5 Try.underlying9 hV5
  have kc := fun (w : World) (C : Array Value) (n c : Nat) => Lib.run_convert_bytes_const (P := Try.prog) w 23 5 C n c Try.underlying23 Try.underlying5
  have kc2 : ∀ (w : World) (o : Obj) (C : Array Value) (n c : Nat), (convert 23 23 (.slice (some ⟨w.heap.size + 1, 0, none⟩) n c)).run Try.prog ((w.alloc o).alloc (.cells C 5)) = .ok (.slice (some ⟨w.heap.size + 1, 0, none⟩) n c) ((w.alloc o).alloc (.cells C 5 (C.size, C.size + 1))) := fun w o C n c => by
    have := kc (w.alloc o) C n c
    simpa only [World.size_alloc] using this
  clear hB5 hV5
  go_wp2_with fail
  refine (Left_any hR5).mono ?_
  rintro e w5' ⟨rfl, rfl⟩
  clear q1 q2
  go_wp2_with fail
  refine (Err_any hR5).mono ?_
  rintro e w5' ⟨rfl, rfl⟩
  clear hR5
  go_wp2_with fail
  refine (lays_turn _ _).mono ?_
  rintro e w6 ⟨v6, rfl, hV6, hb6⟩
  have HA6 := hide (HA.out.trans (hb6.mono HA.out.size))
  have q6 : (convert 23 9 v6).run Try.prog w6 = .ok (.string ⟨#[98, 97]⟩) w6 := conv_str 23 9 5 Try.underlying23 Try.underlying5 Try.underlying9 hV6
  clear HA hV6 hb6
  go_wp2_with fail
  refine (lays_join _ _ _).mono ?_
  rintro e w7 ⟨v7, rfl, hV7, hb7⟩
  have HA7 := hide (HA6.out.trans (hb7.mono HA6.out.size))
  have q7 : (convert 23 9 v7).run Try.prog w7 = .ok (.string ⟨#[97, 98]⟩) w7 := conv_str 23 9 5 Try.underlying23 Try.underlying5 Try.underlying9 hV7
  clear HA6 hV7 hb7 q6 kc kc2
  go_wp2_with fail
  refine (lays_bit _).mono ?_
  rintro e w7' ⟨rfl, rfl⟩
  go_wp2_with fail
  refine (lays_bits _).mono ?_
  rintro e w7' ⟨rfl, rfl⟩
  go_wp2
  go_ret
  exact ⟨rfl, HA7.out⟩
end Go.Proofs.Ytjoejbdgiepdcaa
