/-
  The head of the statements of layer 2 ('sums') answers true, and writes nothing that was there. Condition: the table lies as the program's text lays it.
-/
import Derived.Test.YtjoejbdgiepdcaaDoorCrc
namespace Go.Proofs.YtjoejbdgiepdcaaDoor
open Go.RowKit

def digits9 : List Int := [49, 50, 51, 52, 53, 54, 55, 56, 57]
theorem digits9_byte : Byte digits9 := by unfold Byte digits9; decide
theorem seal9 : sealL digits9 = [49, 50, 51, 52, 53, 54, 55, 56, 57, 38, 57, 244, 203] := by decide +kernel
theorem sum9 : (crcSum digits9).toNat = 3421780262 := by decide +kernel

/-- A literal of bytes, in a new block. -/
theorem Bs.lit (w : World) (l : List Int) (hb : Byte l) (hm : l.length ≤ maxLen) (fr : Nat × Nat) : Bs (w.alloc (.cells (l.map (Value.int .u8)).toArray 5 fr)) (.slice (some ⟨w.heap.size, 0, none⟩) l.length l.length) l := by
  refine Bs.mk_at hb (Nat.le_refl _) hm fun i hi => ?_
  rw [cell_of_row _ _ _ _ _ _ (heap_alloc_new w _), Nat.zero_add, List.getElem?_toArray, getElem?_map_u8 l i hi]

theorem sums_seal (w : World) (hT : Tab w) (fr : Nat × Nat) : Calls Tryd.prog 13 #[.slice (some ⟨w.heap.size, 0, none⟩) 9 9] (w.alloc (.cells #[.int .u8 49, .int .u8 50, .int .u8 51, .int .u8 52, .int .u8 53, .int .u8 54, .int .u8 55, .int .u8 56, .int .u8 57] 5 fr)) fun e w' => e = .returned (.slice (some ⟨w.heap.size + 1, 0, none⟩) 13 13) ∧ Bs w' (.slice (some ⟨w.heap.size + 1, 0, none⟩) 13 13) (sealL digits9) ∧ Below w.heap.size w w' := by
  have hb := Bs.lit w digits9 digits9_byte (by decide) fr
  have hbl : Below w.heap.size w (w.alloc (.cells (digits9.map (Value.int .u8)).toArray 5 fr)) := (Below.refl _ _).alloc (Nat.le_refl _) _
  refine (Seal_any hb (hT.later hbl) (by decide)).mono ?_
  rintro e w' ⟨rfl, h1, h2⟩
  simp only [World.size_alloc] at h1 h2 ⊢
  exact ⟨rfl, h1, hbl.trans (h2.mono (by omega))⟩
theorem sums_open {w : World} {v : Value} (hv : Bs w v (sealL digits9)) (hT : Tab w) : Calls Tryd.prog 14 #[v] w fun e w' => e = .returned (.tuple #[.slice (some ⟨w.heap.size, 0, none⟩) 9 9, .int .i64 0]) ∧ Bs w' (.slice (some ⟨w.heap.size, 0, none⟩) 9 9) digits9 ∧ Below w.heap.size w w' := by
  have e1 : (sealL digits9).length = 13 := by rw [sealL_length]; rfl
  have e2 : (sealL digits9).take 9 = digits9 := by rw [seal9]; rfl
  refine (Open_long hv hT (by omega) (by omega)).mono ?_
  rw [e1]
  rintro e w' ⟨h | h, hb⟩
  · obtain ⟨_, rfl, h3⟩ := h
    rw [e2] at h3
    exact ⟨rfl, h3, hb⟩
  · exfalso
    exact h.1 (by rw [e2])
theorem sums_short (w : World) (fr : Nat × Nat) : Calls Tryd.prog 14 #[.slice (some ⟨w.heap.size, 0, none⟩) 3 3] (w.alloc (.cells #[.int .u8 97, .int .u8 98, .int .u8 99] 5 fr)) fun e w' => e = .returned (.tuple #[.slice none 0 0, .int .i64 2]) ∧ Below w.heap.size w w' := by
  have hb := Bs.lit w [97, 98, 99] (by unfold Byte; decide) (by decide) fr
  refine (Open_short hb (by decide)).mono ?_
  rintro e w' ⟨rfl, rfl⟩
  exact ⟨rfl, (Below.refl _ _).alloc (Nat.le_refl _) _⟩
theorem sums_sum (w : World) (hT : Tab w) (f1 f2 : Nat × Nat) : Calls Tryd.prog 10 #[.slice (some ⟨w.heap.size + 2, 0, none⟩) 2 2] (((w.alloc (.cells #[.int .u8 49, .int .u8 50, .int .u8 51, .int .u8 52] 5 f1)).alloc (.cells #[.int .u8 53, .int .u8 54, .int .u8 55, .int .u8 56, .int .u8 57] 5 f2)).alloc (.cells #[.slice (some ⟨w.heap.size, 0, none⟩) 4 4, .slice (some ⟨w.heap.size + 1, 0, none⟩) 5 5] 24)) fun e w' => e = .returned (.int .u32 3421780262) ∧ Below w.heap.size w w' := by
  have h1 : Bs ((w.alloc (.cells #[.int .u8 49, .int .u8 50, .int .u8 51, .int .u8 52] 5 f1)).alloc (.cells #[.int .u8 53, .int .u8 54, .int .u8 55, .int .u8 56, .int .u8 57] 5 f2)) (.slice (some ⟨w.heap.size, 0, none⟩) 4 4) [49, 50, 51, 52] :=
    (Bs.lit w [49, 50, 51, 52] (by unfold Byte; decide) (by decide) f1).below ((Below.refl _ _).alloc (Nat.le_refl _) _)
  have h2 := Bs.lit (w.alloc (.cells #[.int .u8 49, .int .u8 50, .int .u8 51, .int .u8 52] 5 f1)) [53, 54, 55, 56, 57] (by unfold Byte; decide) (by decide) f2
  simp only [World.size_alloc] at h2
  have hb := BBs.lit [.slice (some ⟨w.heap.size, 0, none⟩) 4 4, .slice (some ⟨w.heap.size + 1, 0, none⟩) 5 5] [[49, 50, 51, 52], [53, 54, 55, 56, 57]] rfl (by simp [maxLen]) (fun i hi => match i, hi with
    | 0, _ => h1
    | 1, _ => h2)
  simp only [World.size_alloc] at hb
  have hbl : Below w.heap.size w (((w.alloc (.cells #[.int .u8 49, .int .u8 50, .int .u8 51, .int .u8 52] 5 f1)).alloc (.cells #[.int .u8 53, .int .u8 54, .int .u8 55, .int .u8 56, .int .u8 57] 5 f2)).alloc (.cells #[.slice (some ⟨w.heap.size, 0, none⟩) 4 4, .slice (some ⟨w.heap.size + 1, 0, none⟩) 5 5] 24)) :=
    (((Below.refl _ _).alloc (Nat.le_refl _) _).alloc (by simp) _).alloc (by simp; omega) _
  refine (Sum_any hb (hT.later hbl) (by decide) (fun i hi => match i, hi with
    | 0, _ => by decide
    | 1, _ => by decide)).mono ?_
  rintro e w' ⟨rfl, rfl⟩
  refine ⟨?_, hbl⟩
  have e9 : ([[49, 50, 51, 52], [53, 54, 55, 56, 57]] : List (List Int)).flatten = digits9 := rfl
  rw [e9, sum9]
  rfl

set_option maxHeartbeats 2000000 in
theorem sums_any (w : World) (hT : Tab w) : Calls Tryd.prog 9 #[] w fun e w' => e = .returned (.bool true) ∧ Below w.heap.size w w' := by
  have kc := fun (w : World) (C : Array Value) (n c : Nat) => Lib.run_convert_bytes_const (P := Tryd.prog) w 24 5 C n c Tryd.underlying24 Tryd.underlying5
  have kc2 : ∀ (w : World) (o : Obj) (C : Array Value) (n c : Nat), (convert 24 24 (.slice (some ⟨w.heap.size + 1, 0, none⟩) n c)).run Tryd.prog ((w.alloc o).alloc (.cells C 5)) = .ok (.slice (some ⟨w.heap.size + 1, 0, none⟩) n c) ((w.alloc o).alloc (.cells C 5 (C.size, C.size + 1))) := fun w o C n c => by
    have := kc (w.alloc o) C n c
    simpa only [World.size_alloc] using this
  have HT := hide hT
  clear hT
  go_enter Tryd.func9, Tryd.ntmps9
  go_wp2_with fail
  refine (sums_seal _ HT.out _).mono ?_
  rintro e w1 ⟨rfl, hB1, hb1⟩
  have HT1 := hide (HT.out.later hb1)
  generalize hg1 : w.heap.size + 1 = g1 at *
  clear hg1
  go_wp2_with fail
  refine (sums_open hB1 HT1.out).mono ?_
  rintro e w2 ⟨rfl, hO2, hb2⟩
  have HT2 := hide (HT1.out.later hb2)
  have hB2 := hB1.below hb2
  have hW2 := hide (hb1.trans (hb2.mono hb1.size))
  generalize hg2 : w1.heap.size = g2 at *
  clear hg2 hB1 hb1 hb2
  go_wp2_with fail
  refine (sums_short _ _).mono ?_
  rintro e w3 ⟨rfl, hb3⟩
  have HT3 := hide (HT2.out.later hb3)
  have hB3 := hB2.below hb3
  have hO3 := hO2.below hb3
  have hW3 := hide (hW2.out.trans (hb3.mono hW2.out.size))
  clear hB2 hO2 hb3
  go_wp2_with fail
  refine (sums_sum _ HT3.out _ _).mono ?_
  rintro e w4 ⟨rfl, hb4⟩
  have hB4 := hB3.below hb4
  have hO4 := hO3.below hb4
  have hW4 := hide (hW3.out.trans (hb4.mono hW3.out.size))
  have q4 : (convert 24 9 (.slice (some ⟨g2, 0, none⟩) 9 9)).run Tryd.prog w4 = .ok (.string ⟨#[49, 50, 51, 52, 53, 54, 55, 56, 57]⟩) w4 := conv_str 24 9 5 Tryd.underlying24 Tryd.underlying5 Tryd.underlying9 hO4
  have c9 : w4.cell? ⟨g1, 9, none⟩ = some (.int .u8 38) := by
    rw [seal9] at hB4
    obtain ⟨_, a, cap, e, _, _, _, h4⟩ := hB4
    simp only [Value.slice.injEq] at e
    obtain ⟨b, off, e', hc⟩ := h4 9 (by decide)
    rw [← e.1] at e'
    cases e'
    exact hc
  clear hB3 hO3 hb4 kc kc2 hB4 hO4
  go_wp2
  go_ret
  exact ⟨rfl, hW4.out⟩
end Go.Proofs.YtjoejbdgiepdcaaDoor
