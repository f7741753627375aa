/-
  The head of layer 6's statements ('keeps'): it answers true, and writes nothing that was there. Conditions: none.
-/
import Derived.Test.YtbdolfnnohdmhaaStrB
namespace Go.Proofs.Ytbdolfnnohdmhaa
open Go.RowKit

theorem Bs.litP (w : World) (l : List Int) (hb : Byte l) (hm : l.length ≤ maxLen) (fr : Nat × Nat) : Bs (w.alloc (.cells (l.map (Value.int .u8)).toArray 5 fr)) (.slice (some ⟨w.heap.size, 0, none⟩) l.length l.length) l := by
  refine Bs.mk_at hb (Nat.le_refl _) hm fun i hi => ?_
  rw [Nat.zero_add, cell_of_row _ _ _ _ _ _ (heap_alloc_new w _), List.getElem?_toArray, getElem?_map_u8 l i hi]
set_option maxHeartbeats 2000000 in
theorem keeps_any (w : World) : Calls Try.prog 21 #[] w fun r w' => r = .returned (.bool true) ∧ Below w.heap.size w w' := by
  have kc := fun (w : World) (C : Array Value) (n c : Nat) => Lib.run_convert_bytes_const (P := Try.prog) w 42 5 C n c Try.underlying42 Try.underlying5
  go_enter Try.func21, Try.ntmps21
  go_wp2_with fail
  refine (New_at 1 1 w (by decide)).mono ?_
  rintro e w1 ⟨rfl, hP1, hb1⟩
  have HP1 := hide hP1
  have HB1 := hide hb1
  clear hP1 hb1
  go_wp2_with fail
  have hP2 := HP1.out.below ((Below.refl _ _).alloc (Nat.le_refl _) (.cells #[.int .u8 97, .int .u8 98] 5 (2, 3)))
  have hB2 := HB1.out.alloc HB1.out.size (.cells #[.int .u8 97, .int .u8 98] 5 (2, 3))
  have hL : Bs (w1.alloc (.cells #[.int .u8 97, .int .u8 98] 5 (2, 3))) (.slice (some ⟨w1.heap.size, 0, none⟩) 2 2) [97, 98] := Bs.litP w1 [97, 98] (by intro z hz; simp at hz; omega) (by simp [maxLen]) (2, 3)
  refine (Take_at hP2 _ [97, 98] hL (by simp) 0 (by simp) (by simp) (by simp)).mono ?_
  rintro e w2 ⟨rfl, v, hP3, hbut3, _⟩
  have HP3 : Hid (Pl w2 (w.heap.size + 1) w.heap.size [⟨v, [97, 98], 1⟩]) := hP3
  have HB3 := hide (But.below hB2 hbut3 (Nat.le_refl _) hB2.size)
  clear HP1 HB1 hP2 hB2 hL hP3 hbut3
  go_wp2_with fail
  have hP4 := HP3.out.below ((Below.refl _ _).alloc (Nat.le_refl _) (.cells #[.int .u8 99] 5 (1, 2)))
  have HB4 := hide (HB3.out.alloc HB3.out.size (.cells #[.int .u8 99] 5 (1, 2)))
  have HP4 := hide hP4
  clear hP4 HP3 HB3
  generalize w2.alloc (.cells #[.int .u8 99] 5 (1, 2)) = w4 at *
  refine (Take_full HP4.out _ (by intro t ht; have h0 : t = 0 := (by simpa using ht); subst h0; exact Nat.one_pos)).mono ?_
  rintro e w4' ⟨rfl, rfl⟩
  go_wp2_with fail
  refine (Hold_yes HP4.out 0 rfl (by simp)).mono ?_
  rintro e w5 ⟨rfl, hP5, hbut5⟩
  have HP5 : Hid (Pl w5 (w.heap.size + 1) w.heap.size [⟨v, [97, 98], 2⟩]) := hP5
  have HB5 := hide (But.below HB4.out hbut5 (Nat.le_refl _) HB4.out.size)
  clear HP4 HB4 hP5 hbut5
  go_wp2_with fail
  refine (Holds_any HP5.out (by simp [sumH])).mono ?_
  rintro e w5' ⟨rfl, rfl⟩
  go_wp2_with fail
  refine (Drop_yes HP5.out 0 rfl (by simp)).mono ?_
  rintro e w6 ⟨rfl, hP6, hbut6⟩
  have HP6 : Hid (Pl w6 (w.heap.size + 1) w.heap.size [⟨v, [97, 98], 1⟩]) := hP6
  have HB6 := hide (But.below HB5.out hbut6 (Nat.le_refl _) HB5.out.size)
  clear HP5 HB5 hP6 hbut6
  go_wp2_with fail
  refine (Used_any HP6.out).mono ?_
  rintro e w6' ⟨rfl, rfl⟩
  go_wp2_with fail
  refine (Get_yes HP6.out 0 rfl (by simp)).mono ?_
  rintro e w7 ⟨v7, rfl, hO7, hb7⟩
  have hV7 : Bs w7 v7 [97, 98] := hO7.bs
  have HP7 := hide (HP6.out.below hb7)
  have HB7 := hide (HB6.out.trans (hb7.mono HB6.out.size))
  clear HP6 HB6 hO7 hb7
  have q7 : (convert 42 9 v7).run Try.prog w7 = .ok (.string ⟨#[97, 98]⟩) w7 := conv_str 42 9 5 Try.underlying42 Try.underlying5 Try.underlying9 hV7
  clear hV7 kc
  go_wp2_with fail
  refine (Size_any HP7.out 0).mono ?_
  rintro e w7' ⟨rfl, rfl⟩
  clear q7
  go_wp2_with fail
  refine (Drop_yes HP7.out 0 rfl (by simp)).mono ?_
  rintro e w8 ⟨rfl, hP8, hbut8⟩
  have HP8 : Hid (Pl w8 (w.heap.size + 1) w.heap.size [Pc.none]) := hP8
  have HB8 := hide (But.below HB7.out hbut8 (Nat.le_refl _) HB7.out.size)
  clear HP7 HB7 hP8 hbut8
  go_wp2_with fail
  refine (Drop_no HP8.out 0 rfl).mono ?_
  rintro e w8' ⟨rfl, rfl⟩
  go_wp2_with fail
  refine (Used_any HP8.out).mono ?_
  rintro e w8' ⟨rfl, rfl⟩
  go_wp2_with fail
  refine (Room_any HP8.out).mono ?_
  rintro e w8' ⟨rfl, rfl⟩
  go_wp2
  go_ret
  exact ⟨rfl, HB8.out⟩
end Go.Proofs.Ytbdolfnnohdmhaa
