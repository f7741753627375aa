/-
  A reader whose bytes lie below another block; contracts of bpdu.readPort and bpdu.readRoot. Conditions: those that each theorem names.
-/
import Derived.Test.YtmakaadmjgakaaaDoorBpK
namespace Go.Proofs.YtmakaadmjgakaaaDoor
open Go.RowKit
set_option linter.unusedVariables false

/-- A reader at block g, whose bytes lie below block B. -/
def RdB (w : World) (g B : Nat) (l : List Int) (err : Int) : Prop :=
  ∃ v, w.heap[g]? = some (.cells #[v, .int .i64 err] 103 (0, 0)) ∧ Bs w v l ∧ Bl B v
theorem RdB.lt {w : World} {g B : Nat} {l : List Int} {err : Int} (h : RdB w g B l err) : g < w.heap.size := by
  obtain ⟨v, hg, _⟩ := h
  exact (Array.getElem?_eq_some_iff.1 hg).1
theorem RdB.byte {w : World} {g B : Nat} {l : List Int} {err : Int} (h : RdB w g B l err) : Byte l := by
  obtain ⟨v, _, hb, _⟩ := h
  exact hb.byte
theorem RdB.set {w : World} {g B : Nat} {l : List Int} {err : Int} (h : RdB w g B l err) (hB : B < g) (i : Nat) (u : Value) : RdB (w.setCell ⟨B, i, none⟩ u) g B l err := by
  obtain ⟨v, hg, hb, hl⟩ := h
  refine ⟨v, ?_, hb.belowAt hl ((Below.refl _ _).setCell (p := ⟨B, i, none⟩) (Nat.le_refl _) _), hl⟩
  rw [Below.heap_setCell w ⟨B, i, none⟩ u g (by show g ≠ B; omega)]
  exact hg
theorem RdB.setRest {w : World} {g B : Nat} {l l' : List Int} {err : Int} (h : RdB w g B l err) (hB : B < g) (v' : Value) (h' : Bs w v' l') (hl : Bl B v') : RdB (w.setCell ⟨g, 0, none⟩ v') g B l' err := by
  obtain ⟨v, h1, h2, h3⟩ := h
  have hb : Below g w (w.setCell ⟨g, 0, none⟩ v') := (Below.refl _ _).setCell (p := ⟨g, 0, none⟩) (Nat.le_refl _) _
  refine ⟨v', ?_, h'.belowAt (hl.mono (by omega)) hb, hl⟩
  rw [heap_setCell_same w g 0 _ _ _ h1]
  rfl
theorem RNumber_okB {w : World} {g B : Nat} {l : List Int} (h : RdB w g B l 0) (hB : B < g) (k : Nat) (hm : l.length ≤ 1099511627776) (h1 : 1 ≤ k) (h8 : k ≤ 8) (hk : k ≤ l.length) :
    Calls Tryd.prog 63 #[.pointer (some ⟨g, 0, none⟩), .int .i64 k] w fun e w' => e = .returned (.int .u64 (num (l.take k))) ∧ RdB w' g B (l.drop k) 0 ∧ w'.heap[B]? = w.heap[B]? ∧ Below B w w' := by
  have HR := hide h
  obtain ⟨v, hg, h2, hbl⟩ := h
  have c1 := cell_of_row w g 1 _ _ _ hg
  have c0 := cell_of_row w g 0 _ _ _ hg
  have fz := frozen_of_row w g 0 _ _ hg
  simp at c1 c0
  clear hg
  have h2' := h2
  rcases h2'.cases with ⟨rfl, _⟩ | ⟨b, off, cap, rfl, _, h3, h4, hc⟩
  · simp at hk; omega
  · have hpiece := Bs.piece h2.byte h3 h4 hc k l.length hk (Nat.le_refl _)
    rw [List.take_of_length_le (by simp)] at hpiece
    have HP := hide hpiece
    clear hpiece h2'
    have HB := hide hbl
    clear hbl
    generalize hlen : l.length = len at *
    have HL := hide hlen
    clear hlen hc
    by_cases hck : cap = k
    · subst hck
      go_enter Tryd.func63, Tryd.ntmps63
      go_wp2_with (go_at_call 74; refine (Get_ok h2 0 cap (by omega) (by omega) (by omega) (by rw [HL.out]; omega) (by rw [HL.out]; omega)).mono ?_; rintro e w' ⟨rfl, rfl⟩)
      go_ret
      have e1 : l.drop cap = [] := List.drop_eq_nil_of_le (by rw [HL.out]; omega)
      rw [e1]
      have hs := HR.out.setRest (l' := []) hB (.slice (some ⟨b, off, none⟩) 0 0) (Bs.empty _ _ _ (by simp [maxLen]) (fun e => by cases e)) (fun a n c e hn => by cases e; omega)
      exact ⟨rfl, hs, Below.heap_setCell _ ⟨g, 0, none⟩ _ _ (by show B ≠ g; omega), (Below.refl _ _).setCell (p := ⟨g, 0, none⟩) (Nat.le_of_lt hB) _⟩
    · have hck' : ((cap : Int) == (k : Int)) = false := by simp; omega
      go_enter Tryd.func63, Tryd.ntmps63
      go_wp2_with (go_at_call 74; refine (Get_ok h2 0 k (by omega) (by omega) (by omega) (by rw [HL.out]; omega) (by rw [HL.out]; omega)).mono ?_; rintro e w' ⟨rfl, rfl⟩)
      go_ret
      have hs := HR.out.setRest hB _ HP.out (by
        intro a n c e hn
        cases e
        exact HB.out ⟨b, off, none⟩ _ _ rfl (by omega))
      exact ⟨rfl, hs, Below.heap_setCell _ ⟨g, 0, none⟩ _ _ (by show B ≠ g; omega), (Below.refl _ _).setCell (p := ⟨g, 0, none⟩) (Nat.le_of_lt hB) _⟩

/-- A bit of a number. -/
def bitB (n : Int) (k : Nat) : Bool := n / 2 ^ k % 2 == 1
theorem Bit_at (n : Int) (k : Nat) (w : World) (h0 : 0 ≤ n) (hn : n < 18446744073709551616) (hk : k < 64) :
    Calls Tryd.prog 67 #[.int .u64 n, .int .i64 k] w fun e w' => e = .returned (.bool (bitB n k)) ∧ w' = w := Bit_in n k w h0 hn hk
/-- What a Rapid message's flags tell beyond. -/
@[reducible] def Bp.ported (b : Bp) (f : Int) : Bp := { b with proposal := bitB f 1, role := f / 4 % 4, learning := bitB f 4, forwarding := bitB f 5, agreement := bitB f 6 }
theorem readPort_any {w : World} {B : Nat} {b : Bp} (hk : w.heap[B]? = some (.cells b.row 41 (0, 0))) (f : Int) (h0 : 0 ≤ f) (h1 : f ≤ 255) :
    Calls Tryd.prog 45 #[.pointer (some ⟨B, 0, none⟩), .int .u64 f] w fun e w' => e = .returned (.tuple #[]) ∧ w'.heap[B]? = some (.cells (b.ported f).row 41 (0, 0)) ∧ Below B w w' := by
  obtain ⟨R, hR⟩ : ∃ R, R = f / 4 % 4 := ⟨_, rfl⟩
  obtain ⟨b1, hb1⟩ : ∃ x, x = bitB f 1 := ⟨_, rfl⟩
  obtain ⟨b4, hb4⟩ : ∃ x, x = bitB f 4 := ⟨_, rfl⟩
  obtain ⟨b5, hb5⟩ : ∃ x, x = bitB f 5 := ⟨_, rfl⟩
  obtain ⟨b6, hb6⟩ : ∃ x, x = bitB f 6 := ⟨_, rfl⟩
  have r0 : 0 ≤ R := by omega
  have r1 : R ≤ 3 := by omega
  have hH : Hid (b.ported f = { b with proposal := b1, role := R, learning := b4, forwarding := b5, agreement := b6 }) := by
    show b.ported f = _
    rw [hR, hb1, hb4, hb5, hb6]
  have t1 : Hid (∀ w, Calls Tryd.prog 67 #[.int .u64 f, .int .i64 1] w fun e w' => e = .returned (.bool b1) ∧ w' = w) := fun w => by rw [hb1]; exact Bit_at f 1 w h0 (by omega) (by decide)
  have t2 : Hid (∀ w, Calls Tryd.prog 68 #[.int .u64 f, .int .i64 2, .int .i64 4] w fun e w' => e = .returned (.int .u64 R) ∧ w' = w) := fun w => by
    have := Bits_in f 2 4 w h0 (by omega) (by decide) (by decide)
    rwa [show f / 2 ^ 2 % 2 ^ (4 - 2) = R by rw [hR]; rfl] at this
  have t4 : Hid (∀ w, Calls Tryd.prog 67 #[.int .u64 f, .int .i64 4] w fun e w' => e = .returned (.bool b4) ∧ w' = w) := fun w => by rw [hb4]; exact Bit_at f 4 w h0 (by omega) (by decide)
  have t5 : Hid (∀ w, Calls Tryd.prog 67 #[.int .u64 f, .int .i64 5] w fun e w' => e = .returned (.bool b5) ∧ w' = w) := fun w => by rw [hb5]; exact Bit_at f 5 w h0 (by omega) (by decide)
  have t6 : Hid (∀ w, Calls Tryd.prog 67 #[.int .u64 f, .int .i64 6] w fun e w' => e = .returned (.bool b6) ∧ w' = w) := fun w => by rw [hb6]; exact Bit_at f 6 w h0 (by omega) (by decide)
  clear hR hb1 hb4 hb5 hb6
  generalize b.ported f = H at *
  have f7 := frozen_of_row w B 7 _ _ hk
  have f8 := frozen_of_row w B 8 _ _ hk
  have f9 := frozen_of_row w B 9 _ _ hk
  have f10 := frozen_of_row w B 10 _ _ hk
  have f11 := frozen_of_row w B 11 _ _ hk
  have c7 : w.cell? ⟨B, 7, none⟩ = some (.bool b.proposal) := by rw [cell_of_row _ _ _ _ _ _ hk]; rfl
  have c8 : w.cell? ⟨B, 8, none⟩ = some (.bool b.agreement) := by rw [cell_of_row _ _ _ _ _ _ hk]; rfl
  have c9 : w.cell? ⟨B, 9, none⟩ = some (.bool b.learning) := by rw [cell_of_row _ _ _ _ _ _ hk]; rfl
  have c10 : w.cell? ⟨B, 10, none⟩ = some (.bool b.forwarding) := by rw [cell_of_row _ _ _ _ _ _ hk]; rfl
  have c11 : w.cell? ⟨B, 11, none⟩ = some (.int .i64 b.role) := by rw [cell_of_row _ _ _ _ _ _ hk]; rfl
  have HK := hide hk
  clear hk
  go_enter Tryd.func45, Tryd.ntmps45
  go_wp2_with fail
  refine (t1.out _).mono ?_
  rintro e w1 ⟨rfl, rfl⟩
  go_wp2_with fail
  refine (t2.out _).mono ?_
  rintro e w1 ⟨rfl, rfl⟩
  go_wp2_with fail
  refine (t4.out _).mono ?_
  rintro e w1 ⟨rfl, rfl⟩
  go_wp2_with fail
  refine (t5.out _).mono ?_
  rintro e w1 ⟨rfl, rfl⟩
  go_wp2_with fail
  refine (t6.out _).mono ?_
  rintro e w1 ⟨rfl, rfl⟩
  go_wp2_with fail
  go_end0
  have k1 := heap_setCell_same _ B 7 _ _ (.bool b1) HK.out
  have k2 := heap_setCell_same _ B 11 _ _ (.int .i64 R) k1
  have k3 := heap_setCell_same _ B 9 _ _ (.bool b4) k2
  have k4 := heap_setCell_same _ B 10 _ _ (.bool b5) k3
  have k5 := heap_setCell_same _ B 8 _ _ (.bool b6) k4
  refine ⟨rfl, ?_, ?_⟩
  · rw [k5, hH.out]; rfl
  · exact (((((Below.refl _ _).setCell (p := ⟨B, 7, none⟩) (Nat.le_refl _) _).setCell (p := ⟨B, 11, none⟩) (Nat.le_refl _) _).setCell (p := ⟨B, 9, none⟩) (Nat.le_refl _) _).setCell (p := ⟨B, 10, none⟩) (Nat.le_refl _) _).setCell (p := ⟨B, 8, none⟩) (Nat.le_refl _) _
end Go.Proofs.YtmakaadmjgakaaaDoor
