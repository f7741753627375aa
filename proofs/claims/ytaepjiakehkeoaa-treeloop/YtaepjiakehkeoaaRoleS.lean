/-
  Contracts of role.Name and of the head of layer 9's statements (selects). Conditions: those that each theorem names.
-/
import Derived.Test.YtaepjiakehkeoaaRole2
namespace Go.Proofs.Ytaepjiakehkeoaa
open Go.RowKit
set_option linter.unusedVariables false
set_option maxRecDepth 20000

def nameS (n : Int) : ByteArray := if n = 0 then { data := #[100, 105, 115, 97, 98, 108, 101, 100] } else if n = 1 then { data := #[114, 111, 111, 116] } else if n = 2 then { data := #[100, 101, 115, 105, 103, 110, 97, 116, 101, 100] } else if n = 3 then { data := #[97, 108, 116, 101, 114, 110, 97, 116, 101] } else if n = 4 then { data := #[98, 97, 99, 107, 117, 112] } else { data := #[] }
theorem Name_any (n : Int) (w : World) : Calls Try.prog 23 #[.int .i64 n] w fun r w' => r = .returned (.string (nameS n)) ∧ w' = w := by
  go_enter Try.func23, Try.ntmps23
  by_cases h0 : n = 0
  · subst h0
    go_wp2
    go_ret
    exact ⟨rfl, rfl⟩
  by_cases h1 : n = 1
  · subst h1
    go_wp2
    go_ret
    exact ⟨rfl, rfl⟩
  by_cases h2 : n = 2
  · subst h2
    go_wp2
    go_ret
    exact ⟨rfl, rfl⟩
  by_cases h3 : n = 3
  · subst h3
    go_wp2
    go_ret
    exact ⟨rfl, rfl⟩
  by_cases h4 : n = 4
  · subst h4
    go_wp2
    go_ret
    exact ⟨rfl, rfl⟩
  have hE : Hid (nameS n = { data := #[] }) := by
    show nameS n = _
    unfold nameS
    rw [if_neg h0, if_neg h1, if_neg h2, if_neg h3, if_neg h4]
  go_wp2
  go_ret
  exact ⟨by rw [hE.out]; rfl, rfl⟩
@[reducible] def selP : List Rp := [⟨1, 10, true, false, Vc.zero⟩, ⟨2, 10, true, true, ⟨3, 0, 3, 7⟩⟩, ⟨3, 0, false, false, Vc.zero⟩]
theorem selects_ok (w : World) : Calls Try.prog 18 #[] w fun r w' => r = .returned (.bool true) ∧ Below w.heap.size w w' := by
  go_enter Try.func18, Try.ntmps18
  go_wp2_with fail
  refine (Own_any 3 7 _).mono ?_
  rintro e w1 ⟨rfl, hb1⟩
  go_wp2_with fail
  have hN := heap_alloc_new w1 (.cells (flat (fun p : Rp => p.row.toList) selP).toArray 38)
  have hb2 := hide (hb1.later (below1 w1 (.cells (flat (fun p : Rp => p.row.toList) selP).toArray 38)))
  have hI : Hid (Rps (w1.alloc (.cells (flat (fun p : Rp => p.row.toList) selP).toArray 38)) (some ⟨w1.heap.size, 0, none⟩) 3 selP) := by
    refine ⟨rfl, fun i hi => ⟨w1.heap.size, 0, rfl, ?_, ?_⟩⟩
    · have hc : ∀ k, (w1.alloc (.cells (flat (fun p : Rp => p.row.toList) selP).toArray 38)).cell? ⟨w1.heap.size, k, none⟩ = (flat (fun p : Rp => p.row.toList) selP).toArray[k]? := fun k => cell_of_row _ _ _ _ _ _ hN
      rcases (show i = 0 ∨ i = 1 ∨ i = 2 by omega) with rfl | rfl | rfl
      all_goals exact ⟨hc _, hc _, hc _, hc _, hc _, hc _, hc _, hc _⟩
    · rcases (show i = 0 ∨ i = 1 ∨ i = 2 by omega) with rfl | rfl | rfl
      all_goals exact ⟨by simp [I64], by simp [U64], ⟨by simp [U64], by simp [U64], by simp [U64], by simp [I64]⟩⟩
  refine (Select_any 5 _ 3 3 selP _ (by omega) hI).mono ?_
  rintro e w2 ⟨ib, vb, rfl, hb3, hle1, hle2, hne, hi, hv⟩
  have hR : rolesL 5 selP = [2, 1, 0] := by decide
  have hT : (tellsL 5 selP).getD 0 Vc.zero = ⟨3, 10, 5, 1⟩ := by decide
  have hTl : (tellsL 5 selP).length = 3 := by decide
  have hY : bestW 5 selP 3 = ⟨⟨3, 10, 3, 7⟩, 1, 2⟩ := by decide
  rw [hR] at hi
  rw [hY]
  have hi0 : ∀ k, k < 3 → w2.cell? ⟨ib, k, none⟩ = some (.int .i64 ([2, 1, 0].getD k 0)) := fun k hk => by simpa using hi.cell wide_I 0 k 0 hk (by omega)
  have hv0 : ∀ k, k < 4 → w2.cell? ⟨vb, k, none⟩ = (fV ⟨3, 10, 5, 1⟩)[k]? := fun k hk => by
    have := hv.cell wide_V Vc.zero 0 k (by rw [hTl]; omega) hk
    rw [hT] at this
    simpa using this
  have hb4 := hide (hb2.out.later hb3)
  have i0 := hi0 0 (by omega)
  have i1 := hi0 1 (by omega)
  have i2 := hi0 2 (by omega)
  have v0 := hv0 0 (by omega)
  have v1 := hv0 1 (by omega)
  have v2 := hv0 2 (by omega)
  have v3 := hv0 3 (by omega)
  simp only [List.getD_cons_zero, List.getD_cons_succ, List.getElem?_cons_zero, List.getElem?_cons_succ] at i0 i1 i2 v0 v1 v2 v3
  have hil := hi.lt
  have hvl := hv.lt
  have hE1 : ∀ w, (binOp .eql 26 (.agg (Vc.row ⟨3, 10, 3, 7⟩)) (.agg (Vc.row ⟨3, 10, 3, 7⟩))).run Try.prog w = .ok (.bool true) w := fun w => by rw [vec_eql _ _ ⟨by simp [U64], by simp [U64], by simp [U64], by simp [I64]⟩ ⟨by simp [U64], by simp [U64], by simp [U64], by simp [I64]⟩]; rfl
  have hE2 : ∀ w, (binOp .eql 26 (.agg (Vc.row ⟨3, 10, 5, 1⟩)) (.agg (Vc.row ⟨3, 10, 5, 1⟩))).run Try.prog w = .ok (.bool true) w := fun w => by rw [vec_eql _ _ ⟨by simp [U64], by simp [U64], by simp [U64], by simp [I64]⟩ ⟨by simp [U64], by simp [U64], by simp [U64], by simp [I64]⟩]; rfl
  clear hi hv hi0 hv0 hb3 hI hN hR hT hTl hY hb1 hb2
  have hN4 := hide (fun w => Name_any 4 w)
  have hN5 := hide (fun w => Name_any 5 w)
  rw [show nameS 4 = { data := #[98, 97, 99, 107, 117, 112] } from rfl] at hN4
  rw [show nameS 5 = { data := #[] } from rfl] at hN5
  have hb5 := hide (hb4.out.later (below1 w2 (.cells (rolesRow ⟨3, 10, 3, 7⟩ 1 (.slice (some ⟨ib, 0, none⟩) 3 3) (.slice (some ⟨vb, 0, none⟩) 3 3)) 30)))
  go_wp2_with fail
  refine (hN4.out _).mono ?_
  rintro e w3 ⟨rfl, rfl⟩
  go_wp2_with fail
  refine (hN5.out _).mono ?_
  rintro e w3 ⟨rfl, rfl⟩
  go_wp2
  go_ret
  exact ⟨rfl, hb5.out⟩
end Go.Proofs.Ytaepjiakehkeoaa
