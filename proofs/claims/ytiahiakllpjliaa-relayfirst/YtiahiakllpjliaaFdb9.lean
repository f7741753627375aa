/-
  Contract of fdb's All. Conditions: those that each theorem names.
-/
import Derived.Test.YtiahiakllpjliaaFdb8
import Derived.Lib.LazyBuf
namespace Go.Proofs.Ytiahiakllpjliaa
open Go.RowKit Go.Maps
set_option linter.unusedVariables false
set_option maxRecDepth 20000

/-- New memory, or nothing. -/
def FreshF (B : Nat) (v : Value) : Prop := ∀ b, v.ownBlock = some b → B ≤ b
theorem Sl.madeF {α : Type} {w : World} (e : TypeId) (m : Nat) (f : α → List Value) : Sl (w.alloc (.cells #[] e)) (.slice (some ⟨w.heap.size, 0, none⟩) 0 0) e m f [] :=
  .inr ⟨w.heap.size, 0, [], rfl, heap_alloc_new w _, Nat.le_refl _, by simp [maxLen], by simp⟩
theorem Fl.cellsF {α : Type} {w : World} {b : Nat} {t : TypeId} {f : α → List Value} {l : List α} {sp : List Value} (h : Fl w b t f l sp) (j : Nat) (u : Value) (hj : (flat f l)[j]? = some u) : w.cell? ((⟨b, 0, none⟩ : Addr).add j) = some u := by
  rw [Addr.add_lit, Nat.zero_add, cell_of_row _ _ _ _ _ _ h]
  simp only [List.getElem?_toArray]
  rw [List.getElem?_append_left (List.getElem?_eq_some_iff.1 hj).1]
  exact hj
theorem below_grown {B b : Nat} {W w w' : World} (h : Below B W w) (hg : w.grownBy w' (some b)) (hb : B ≤ b) (hB : B ≤ w.heap.size) : Below B W w' :=
  h.trans ⟨hg.os, hg.tape, hg.output, hg.size, fun k hk => hg.block k (by omega) (fun e => by cases e; omega)⟩
theorem CloneFe_any {w : World} {v : Value} {l : List Fe} (h : Sl w v 46 9 fFe l) (hl : l.length ≤ 900000) :
    Calls Try.prog 44 #[v] w fun r w' => ∃ v', r = .returned v' ∧ Sl w' v' 46 9 fFe l ∧ Below w.heap.size w w' ∧ FreshF w.heap.size v' := by
  rcases h with ⟨rfl, rfl⟩ | ⟨b, cap, sp, rfl, h1, h2, h3, h4⟩
  · have hq := fun (w : World) => run_eql_slice_nil (P := Try.prog) w 43 46 none 0 0 Try.underlying43
    go_enter Try.func44, Try.ntmps44
    go_wp2
    go_ret
    exact ⟨_, rfl, Sl.nil _ _ _ _, Below.refl _ _, fun b e => by simp [Value.ownBlock] at e⟩
  · have hq := fun (w : World) => run_eql_slice_nil (P := Try.prog) w 43 46 (some ⟨b, 0, none⟩) l.length cap Try.underlying43
    have hA := below1 w (.cells #[] 46)
    have hS : Hid (Sl (w.alloc (.cells #[] 46)) (.slice (some ⟨w.heap.size, 0, none⟩) 0 0) 46 9 fFe []) := Sl.madeF _ _ _
    have hms := hide (h1.below hA).cellsF
    replace h1 := hide h1
    go_enter Try.func44, Try.ntmps44
    go_wp2_with (at_builtin; refine wpList_append_sl rfl (.tmp 5) (.tmp 6) rfl wide_Fe sty_Fe _ [] rfl hS.out ⟨b, 0, none⟩ l.length cap l rfl rfl hms.out (by simpa using Nat.le_trans hl (by omega)) (by omega) ?_; intro v' w' hv hg ho)
    obtain ⟨va, vc, rfl⟩ := hv.shape
    have hB : Hid (Below w.heap.size w w') := below_grown hA hg (Nat.le_refl _) (by rw [World.size_alloc]; omega)
    have hF : Hid (FreshF w.heap.size (.slice va ([] ++ l).length vc)) := fun b e => by
      rcases ho with e' | e'
      · rw [e'] at e; exact Nat.le_of_eq (Option.some.inj e)
      · rw [e'] at e; simp [World.size_alloc] at e; omega
    replace hv := hide hv
    clear hg ho hq hms hS
    go_wp2
    go_ret
    exact ⟨_, rfl, hv.out, hB.out, hF.out⟩
theorem All_any {w : World} {t : Nat} {v : Value} {room age lost : Int} {l : List Fe} (h : Ft w t v room age lost l) (hl : l.length ≤ 900000) :
    Calls Try.prog 21 #[.pointer (some ⟨t, 0, none⟩)] w fun r w' => ∃ v', r = .returned v' ∧ Sl w' v' 46 9 fFe l ∧ Below w.heap.size w w' ∧ FreshF w.heap.size v' := by
  obtain ⟨a, cap, rfl⟩ := h.sl.shape
  have c2 := h.c2
  have hC := hide (CloneFe_any h.sl hl)
  generalize hL : l.length = L at *
  replace hL := hide hL
  clear h
  go_enter Try.func21, Try.ntmps21
  go_wp2_with fail
  refine hC.out.mono ?_
  rintro _ w1 ⟨v', rfl, h1, h2, h3⟩
  obtain ⟨va, vc, rfl⟩ := h1.shape
  replace h1 := hide h1
  replace h2 := hide h2
  replace h3 := hide h3
  clear hC
  go_wp2
  go_ret
  exact ⟨_, rfl, h1.out, h2.out, h3.out⟩
end Go.Proofs.Ytiahiakllpjliaa
