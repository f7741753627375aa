/-
  The contract of the statements' own 'ports'. Conditions: those that each theorem names.
-/
import Derived.Test.YtaepjiakehkeoaaTree23
namespace Go.Proofs.Ytaepjiakehkeoaa
open Go.RowKit
set_option linter.unusedVariables false
set_option maxRecDepth 20000

def portP (id : Int) : Tp := ⟨⟨id, 10, false, false, Vc.zero⟩, false, 0, 0, 0, 0, 0, 0, false⟩
/-- Numbers in a row. -/
def Ins (w : World) (a : Option Addr) (n : Nat) (l : List Int) : Prop := l.length = n ∧ ∀ i, i < n → ∃ b off, a = some ⟨b, off, none⟩ ∧ w.cell? ⟨b, off + i, none⟩ = some (.int .i64 (l.getD i 0))
theorem Ins.below {w w' : World} {a : Option Addr} {n : Nat} {l : List Int} (h : Ins w a n l) (hb : Below w.heap.size w w') : Ins w' a n l := by
  refine ⟨h.1, fun i hi => ?_⟩
  obtain ⟨b, off, e, hc⟩ := h.2 i hi
  exact ⟨b, off, e, ((bcell hb).1 _ _ (block_lt_of_cell hc)).trans hc⟩
theorem Fl.ins {w : World} {b : Nat} {t : TypeId} {l : List Int} {sp : List Value} (h : Fl w b t fI l sp) : Ins w (some ⟨b, 0, none⟩) l.length l := by
  refine ⟨rfl, fun i hi => ⟨b, 0, rfl, ?_⟩⟩
  have := h.cell wide_I 0 i 0 hi (by omega)
  rw [Nat.mul_one, Nat.add_zero] at this
  rw [Nat.zero_add, this]
  rfl
theorem Sl.ins {w : World} {v : Value} {t : TypeId} {l : List Int} (h : Sl w v t 1 fI l) : ∃ a cap, v = .slice a l.length cap ∧ Ins w a l.length l := by
  rcases h with ⟨rfl, rfl⟩ | ⟨b, cap, sp, rfl, h1, h2, h3, h4⟩
  · exact ⟨none, 0, rfl, rfl, fun i hi => by simp at hi⟩
  · exact ⟨_, cap, rfl, h1.ins⟩
theorem take_pushI {α : Type} (l : List α) (j : Nat) (d : α) (hj : j < l.length) : l.take j ++ [l.getD j d] = l.take (j + 1) := by
  rw [List.take_add_one, List.getElem?_eq_getElem hj]
  simp [hj]
theorem ports_any (a : Option Addr) (n cap : Nat) (l : List Int) (w : World) (hn : n ≤ 1000) (hI : Hid (Ins w a n l)) :
    Calls Try.prog 36 #[.slice a n cap] w fun r w' => ∃ v', r = .returned v' ∧ Sl w' v' 50 16 fT (l.map portP) ∧ Below w.heap.size w w' ∧ Fresh w.heap.size v' := by
  go_enter Try.func36, Try.ntmps36
  go_wp2_with fail
  go_loopw [8, 3] (fun i v wr => ∃ j : Nat, j ≤ n ∧ i = .int .i64 j ∧ Hid (Below w.heap.size w wr) ∧ Hid (Sl wr v 50 16 fT ((l.take j).map portP)) ∧ Hid (Fresh w.heap.size v)) (fun i _ _ => n - (intOf i).toNat)
  case atStart => exact ⟨0, Nat.zero_le _, rfl, hide (Below.refl _ _), by rw [List.take_zero]; exact Sl.nil _ _ _ _, fun x e => by simp [Value.ownBlock] at e⟩
  case round =>
    obtain ⟨j, hj, rfl, hB, hS, hO⟩ := hrel
    by_cases hlt : j < n
    · obtain ⟨bb, off, rfl, hP⟩ := (hI.out.below hB.out).2 j hlt
      have hTk : Hid ((l.take j).map portP ++ [portP (l.getD j 0)] = (l.take (j + 1)).map portP) := by show _ = _; rw [← take_pushI l j 0 (by rw [hI.out.1]; exact hlt), List.map_append]; rfl
      have hll : ((l.take j).map portP).length ≤ 1000 := by rw [List.length_map, List.length_take]; omega
      generalize hT1 : (l.take (j + 1)).map portP = lt1 at *
      generalize (l.take j).map portP = lt at *
      replace hT1 := hide hT1
      have hq : Hid (portP (l.getD j 0) = ⟨⟨l.getD j 0, 10, false, false, ⟨0, 0, 0, 0⟩⟩, false, 0, 0, 0, 0, 0, 0, false⟩) := rfl
      generalize portP (l.getD j 0) = q at *
      generalize l.getD j 0 = pid at *
      have hbA : Hid (Below wr.heap.size wr (wr.alloc (.cells (fT ⟨⟨pid, 10, false, false, ⟨0, 0, 0, 0⟩⟩, false, 0, 0, 0, 0, 0, 0, false⟩).toArray 50))) := below1 _ _
      have hSk : Hid ((wr.alloc (.cells (fT ⟨⟨pid, 10, false, false, ⟨0, 0, 0, 0⟩⟩, false, 0, 0, 0, 0, 0, 0, false⟩).toArray 50)).heap[wr.heap.size]? = some (.cells (fT ⟨⟨pid, 10, false, false, ⟨0, 0, 0, 0⟩⟩, false, 0, 0, 0, 0, 0, 0, false⟩).toArray 50)) := heap_alloc_new _ _
      go_wp2_with (at_builtin; refine unhB ?_)
      have hS3 := hide (hS.out.below hbA.out)
      have hB3 := hide (hB.out.later hbA.out)
      have hs3 : Hid (w.heap.size ≤ (wr.alloc (.cells (fT ⟨⟨pid, 10, false, false, ⟨0, 0, 0, 0⟩⟩, false, 0, 0, 0, 0, 0, 0, false⟩).toArray 50)).heap.size) := hB3.out.size
      clear hP hB hS hbA
      generalize wr.alloc (.cells (fT ⟨⟨pid, 10, false, false, ⟨0, 0, 0, 0⟩⟩, false, 0, 0, 0, 0, 0, 0, false⟩).toArray 50) = w3 at *
      refine hide ?_
      refine wpList_append_sl rfl (.tmp 12) (.tmp 16) rfl wide_T sty_T u3 lt rfl hS3.out ⟨wr.heap.size, 0, none⟩ 1 1 [q] rfl rfl (fun x u hx => ?_) (by simp; omega) (by omega) ?_
      · rw [Addr.add_lit, cell_of_row _ _ _ _ _ _ hSk.out, ← hx, hq.out]
        simp [flat]
      intro v4 w4 hS4 hg4 ho4
      rw [hTk.out] at hS4
      have hB4 : Hid (Below w.heap.size w w4) := grown_below hg4 hB3.out hs3.out hO.out
      have hO4 : Hid (Fresh w.heap.size v4) := fun x e => by
        rcases ho4 with e1 | e1
        · rw [e1] at e; exact hO.out x e
        · rw [e1] at e; have e2 : w3.heap.size = x := Option.some.inj e; have := hs3.out; omega
      replace hS4 := hide hS4
      obtain ⟨av, cv, rfl⟩ := hS4.out.shape
      clear hg4 ho4 hS3 hB3 hSk hs3 hTk
      generalize hln : lt1.length = ltn at *
      replace hln := hide hln
      go_wp2
      go_round
      case rel => exact ⟨j + 1, by omega, by go_num, hB4, by rw [hT1.out]; exact hS4, hO4⟩
      case measure => simp [intOf]; omega
    · obtain rfl : n = j := by omega
      have hfull : Hid (Sl wr u3 50 16 fT (l.map portP)) := by
        have h1 := hS.out; rw [List.take_of_length_le (by rw [hI.out.1]; omega)] at h1; exact h1
      clear hS
      go_wp2
      go_ret
      exact ⟨_, rfl, hfull.out, hB.out, hO.out⟩
end Go.Proofs.Ytaepjiakehkeoaa
