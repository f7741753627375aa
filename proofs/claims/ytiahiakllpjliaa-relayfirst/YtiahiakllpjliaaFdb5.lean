/-
  A table of stations in memory ('Ft'); contracts of forget, Sweep, Flush, Lost, New. Conditions: those that each theorem names.
-/
import Derived.Test.YtiahiakllpjliaaFdb4
import Derived.Lib.MinMax
namespace Go.Proofs.Ytiahiakllpjliaa
open Go.RowKit Go.Maps
set_option linter.unusedVariables false
set_option maxRecDepth 20000

structure Ft (w : World) (t : Nat) (v : Value) (room age lost : Int) (l : List Fe) : Prop where
  row : w.heap[t]? = some (.cells #[.int .i64 room, .int .i64 age, v, .int .i64 lost] 91 (0, 0))
  sl : Sl w v 46 9 fFe l
  ne : v.ownBlock ≠ some t
def Ft.foot (t : Nat) (v : Value) (k : Nat) : Prop := k = t ∨ v.ownBlock = some k
section
variable {w : World} {t : Nat} {v : Value} {room age lost : Int} {l : List Fe}
theorem Ft.lt (h : Ft w t v room age lost l) : t < w.heap.size := (Array.getElem?_eq_some_iff.1 h.row).1
theorem Ft.ltk (h : Ft w t v room age lost l) (k : Nat) (hk : Ft.foot t v k) : k < w.heap.size := by
  rcases hk with rfl | e
  · exact h.lt
  · exact h.sl.lt e
theorem Ft.blk (h : Ft w t v room age lost l) {w' : World} (hb : ∀ k, Ft.foot t v k → w'.heap[k]? = w.heap[k]?) : Ft w' t v room age lost l :=
  ⟨by rw [hb t (.inl rfl)]; exact h.row, h.sl.blk fun b e => hb b (.inr e), h.ne⟩
theorem Ft.below (h : Ft w t v room age lost l) {w' : World} (hb : Below w.heap.size w w') : Ft w' t v room age lost l := h.blk fun k hk => hb.block k (h.ltk k hk)
theorem Ft.c0 (h : Ft w t v room age lost l) : w.cell? ⟨t, 0, none⟩ = some (.int .i64 room) := cell_of_row _ _ _ _ _ _ h.row
theorem Ft.c1 (h : Ft w t v room age lost l) : w.cell? ⟨t, 1, none⟩ = some (.int .i64 age) := cell_of_row _ _ _ _ _ _ h.row
theorem Ft.c2 (h : Ft w t v room age lost l) : w.cell? ⟨t, 2, none⟩ = some v := cell_of_row _ _ _ _ _ _ h.row
theorem Ft.c3 (h : Ft w t v room age lost l) : w.cell? ⟨t, 3, none⟩ = some (.int .i64 lost) := cell_of_row _ _ _ _ _ _ h.row
theorem Ft.fz (h : Ft w t v room age lost l) (o : Nat) : w.frozen? ⟨t, o, none⟩ = false := by simp [World.frozen?, h.row]
theorem Lost_any (h : Ft w t v room age lost l) : Calls Try.prog 20 #[.pointer (some ⟨t, 0, none⟩)] w fun r w' => r = .returned (.int .i64 lost) ∧ w' = w := by
  have c3 := h.c3
  clear h
  go_enter Try.func20, Try.ntmps20
  go_wp2
  go_ret
  exact ⟨rfl, rfl⟩
/-- Behind a forgetting: the table of those that aren't told. -/
theorem forget_any {B : Nat} {F : FuncId} {caps : Array Value} {p : Fe → Bool} {ok : Fe → Prop} (h : Ft w t v room age lost l) (hl : l.length ≤ 100000) (hok : ∀ e ∈ l, ok e) (hc : Hid (Cls B w F caps p ok)) (hgo : ∀ (args : Array Value) (w : World), (callFunc F args).run Try.prog w = .ok (.enter F args) w)
    (hB : ∀ k, Ft.foot t v k → k < B) :
    Calls Try.prog 38 #[.pointer (some ⟨t, 0, none⟩), .func (.func F) #[] caps] w fun r w' => r = .returned (.int .i64 ((l.length : Int) - (l.filter (fun e => !p e)).length)) ∧ ∃ v', Ft w' t v' room age lost (l.filter (fun e => !p e)) ∧ v'.ownBlock = v.ownBlock ∧ Ch (Ft.foot t v) w w' := by
  obtain ⟨a, cap, rfl⟩ := h.sl.shape
  have hD := hide (Delete_any h.sl hl hok hc hgo (fun b e => hB b (.inr e)))
  have c2 := h.c2
  have hh := hide h
  have hfl : (l.filter (fun e => !p e)).length ≤ l.length := List.length_filter_le _ _
  clear h
  go_enter Try.func38, Try.ntmps38
  go_wp2_with fail
  refine hD.out.mono ?_
  rintro _ w1 ⟨v', rfl, hS1, ho, hC1⟩
  obtain ⟨a', cap', rfl⟩ := hS1.shape
  have hk : w1.heap[t]? = w.heap[t]? := hC1.block t hh.out.lt (fun e => hh.out.ne e)
  have hrow1 : w1.heap[t]? = _ := hk.trans hh.out.row
  have z2 : w1.frozen? ⟨t, 2, none⟩ = false := by simp [World.frozen?, hrow1]
  have d2 : w1.cell? ⟨t, 2, none⟩ = some (.slice a l.length cap) := cell_of_row _ _ _ _ _ _ hrow1
  have hne : (Value.slice a' (l.filter (fun e => !p e)).length cap').ownBlock ≠ some t := by rw [ho]; exact hh.out.ne
  have hF : Hid (Ft (w1.setCell ⟨t, 2, none⟩ (.slice a' (l.filter (fun e => !p e)).length cap')) t (.slice a' (l.filter (fun e => !p e)).length cap') room age lost (l.filter (fun e => !p e))) :=
    ⟨by rw [heap_setCell_same _ _ _ _ _ _ hrow1]; simp, hS1.blk fun b e => heap_setCell_other w1 ⟨t, 2, none⟩ b _ (fun e' => hne (by rw [e]; exact congrArg some e')), hne⟩
  have hCf : Hid (Ch (Ft.foot t (.slice a l.length cap)) w (w1.setCell ⟨t, 2, none⟩ (.slice a' (l.filter (fun e => !p e)).length cap'))) :=
    (hC1.mono (fun k e => .inr e)).trans ⟨rfl, rfl, rfl, by simp [World.setCell], fun k _ hk => heap_setCell_other w1 ⟨t, 2, none⟩ k _ (fun e => hk (.inl e))⟩
  replace ho := hide ho
  clear hD hh hS1 hC1 hk hrow1 hne c2
  generalize hn : (l.filter (fun e => !p e)).length = n at *
  replace hn := hide hn
  generalize hL : l.length = L at *
  replace hL := hide hL
  go_wp2
  go_ret
  exact ⟨by rw [hn.out, hL.out]; rfl, _, hF.out, by rw [hL.out]; exact ho.out, by rw [hL.out]; exact hCf.out⟩
end
theorem go_at (args : Array Value) (w : World) : (callFunc 65 args).run Try.prog w = .ok (.enter 65 args) w := by
  simp [callFunc, go_sem, Try.func65]
  rfl
end Go.Proofs.Ytiahiakllpjliaa
