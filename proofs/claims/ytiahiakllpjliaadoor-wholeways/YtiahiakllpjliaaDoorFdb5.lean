import Derived.Test.YtiahiakllpjliaaDoorFdb2
import Derived.Lib.MinMax
/-
  A table of stations in memory ('Ft'); contracts of forget, Sweep, Flush, Lost, New. Conditions: those that each theorem names.
-/
namespace Go.Proofs.YtiahiakllpjliaaDoor
open Go.RowKit Go.Maps
set_option linter.unusedVariables false
set_option maxRecDepth 20000

structure Ft (w : World) (t : Nat) (v : Value) (room age lost : Int) (l : List Fe) : Prop where
  row : w.heap[t]? = some (.cells #[.int .i64 room, .int .i64 age, v, .int .i64 lost] 88 (0, 0))
  sl : Sl w v 123 9 fFe l
  ne : v.ownBlock ≠ some t
def Ft.foot (t : Nat) (v : Value) (k : Nat) : Prop := k = t ∨ v.ownBlock = some k
section
variable {w : World} {t : Nat} {v : Value} {room age lost : Int} {l : List Fe}
theorem Ft.lt (h : Ft w t v room age lost l) : t < w.heap.size := (Array.getElem?_eq_some_iff.1 h.row).1
theorem Ft.ltk (h : Ft w t v room age lost l) (k : Nat) (hk : Ft.foot t v k) : k < w.heap.size := by
  rcases hk with rfl | e
  · exact h.lt
  · exact h.sl.lt e
theorem Ft.blk (h : Ft w t v room age lost l) {w' : World} (hb : ∀ k, Ft.foot t v k → w'.heap[k]? = w.heap[k]?) : Ft w' t v room age lost l :=
  ⟨by rw [hb t (.inl rfl)]; exact h.row, h.sl.blk fun b e => hb b (.inr e), h.ne⟩
theorem Ft.below (h : Ft w t v room age lost l) {w' : World} (hb : Below w.heap.size w w') : Ft w' t v room age lost l := h.blk fun k hk => hb.block k (h.ltk k hk)
theorem Ft.c0 (h : Ft w t v room age lost l) : w.cell? ⟨t, 0, none⟩ = some (.int .i64 room) := cell_of_row _ _ _ _ _ _ h.row
theorem Ft.c1 (h : Ft w t v room age lost l) : w.cell? ⟨t, 1, none⟩ = some (.int .i64 age) := cell_of_row _ _ _ _ _ _ h.row
theorem Ft.c2 (h : Ft w t v room age lost l) : w.cell? ⟨t, 2, none⟩ = some v := cell_of_row _ _ _ _ _ _ h.row
theorem Ft.c3 (h : Ft w t v room age lost l) : w.cell? ⟨t, 3, none⟩ = some (.int .i64 lost) := cell_of_row _ _ _ _ _ _ h.row
theorem Ft.fz (h : Ft w t v room age lost l) (o : Nat) : w.frozen? ⟨t, o, none⟩ = false := by simp [World.frozen?, h.row]
/-- Behind a forgetting: the table of those that aren't told. -/
theorem forget_any {B : Nat} {F : FuncId} {caps : Array Value} {p : Fe → Bool} {ok : Fe → Prop} (h : Ft w t v room age lost l) (hl : l.length ≤ 100000) (hok : ∀ e ∈ l, ok e) (hc : Hid (Cls B w F caps p ok)) (hgo : ∀ (args : Array Value) (w : World), (callFunc F args).run Tryd.prog w = .ok (.enter F args) w)
    (hB : ∀ k, Ft.foot t v k → k < B) :
    Calls Tryd.prog 62 #[.pointer (some ⟨t, 0, none⟩), .func (.func F) #[] caps] w fun r w' => r = .returned (.int .i64 ((l.length : Int) - (l.filter (fun e => !p e)).length)) ∧ ∃ v', Ft w' t v' room age lost (l.filter (fun e => !p e)) ∧ v'.ownBlock = v.ownBlock ∧ Ch (Ft.foot t v) w w' := by
  obtain ⟨a, cap, rfl⟩ := h.sl.shape
  have hD := hide (Delete_any h.sl hl hok hc hgo (fun b e => hB b (.inr e)))
  have c2 := h.c2
  have hh := hide h
  have hfl : (l.filter (fun e => !p e)).length ≤ l.length := List.length_filter_le _ _
  clear h
  go_enter Tryd.func62, Tryd.ntmps62
  go_wp2_with fail
  refine hD.out.mono ?_
  rintro _ w1 ⟨v', rfl, hS1, ho, hC1⟩
  obtain ⟨a', cap', rfl⟩ := hS1.shape
  have hk : w1.heap[t]? = w.heap[t]? := hC1.block t hh.out.lt (fun e => hh.out.ne e)
  have hrow1 : w1.heap[t]? = _ := hk.trans hh.out.row
  have z2 : w1.frozen? ⟨t, 2, none⟩ = false := by simp [World.frozen?, hrow1]
  have d2 : w1.cell? ⟨t, 2, none⟩ = some (.slice a l.length cap) := cell_of_row _ _ _ _ _ _ hrow1
  have hne : (Value.slice a' (l.filter (fun e => !p e)).length cap').ownBlock ≠ some t := by rw [ho]; exact hh.out.ne
  have hF : Hid (Ft (w1.setCell ⟨t, 2, none⟩ (.slice a' (l.filter (fun e => !p e)).length cap')) t (.slice a' (l.filter (fun e => !p e)).length cap') room age lost (l.filter (fun e => !p e))) :=
    ⟨by rw [heap_setCell_same _ _ _ _ _ _ hrow1]; simp, hS1.blk fun b e => heap_setCell_other w1 ⟨t, 2, none⟩ b _ (fun e' => hne (by rw [e]; exact congrArg some e')), hne⟩
  have hCf : Hid (Ch (Ft.foot t (.slice a l.length cap)) w (w1.setCell ⟨t, 2, none⟩ (.slice a' (l.filter (fun e => !p e)).length cap'))) :=
    (hC1.mono (fun k e => .inr e)).trans ⟨rfl, rfl, rfl, by simp [World.setCell], fun k _ hk => heap_setCell_other w1 ⟨t, 2, none⟩ k _ (fun e => hk (.inl e))⟩
  replace ho := hide ho
  clear hD hh hS1 hC1 hk hrow1 hne c2
  generalize hn : (l.filter (fun e => !p e)).length = n at *
  replace hn := hide hn
  generalize hL : l.length = L at *
  replace hL := hide hL
  go_wp2
  go_ret
  exact ⟨by rw [hn.out, hL.out]; rfl, _, hF.out, by rw [hL.out]; exact ho.out, by rw [hL.out]; exact hCf.out⟩
end
end Go.Proofs.YtiahiakllpjliaaDoor

/-
  Who makes the functions that tell entries; contracts of Sweep, Flush, New. Conditions: those that each theorem names.
-/
namespace Go.Proofs.YtiahiakllpjliaaDoor
open Go.RowKit Go.Maps
set_option linter.unusedVariables false
set_option maxRecDepth 20000

theorem go_old (args : Array Value) (w : World) : (callFunc 81 args).run Tryd.prog w = .ok (.enter 81 args) w := by
  simp [callFunc, go_sem, Tryd.func81]
  rfl
theorem go_is (args : Array Value) (w : World) : (callFunc 76 args).run Tryd.prog w = .ok (.enter 76 args) w := by
  simp [callFunc, go_sem, Tryd.func76]
  rfl
theorem cell_later {w w' : World} {b : Nat} (h : w'.heap[b]? = w.heap[b]?) (o : Nat) : w'.cell? ⟨b, o, none⟩ = w.cell? ⟨b, o, none⟩ := World.cell?_of_block (a := ⟨b, o, none⟩) h
def timeOk (n : Int) : Prop := 0 ≤ n ∧ n ≤ 4611686018427387904
theorem mkOld_any (age now : Int) (w : World) (hn : timeOk now) : Calls Tryd.prog 74 #[.int .i64 age, .int .i64 now] w fun r w' => ∃ caps, r = .returned (.func (.func 81) #[] caps) ∧ Below w.heap.size w w' ∧ Cls w.heap.size w' 81 caps (oldB age now) (fun e => timeOk e.seen) := by
  have hb := hide ((below1 w (.cells #[.int .i64 age] 2)).later (below1 _ (.cells #[.int .i64 now] 2)))
  have hs : (w.alloc (.cells #[.int .i64 age] 2)).heap.size = w.heap.size + 1 := World.size_alloc _ _
  have hC : Hid (Cls w.heap.size ((w.alloc (.cells #[.int .i64 age] 2)).alloc (.cells #[.int .i64 now] 2)) 81 #[.pointer (some ⟨w.heap.size + 1, 0, none⟩), .pointer (some ⟨w.heap.size, 0, none⟩)] (oldB age now) (fun e => timeOk e.seen)) := by
    intro w' h1 h2 e he
    have hs2 : ((w.alloc (.cells #[.int .i64 age] 2)).alloc (.cells #[.int .i64 now] 2)).heap.size = w.heap.size + 2 := by rw [World.size_alloc, hs]
    have hr := heap_alloc_new (w.alloc (.cells #[.int .i64 age] 2)) (.cells #[.int .i64 now] 2)
    rw [hs] at hr
    have hc1 : w'.cell? ⟨w.heap.size + 1, 0, none⟩ = some (.int .i64 now) := (cell_later (h2 (w.heap.size + 1) (by omega) (by omega)) 0).trans ((cell_of_row _ _ _ _ _ _ hr).trans rfl)
    have hc2 : w'.cell? ⟨w.heap.size, 0, none⟩ = some (.int .i64 age) := (cell_later (h2 w.heap.size (Nat.le_refl _) (by omega)) 0).trans ((cell_of_row _ _ _ _ _ _ (heap_kept (below1 _ _) (heap_alloc_new w _))).trans rfl)
    exact old_any (w.heap.size + 1) w.heap.size age now e w' hc1 hc2 hn he
  clear hs
  go_enter Tryd.func74, Tryd.ntmps74
  go_wp2
  go_ret
  exact ⟨_, rfl, hb.out, hC.out⟩
theorem mkIs_any (vid : Int) (m : M6) (w : World) (hm : m.wf) : Calls Tryd.prog 63 #[.int .i64 vid, .agg m.row] w fun r w' => ∃ caps, r = .returned (.func (.func 76) #[] caps) ∧ Below w.heap.size w w' ∧ Cls w.heap.size w' 76 caps (isB vid m) (fun e => e.m.wf) := by
  have hb := hide ((below1 w (.cells #[.int .i64 vid] 3)).later (below1 _ (.cells m.row 23)))
  have hs : (w.alloc (.cells #[.int .i64 vid] 3)).heap.size = w.heap.size + 1 := World.size_alloc _ _
  have hC : Hid (Cls w.heap.size ((w.alloc (.cells #[.int .i64 vid] 3)).alloc (.cells m.row 23)) 76 #[.pointer (some ⟨w.heap.size, 0, none⟩), .pointer (some ⟨w.heap.size + 1, 0, none⟩)] (isB vid m) (fun e => e.m.wf)) := by
    intro w' h1 h2 e he
    have hs2 : ((w.alloc (.cells #[.int .i64 vid] 3)).alloc (.cells m.row 23)).heap.size = w.heap.size + 2 := by rw [World.size_alloc, hs]
    have hr := heap_alloc_new (w.alloc (.cells #[.int .i64 vid] 3)) (.cells m.row 23)
    rw [hs] at hr
    have hc1 : w'.cell? ⟨w.heap.size, 0, none⟩ = some (.int .i64 vid) := (cell_later (h2 w.heap.size (Nat.le_refl _) (by omega)) 0).trans ((cell_of_row _ _ _ _ _ _ (heap_kept (below1 _ _) (heap_alloc_new w _))).trans rfl)
    exact is_any w.heap.size (w.heap.size + 1) vid m e w' hc1 ((h2 (w.heap.size + 1) (by omega) (by omega)).trans hr) hm he
  clear hs
  go_enter Tryd.func63, Tryd.ntmps63
  go_wp2
  go_ret
  exact ⟨_, rfl, hb.out, hC.out⟩
/-- Entries as they should be. -/
def Fes (l : List Fe) : Prop := l.length ≤ 100000 ∧ ∀ e ∈ l, timeOk e.seen ∧ e.m.wf
theorem Fes.filter {l : List Fe} (h : Fes l) (p : Fe → Bool) : Fes (l.filter p) := ⟨Nat.le_trans (List.length_filter_le _ _) h.1, fun e he => h.2 e (List.mem_filter.1 he).1⟩
section
variable {w : World} {t : Nat} {v : Value} {room age lost : Int} {l : List Fe}
def kept (p : Fe → Bool) (l : List Fe) : List Fe := l.filter (fun e => !p e)
theorem Sweep_any (h : Ft w t v room age lost l) (hl : Fes l) (now : Int) (hn : timeOk now) :
    Calls Tryd.prog 61 #[.pointer (some ⟨t, 0, none⟩), .int .i64 now] w fun r w' => r = .returned (.int .i64 ((l.length : Int) - (kept (oldB age now) l).length)) ∧ ∃ v', Ft w' t v' room age lost (kept (oldB age now) l) ∧ v'.ownBlock = v.ownBlock ∧ Ch (Ft.foot t v) w w' := by
  have hh := hide h
  have hM := hide (mkOld_any age now w hn)
  have c1 := h.c1
  clear h
  unfold kept
  go_enter Tryd.func61, Tryd.ntmps61
  go_wp2_with fail
  refine hM.out.mono ?_
  rintro _ w1 ⟨caps, rfl, hb1, hC1⟩
  have hF := hide (forget_any (hh.out.below hb1) hl.1 (fun e he => (hl.2 e he).1) hC1 go_old (fun k hk => hh.out.ltk k hk))
  clear c1
  go_wp2_with fail
  refine hF.out.mono ?_
  rintro _ w2 ⟨rfl, v', hF2, ho, hC2⟩
  have hCf : Hid (Ch (Ft.foot t v) w w2) := (Ch.of_below hb1).trans hC2
  replace hF2 := hide hF2
  replace ho := hide ho
  clear hF hM hC1 hC2 hb1 hh
  go_wp2
  go_ret
  exact ⟨rfl, _, hF2.out, ho.out, hCf.out⟩
end
end Go.Proofs.YtiahiakllpjliaaDoor
