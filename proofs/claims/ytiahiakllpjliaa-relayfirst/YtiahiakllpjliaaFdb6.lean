/-
  Who makes the functions that tell entries; contracts of Sweep, Flush, New. Conditions: those that each theorem names.
-/
import Derived.Test.YtiahiakllpjliaaFdb5
namespace Go.Proofs.Ytiahiakllpjliaa
open Go.RowKit Go.Maps
set_option linter.unusedVariables false
set_option maxRecDepth 20000

theorem go_old (args : Array Value) (w : World) : (callFunc 64 args).run Try.prog w = .ok (.enter 64 args) w := by
  simp [callFunc, go_sem, Try.func64]
  rfl
theorem go_is (args : Array Value) (w : World) : (callFunc 63 args).run Try.prog w = .ok (.enter 63 args) w := by
  simp [callFunc, go_sem, Try.func63]
  rfl
theorem cell_later {w w' : World} {b : Nat} (h : w'.heap[b]? = w.heap[b]?) (o : Nat) : w'.cell? ⟨b, o, none⟩ = w.cell? ⟨b, o, none⟩ := World.cell?_of_block (a := ⟨b, o, none⟩) h
theorem mkAt_any (port : Int) (w : World) : Calls Try.prog 43 #[.int .i64 port] w fun r w' => ∃ caps, r = .returned (.func (.func 65) #[] caps) ∧ Below w.heap.size w w' ∧ Cls w.heap.size w' 65 caps (atB port) (fun _ => True) := by
  have hb := hide (below1 w (.cells #[.int .i64 port] 3))
  have hC : Hid (Cls w.heap.size (w.alloc (.cells #[.int .i64 port] 3)) 65 #[.pointer (some ⟨w.heap.size, 0, none⟩)] (atB port) (fun _ => True)) := by
    intro w' h1 h2 e _
    have hs : (w.alloc (.cells #[.int .i64 port] 3)).heap.size = w.heap.size + 1 := World.size_alloc _ _
    have hc : w'.cell? ⟨w.heap.size, 0, none⟩ = some (.int .i64 port) := (cell_later (h2 w.heap.size (Nat.le_refl _) (by omega)) 0).trans ((cell_of_row _ _ _ _ _ _ (heap_alloc_new w _)).trans rfl)
    exact at_any w.heap.size port e w' hc
  go_enter Try.func43, Try.ntmps43
  go_wp2
  go_ret
  exact ⟨_, rfl, hb.out, hC.out⟩
def timeOk (n : Int) : Prop := 0 ≤ n ∧ n ≤ 4611686018427387904
theorem mkOld_any (age now : Int) (w : World) (hn : timeOk now) : Calls Try.prog 40 #[.int .i64 age, .int .i64 now] w fun r w' => ∃ caps, r = .returned (.func (.func 64) #[] caps) ∧ Below w.heap.size w w' ∧ Cls w.heap.size w' 64 caps (oldB age now) (fun e => timeOk e.seen) := by
  have hb := hide ((below1 w (.cells #[.int .i64 age] 2)).later (below1 _ (.cells #[.int .i64 now] 2)))
  have hs : (w.alloc (.cells #[.int .i64 age] 2)).heap.size = w.heap.size + 1 := World.size_alloc _ _
  have hC : Hid (Cls w.heap.size ((w.alloc (.cells #[.int .i64 age] 2)).alloc (.cells #[.int .i64 now] 2)) 64 #[.pointer (some ⟨w.heap.size + 1, 0, none⟩), .pointer (some ⟨w.heap.size, 0, none⟩)] (oldB age now) (fun e => timeOk e.seen)) := by
    intro w' h1 h2 e he
    have hs2 : ((w.alloc (.cells #[.int .i64 age] 2)).alloc (.cells #[.int .i64 now] 2)).heap.size = w.heap.size + 2 := by rw [World.size_alloc, hs]
    have hr := heap_alloc_new (w.alloc (.cells #[.int .i64 age] 2)) (.cells #[.int .i64 now] 2)
    rw [hs] at hr
    have hc1 : w'.cell? ⟨w.heap.size + 1, 0, none⟩ = some (.int .i64 now) := (cell_later (h2 (w.heap.size + 1) (by omega) (by omega)) 0).trans ((cell_of_row _ _ _ _ _ _ hr).trans rfl)
    have hc2 : w'.cell? ⟨w.heap.size, 0, none⟩ = some (.int .i64 age) := (cell_later (h2 w.heap.size (Nat.le_refl _) (by omega)) 0).trans ((cell_of_row _ _ _ _ _ _ (heap_kept (below1 _ _) (heap_alloc_new w _))).trans rfl)
    exact old_any (w.heap.size + 1) w.heap.size age now e w' hc1 hc2 hn he
  clear hs
  go_enter Try.func40, Try.ntmps40
  go_wp2
  go_ret
  exact ⟨_, rfl, hb.out, hC.out⟩
theorem mkIs_any (vid : Int) (m : M6) (w : World) (hm : m.wf) : Calls Try.prog 39 #[.int .i64 vid, .agg m.row] w fun r w' => ∃ caps, r = .returned (.func (.func 63) #[] caps) ∧ Below w.heap.size w w' ∧ Cls w.heap.size w' 63 caps (isB vid m) (fun e => e.m.wf) := by
  have hb := hide ((below1 w (.cells #[.int .i64 vid] 3)).later (below1 _ (.cells m.row 28)))
  have hs : (w.alloc (.cells #[.int .i64 vid] 3)).heap.size = w.heap.size + 1 := World.size_alloc _ _
  have hC : Hid (Cls w.heap.size ((w.alloc (.cells #[.int .i64 vid] 3)).alloc (.cells m.row 28)) 63 #[.pointer (some ⟨w.heap.size, 0, none⟩), .pointer (some ⟨w.heap.size + 1, 0, none⟩)] (isB vid m) (fun e => e.m.wf)) := by
    intro w' h1 h2 e he
    have hs2 : ((w.alloc (.cells #[.int .i64 vid] 3)).alloc (.cells m.row 28)).heap.size = w.heap.size + 2 := by rw [World.size_alloc, hs]
    have hr := heap_alloc_new (w.alloc (.cells #[.int .i64 vid] 3)) (.cells m.row 28)
    rw [hs] at hr
    have hc1 : w'.cell? ⟨w.heap.size, 0, none⟩ = some (.int .i64 vid) := (cell_later (h2 w.heap.size (Nat.le_refl _) (by omega)) 0).trans ((cell_of_row _ _ _ _ _ _ (heap_kept (below1 _ _) (heap_alloc_new w _))).trans rfl)
    exact is_any w.heap.size (w.heap.size + 1) vid m e w' hc1 ((h2 (w.heap.size + 1) (by omega) (by omega)).trans hr) hm he
  clear hs
  go_enter Try.func39, Try.ntmps39
  go_wp2
  go_ret
  exact ⟨_, rfl, hb.out, hC.out⟩
/-- Entries as they should be. -/
def Fes (l : List Fe) : Prop := l.length ≤ 100000 ∧ ∀ e ∈ l, timeOk e.seen ∧ e.m.wf
theorem Fes.filter {l : List Fe} (h : Fes l) (p : Fe → Bool) : Fes (l.filter p) := ⟨Nat.le_trans (List.length_filter_le _ _) h.1, fun e he => h.2 e (List.mem_filter.1 he).1⟩
section
variable {w : World} {t : Nat} {v : Value} {room age lost : Int} {l : List Fe}
def kept (p : Fe → Bool) (l : List Fe) : List Fe := l.filter (fun e => !p e)
theorem Flush_any (h : Ft w t v room age lost l) (hl : Fes l) (port : Int) :
    Calls Try.prog 18 #[.pointer (some ⟨t, 0, none⟩), .int .i64 port] w fun r w' => r = .returned (.int .i64 ((l.length : Int) - (kept (atB port) l).length)) ∧ ∃ v', Ft w' t v' room age lost (kept (atB port) l) ∧ v'.ownBlock = v.ownBlock ∧ Ch (Ft.foot t v) w w' := by
  have hh := hide h
  have hM := hide (mkAt_any port w)
  clear h
  unfold kept
  go_enter Try.func18, Try.ntmps18
  go_wp2_with fail
  refine hM.out.mono ?_
  rintro _ w1 ⟨caps, rfl, hb1, hC1⟩
  have hF := hide (forget_any (hh.out.below hb1) hl.1 (fun _ _ => trivial) hC1 go_at (fun k hk => hh.out.ltk k hk))
  go_wp2_with fail
  refine hF.out.mono ?_
  rintro _ w2 ⟨rfl, v', hF2, ho, hC2⟩
  have hCf : Hid (Ch (Ft.foot t v) w w2) := (Ch.of_below hb1).trans hC2
  replace hF2 := hide hF2
  replace ho := hide ho
  clear hF hM hC1 hC2 hb1 hh
  go_wp2
  go_ret
  exact ⟨rfl, _, hF2.out, ho.out, hCf.out⟩
theorem Sweep_any (h : Ft w t v room age lost l) (hl : Fes l) (now : Int) (hn : timeOk now) :
    Calls Try.prog 19 #[.pointer (some ⟨t, 0, none⟩), .int .i64 now] w fun r w' => r = .returned (.int .i64 ((l.length : Int) - (kept (oldB age now) l).length)) ∧ ∃ v', Ft w' t v' room age lost (kept (oldB age now) l) ∧ v'.ownBlock = v.ownBlock ∧ Ch (Ft.foot t v) w w' := by
  have hh := hide h
  have hM := hide (mkOld_any age now w hn)
  have c1 := h.c1
  clear h
  unfold kept
  go_enter Try.func19, Try.ntmps19
  go_wp2_with fail
  refine hM.out.mono ?_
  rintro _ w1 ⟨caps, rfl, hb1, hC1⟩
  have hF := hide (forget_any (hh.out.below hb1) hl.1 (fun e he => (hl.2 e he).1) hC1 go_old (fun k hk => hh.out.ltk k hk))
  clear c1
  go_wp2_with fail
  refine hF.out.mono ?_
  rintro _ w2 ⟨rfl, v', hF2, ho, hC2⟩
  have hCf : Hid (Ch (Ft.foot t v) w w2) := (Ch.of_below hb1).trans hC2
  replace hF2 := hide hF2
  replace ho := hide ho
  clear hF hM hC1 hC2 hb1 hh
  go_wp2
  go_ret
  exact ⟨rfl, _, hF2.out, ho.out, hCf.out⟩
end
end Go.Proofs.Ytiahiakllpjliaa
