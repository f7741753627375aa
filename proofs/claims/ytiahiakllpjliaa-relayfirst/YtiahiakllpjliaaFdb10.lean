/-
  The function that Find makes of two functions; who makes its blocks, in any order. Conditions: those that each theorem names.
-/
import Derived.Test.YtiahiakllpjliaaFdb9
namespace Go.Proofs.Ytiahiakllpjliaa
open Go.RowKit Go.Maps
set_option linter.unusedVariables false
set_option maxRecDepth 20000

theorem Cls.wide {B B1 : Nat} {w wc : World} {F : FuncId} {caps : Array Value} {p : Fe → Bool} {ok : Fe → Prop} (h : Cls B1 wc F caps p ok) (hB : B ≤ B1) (h1 : wc.heap.size ≤ w.heap.size) (h2 : ∀ k, B1 ≤ k → k < wc.heap.size → w.heap[k]? = wc.heap[k]?) : Cls B w F caps p ok :=
  fun w' g1 g2 e he => h w' (by omega) (fun k k1 k2 => (g2 k (by omega) (by omega)).trans (h2 k k1 k2)) e he
theorem Cls.ok_mono {B : Nat} {w : World} {F : FuncId} {caps : Array Value} {p : Fe → Bool} {ok ok' : Fe → Prop} (h : Cls B w F caps p ok) (hk : ∀ e, ok' e → ok e) : Cls B w F caps p ok' :=
  fun w' g1 g2 e he => h w' g1 g2 e (hk e he)
theorem go_find (args : Array Value) (w : World) : (callFunc 42 args).run Try.prog w = .ok (.enter 42 args) w := by
  simp [callFunc, go_sem, Try.func42]
  rfl
set_option maxHeartbeats 4000000 in
theorem find1_any {B x y : Nat} {w : World} {F1 F2 : FuncId} {caps1 caps2 : Array Value} {p p1 p2 : Fe → Bool} {ok : Fe → Prop} (hp : ∀ e, p e = (p1 e && !p2 e))
    (hg1 : ∀ (args : Array Value) (w : World), (callFunc F1 args).run Try.prog w = .ok (.enter F1 args) w) (hg2 : ∀ (args : Array Value) (w : World), (callFunc F2 args).run Try.prog w = .ok (.enter F2 args) w)
    (hx : w.cell? ⟨x, 0, none⟩ = some (.func (.func F1) #[] caps1)) (hy : w.cell? ⟨y, 0, none⟩ = some (.func (.func F2) #[] caps2)) (hbx : B ≤ x) (hby : B ≤ y)
    (h1 : Cls B w F1 caps1 p1 ok) (h2 : Cls B w F2 caps2 p2 ok) : Cls B w 42 #[.pointer (some ⟨x, 0, none⟩), .pointer (some ⟨y, 0, none⟩)] p ok := by
  intro w' hs hk e he
  have hR := hide (hp e)
  generalize p e = R at *
  have hx1 : w'.cell? ⟨x, 0, none⟩ = some (.func (.func F1) #[] caps1) := (cell_later (hk x hbx (block_lt_of_cell hx)) 0).trans hx
  have hy1 : w'.cell? ⟨y, 0, none⟩ = some (.func (.func F2) #[] caps2) := (cell_later (hk y hby (block_lt_of_cell hy)) 0).trans hy
  have hb := hide (below1 w' (.cells (fFe e).toArray 46))
  have hx2 : (w'.alloc (.cells (fFe e).toArray 46)).cell? ⟨x, 0, none⟩ = some (.func (.func F1) #[] caps1) := (hb.out.cell (p := ⟨x, 0, none⟩) (block_lt_of_cell hx1)).trans hx1
  have hy2 : Hid ((w'.alloc (.cells (fFe e).toArray 46)).cell? ⟨y, 0, none⟩ = some (.func (.func F2) #[] caps2)) := (hb.out.cell (p := ⟨y, 0, none⟩) (block_lt_of_cell hy1)).trans hy1
  have hr := hide (heap_alloc_new w' (.cells (fFe e).toArray 46))
  have hc1 := hide (h1 (w'.alloc (.cells (fFe e).toArray 46)) (Nat.le_trans hs hb.out.size) (fun k k1 k2 => (hb.out.block k (by omega)).trans (hk k k1 k2)) e he)
  have hsz := feSize e
  have hc2 : Hid (∀ w2, Below (w'.alloc (.cells (fFe e).toArray 46)).heap.size (w'.alloc (.cells (fFe e).toArray 46)) w2 → Calls Try.prog F2 (#[.agg (fFe e).toArray] ++ caps2) w2 fun r w'' => r = .returned (.bool (p2 e)) ∧ Below w2.heap.size w2 w'') := fun w2 hb2 =>
    h2 w2 (Nat.le_trans (Nat.le_trans hs hb.out.size) hb2.size) (fun k k1 k2 => (hb2.block k (Nat.lt_of_lt_of_le (Nat.lt_of_lt_of_le k2 hs) hb.out.size)).trans ((hb.out.block k (by omega)).trans (hk k k1 k2))) e he
  have hy2' : Hid (∀ w2, Below (w'.alloc (.cells (fFe e).toArray 46)).heap.size (w'.alloc (.cells (fFe e).toArray 46)) w2 → w2.cell? ⟨y, 0, none⟩ = some (.func (.func F2) #[] caps2)) := fun w2 hb2 => (hb2.cell (p := ⟨y, 0, none⟩) (block_lt_of_cell hy2.out)).trans hy2.out
  generalize p1 e = b1 at *
  generalize p2 e = b2 at *
  generalize hE : (fFe e).toArray = E at *
  clear h1 h2 hx hy hk he hx1 hy1 hE hy2 hs
  go_enter Try.func42, Try.ntmps42
  go_wp2_with ((with_reducible change wpList _ _ _ _ _ _); refine wpList_load_row rfl 46 (.tmp 3) rfl w'.heap.size rfl 46 _ _ _ hr.out Try.underlying46 rfl hsz ?_)
  refine hc1.out.mono ?_
  rintro _ w2 ⟨rfl, hb2⟩
  have hr2 := hide (heap_kept hb2 hr.out)
  cases b1
  · obtain rfl : R = false := hR.out
    have hB := hide (hb.out.later hb2)
    clear hR
    clear hc1 hc2 hr hr2 hb hb2 hy2'
    go_wp2
    go_ret
    exact ⟨rfl, hB.out⟩
  · obtain rfl : R = !b2 := hR.out
    clear hR
    have hy3 := hy2'.out w2 hb2
    have hc3 := hide (hc2.out w2 hb2)
    have hB := hide (hb.out.later hb2)
    clear hc1 hc2 hr hb hb2 hy2' hx2
    go_wp2_with ((with_reducible change wpList _ _ _ _ _ _); refine wpList_load_row_on rfl 46 (.tmp 3) rfl w'.heap.size rfl 46 _ _ _ hr2.out Try.underlying46 rfl hsz ?_)
    refine hc3.out.mono ?_
    rintro _ w3 ⟨rfl, hb3⟩
    have hB3 := hide (hB.out.later hb3)
    clear hc3 hr2 hb3 hB hy3
    go_wp2
    go_ret
    exact ⟨rfl, hB3.out⟩
end Go.Proofs.Ytiahiakllpjliaa
