import Derived.Test.YtiahiakllpjliaaDoorFdb7
import Derived.Lib.LazyBuf
import Derived.Laws.EntriesVeiled
/-
  Contract of fdb's All. Conditions: those that each theorem names.
-/
namespace Go.Proofs.YtiahiakllpjliaaDoor
open Go.RowKit Go.Maps
set_option linter.unusedVariables false
set_option maxRecDepth 20000

/-- New memory, or nothing. -/
def FreshF (B : Nat) (v : Value) : Prop := ∀ b, v.ownBlock = some b → B ≤ b
theorem Sl.madeF {α : Type} {w : World} (e : TypeId) (m : Nat) (f : α → List Value) : Sl (w.alloc (.cells #[] e)) (.slice (some ⟨w.heap.size, 0, none⟩) 0 0) e m f [] :=
  .inr ⟨w.heap.size, 0, [], rfl, heap_alloc_new w _, Nat.le_refl _, by simp [maxLen], by simp⟩
theorem Fl.cellsF {α : Type} {w : World} {b : Nat} {t : TypeId} {f : α → List Value} {l : List α} {sp : List Value} (h : Fl w b t f l sp) (j : Nat) (u : Value) (hj : (flat f l)[j]? = some u) : w.cell? ((⟨b, 0, none⟩ : Addr).add j) = some u := by
  rw [Addr.add_lit, Nat.zero_add, cell_of_row _ _ _ _ _ _ h]
  simp only [List.getElem?_toArray]
  rw [List.getElem?_append_left (List.getElem?_eq_some_iff.1 hj).1]
  exact hj
theorem below_grown {B b : Nat} {W w w' : World} (h : Below B W w) (hg : w.grownBy w' (some b)) (hb : B ≤ b) (hB : B ≤ w.heap.size) : Below B W w' :=
  h.trans ⟨hg.os, hg.tape, hg.output, hg.size, fun k hk => hg.block k (by omega) (fun e => by cases e; omega)⟩
end Go.Proofs.YtiahiakllpjliaaDoor

/-
  The function that Find makes of two functions; who makes its blocks, in any order. Conditions: those that each theorem names.
-/
namespace Go.Proofs.YtiahiakllpjliaaDoor
open Go.RowKit Go.Maps
set_option linter.unusedVariables false
set_option maxRecDepth 20000

theorem Cls.wide {B B1 : Nat} {w wc : World} {F : FuncId} {caps : Array Value} {p : Fe → Bool} {ok : Fe → Prop} (h : Cls B1 wc F caps p ok) (hB : B ≤ B1) (h1 : wc.heap.size ≤ w.heap.size) (h2 : ∀ k, B1 ≤ k → k < wc.heap.size → w.heap[k]? = wc.heap[k]?) : Cls B w F caps p ok :=
  fun w' g1 g2 e he => h w' (by omega) (fun k k1 k2 => (g2 k (by omega) (by omega)).trans (h2 k k1 k2)) e he
theorem Cls.ok_mono {B : Nat} {w : World} {F : FuncId} {caps : Array Value} {p : Fe → Bool} {ok ok' : Fe → Prop} (h : Cls B w F caps p ok) (hk : ∀ e, ok' e → ok e) : Cls B w F caps p ok' :=
  fun w' g1 g2 e he => h w' g1 g2 e (hk e he)
theorem go_find (args : Array Value) (w : World) : (callFunc 79 args).run Tryd.prog w = .ok (.enter 79 args) w := by
  simp [callFunc, go_sem, Tryd.func79]
  rfl
set_option maxHeartbeats 4000000 in
theorem find1_any {B x y : Nat} {w : World} {F1 F2 : FuncId} {caps1 caps2 : Array Value} {p p1 p2 : Fe → Bool} {ok : Fe → Prop} (hp : ∀ e, p e = (p1 e && !p2 e))
    (hg1 : ∀ (args : Array Value) (w : World), (callFunc F1 args).run Tryd.prog w = .ok (.enter F1 args) w) (hg2 : ∀ (args : Array Value) (w : World), (callFunc F2 args).run Tryd.prog w = .ok (.enter F2 args) w)
    (hx : w.cell? ⟨x, 0, none⟩ = some (.func (.func F1) #[] caps1)) (hy : w.cell? ⟨y, 0, none⟩ = some (.func (.func F2) #[] caps2)) (hbx : B ≤ x) (hby : B ≤ y)
    (h1 : Cls B w F1 caps1 p1 ok) (h2 : Cls B w F2 caps2 p2 ok) : Cls B w 79 #[.pointer (some ⟨x, 0, none⟩), .pointer (some ⟨y, 0, none⟩)] p ok := by
  intro w' hs hk e he
  have hR := hide (hp e)
  generalize p e = R at *
  have hx1 : w'.cell? ⟨x, 0, none⟩ = some (.func (.func F1) #[] caps1) := (cell_later (hk x hbx (block_lt_of_cell hx)) 0).trans hx
  have hy1 : w'.cell? ⟨y, 0, none⟩ = some (.func (.func F2) #[] caps2) := (cell_later (hk y hby (block_lt_of_cell hy)) 0).trans hy
  have hb := hide (below1 w' (.cells (fFe e).toArray 123))
  have hx2 : (w'.alloc (.cells (fFe e).toArray 123)).cell? ⟨x, 0, none⟩ = some (.func (.func F1) #[] caps1) := (hb.out.cell (p := ⟨x, 0, none⟩) (block_lt_of_cell hx1)).trans hx1
  have hy2 : Hid ((w'.alloc (.cells (fFe e).toArray 123)).cell? ⟨y, 0, none⟩ = some (.func (.func F2) #[] caps2)) := (hb.out.cell (p := ⟨y, 0, none⟩) (block_lt_of_cell hy1)).trans hy1
  have hr := hide (heap_alloc_new w' (.cells (fFe e).toArray 123))
  have hc1 := hide (h1 (w'.alloc (.cells (fFe e).toArray 123)) (Nat.le_trans hs hb.out.size) (fun k k1 k2 => (hb.out.block k (by omega)).trans (hk k k1 k2)) e he)
  have hsz := feSize e
  have hc2 : Hid (∀ w2, Below (w'.alloc (.cells (fFe e).toArray 123)).heap.size (w'.alloc (.cells (fFe e).toArray 123)) w2 → Calls Tryd.prog F2 (#[.agg (fFe e).toArray] ++ caps2) w2 fun r w'' => r = .returned (.bool (p2 e)) ∧ Below w2.heap.size w2 w'') := fun w2 hb2 =>
    h2 w2 (Nat.le_trans (Nat.le_trans hs hb.out.size) hb2.size) (fun k k1 k2 => (hb2.block k (Nat.lt_of_lt_of_le (Nat.lt_of_lt_of_le k2 hs) hb.out.size)).trans ((hb.out.block k (by omega)).trans (hk k k1 k2))) e he
  have hy2' : Hid (∀ w2, Below (w'.alloc (.cells (fFe e).toArray 123)).heap.size (w'.alloc (.cells (fFe e).toArray 123)) w2 → w2.cell? ⟨y, 0, none⟩ = some (.func (.func F2) #[] caps2)) := fun w2 hb2 => (hb2.cell (p := ⟨y, 0, none⟩) (block_lt_of_cell hy2.out)).trans hy2.out
  generalize p1 e = b1 at *
  generalize p2 e = b2 at *
  generalize hE : (fFe e).toArray = E at *
  clear h1 h2 hx hy hk he hx1 hy1 hE hy2 hs
  go_enter Tryd.func79, Tryd.ntmps79
  go_wp2_with ((with_reducible change wpList _ _ _ _ _ _); refine wpList_load_row rfl 123 (.tmp 3) rfl w'.heap.size rfl 123 _ _ _ hr.out Tryd.underlying123 rfl hsz ?_)
  refine hc1.out.mono ?_
  rintro _ w2 ⟨rfl, hb2⟩
  have hr2 := hide (heap_kept hb2 hr.out)
  cases b1
  · obtain rfl : R = false := hR.out
    have hB := hide (hb.out.later hb2)
    clear hR
    clear hc1 hc2 hr hr2 hb hb2 hy2'
    go_wp2
    go_ret
    exact ⟨rfl, hB.out⟩
  · obtain rfl : R = !b2 := hR.out
    clear hR
    have hy3 := hy2'.out w2 hb2
    have hc3 := hide (hc2.out w2 hb2)
    have hB := hide (hb.out.later hb2)
    clear hc1 hc2 hr hb hb2 hy2' hx2
    go_wp2_with ((with_reducible change wpList _ _ _ _ _ _); refine wpList_load_row_on rfl 123 (.tmp 3) rfl w'.heap.size rfl 123 _ _ _ hr2.out Tryd.underlying123 rfl hsz ?_)
    refine hc3.out.mono ?_
    rintro _ w3 ⟨rfl, hb3⟩
    have hB3 := hide (hB.out.later hb3)
    clear hc3 hr2 hb3 hB hy3
    go_wp2
    go_ret
    exact ⟨rfl, hB3.out⟩
end Go.Proofs.YtiahiakllpjliaaDoor

/-
  Contract of fdb's Find. Conditions: those that each theorem names.
-/
namespace Go.Proofs.YtiahiakllpjliaaDoor
open Go.RowKit Go.Maps
set_option linter.unusedVariables false
set_option maxRecDepth 20000

theorem below_drew {B : Nat} {W w : World} (h : Below B W w) : Below B W w.drew := below_drewN h 1
theorem alloc_Fn (w : World) : (Instr.alloc 120 true (.tuple #[])).run Tryd.prog w = .ok (.pointer (some ⟨w.heap.size, 0, none⟩)) (w.alloc (.cells #[Value.nilFunc] 120)) := by
  go_simp
def Made (w0 w : World) (F : FuncId) (caps : Array Value) (p : Fe → Bool) (ok : Fe → Prop) (x y : Option Nat) : Prop :=
  ∃ B wc, w0.heap.size ≤ B ∧ Cls B wc F caps p ok ∧ wc.heap.size ≤ w.heap.size ∧ (∀ k, B ≤ k → k < wc.heap.size → w.heap[k]? = wc.heap[k]?) ∧ (∀ b, x = some b ∨ y = some b → b < B ∨ wc.heap.size ≤ b)
theorem Made.below {w0 w w' : World} {F : FuncId} {caps : Array Value} {p : Fe → Bool} {ok : Fe → Prop} {x y : Option Nat} (h : Made w0 w F caps p ok x y) (hb : Below w.heap.size w w') : Made w0 w' F caps p ok x y := by
  obtain ⟨B, wc, h1, h2, h3, h4, h5⟩ := h
  exact ⟨B, wc, h1, h2, Nat.le_trans h3 hb.size, fun k k1 k2 => (hb.block k (by omega)).trans (h4 k k1 k2), h5⟩
theorem Made.more {w0 w w' : World} {F : FuncId} {caps : Array Value} {p : Fe → Bool} {ok : Fe → Prop} {x y x' y' : Option Nat} (h : Made w0 w F caps p ok x y) (hb : Below w.heap.size w w') (hn : ∀ b, x' = some b ∨ y' = some b → (x = some b ∨ y = some b) ∨ w.heap.size ≤ b) : Made w0 w' F caps p ok x' y' := by
  obtain ⟨B, wc, h1, h2, h3, h4, h5⟩ := h
  refine ⟨B, wc, h1, h2, Nat.le_trans h3 hb.size, fun k k1 k2 => (hb.block k (by omega)).trans (h4 k k1 k2), fun b e => ?_⟩
  rcases hn b e with e | e
  · exact h5 b e
  · exact .inr (by omega)
structure Fin (w0 w : World) (age now vid : Int) (m : M6) (c1 c2 : Option (Array Value)) (x y : Option Nat) : Prop where
  below : Below w0.heap.size w0 w
  k1 : ∀ c, c1 = some c → Made w0 w 76 c (isB vid m) (fun e => e.m.wf) x y
  k2 : ∀ c, c2 = some c → Made w0 w 81 c (oldB age now) (fun e => timeOk e.seen) x y
  kx : ∀ b, x = some b → w0.heap.size ≤ b ∧ w.heap[b]? = some (.cells #[Value.nilFunc] 120 (0, 0))
  ky : ∀ b, y = some b → w0.heap.size ≤ b ∧ w.heap[b]? = some (.cells #[Value.nilFunc] 120 (0, 0))
  ne : ∀ b b', x = some b → y = some b' → b ≠ b'
section
variable {w0 w : World} {age now vid : Int} {m : M6} {c1 c2 : Option (Array Value)} {x y : Option Nat}
theorem Fin.start (w0 : World) (age now vid : Int) (m : M6) : Fin w0 w0.drew age now vid m none none none none :=
  ⟨below_drew (Below.refl _ _), (fun b e => by cases e), (fun b e => by cases e), (fun b e => by cases e), (fun b e => by cases e), (fun b b' e => by cases e)⟩
theorem Fin.mkX (h : Fin w0 w age now vid m c1 c2 none y) : Fin w0 (w.alloc (.cells #[Value.nilFunc] 120)) age now vid m c1 c2 (some w.heap.size) y := by
  have hb := below1 w (.cells #[Value.nilFunc] 120)
  refine ⟨h.below.later hb, fun c e => (h.k1 c e).more hb fun b e => ?_, fun c e => (h.k2 c e).more hb fun b e => ?_, fun b e => ?_, fun b e => ⟨(h.ky b e).1, heap_kept hb (h.ky b e).2⟩, fun b b' e e' => ?_⟩
  · rcases e with e | e
    · cases e; exact .inr (Nat.le_refl _)
    · exact .inl (.inr e)
  · rcases e with e | e
    · cases e; exact .inr (Nat.le_refl _)
    · exact .inl (.inr e)
  · cases e
    exact ⟨h.below.size, heap_alloc_new w _⟩
  · cases e
    have := (Array.getElem?_eq_some_iff.1 (h.ky b' e').2).1
    omega
theorem Fin.mkY (h : Fin w0 w age now vid m c1 c2 x none) : Fin w0 (w.alloc (.cells #[Value.nilFunc] 120)) age now vid m c1 c2 x (some w.heap.size) := by
  have hb := below1 w (.cells #[Value.nilFunc] 120)
  refine ⟨h.below.later hb, fun c e => (h.k1 c e).more hb fun b e => ?_, fun c e => (h.k2 c e).more hb fun b e => ?_, fun b e => ⟨(h.kx b e).1, heap_kept hb (h.kx b e).2⟩, fun b e => ?_, fun b b' e e' => ?_⟩
  · rcases e with e | e
    · exact .inl (.inl e)
    · cases e; exact .inr (Nat.le_refl _)
  · rcases e with e | e
    · exact .inl (.inl e)
    · cases e; exact .inr (Nat.le_refl _)
  · cases e
    exact ⟨h.below.size, heap_alloc_new w _⟩
  · cases e'
    have := (Array.getElem?_eq_some_iff.1 (h.kx b e).2).1
    omega
theorem made_now {w' : World} {F : FuncId} {caps : Array Value} {p : Fe → Bool} {ok : Fe → Prop} (h0 : w0.heap.size ≤ w.heap.size) (hC : Cls w.heap.size w' F caps p ok) (hx : ∀ b, x = some b → b < w.heap.size) (hy : ∀ b, y = some b → b < w.heap.size) : Made w0 w' F caps p ok x y :=
  ⟨w.heap.size, w', h0, hC, Nat.le_refl _, fun k _ _ => rfl, fun b e => by rcases e with e | e; exact .inl (hx b e); exact .inl (hy b e)⟩
theorem Fin.call1 {w' : World} {c : Array Value} (h : Fin w0 w age now vid m none c2 x y) (hb : Below w.heap.size w w') (hC : Cls w.heap.size w' 76 c (isB vid m) (fun e => e.m.wf)) : Fin w0 w' age now vid m (some c) c2 x y :=
  ⟨h.below.later hb, (fun c' e => by cases e; exact made_now h.below.size hC (fun b e => (Array.getElem?_eq_some_iff.1 (h.kx b e).2).1) (fun b e => (Array.getElem?_eq_some_iff.1 (h.ky b e).2).1)), (fun c e => (h.k2 c e).below hb), (fun b e => ⟨(h.kx b e).1, heap_kept hb (h.kx b e).2⟩), (fun b e => ⟨(h.ky b e).1, heap_kept hb (h.ky b e).2⟩), h.ne⟩
theorem Fin.call2 {w' : World} {c : Array Value} (h : Fin w0 w age now vid m c1 none x y) (hb : Below w.heap.size w w') (hC : Cls w.heap.size w' 81 c (oldB age now) (fun e => timeOk e.seen)) : Fin w0 w' age now vid m c1 (some c) x y :=
  ⟨h.below.later hb, (fun c e => (h.k1 c e).below hb), (fun c' e => by cases e; exact made_now h.below.size hC (fun b e => (Array.getElem?_eq_some_iff.1 (h.kx b e).2).1) (fun b e => (Array.getElem?_eq_some_iff.1 (h.ky b e).2).1)), (fun b e => ⟨(h.kx b e).1, heap_kept hb (h.kx b e).2⟩), (fun b e => ⟨(h.ky b e).1, heap_kept hb (h.ky b e).2⟩), h.ne⟩
/-- Behind both stores: a function that tells the entries that are this station's, and not old. -/
theorem Fin.done {c1 c2 : Array Value} {x y : Nat} (h : Fin w0 w age now vid m (some c1) (some c2) (some x) (some y)) {p : Fe → Bool} (hp : ∀ e, p e = (isB vid m e && !oldB age now e)) :
    Below w0.heap.size w0 ((w.setCell ⟨x, 0, none⟩ (.func (.func 76) #[] c1)).setCell ⟨y, 0, none⟩ (.func (.func 81) #[] c2)) ∧
    Cls w0.heap.size ((w.setCell ⟨x, 0, none⟩ (.func (.func 76) #[] c1)).setCell ⟨y, 0, none⟩ (.func (.func 81) #[] c2)) 79 #[.pointer (some ⟨x, 0, none⟩), .pointer (some ⟨y, 0, none⟩)] p (fun e => timeOk e.seen ∧ e.m.wf) := by
  obtain ⟨hx1, hx2⟩ := h.kx x rfl
  obtain ⟨hy1, hy2⟩ := h.ky y rfl
  have hne := h.ne x y rfl rfl
  generalize hwn : (w.setCell ⟨x, 0, none⟩ (.func (.func 76) #[] c1)).setCell ⟨y, 0, none⟩ (.func (.func 81) #[] c2) = wn
  have ho : ∀ k, k ≠ x → k ≠ y → wn.heap[k]? = w.heap[k]? := fun k k1 k2 => by
    rw [← hwn]
    exact (heap_setCell_other _ ⟨y, 0, none⟩ k _ k2).trans (heap_setCell_other _ ⟨x, 0, none⟩ k _ k1)
  have hsz : wn.heap.size = w.heap.size := by rw [← hwn]; simp [World.setCell]
  have hcx0 : (w.setCell ⟨x, 0, none⟩ (.func (.func 76) #[] c1)).heap[x]? = some (.cells #[.func (.func 76) #[] c1] 120 (0, 0)) := by
    rw [heap_setCell_same _ _ _ _ _ _ hx2]; simp
  have hcx : wn.cell? ⟨x, 0, none⟩ = some (.func (.func 76) #[] c1) := by
    rw [← hwn]
    exact (World.cell?_of_block (a := ⟨x, 0, none⟩) (heap_setCell_other _ ⟨y, 0, none⟩ x _ hne)).trans (cell_of_row _ _ _ _ _ _ hcx0)
  have hcy : wn.cell? ⟨y, 0, none⟩ = some (.func (.func 81) #[] c2) := by
    rw [← hwn]
    have hy3 := (heap_setCell_other w ⟨x, 0, none⟩ y (.func (.func 76) #[] c1) (Ne.symm hne)).trans hy2
    have : ((w.setCell ⟨x, 0, none⟩ (.func (.func 76) #[] c1)).setCell ⟨y, 0, none⟩ (.func (.func 81) #[] c2)).heap[y]? = some (.cells #[.func (.func 81) #[] c2] 120 (0, 0)) := by
      rw [heap_setCell_same _ _ _ _ _ _ hy3]; simp
    exact cell_of_row _ _ _ _ _ _ this
  obtain ⟨B1, wc1, a1, a2, a3, a4, a5⟩ := h.k1 c1 rfl
  obtain ⟨B2, wc2, b1, b2, b3, b4, b5⟩ := h.k2 c2 rfl
  have hC1 : Cls w0.heap.size wn 76 c1 (isB vid m) (fun e => timeOk e.seen ∧ e.m.wf) :=
    (a2.wide a1 (by omega) (fun k k1 k2 => (ho k (by rintro rfl; rcases a5 k (.inl rfl) with h | h <;> omega) (by rintro rfl; rcases a5 k (.inr rfl) with h | h <;> omega)).trans (a4 k k1 k2))).ok_mono (fun e he => he.2)
  have hC2 : Cls w0.heap.size wn 81 c2 (oldB age now) (fun e => timeOk e.seen ∧ e.m.wf) :=
    (b2.wide b1 (by omega) (fun k k1 k2 => (ho k (by rintro rfl; rcases b5 k (.inl rfl) with h | h <;> omega) (by rintro rfl; rcases b5 k (.inr rfl) with h | h <;> omega)).trans (b4 k k1 k2))).ok_mono (fun e he => he.1)
  refine ⟨h.below.trans ⟨by rw [← hwn]; rfl, by rw [← hwn]; rfl, by rw [← hwn]; rfl, by omega, fun k hk => ho k (by omega) (by omega)⟩, ?_⟩
  exact find1_any hp go_is go_old hcx hcy hx1 hy1 hC1 hC2
end
def findB (age now vid : Int) (m : M6) (e : Fe) : Bool := isB vid m e && !oldB age now e
def findR (age now vid : Int) (m : M6) (l : List Fe) : Int × Int := match l.find? (findB age now vid m) with | some e => (e.port, 0) | none => (0, 21)
theorem find_none {p : Fe → Bool} {l : List Fe} (h : ∀ j, j < l.length → p (l.getD j Fe.zero) = false) : l.find? p = none := by
  rw [List.find?_eq_none]
  intro e he
  obtain ⟨j, hj, rfl⟩ := List.getElem_of_mem he
  have := h j hj
  rw [List.getD_eq_getElem?_getD, List.getElem?_eq_getElem hj] at this
  simp at this ⊢
  exact this
theorem find_some {p : Fe → Bool} {l : List Fe} {k : Nat} (hk : k < l.length) (hp : p (l.getD k Fe.zero) = true) (h : ∀ j, j < k → p (l.getD j Fe.zero) = false) : l.find? p = some (l.getD k Fe.zero) := by
  induction l generalizing k with
  | nil => simp at hk
  | cons a r ih =>
    cases k with
    | zero => simp at hp ⊢; simp [hp]
    | succ k =>
      have h0 := h 0 (by omega)
      simp at h0
      rw [List.find?_cons_of_neg (by simp [h0])]
      rw [ih (k := k) (by simpa using hk) (by simpa using hp) (fun j hj => by have := h (j + 1) (by omega); simpa using this)]
      simp
set_option maxHeartbeats 16000000 in
theorem Find_any {w : World} {t : Nat} {v : Value} {room age lost : Int} {l : List Fe} (h : Ft w t v room age lost l) (hl : Fes l) (vid : Int) (m : M6) (now : Int) (hm : m.wf) (hn : timeOk now) :
    Calls Tryd.prog 65 #[.pointer (some ⟨t, 0, none⟩), .int .i64 vid, .agg m.row, .int .i64 now] w fun r w' => r = .returned (.tuple #[.int .i64 (findR age now vid m l).1, .int .i64 (findR age now vid m l).2]) ∧ Below w.heap.size w w' := by
  have hb := hide (below1 w (.cells m.row 23))
  have hr := hide (heap_alloc_new w (.cells m.row 23))
  have hF := hide (h.below hb.out)
  clear h
  generalize hR : findR age now vid m l = R at *
  replace hR := hide hR
  generalize hw1 : w.alloc (.cells m.row 23) = w1 at *
  go_enter Tryd.func65, Tryd.ntmps65
  go_wp2_with fail
  generalize hmb : w.heap.size = mb at *
  have hFr := hF.out
  have ca := hFr.c1
  refine wp_region_noPanic ?_
  refine wp_region_held_drew (S := fun W => Below w1.heap.size w1 W) (by kernel_rfl) (below_drew (Below.refl _ _)) (fun hHeld => ?_)
  refine wpAnyH_take (i := 0) (oi := { dst := some 13, op := Op.move (Operand.tmp 1), type := 3, pos := "fdb.go:56", after := #[], guard := none }) (v := ?v1) rfl (by kernel_rfl) (by kernel_rfl) (by kernel_rfl) (fun _ _ _ h => h) (Or.inl ⟨by rfl, ?y1⟩) (by assumption) ?r1
  case y1 => (intro w hSw; (try dsimp only at hSw); (try (go_split_ands)); go_simp; try with_reducible rfl)
  try simp only [Act.put, List.setIfInBounds_toArray, List.set_cons_zero, List.set_cons_succ]
  refine wpAnyH_take (i := 1) (oi := { dst := some 14, op := Op.load 23 (Operand.tmp 6), type := 23, pos := "fdb.go:56", after := #[], guard := none }) (v := _) rfl (by kernel_rfl) (by kernel_rfl) (by kernel_rfl) (fun _ _ _ h => h) (yieldsIf_load_row (by rfl) 23 (.tmp 6) rfl mb rfl 23 _ (0, 0) _ (fun W hW => heap_kept hW hr.out) Tryd.underlying23 rfl (m6Size _)) (by assumption) ?_
  try simp only [Act.put, List.setIfInBounds_toArray, List.set_cons_zero, List.set_cons_succ]
  refine wpAnyH_take (i := 3) (oi := { dst := some 16, op := Op.move (Operand.tmp 0), type := 32, pos := "fdb.go:56", after := #[], guard := none }) (v := ?v2) rfl (by kernel_rfl) (by kernel_rfl) (by kernel_rfl) (fun _ _ _ h => h) (Or.inl ⟨by rfl, ?y2⟩) (by assumption) ?r2
  case y2 => (intro w hSw; (try dsimp only at hSw); (try (go_split_ands)); go_simp; try with_reducible rfl)
  try simp only [Act.put, List.setIfInBounds_toArray, List.set_cons_zero, List.set_cons_succ]
  refine wpAnyH_take (i := 4) (oi := { dst := some 17, op := Op.nilCheck (Operand.tmp 16), type := 0, pos := "fdb.go:56", after := #[{ on := 3, ground := Ground.data }], guard := none }) (v := ?v3) rfl (by kernel_rfl) (by kernel_rfl) (by kernel_rfl) (fun _ _ _ h => h) (Or.inl ⟨by rfl, ?y3⟩) (by assumption) ?r3
  case y3 => (intro w hSw; (try dsimp only at hSw); (try (go_split_ands)); go_simp; try with_reducible rfl)
  try simp only [Act.put, List.setIfInBounds_toArray, List.set_cons_zero, List.set_cons_succ]
  refine wpAnyH_take (i := 5) (oi := { dst := some 18, op := Op.fieldAddr 88 (Operand.tmp 17) 1, type := 0, pos := "fdb.go:56", after := #[{ on := 4, ground := Ground.data }], guard := none }) (v := ?v4) rfl (by kernel_rfl) (by kernel_rfl) (by kernel_rfl) (fun _ _ _ h => h) (Or.inl ⟨by rfl, ?y4⟩) (by assumption) ?r4
  case y4 => (intro w hSw; (try dsimp only at hSw); (try (go_split_ands)); go_simp; try with_reducible rfl)
  try simp only [Act.put, List.setIfInBounds_toArray, List.set_cons_zero, List.set_cons_succ]
  refine wpAnyH_take (i := 6) (oi := { dst := some 19, op := Op.load 2 (Operand.tmp 18), type := 2, pos := "fdb.go:56", after := #[{ on := 5, ground := Ground.data }], guard := none }) (v := (.int .i64 age)) rfl (by kernel_rfl) (by kernel_rfl) (by kernel_rfl) (fun _ _ _ h => h) (.inl ⟨by rfl, fun W hW => by have hca : W.cell? ⟨t, 1, none⟩ = some (.int .i64 age) := (hFr.below hW).c1; clear hHeld hFr ca; go_simp⟩) (by assumption) ?_
  try simp only [Act.put, List.setIfInBounds_toArray, List.set_cons_zero, List.set_cons_succ]
  refine wpAnyH_take (i := 7) (oi := { dst := some 20, op := Op.move (Operand.tmp 3), type := 2, pos := "fdb.go:56", after := #[], guard := none }) (v := ?v5) rfl (by kernel_rfl) (by kernel_rfl) (by kernel_rfl) (fun _ _ _ h => h) (Or.inl ⟨by rfl, ?y5⟩) (by assumption) ?r5
  case y5 => (intro w hSw; (try dsimp only at hSw); (try (go_split_ands)); go_simp; try with_reducible rfl)
  try simp only [Act.put, List.setIfInBounds_toArray, List.set_cons_zero, List.set_cons_succ]
  clear ca hFr hHeld

  refine (fun (k0_1_2_3 : Hid (?Tk0_1_2_3 : Prop)) => ?mk0_1_2_3) ?pk0_1_2_3
  rotate_left
  refine (fun (k0_1_2 : Hid (?Tk0_1_2 : Prop)) => ?mk0_1_2) ?pk0_1_2
  rotate_left
  refine (fun (k0_1_3 : Hid (?Tk0_1_3 : Prop)) => ?mk0_1_3) ?pk0_1_3
  rotate_left
  refine (fun (k0_2_3 : Hid (?Tk0_2_3 : Prop)) => ?mk0_2_3) ?pk0_2_3
  rotate_left
  refine (fun (k0_1 : Hid (?Tk0_1 : Prop)) => ?mk0_1) ?pk0_1
  rotate_left
  refine (fun (k0_2 : Hid (?Tk0_2 : Prop)) => ?mk0_2) ?pk0_2
  rotate_left
  refine (fun (k0_3 : Hid (?Tk0_3 : Prop)) => ?mk0_3) ?pk0_3
  rotate_left
  refine (fun (k2_3 : Hid (?Tk2_3 : Prop)) => ?mk2_3) ?pk2_3
  rotate_left
  refine (fun (k0 : Hid (?Tk0 : Prop)) => ?mk0) ?pk0
  rotate_left
  refine (fun (k2 : Hid (?Tk2 : Prop)) => ?mk2) ?pk2
  rotate_left
  refine (fun (k3 : Hid (?Tk3 : Prop)) => ?mk3) ?pk3
  rotate_left
  case mk3 =>
    have hI := hide (Fin.start w1 age now vid m)
    generalize w1.drew = wc at *
    refine wpAnyH_ready (rs := [2, 9, 10]) (by kernel_rfl) (by simp) ?_
    refine AllReadyH.cons (o := { dst := some 15, op := Op.call { callee := Callee.value (Operand.func 63), args := #[Operand.tmp 13, Operand.tmp 14], argTypes := #[3, 23] }, type := 120, pos := "fdb.go:56", after := #[{ on := 0, ground := Ground.data }, { on := 1, ground := Ground.data }], guard := none }) rfl (fun K hK => ?_) (AllReadyH.cons (o := { dst := some 10, op := Op.alloc 120, type := 0, pos := "fdb.go:56", after := #[], guard := none }) rfl (fun K hK => ?_) (AllReadyH.cons (o := { dst := some 11, op := Op.alloc 120, type := 0, pos := "fdb.go:56", after := #[], guard := none }) rfl (fun K hK => ?_) (AllReadyH.nil)))
    ·
      go_simp
      refine (mkIs_any vid m wc hm).mono ?_
      rintro _ wn ⟨c1, rfl, hbn, hCn⟩
      have hI2 := hI.out.call1 hbn hCn
      go_wp2_with fail
      refine hK.out _ _ hI2.below (fun hHeldE => ?_)
      clear hK K
      try simp only [Act.put, List.setIfInBounds_toArray, List.set_cons_zero, List.set_cons_succ]
      clear hHeldE hI hbn hCn wc
      replace hI2 := hide hI2
      revert hI2
      revert wn
      revert c1
      exact k0.out
    ·
      refine step_alloc rfl 120 rfl _ (alloc_Fn _) ?_
      have hI2 := hI.out.mkX
      refine hK.out _ _ hI2.below (fun hHeldE => ?_)
      clear hK K
      try simp only [Act.put, List.setIfInBounds_toArray, List.set_cons_zero, List.set_cons_succ]
      clear hHeldE hI
      generalize wc.alloc (.cells #[Value.nilFunc] 120) = wn at *
      generalize wc.heap.size = x at *
      replace hI2 := hide hI2
      revert hI2
      revert wn
      revert x
      exact k2.out
    ·
      refine step_alloc rfl 120 rfl _ (alloc_Fn _) ?_
      have hI2 := hI.out.mkY
      refine hK.out _ _ hI2.below (fun hHeldE => ?_)
      clear hK K
      try simp only [Act.put, List.setIfInBounds_toArray, List.set_cons_zero, List.set_cons_succ]
      clear hHeldE hI
      generalize wc.alloc (.cells #[Value.nilFunc] 120) = wn at *
      generalize wc.heap.size = y at *
      replace hI2 := hide hI2
      revert hI2
      revert wn
      revert y
      exact k3.out
  case pk3 =>
    refine hide ?_
    intro y
    intro wc hI
    refine wpAnyH_ready (rs := [2, 9]) (by kernel_rfl) (by simp) ?_
    refine AllReadyH.cons (o := { dst := some 15, op := Op.call { callee := Callee.value (Operand.func 63), args := #[Operand.tmp 13, Operand.tmp 14], argTypes := #[3, 23] }, type := 120, pos := "fdb.go:56", after := #[{ on := 0, ground := Ground.data }, { on := 1, ground := Ground.data }], guard := none }) rfl (fun K hK => ?_) (AllReadyH.cons (o := { dst := some 10, op := Op.alloc 120, type := 0, pos := "fdb.go:56", after := #[], guard := none }) rfl (fun K hK => ?_) (AllReadyH.nil))
    ·
      go_simp
      refine (mkIs_any vid m wc hm).mono ?_
      rintro _ wn ⟨c1, rfl, hbn, hCn⟩
      have hI2 := hI.out.call1 hbn hCn
      go_wp2_with fail
      refine hK.out _ _ hI2.below (fun hHeldE => ?_)
      clear hK K
      try simp only [Act.put, List.setIfInBounds_toArray, List.set_cons_zero, List.set_cons_succ]
      clear hHeldE hI hbn hCn wc
      replace hI2 := hide hI2
      revert hI2
      revert wn
      revert y
      revert c1
      exact k0_3.out
    ·
      refine step_alloc rfl 120 rfl _ (alloc_Fn _) ?_
      have hI2 := hI.out.mkX
      refine hK.out _ _ hI2.below (fun hHeldE => ?_)
      clear hK K
      try simp only [Act.put, List.setIfInBounds_toArray, List.set_cons_zero, List.set_cons_succ]
      clear hHeldE hI
      generalize wc.alloc (.cells #[Value.nilFunc] 120) = wn at *
      generalize wc.heap.size = x at *
      replace hI2 := hide hI2
      revert hI2
      revert wn
      revert y
      revert x
      exact k2_3.out
  case pk2 =>
    refine hide ?_
    intro x
    intro wc hI
    refine wpAnyH_ready (rs := [2, 10]) (by kernel_rfl) (by simp) ?_
    refine AllReadyH.cons (o := { dst := some 15, op := Op.call { callee := Callee.value (Operand.func 63), args := #[Operand.tmp 13, Operand.tmp 14], argTypes := #[3, 23] }, type := 120, pos := "fdb.go:56", after := #[{ on := 0, ground := Ground.data }, { on := 1, ground := Ground.data }], guard := none }) rfl (fun K hK => ?_) (AllReadyH.cons (o := { dst := some 11, op := Op.alloc 120, type := 0, pos := "fdb.go:56", after := #[], guard := none }) rfl (fun K hK => ?_) (AllReadyH.nil))
    ·
      go_simp
      refine (mkIs_any vid m wc hm).mono ?_
      rintro _ wn ⟨c1, rfl, hbn, hCn⟩
      have hI2 := hI.out.call1 hbn hCn
      go_wp2_with fail
      refine hK.out _ _ hI2.below (fun hHeldE => ?_)
      clear hK K
      try simp only [Act.put, List.setIfInBounds_toArray, List.set_cons_zero, List.set_cons_succ]
      clear hHeldE hI hbn hCn wc
      replace hI2 := hide hI2
      revert hI2
      revert wn
      revert x
      revert c1
      exact k0_2.out
    ·
      refine step_alloc rfl 120 rfl _ (alloc_Fn _) ?_
      have hI2 := hI.out.mkY
      refine hK.out _ _ hI2.below (fun hHeldE => ?_)
      clear hK K
      try simp only [Act.put, List.setIfInBounds_toArray, List.set_cons_zero, List.set_cons_succ]
      clear hHeldE hI
      generalize wc.alloc (.cells #[Value.nilFunc] 120) = wn at *
      generalize wc.heap.size = y at *
      replace hI2 := hide hI2
      revert hI2
      revert wn
      revert y
      revert x
      exact k2_3.out
  case pk0 =>
    refine hide ?_
    intro c1
    intro wc hI
    refine wpAnyH_ready (rs := [8, 9, 10]) (by kernel_rfl) (by simp) ?_
    refine AllReadyH.cons (o := { dst := some 21, op := Op.call { callee := Callee.value (Operand.func 74), args := #[Operand.tmp 19, Operand.tmp 20], argTypes := #[2, 2] }, type := 120, pos := "fdb.go:56", after := #[{ on := 6, ground := Ground.data }, { on := 7, ground := Ground.data }, { on := 2, ground := Ground.chain }], guard := none }) rfl (fun K hK => ?_) (AllReadyH.cons (o := { dst := some 10, op := Op.alloc 120, type := 0, pos := "fdb.go:56", after := #[], guard := none }) rfl (fun K hK => ?_) (AllReadyH.cons (o := { dst := some 11, op := Op.alloc 120, type := 0, pos := "fdb.go:56", after := #[], guard := none }) rfl (fun K hK => ?_) (AllReadyH.nil)))
    ·
      go_simp
      refine (mkOld_any age now wc hn).mono ?_
      rintro _ wn ⟨c2, rfl, hbn, hCn⟩
      have hI2 := hI.out.call2 hbn hCn
      go_wp2_with fail
      refine hK.out _ _ hI2.below (fun hHeldE => ?_)
      clear hK K
      try simp only [Act.put, List.setIfInBounds_toArray, List.set_cons_zero, List.set_cons_succ]
      clear hHeldE hI hbn hCn wc
      replace hI2 := hide hI2
      revert hI2
      revert wn
      revert c2
      revert c1
      exact k0_1.out
    ·
      refine step_alloc rfl 120 rfl _ (alloc_Fn _) ?_
      have hI2 := hI.out.mkX
      refine hK.out _ _ hI2.below (fun hHeldE => ?_)
      clear hK K
      try simp only [Act.put, List.setIfInBounds_toArray, List.set_cons_zero, List.set_cons_succ]
      clear hHeldE hI
      generalize wc.alloc (.cells #[Value.nilFunc] 120) = wn at *
      generalize wc.heap.size = x at *
      replace hI2 := hide hI2
      revert hI2
      revert wn
      revert x
      revert c1
      exact k0_2.out
    ·
      refine step_alloc rfl 120 rfl _ (alloc_Fn _) ?_
      have hI2 := hI.out.mkY
      refine hK.out _ _ hI2.below (fun hHeldE => ?_)
      clear hK K
      try simp only [Act.put, List.setIfInBounds_toArray, List.set_cons_zero, List.set_cons_succ]
      clear hHeldE hI
      generalize wc.alloc (.cells #[Value.nilFunc] 120) = wn at *
      generalize wc.heap.size = y at *
      replace hI2 := hide hI2
      revert hI2
      revert wn
      revert y
      revert c1
      exact k0_3.out
  case pk2_3 =>
    refine hide ?_
    intro x
    intro y
    intro wc hI
    refine wpAnyH_ready (rs := [2]) (by kernel_rfl) (by simp) ?_
    refine AllReadyH.cons (o := { dst := some 15, op := Op.call { callee := Callee.value (Operand.func 63), args := #[Operand.tmp 13, Operand.tmp 14], argTypes := #[3, 23] }, type := 120, pos := "fdb.go:56", after := #[{ on := 0, ground := Ground.data }, { on := 1, ground := Ground.data }], guard := none }) rfl (fun K hK => ?_) AllReadyH.nil
    go_simp
    refine (mkIs_any vid m wc hm).mono ?_
    rintro _ wn ⟨c1, rfl, hbn, hCn⟩
    have hI2 := hI.out.call1 hbn hCn
    go_wp2_with fail
    refine hK.out _ _ hI2.below (fun hHeldE => ?_)
    clear hK K
    try simp only [Act.put, List.setIfInBounds_toArray, List.set_cons_zero, List.set_cons_succ]
    clear hHeldE hI hbn hCn wc
    replace hI2 := hide hI2
    revert hI2
    revert wn
    revert y
    revert x
    revert c1
    exact k0_2_3.out
  case pk0_3 =>
    refine hide ?_
    intro c1
    intro y
    intro wc hI
    refine wpAnyH_ready (rs := [8, 9]) (by kernel_rfl) (by simp) ?_
    refine AllReadyH.cons (o := { dst := some 21, op := Op.call { callee := Callee.value (Operand.func 74), args := #[Operand.tmp 19, Operand.tmp 20], argTypes := #[2, 2] }, type := 120, pos := "fdb.go:56", after := #[{ on := 6, ground := Ground.data }, { on := 7, ground := Ground.data }, { on := 2, ground := Ground.chain }], guard := none }) rfl (fun K hK => ?_) (AllReadyH.cons (o := { dst := some 10, op := Op.alloc 120, type := 0, pos := "fdb.go:56", after := #[], guard := none }) rfl (fun K hK => ?_) (AllReadyH.nil))
    ·
      go_simp
      refine (mkOld_any age now wc hn).mono ?_
      rintro _ wn ⟨c2, rfl, hbn, hCn⟩
      have hI2 := hI.out.call2 hbn hCn
      go_wp2_with fail
      refine hK.out _ _ hI2.below (fun hHeldE => ?_)
      clear hK K
      try simp only [Act.put, List.setIfInBounds_toArray, List.set_cons_zero, List.set_cons_succ]
      clear hHeldE hI hbn hCn wc
      replace hI2 := hide hI2
      revert hI2
      revert wn
      revert y
      revert c2
      revert c1
      exact k0_1_3.out
    ·
      refine step_alloc rfl 120 rfl _ (alloc_Fn _) ?_
      have hI2 := hI.out.mkX
      refine hK.out _ _ hI2.below (fun hHeldE => ?_)
      clear hK K
      try simp only [Act.put, List.setIfInBounds_toArray, List.set_cons_zero, List.set_cons_succ]
      clear hHeldE hI
      generalize wc.alloc (.cells #[Value.nilFunc] 120) = wn at *
      generalize wc.heap.size = x at *
      replace hI2 := hide hI2
      revert hI2
      revert wn
      revert y
      revert x
      revert c1
      exact k0_2_3.out
  case pk0_2 =>
    refine hide ?_
    intro c1
    intro x
    intro wc hI
    refine wpAnyH_ready (rs := [8, 10]) (by kernel_rfl) (by simp) ?_
    refine AllReadyH.cons (o := { dst := some 21, op := Op.call { callee := Callee.value (Operand.func 74), args := #[Operand.tmp 19, Operand.tmp 20], argTypes := #[2, 2] }, type := 120, pos := "fdb.go:56", after := #[{ on := 6, ground := Ground.data }, { on := 7, ground := Ground.data }, { on := 2, ground := Ground.chain }], guard := none }) rfl (fun K hK => ?_) (AllReadyH.cons (o := { dst := some 11, op := Op.alloc 120, type := 0, pos := "fdb.go:56", after := #[], guard := none }) rfl (fun K hK => ?_) (AllReadyH.nil))
    ·
      go_simp
      refine (mkOld_any age now wc hn).mono ?_
      rintro _ wn ⟨c2, rfl, hbn, hCn⟩
      have hI2 := hI.out.call2 hbn hCn
      go_wp2_with fail
      refine hK.out _ _ hI2.below (fun hHeldE => ?_)
      clear hK K
      try simp only [Act.put, List.setIfInBounds_toArray, List.set_cons_zero, List.set_cons_succ]
      clear hHeldE hI hbn hCn wc
      replace hI2 := hide hI2
      revert hI2
      revert wn
      revert x
      revert c2
      revert c1
      exact k0_1_2.out
    ·
      refine step_alloc rfl 120 rfl _ (alloc_Fn _) ?_
      have hI2 := hI.out.mkY
      refine hK.out _ _ hI2.below (fun hHeldE => ?_)
      clear hK K
      try simp only [Act.put, List.setIfInBounds_toArray, List.set_cons_zero, List.set_cons_succ]
      clear hHeldE hI
      generalize wc.alloc (.cells #[Value.nilFunc] 120) = wn at *
      generalize wc.heap.size = y at *
      replace hI2 := hide hI2
      revert hI2
      revert wn
      revert y
      revert x
      revert c1
      exact k0_2_3.out
  case pk0_1 =>
    refine hide ?_
    intro c1
    intro c2
    intro wc hI
    refine wpAnyH_ready (rs := [9, 10]) (by kernel_rfl) (by simp) ?_
    refine AllReadyH.cons (o := { dst := some 10, op := Op.alloc 120, type := 0, pos := "fdb.go:56", after := #[], guard := none }) rfl (fun K hK => ?_) (AllReadyH.cons (o := { dst := some 11, op := Op.alloc 120, type := 0, pos := "fdb.go:56", after := #[], guard := none }) rfl (fun K hK => ?_) (AllReadyH.nil))
    ·
      refine step_alloc rfl 120 rfl _ (alloc_Fn _) ?_
      have hI2 := hI.out.mkX
      refine hK.out _ _ hI2.below (fun hHeldE => ?_)
      clear hK K
      try simp only [Act.put, List.setIfInBounds_toArray, List.set_cons_zero, List.set_cons_succ]
      clear hHeldE hI
      generalize wc.alloc (.cells #[Value.nilFunc] 120) = wn at *
      generalize wc.heap.size = x at *
      replace hI2 := hide hI2
      revert hI2
      revert wn
      revert x
      revert c2
      revert c1
      exact k0_1_2.out
    ·
      refine step_alloc rfl 120 rfl _ (alloc_Fn _) ?_
      have hI2 := hI.out.mkY
      refine hK.out _ _ hI2.below (fun hHeldE => ?_)
      clear hK K
      try simp only [Act.put, List.setIfInBounds_toArray, List.set_cons_zero, List.set_cons_succ]
      clear hHeldE hI
      generalize wc.alloc (.cells #[Value.nilFunc] 120) = wn at *
      generalize wc.heap.size = y at *
      replace hI2 := hide hI2
      revert hI2
      revert wn
      revert y
      revert c2
      revert c1
      exact k0_1_3.out
  case pk0_2_3 =>
    refine hide ?_
    intro c1
    intro x
    intro y
    intro wc hI
    refine wpAnyH_ready (rs := [8]) (by kernel_rfl) (by simp) ?_
    refine AllReadyH.cons (o := { dst := some 21, op := Op.call { callee := Callee.value (Operand.func 74), args := #[Operand.tmp 19, Operand.tmp 20], argTypes := #[2, 2] }, type := 120, pos := "fdb.go:56", after := #[{ on := 6, ground := Ground.data }, { on := 7, ground := Ground.data }, { on := 2, ground := Ground.chain }], guard := none }) rfl (fun K hK => ?_) AllReadyH.nil
    go_simp
    refine (mkOld_any age now wc hn).mono ?_
    rintro _ wn ⟨c2, rfl, hbn, hCn⟩
    have hI2 := hI.out.call2 hbn hCn
    go_wp2_with fail
    refine hK.out _ _ hI2.below (fun hHeldE => ?_)
    clear hK K
    try simp only [Act.put, List.setIfInBounds_toArray, List.set_cons_zero, List.set_cons_succ]
    clear hHeldE hI hbn hCn wc
    replace hI2 := hide hI2
    revert hI2
    revert wn
    revert y
    revert x
    revert c2
    revert c1
    exact k0_1_2_3.out
  case pk0_1_3 =>
    refine hide ?_
    intro c1
    intro c2
    intro y
    intro wc hI
    refine wpAnyH_ready (rs := [9]) (by kernel_rfl) (by simp) ?_
    refine AllReadyH.cons (o := { dst := some 10, op := Op.alloc 120, type := 0, pos := "fdb.go:56", after := #[], guard := none }) rfl (fun K hK => ?_) AllReadyH.nil
    refine step_alloc rfl 120 rfl _ (alloc_Fn _) ?_
    have hI2 := hI.out.mkX
    refine hK.out _ _ hI2.below (fun hHeldE => ?_)
    clear hK K
    try simp only [Act.put, List.setIfInBounds_toArray, List.set_cons_zero, List.set_cons_succ]
    clear hHeldE hI
    generalize wc.alloc (.cells #[Value.nilFunc] 120) = wn at *
    generalize wc.heap.size = x at *
    replace hI2 := hide hI2
    revert hI2
    revert wn
    revert y
    revert x
    revert c2
    revert c1
    exact k0_1_2_3.out
  case pk0_1_2 =>
    refine hide ?_
    intro c1
    intro c2
    intro x
    intro wc hI
    refine wpAnyH_ready (rs := [10]) (by kernel_rfl) (by simp) ?_
    refine AllReadyH.cons (o := { dst := some 11, op := Op.alloc 120, type := 0, pos := "fdb.go:56", after := #[], guard := none }) rfl (fun K hK => ?_) AllReadyH.nil
    refine step_alloc rfl 120 rfl _ (alloc_Fn _) ?_
    have hI2 := hI.out.mkY
    refine hK.out _ _ hI2.below (fun hHeldE => ?_)
    clear hK K
    try simp only [Act.put, List.setIfInBounds_toArray, List.set_cons_zero, List.set_cons_succ]
    clear hHeldE hI
    generalize wc.alloc (.cells #[Value.nilFunc] 120) = wn at *
    generalize wc.heap.size = y at *
    replace hI2 := hide hI2
    revert hI2
    revert wn
    revert y
    revert x
    revert c2
    revert c1
    exact k0_1_2_3.out
  case pk0_1_2_3 =>
    refine hide ?_
    intro c1
    intro c2
    intro x
    intro y
    intro wc hI
    obtain ⟨hx1, hx2⟩ := hI.out.kx x rfl
    obtain ⟨hy1, hy2⟩ := hI.out.ky y rfl
    have hne := hI.out.ne x y rfl rfl
    have hp : ∀ e, findB age now vid m e = (isB vid m e && !oldB age now e) := fun e => rfl
    have hD := hide (hI.out.done hp)
    have d1 : wc.cell? ⟨x, 0, none⟩ = some Value.nilFunc := cell_of_row _ _ _ _ _ _ hx2
    have z1 : wc.frozen? ⟨x, 0, none⟩ = false := by simp [World.frozen?, hx2]
    have hb2 := hide hI.out.below
    have hb11 : Below w1.heap.size w1 (wc.setCell ⟨x, 0, none⟩ (.func (.func 76) #[] c1)) := hb2.out.trans ⟨rfl, rfl, rfl, by simp [World.setCell], fun k hk => heap_setCell_other wc ⟨x, 0, none⟩ k _ (by intro e; dsimp only at e; omega)⟩
    clear hp hI
    refine wpAnyH_ready (rs := [11]) (by kernel_rfl) (by simp) ?_
    refine AllReadyH.cons (o := { dst := none, op := Op.store 120 (Operand.tmp 10) (Operand.tmp 15), type := 0, pos := "fdb.go:56", after := #[{ on := 9, ground := Ground.data }, { on := 2, ground := Ground.data }, { on := 8, ground := Ground.chain }, { on := 0, ground := Ground.phase }, { on := 1, ground := Ground.phase }, { on := 2, ground := Ground.phase }, { on := 3, ground := Ground.textOnly Departure.lateStores }, { on := 4, ground := Ground.textOnly Departure.lateStores }, { on := 5, ground := Ground.textOnly Departure.lateStores }, { on := 6, ground := Ground.textOnly Departure.lateStores }, { on := 7, ground := Ground.textOnly Departure.lateStores }, { on := 8, ground := Ground.textOnly Departure.lateStoresUnsure }, { on := 9, ground := Ground.phase }, { on := 10, ground := Ground.phase }], guard := none }) rfl (fun K hK => ?_) AllReadyH.nil
    go_simp
    have hy3 := (heap_setCell_other wc ⟨x, 0, none⟩ y (.func (.func 76) #[] c1) (Ne.symm hne)).trans hy2
    refine hK.out _ _ hb11 (fun hHeld11 => ?_)
    clear hK K
    try simp only [Act.put]
    clear hHeld11 d1 z1
    have d2 : (wc.setCell ⟨x, 0, none⟩ (.func (.func 76) #[] c1)).cell? ⟨y, 0, none⟩ = some Value.nilFunc := cell_of_row _ _ _ _ _ _ hy3
    have z2 : (wc.setCell ⟨x, 0, none⟩ (.func (.func 76) #[] c1)).frozen? ⟨y, 0, none⟩ = false := by simp [World.frozen?, hy3]
    refine wpAnyH_ready (rs := [12]) (by kernel_rfl) (by simp) ?_
    refine AllReadyH.cons (o := { dst := none, op := Op.store 120 (Operand.tmp 11) (Operand.tmp 21), type := 0, pos := "fdb.go:56", after := #[{ on := 10, ground := Ground.data }, { on := 8, ground := Ground.data }, { on := 11, ground := Ground.chain }, { on := 0, ground := Ground.phase }, { on := 1, ground := Ground.phase }, { on := 2, ground := Ground.phase }, { on := 3, ground := Ground.phase }, { on := 4, ground := Ground.phase }, { on := 5, ground := Ground.phase }, { on := 6, ground := Ground.phase }, { on := 7, ground := Ground.phase }, { on := 8, ground := Ground.phase }, { on := 9, ground := Ground.phase }, { on := 10, ground := Ground.phase }, { on := 11, ground := Ground.phase }], guard := none }) rfl (fun K hK => ?_) AllReadyH.nil
    go_simp
    refine hK.out _ _ hD.out.1 (fun hHeld12 => ?_)
    clear hK K
    try simp only [Act.put]
    clear hHeld12 d2 z2 hy3 hx2 hy2 hx1 hy1 hne hb2
    refine wpAnyH_done (by kernel_rfl) ?_ _
    refine NoPanic.normal ?_
    generalize (wc.setCell ⟨x, 0, none⟩ (.func (.func 76) #[] c1)).setCell ⟨y, 0, none⟩ (.func (.func 81) #[] c2) = wz at *
    have hFz := hide (hF.out.below hD.out.1)
    have hX := hide (Index_any hFz.out.sl hl.1 hl.2 (hide hD.out.2) go_find)
    have hbz := hide (hb.out.trans (hD.out.1.mono (by rw [← hmb]; rw [← hw1, World.size_alloc]; omega)))
    have cz := hFz.out.c2
    obtain ⟨av, capv, rfl⟩ := hFz.out.sl.shape
    clear hF hb hr hD
    go_wp2_with fail
    refine hX.out.mono ?_
    rintro _ w3 ⟨i, rfl, hb3, hi⟩
    have hF3 := hide (hFz.out.below hb3)
    have hB3 := hide (hbz.out.trans (hb3.mono (Nat.le_trans (by rw [← hmb]; exact Nat.le_refl _) (by have := hbz.out.size; omega))))
    clear hX hFz hbz hb3 cz
    rcases hi with ⟨rfl, hno⟩ | ⟨k, rfl, hk, hpk, hno⟩
    · have hR2 : R = (0, 21) := by rw [← hR.out]; unfold findR; rw [find_none hno]
      subst hR2
      clear hR hno hF3
      go_wp2
      go_ret2
      exact ⟨rfl, hB3.out⟩
    · have hR2 : R = ((l.getD k Fe.zero).port, 0) := by rw [← hR.out]; unfold findR; rw [find_some hk hpk hno]
      obtain ⟨b, cap', sp, hv, hFl, _, _⟩ := hF3.out.sl.at_i (Nat.lt_of_le_of_lt (Nat.zero_le _) hk)
      simp only [Value.slice.injEq] at hv
      obtain ⟨rfl, _, rfl⟩ := hv
      have hc := hFl.cell wide_Fe Fe.zero k 7 hk (by omega)
      have hc2 : w3.cell? ⟨b, k * 9 + 7, none⟩ = some (.int .i64 (l.getD k Fe.zero).port) := hc
      have cz := hF3.out.c2
      clear hF3 hFl hpk hc hl hno
      obtain ⟨ep, hep⟩ : ∃ ep, ep = (l.getD k Fe.zero).port := ⟨_, rfl⟩
      rw [← hep] at hR2 hc2
      subst hR2
      clear hR hep
      generalize hL : l.length = L at *
      clear hL
      go_wp2
      go_ret2
      exact ⟨rfl, hB3.out⟩
end Go.Proofs.YtiahiakllpjliaaDoor
