/-
  What the statements of layer 11 keep beside the table ('Vs'), and how its blocks are made, in any order ('Ini'). Conditions: those that each theorem names.
-/
import Derived.Test.YtffbblcohgkmjaaVlan6
import Derived.Test.YtffbblcohgkmjaaCame
namespace Go.Proofs.Ytffbblcohgkmjaa
open Go.RowKit Go.Maps
set_option linter.unusedVariables false
set_option maxRecDepth 20000

/-- A map of numbers by numbers. -/
@[reducible] def iT : MT Int Int :=
  { t := 26, k := 3, e := 3, R := oneElem, kv := .int .i64, kl := .int .i64, okk := I64, ev := .int .i64, ed := fun n => .lit (.int .i64 n), oka := I64, d0 := 0 }
theorem iT_good : iT.Good Try.prog where
  ht := Try.underlying26
  keyed := int_keyed Try.underlying3
  kmk k hk := keyOf_int_mk Try.underlying3 (wfI hk.1 hk.2)
  kinv := kinv_int Try.underlying3
  kinj a b _ _ h := by simpa using h
  emk a ha := oneElem_mk a ha
  einv v y h := oneElem_inv v y h
  einj a b h := by simpa using h
  zero w := by kernel_rfl
  zok := ⟨by decide, by decide⟩
theorem _root_.Go.RowKit.Below.grownS {B b : Nat} {W w w' : World} (h : Below B W w) (hg : w.grownBy w' (some b)) (hb : B ≤ b) (hB : B ≤ w.heap.size) : Below B W w' :=
  h.trans ⟨hg.os, hg.tape, hg.output, hg.size, fun k hk => hg.block k (by omega) (fun e => by cases e; omega)⟩
@[reducible] def mdZero : Array Value := #[.slice none 0 0, .map none, .map none]
structure Ini (w0 w : World) (n : Nat) (x : Int) (s m1 m2 a : Option Nat) (d1 d2 : Bool) : Prop where
  below : Below w0.heap.size w0 w
  hs : ∀ b, s = some b → w0.heap.size ≤ b ∧ Fl w b 44 fPv (List.replicate n Pv.zero) []
  h1 : ∀ b, m1 = some b → w0.heap.size ≤ b ∧ Mp Try.prog iT w b (if d1 then 1 else 0) (if d1 then updK (fun _ => none) 1 (some x) else fun _ => none)
  h2 : ∀ b, m2 = some b → w0.heap.size ≤ b ∧ Mp Try.prog iT w b (if d2 then 1 else 0) (if d2 then updK (fun _ => none) 1 (some x) else fun _ => none)
  ha : ∀ b, a = some b → w0.heap.size ≤ b ∧ w.heap[b]? = some (.cells mdZero 28 (0, 0))
  ne : ∀ b b', m1 = some b → m2 = some b' → b ≠ b'
section
variable {w0 w : World} {n : Nat} {x : Int} {s m1 m2 a : Option Nat} {d1 d2 : Bool}
theorem Ini.start (w0 : World) (n : Nat) (x : Int) : Ini w0 w0.drew n x none none none none false false :=
  ⟨below_drew (Below.refl _ _), (fun b e => by cases e), (fun b e => by cases e), (fun b e => by cases e), (fun b e => by cases e), (fun b b' e => by cases e)⟩
theorem Ini.alloc (h : Ini w0 w n x s m1 m2 a d1 d2) (o : Obj) : Ini w0 (w.alloc o) n x s m1 m2 a d1 d2 :=
  have hb := below1 w o
  ⟨h.below.later hb, fun b e => ⟨(h.hs b e).1, (h.hs b e).2.below hb⟩, fun b e => ⟨(h.h1 b e).1, (h.h1 b e).2.below hb⟩, fun b e => ⟨(h.h2 b e).1, (h.h2 b e).2.below hb⟩, fun b e => ⟨(h.ha b e).1, heap_kept hb (h.ha b e).2⟩, h.ne⟩
theorem Ini.mkS (h : Ini w0 w n x none m1 m2 a d1 d2) : Ini w0 (w.alloc (.cells (flat fPv (List.replicate n Pv.zero)).toArray 44)) n x (some w.heap.size) m1 m2 a d1 d2 := by
  have h' := h.alloc (.cells (flat fPv (List.replicate n Pv.zero)).toArray 44)
  refine ⟨h'.below, fun b e => ?_, h'.h1, h'.h2, h'.ha, h'.ne⟩
  cases e
  exact ⟨h.below.size, Fl.new w _ _ _⟩
theorem Ini.mkA (h : Ini w0 w n x s m1 m2 none d1 d2) : Ini w0 (w.alloc (.cells mdZero 28)) n x s m1 m2 (some w.heap.size) d1 d2 := by
  have h' := h.alloc (.cells mdZero 28)
  refine ⟨h'.below, h'.hs, h'.h1, h'.h2, fun b e => ?_, h'.ne⟩
  cases e
  exact ⟨h.below.size, heap_alloc_new w _⟩
theorem Ini.mk1 (h : Ini w0 w n x s none m2 a false d2) : Ini w0 (w.alloc (.map #[] 0)) n x s (some w.heap.size) m2 a false d2 := by
  have h' := h.alloc (.map #[] 0)
  refine ⟨h'.below, h'.hs, fun b e => ?_, h'.h2, h'.ha, fun b b' e e' => ?_⟩
  · cases e
    exact ⟨h.below.size, Mp.made _ _ _⟩
  · cases e
    have := (h.h2 b' e').2.lt
    omega
theorem Ini.mk2 (h : Ini w0 w n x s m1 none a d1 false) : Ini w0 (w.alloc (.map #[] 0)) n x s m1 (some w.heap.size) a d1 false := by
  have h' := h.alloc (.map #[] 0)
  refine ⟨h'.below, h'.hs, h'.h1, fun b e => ?_, h'.ha, fun b b' e e' => ?_⟩
  · cases e
    exact ⟨h.below.size, Mp.made _ _ _⟩
  · cases e'
    have := (h.h1 b e).2.lt
    omega
theorem Fl.cells_ne {α : Type} {w : World} {b b' : Nat} {t : TypeId} {f : α → List Value} {l : List α} {sp : List Value} (h : Fl w b t f l sp) {P : Program} {κ β : Type} {M : MT κ β} {c : Nat} {g : κ → Option β} (h' : Mp P M w b' c g) : b ≠ b' := by
  rintro rfl
  obtain ⟨D, ⟨es, cl, hb, _⟩, _⟩ := h'
  have h0 : w.heap[b]? = some (.cells _ t (0, 0)) := h
  rw [h0] at hb
  cases hb
theorem Ini.put1 {b : Nat} (h : Ini w0 w n x s (some b) m2 a false d2) (hx : I64 x) :
    ∃ w', (Instr.mapUpdate 26 (.map (some b)) (.int .i64 1) (.int .i64 x)).run Try.prog w = .ok () w' ∧ Ini w0 w' n x s (some b) m2 a true d2 := by
  have h1 := h.h1 b rfl
  obtain ⟨w', r1, r2, r3⟩ := h1.2.put iT_good 1 (by simp [I64]) x hx (by simp [maxLen])
  have hbl := h1.2.lt
  have hk : ∀ k, k < w.heap.size → k ≠ b → w'.heap[k]? = w.heap[k]? := fun k hk hne => r3.block k hk (fun e => hne (by simpa using e))
  refine ⟨w', r1, h.below.grownS r3 h1.1 h.below.size, fun k e => ⟨(h.hs k e).1, (h.hs k e).2.blk (hk k (h.hs k e).2.lt ((h.hs k e).2.cells_ne h1.2))⟩, fun k e => ?_, fun k e => ⟨(h.h2 k e).1, (h.h2 k e).2.blk (hk k (h.h2 k e).2.lt (fun e' => h.ne b k rfl e e'.symm))⟩, fun k e => ⟨(h.ha k e).1, ?_⟩, h.ne⟩
  · cases e
    exact ⟨h1.1, r2⟩
  · rw [hk k (Array.getElem?_eq_some_iff.1 (h.ha k e).2).1 (fun e' => ?_)]
    · exact (h.ha k e).2
    · subst e'
      obtain ⟨D, ⟨es, cl, hb, _⟩, _⟩ := h1.2
      rw [(h.ha k e).2] at hb
      cases hb
theorem Ini.put2 {b : Nat} (h : Ini w0 w n x s m1 (some b) a d1 false) (hx : I64 x) :
    ∃ w', (Instr.mapUpdate 26 (.map (some b)) (.int .i64 1) (.int .i64 x)).run Try.prog w = .ok () w' ∧ Ini w0 w' n x s m1 (some b) a d1 true := by
  have h2 := h.h2 b rfl
  obtain ⟨w', r1, r2, r3⟩ := h2.2.put iT_good 1 (by simp [I64]) x hx (by simp [maxLen])
  have hbl := h2.2.lt
  have hk : ∀ k, k < w.heap.size → k ≠ b → w'.heap[k]? = w.heap[k]? := fun k hk hne => r3.block k hk (fun e => hne (by simpa using e))
  refine ⟨w', r1, h.below.grownS r3 h2.1 h.below.size, fun k e => ⟨(h.hs k e).1, (h.hs k e).2.blk (hk k (h.hs k e).2.lt ((h.hs k e).2.cells_ne h2.2))⟩, fun k e => ⟨(h.h1 k e).1, (h.h1 k e).2.blk (hk k (h.h1 k e).2.lt (fun e' => h.ne k b e rfl e'))⟩, fun k e => ?_, fun k e => ⟨(h.ha k e).1, ?_⟩, h.ne⟩
  · cases e
    exact ⟨h2.1, r2⟩
  · rw [hk k (Array.getElem?_eq_some_iff.1 (h.ha k e).2).1 (fun e' => ?_)]
    · exact (h.ha k e).2
    · subst e'
      obtain ⟨D, ⟨es, cl, hb, _⟩, _⟩ := h2.2
      rw [(h.ha k e).2] at hb
      cases hb
end
theorem make_Pv (w : World) (n : Nat) (hn : n ≤ 16) : (Instr.makeSlice 25 (.int .i64 n) (.int .i64 n)).run Try.prog w = .ok (.slice (some ⟨w.heap.size, 0, none⟩) n n) (w.alloc (.cells (flat fPv (List.replicate n Pv.zero)).toArray 44)) := by
  obtain ⟨i0, hi, hz0, hz1, hz2⟩ := info_parts Try.infoPv
  have hr := run_make (P := Try.prog) w 25 44 i0 _ Try.underlying25 hi hz0 .i64 .i64 n n (by omega) (by omega) (by rw [hz2]; omega) (by omega)
  rw [hz1] at hr
  simpa only [Int.toNat_natCast, Value.cells, made_flat wide_Pv Pv.zero (by omega)] using hr
theorem alloc_Md (w : World) : (Instr.alloc 28 true (.tuple #[])).run Try.prog w = .ok (.pointer (some ⟨w.heap.size, 0, none⟩)) (w.alloc (.cells mdZero 28)) := by
  go_simp
theorem step_makeMap {P : Program} {ops : Array Oper} {o : Oper} {a : Act} {w : World} {K : Act → World → Prop} {Q : Exit → Act → World → Prop} {E : Prop} (hw : Region.wanted o (yielded ops a.tmps) = true) (t : TypeId) (ho : o.op = .makeMap t none)
    (h : K (a.put o.dst (.map (some w.heap.size))) (w.alloc (.map #[] 0))) : if Region.wanted o (yielded ops a.tmps) = true then Oper.wp P o a w K Q else E := by
  rw [if_pos hw]
  unfold Oper.wp
  simp only [execOp, ho, Sem.run_bind, Sem.run_pure]
  exact h
theorem step_insert {P : Program} {ops : Array Oper} {o : Oper} {a : Act} {w w' : World} {K : Act → World → Prop} {Q : Exit → Act → World → Prop} {E : Prop} (hw : Region.wanted o (yielded ops a.tmps) = true) (t : TypeId) (m k x : Operand) (ho : o.op = .insert t m k x) (mv kv xv : Value)
    (hm : a.eval m = mv) (hk : a.eval k = kv) (hx : a.eval x = xv) (hrun : (Instr.mapUpdate t mv kv xv).run P w = .ok () w')
    (h : K (a.put o.dst undef) w') : if Region.wanted o (yielded ops a.tmps) = true then Oper.wp P o a w K Q else E := by
  rw [if_pos hw]
  unfold Oper.wp
  simp only [execOp, ho, hm, hk, hx, Sem.run_bind, Sem.run_pure, Result.andThen_ok, hrun]
  exact h
end Go.Proofs.Ytffbblcohgkmjaa
