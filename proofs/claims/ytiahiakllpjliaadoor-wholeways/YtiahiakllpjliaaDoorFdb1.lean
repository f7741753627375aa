
/-
  Entries of layer 12 ('Fe'), the functions that tell some of them, and who makes these. Conditions: those that each theorem names.
-/
import Derived.Test.YtiahiakllpjliaaDoorLawsC
import Derived.Test.YtiahiakllpjliaaDoorGMap
import Derived.DeepKeys
namespace Go.Proofs.YtiahiakllpjliaaDoor
open Go.RowKit Go.Maps
set_option linter.unusedVariables false
set_option maxRecDepth 20000

/-- Cells in the middle of a block are read whole, under a guard that lets it. -/
theorem wpList_load_mid_on {P : Program} {ops : Array Oper} {rest : List Oper} {o : Oper} {a : Act} {w : World} {Q : Exit → Act → World → Prop} (hw : Region.wanted o (yielded ops a.tmps) = true) (ty : TypeId) (x : Operand) (ho : o.op = .load ty x)
    (b of : Nat) (hx : a.eval x = .pointer (some ⟨b, of, none⟩)) (cs : List Value) (d : TypeDesc) (hc : w.rangeAt b of cs) (hu : P.underlying ty = some d) (hd : d.isRow = true) (hi : (P.info? ty).map (·.size) = some cs.length)
    (h : wpList P ops Q rest (a.put o.dst (.agg cs.toArray)) w) : wpList P ops Q (o :: rest) a w :=
  wpList_step fun K hK => by rw [if_pos hw]; exact wp_load_mid ty x ho b of hx cs d hc hu hd hi (hK _ _ h)
/-- An address. -/
structure M6 where
  (a b c d e f : Int)
  deriving DecidableEq
@[reducible] def M6.row (m : M6) : Array Value := #[.int .u8 m.a, .int .u8 m.b, .int .u8 m.c, .int .u8 m.d, .int .u8 m.e, .int .u8 m.f]
def M6.wf (m : M6) : Prop := (0 ≤ m.a ∧ m.a ≤ 255) ∧ (0 ≤ m.b ∧ m.b ≤ 255) ∧ (0 ≤ m.c ∧ m.c ≤ 255) ∧ (0 ≤ m.d ∧ m.d ≤ 255) ∧ (0 ≤ m.e ∧ m.e ≤ 255) ∧ (0 ≤ m.f ∧ m.f ≤ 255)
structure Fe where
  (vid : Int) (m : M6) (port seen : Int)
  deriving DecidableEq
@[reducible] def Fe.zero : Fe := ⟨0, ⟨0, 0, 0, 0, 0, 0⟩, 0, 0⟩
@[reducible] def fFe (e : Fe) : List Value := [.int .i64 e.vid, .int .u8 e.m.a, .int .u8 e.m.b, .int .u8 e.m.c, .int .u8 e.m.d, .int .u8 e.m.e, .int .u8 e.m.f, .int .i64 e.port, .int .i64 e.seen]
theorem wide_Fe : WideF fFe 9 := ⟨fun _ => rfl, fun x u hu => by simp at hu; rcases hu with rfl | rfl | rfl | rfl | rfl | rfl | rfl | rfl | rfl <;> rfl⟩
theorem feLen (e : Fe) : (Tryd.prog.info? 123).map (·.size) = some (fFe e).length := by kernel_rfl
theorem feSize (e : Fe) : (Tryd.prog.info? 123).map (·.size) = some (fFe e).toArray.size := by kernel_rfl
theorem fe_all (e : Fe) : (fFe e).toArray.all (·.oneCell') = true := by simp [Value.oneCell']
/-- Is it this port's? -/
def atB (port : Int) (e : Fe) : Bool := e.port == port
def oldB (age now : Int) (e : Fe) : Bool := decide (age ≤ now - e.seen)
def isB (vid : Int) (m : M6) (e : Fe) : Bool := e.vid == vid && decide (e.m = m)
theorem old_any (q1 q2 : Nat) (age now : Int) (e : Fe) (w : World) (hq1 : w.cell? ⟨q1, 0, none⟩ = some (.int .i64 now)) (hq2 : w.cell? ⟨q2, 0, none⟩ = some (.int .i64 age)) (hn : 0 ≤ now ∧ now ≤ 4611686018427387904) (hs : 0 ≤ e.seen ∧ e.seen ≤ 4611686018427387904) :
    Calls Tryd.prog 81 #[.agg (fFe e).toArray, .pointer (some ⟨q1, 0, none⟩), .pointer (some ⟨q2, 0, none⟩)] w fun r w' => r = .returned (.bool (oldB age now e)) ∧ Below w.heap.size w w' := by
  have h1 : (w.alloc (.cells (fFe e).toArray 123)).cell? ⟨w.heap.size, 8, none⟩ = some (.int .i64 e.seen) := (cell_of_row _ _ _ _ _ _ (heap_alloc_new w _)).trans rfl
  have h2 : (w.alloc (.cells (fFe e).toArray 123)).cell? ⟨q1, 0, none⟩ = some (.int .i64 now) := ((bcell (below1 w _)).1 _ _ (block_lt_of_cell hq1)).trans hq1
  have h3 : (w.alloc (.cells (fFe e).toArray 123)).cell? ⟨q2, 0, none⟩ = some (.int .i64 age) := ((bcell (below1 w _)).1 _ _ (block_lt_of_cell hq2)).trans hq2
  have hb := hide (below1 w (.cells (fFe e).toArray 123))
  generalize hC : (fFe e).toArray = C at *
  unfold oldB
  generalize e.seen = es at *
  obtain ⟨n1, n2⟩ := hn
  obtain ⟨s1, s2⟩ := hs
  clear hq1 hq2 hC
  go_enter Tryd.func81, Tryd.ntmps81
  go_wp2
  go_ret
  exact ⟨rfl, hb.out⟩
theorem wf8 {n : Int} (h : 0 ≤ n ∧ n ≤ 255) : (Lit.int .u8 n).wf = true := by simp [Lit.wf, IntKind.min, IntKind.max, IntKind.signed, IntKind.bits]; omega
theorem cells6_u8 : Tryd.prog.cellsOf 5 = 1 := by kernel_rfl
theorem cells6_mac : Tryd.prog.cellsOf 23 = 6 := by kernel_rfl
def M6.lits (m : M6) : List Lit := [.int .u8 m.a, .int .u8 m.b, .int .u8 m.c, .int .u8 m.d, .int .u8 m.e, .int .u8 m.f]
theorem M6.lits_inj {a b : M6} (h : a.lits = b.lits) : a = b := by
  obtain ⟨a0, a1, a2, a3, a4, a5⟩ := a
  obtain ⟨b0, b1, b2, b3, b4, b5⟩ := b
  simp [M6.lits] at h
  simp [h]
theorem lit8 (d : Nat) (n : Int) (h : 0 ≤ n ∧ n ≤ 255) : Tryd.prog.keyLits (d + 1) 5 [.int .u8 n] = some [.int .u8 n] := by
  simp [Program.keyLits, Tryd.underlying5, wf8 h]
theorem m6_lits (d : Nat) (m : M6) (h : m.wf) : Tryd.prog.keyLits (d + 2) 23 m.row.toList = some m.lits := by
  have h1 := lit8 d _ h.1
  have h2 := lit8 d _ h.2.1
  have h3 := lit8 d _ h.2.2.1
  have h4 := lit8 d _ h.2.2.2.1
  have h5 := lit8 d _ h.2.2.2.2.1
  have h6 := lit8 d _ h.2.2.2.2.2
  unfold Program.keyLits
  rw [Tryd.underlying23]
  simp [cells6_mac, cells6_u8, List.range_succ, h1, h2, h3, h4, h5, h6, M6.lits]
theorem m6_eql (a b : M6) (ha : a.wf) (hb : b.wf) (w : World) : (binOp .eql 23 (.agg a.row) (.agg b.row)).run Tryd.prog w = .ok (.bool (decide (a = b))) w := by
  obtain ⟨r, h1, h2⟩ := run_equalIn_deep (P := Tryd.prog) 9998 2 23 (by kernel_rfl) w 2 2 (.agg a.row) (.agg b.row) _ _ (by kernel_rfl) (by kernel_rfl) (m6_lits 0 a ha) (m6_lits 0 b hb)
  have hr : r = decide (a = b) := by
    rw [Bool.eq_iff_iff, decide_eq_true_eq]
    exact h2.trans ⟨M6.lits_inj, fun e => by rw [e]⟩
  rw [run_eql_struct]
  rw [show (Op.equalIn 10000 23 (.agg a.row) (.agg b.row)).run Tryd.prog w = .ok r w from h1, hr]
  rfl
theorem m6Len (m : M6) : (Tryd.prog.info? 23).map (·.size) = some m.row.toList.length := by kernel_rfl
theorem m6Size (m : M6) : (Tryd.prog.info? 23).map (·.size) = some m.row.size := by kernel_rfl
theorem fe_mac (e : Fe) {w : World} {b : Nat} (h : w.heap[b]? = some (.cells (fFe e).toArray 123 (0, 0))) : w.rangeAt b 1 e.m.row.toList := World.rangeAt_of_block h 1 6
theorem is_any (q1 q2 : Nat) (vid : Int) (m : M6) (e : Fe) (w : World) (hq1 : w.cell? ⟨q1, 0, none⟩ = some (.int .i64 vid)) (hq2 : w.heap[q2]? = some (.cells m.row 23 (0, 0))) (hm : m.wf) (he : e.m.wf) :
    Calls Tryd.prog 76 #[.agg (fFe e).toArray, .pointer (some ⟨q1, 0, none⟩), .pointer (some ⟨q2, 0, none⟩)] w fun r w' => r = .returned (.bool (isB vid m e)) ∧ Below w.heap.size w w' := by
  have h1 : (w.alloc (.cells (fFe e).toArray 123)).cell? ⟨w.heap.size, 0, none⟩ = some (.int .i64 e.vid) := (cell_of_row _ _ _ _ _ _ (heap_alloc_new w _)).trans rfl
  have h2 : (w.alloc (.cells (fFe e).toArray 123)).cell? ⟨q1, 0, none⟩ = some (.int .i64 vid) := ((bcell (below1 w _)).1 _ _ (block_lt_of_cell hq1)).trans hq1
  have h3 := hide (fe_mac e (heap_alloc_new w (.cells (fFe e).toArray 123)))
  have h4 := hide (heap_kept (below1 w (.cells (fFe e).toArray 123)) hq2)
  have hb := hide (below1 w (.cells (fFe e).toArray 123))
  have hE := m6_eql e.m m he hm
  unfold isB
  generalize hC : (fFe e).toArray = C at *
  generalize decide (e.m = m) = d at *
  generalize e.vid = ev at *
  generalize e.m = em at *
  clear hq1 hC
  by_cases hv : ev = vid
  · subst hv
    have hv' : (ev == ev) = true := by simp
    rw [hv', Bool.true_and]
    go_enter Tryd.func76, Tryd.ntmps76
    go_wp2_with (first | ((with_reducible change wpList _ _ _ _ _ _); refine wpList_load_mid_on rfl 23 (.tmp 10) rfl w.heap.size 1 rfl em.row.toList _ h3.out Tryd.underlying23 rfl (m6Len _) ?_) | ((with_reducible change wpList _ _ _ _ _ _); refine wpList_load_row_on rfl 23 (.tmp 2) rfl q2 rfl 23 _ _ _ h4.out Tryd.underlying23 rfl (m6Size _) ?_))
    go_ret
    exact ⟨rfl, hb.out⟩
  · have hv' : (ev == vid) = false := beq_eq_false_iff_ne.2 hv
    rw [hv', Bool.false_and]
    clear h3 h4 hE
    go_enter Tryd.func76, Tryd.ntmps76
    go_wp2
    go_ret
    exact ⟨rfl, hb.out⟩
end Go.Proofs.YtiahiakllpjliaaDoor
