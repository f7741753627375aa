
/-
  Acts, and the contract of the statements' own 'do'; rows of acts and of ports that came in. Conditions: those that each theorem names.
-/
import Derived.Test.YtoejoneecanbbaaTree24
import Derived.Test.YtoejoneecanbbaaTree27
namespace Go.Proofs.Ytoejoneecanbbaa
open Go.RowKit
set_option linter.unusedVariables false
set_option maxRecDepth 20000

structure Ac where
  (kind port : Int) (m : Bp)
@[reducible] def Ac.zero : Ac := ⟨0, 0, Bp.zero⟩
@[reducible] def fA (o : Ac) : List Value := [.int .i64 o.kind, .int .i64 o.port, .int .i64 o.m.kind, .int .u64 o.m.root, .int .u64 o.m.cost, .int .u64 o.m.bridge, .int .i64 o.m.port, .bool o.m.change, .bool o.m.ack, .bool o.m.proposal, .bool o.m.agreement, .bool o.m.learning, .bool o.m.forwarding, .int .i64 o.m.role, .int .i64 o.m.age, .int .i64 o.m.maxAge, .int .i64 o.m.hello, .int .i64 o.m.delay]
@[reducible] def Ac.row (o : Ac) : Array Value := #[.int .i64 o.kind, .int .i64 o.port, .int .i64 o.m.kind, .int .u64 o.m.root, .int .u64 o.m.cost, .int .u64 o.m.bridge, .int .i64 o.m.port, .bool o.m.change, .bool o.m.ack, .bool o.m.proposal, .bool o.m.agreement, .bool o.m.learning, .bool o.m.forwarding, .int .i64 o.m.role, .int .i64 o.m.age, .int .i64 o.m.maxAge, .int .i64 o.m.hello, .int .i64 o.m.delay]
theorem acSize (o : Ac) : (Try.prog.info? 42).map (·.size) = some o.row.size := by kernel_rfl
theorem acLen (o : Ac) : (Try.prog.info? 42).map (·.size) = some (fA o).length := by kernel_rfl
theorem Ac.row_all (o : Ac) : o.row.all (·.oneCell') = true := by simp [Value.oneCell']
@[reducible] def fB (b : Bp) : List Value := [.int .i64 b.kind, .int .u64 b.root, .int .u64 b.cost, .int .u64 b.bridge, .int .i64 b.port, .bool b.change, .bool b.ack, .bool b.proposal, .bool b.agreement, .bool b.learning, .bool b.forwarding, .int .i64 b.role, .int .i64 b.age, .int .i64 b.maxAge, .int .i64 b.hello, .int .i64 b.delay]
theorem bpLen (b : Bp) : (Try.prog.info? 40).map (·.size) = some (fB b).length := by kernel_rfl
def doT (T : Tt) (o : Ac) : Tt := if o.kind = 0 then tickT T else if o.kind = 1 ∨ o.kind = 2 then linkT T o.port (decide (o.kind = 1)) else if o.kind = 3 then recvT T o.port o.m else T
theorem fine_do {n : Nat} {id : Int} {T : Tt} (h : Fine n id T) (o : Ac) (hm : o.m.wf) : Fine n id (doT T o) := by
  unfold doT
  repeat' split
  · exact fine_tick h
  · exact fine_link h _ _
  · exact fine_recv h _ hm
  · exact h
theorem range_of_row {w : World} {g : Nat} {t : TypeId} {fr : Nat × Nat} {cs : List Value} (h : w.heap[g]? = some (.cells cs.toArray t fr)) (o : Nat) (vs : List Value) (hv : ∀ j v, vs[j]? = some v → cs[o + j]? = some v) : w.rangeAt g o vs := by
  intro j v hj
  rw [cell_of_row _ _ _ _ _ _ h]
  simp only [List.getElem?_toArray]
  exact hv j v hj
set_option maxHeartbeats 4000000 in
theorem ODo {w : World} {tb N : Nat} {A : Nat → Prop} {T : Tt} (h : Ow w tb A N T) (hN : N ≤ 400000) (o : Ac) (hm : o.m.wf) :
    Calls Try.prog 8 #[.pointer (some ⟨tb, 0, none⟩), .agg o.row] w fun e w' => e = .returned (.tuple #[]) ∧ Ow w' tb A (N + 40) (doT T o) ∧ Kp A w w' := by
  have hA := below1 w (.cells o.row 42)
  have hM := heap_alloc_new w (.cells o.row 42)
  have hO := h.below hA
  have hK : Hid (Kp A w (w.alloc (.cells o.row 42))) := Kp.of_below hA h.lt
  have k0 : (w.alloc (.cells o.row 42)).cell? ⟨w.heap.size, 0, none⟩ = some (.int .i64 o.kind) := (cell_of_row _ _ _ _ _ _ hM).trans rfl
  have k1 : (w.alloc (.cells o.row 42)).cell? ⟨w.heap.size, 1, none⟩ = some (.int .i64 o.port) := (cell_of_row _ _ _ _ _ _ hM).trans rfl
  have hrg : (w.alloc (.cells o.row 42)).rangeAt w.heap.size 2 (fB o.m) := by
    refine range_of_row (cs := fA o) hM 2 (fB o.m) (fun j v hj => ?_)
    rw [Nat.add_comm]
    exact hj
  have ht := hide (OTick hO hN)
  have hl := hide (fun (up : Bool) => OLink hO hN o.port up)
  have hr := hide (OReceive hO hN o.port o.m hm)
  have hE : Hid (doT T o = if o.kind = 0 then tickT T else if o.kind = 1 ∨ o.kind = 2 then linkT T o.port (decide (o.kind = 1)) else if o.kind = 3 then recvT T o.port o.m else T) := rfl
  have hS : Hid (Ow (w.alloc (.cells o.row 42)) tb A (N + 40) T) := hO.le (by omega)
  obtain ⟨kd, pt, m⟩ := o
  dsimp only at *
  generalize doT T _ = V at *
  clear hA hM hO
  go_enter Try.func8, Try.ntmps8
  by_cases h0 : kd = 0
  · subst h0
    have hV : Hid (V = tickT T) := hE.out
    clear hE hl hr hrg
    go_wp2_with fail
    refine ht.out.mono ?_
    rintro e w1 ⟨rfl, hO1, hK1⟩
    have hK2 := hide (hK.out.trans hK1)
    replace hO1 := hide hO1
    clear ht hK hK1
    go_wp2
    exact v_end rfl rfl ⟨rfl, by rw [hV.out]; exact hO1.out, hK2.out⟩
  have h0q : (kd == 0) = false := by rw [beq_eq_false_iff_ne]; exact h0
  by_cases h1 : kd = 1
  · subst h1
    have hV : Hid (V = linkT T pt true) := hE.out
    have hl1 := hide (hl.out true)
    clear hE hl hr hrg ht h0
    go_wp2_with fail
    refine hl1.out.mono ?_
    rintro e w1 ⟨rfl, hO1, hK1⟩
    have hK2 := hide (hK.out.trans hK1)
    replace hO1 := hide hO1
    clear hl1 hK hK1
    go_wp2
    exact v_end rfl rfl ⟨rfl, by rw [hV.out]; exact hO1.out, hK2.out⟩
  have h1q : (kd == 1) = false := by rw [beq_eq_false_iff_ne]; exact h1
  by_cases h2 : kd = 2
  · subst h2
    have hV : Hid (V = linkT T pt false) := hE.out
    have hl1 := hide (hl.out false)
    clear hE hl hr hrg ht h0 h1
    go_wp2_with fail
    refine hl1.out.mono ?_
    rintro e w1 ⟨rfl, hO1, hK1⟩
    have hK2 := hide (hK.out.trans hK1)
    replace hO1 := hide hO1
    clear hl1 hK hK1
    go_wp2
    exact v_end rfl rfl ⟨rfl, by rw [hV.out]; exact hO1.out, hK2.out⟩
  have h2q : (kd == 2) = false := by rw [beq_eq_false_iff_ne]; exact h2
  by_cases h3 : kd = 3
  · subst h3
    have hV : Hid (V = recvT T pt m) := hE.out
    clear hE hl ht h0 h1 h2
    go_wp2_with ((with_reducible change wpList _ _ _ _ _ _); refine wpList_load_mid rfl 40 (.tmp 25) rfl w.heap.size 2 rfl (fB m) _ hrg Try.underlying40 rfl (bpLen _) ?_)
    refine hr.out.mono ?_
    rintro e w1 ⟨rfl, hO1, hK1⟩
    have hK2 := hide (hK.out.trans hK1)
    replace hO1 := hide hO1
    clear hr hK hK1 hrg
    go_wp2
    exact v_end rfl rfl ⟨rfl, by rw [hV.out]; exact hO1.out, hK2.out⟩
  have h3q : (kd == 3) = false := by rw [beq_eq_false_iff_ne]; exact h3
  have hV : Hid (V = T) := hE.out.trans (by rw [if_neg h0, if_neg (by simp [h1, h2]), if_neg h3])
  clear hE hl ht hr hrg h0 h1 h2 h3
  go_wp2
  exact v_end rfl rfl ⟨rfl, by rw [hV.out]; exact hS.out, hK.out⟩
/-- Acts that came in. -/
def Axs (w : World) (a : Option Addr) (n : Nat) (l : List Ac) : Prop := l.length = n ∧ ∀ i, i < n → ∃ b off, a = some ⟨b, off, none⟩ ∧ w.rangeAt b (off + i * 18) (fA (l.getD i Ac.zero)) ∧ (l.getD i Ac.zero).m.wf
theorem Axs.blk {w w' : World} {a : Option Addr} {n : Nat} {l : List Ac} (h : Axs w a n l) (hb : ∀ b o c, a = some ⟨b, o, c⟩ → w'.heap[b]? = w.heap[b]?) : Axs w' a n l := by
  refine ⟨h.1, fun i hi => ?_⟩
  obtain ⟨b, off, e, hr, hw⟩ := h.2 i hi
  refine ⟨b, off, e, fun j v hj => ?_, hw⟩
  rw [World.cell?_of_block (a := ⟨b, off + i * 18 + j, none⟩) (hb b off none e)]
  exact hr j v hj
theorem Axs.below {w w' : World} {B : Nat} {a : Option Addr} {n : Nat} {l : List Ac} (h : Axs w a n l) (hb : Below B w w') (hB : B = w.heap.size) : Axs w' a n l := by
  subst hB
  refine ⟨h.1, fun i hi => ?_⟩
  obtain ⟨b, off, e, hr, hw⟩ := h.2 i hi
  refine ⟨b, off, e, fun j v hj => ?_, hw⟩
  have h1 := hr j v hj
  rw [(bcell hb).1 _ _ (block_lt_of_cell h1)]
  exact h1
end Go.Proofs.Ytoejoneecanbbaa
