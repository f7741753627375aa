
/-
  The contract of tree's New, for up to sixteen ports. Conditions: those that each theorem names.
-/
import Derived.Test.YtoejoneecanbbaaTree21
namespace Go.Proofs.Ytoejoneecanbbaa
open Go.RowKit
set_option linter.unusedVariables false
set_option maxRecDepth 20000

set_option maxHeartbeats 1000000 in
theorem selectRoles_of {w : World} {tb : Nat} {pv : Value} {T : Tt} (h : Sl w pv 34 16 fT T.ps) (c1 : w.cell? ⟨tb, 1, none⟩ = some pv) (c0 : w.cell? ⟨tb, 0, none⟩ = some (.int .u64 T.id)) (hfew : T.ps.length ≤ 16) (hltb : tb < w.heap.size) (hok : ∀ i, (T.at i).b.wf) :
    Calls Try.prog 23 #[.pointer (some ⟨tb, 0, none⟩)] w fun r w' => ∃ ib vb, r = .returned (.agg (rolesRow (selT T).y (selT T).rp (.slice (some ⟨ib, 0, none⟩) T.ps.length T.ps.length) (.slice (some ⟨vb, 0, none⟩) T.ps.length T.ps.length))) ∧ Below w.heap.size w w' ∧
      w.heap.size ≤ ib ∧ w.heap.size ≤ vb ∧ ib ≠ vb ∧ Fl w' ib 3 fI (selT T).roles [] ∧ Fl w' vb 30 fV (selT T).tells [] := by
  obtain ⟨a, cap0, hv⟩ := h.shape
  rw [hv] at c1
  have hcall : Hid (copyTo T T.ps.length = T.bs) := copyTo_all T
  have hwfb : Hid (∀ i, (T.bs.getD i Rp.zero).wf) := fun i => by rw [bs_at]; exact hok i
  have hbl := hide (bs_len T)
  have hsel : Hid ((selT T).y = (bestW T.id T.bs T.ps.length).v ∧ (selT T).rp = (bestW T.id T.bs T.ps.length).place ∧ (selT T).roles = rolesL T.id T.bs ∧ (selT T).tells = tellsL T.id T.bs) := ⟨rfl, rfl, rfl, rfl⟩
  have hst : Hid (∀ j, j < T.ps.length → (copyTo T j).set j (T.at j).b = copyTo T (j + 1)) := fun j hj => map_range_set _ _ (fun i => (T.at i).b) _ hj
  have hcl : Hid (∀ j, (copyTo T j).length = T.ps.length) := fun j => by simp [copyTo]
  have hc0 : Hid (copyTo T 0 = List.replicate T.ps.length Rp.zero) := map_range_zero _ (fun i => (T.at i).b) _
  have hat : Hid (∀ j, j < T.ps.length → ∃ pb cap, a = some ⟨pb, 0, none⟩ ∧ ∀ W, Below w.heap.size w W → TpAt W pb (j * 16) (T.at j) ∧ W.cell? ⟨tb, 1, none⟩ = some (.slice (some ⟨pb, 0, none⟩) T.ps.length cap) ∧ pb < w.heap.size) := fun j hj => by
    obtain ⟨pb, cap, sp, e2, hF, _, _⟩ := h.at_i (show 0 < T.ps.length by omega)
    have e1 := c1
    rw [← hv, e2] at e1
    rw [hv] at e2
    simp only [Value.slice.injEq] at e2
    refine ⟨pb, cap, e2.1, fun W hW => ⟨(hF.below hW).tp j hj, (hW.cell (p := ⟨tb, 1, none⟩) hltb).trans e1, hF.lt⟩⟩
  clear hv
  generalize hn : T.ps.length = n at *
  generalize (selT T).y = sy at *
  generalize (selT T).rp = srp at *
  generalize (selT T).roles = sro at *
  generalize (selT T).tells = ste at *
  have hmk := fun w => make_P w n (by omega)
  have hR := heap_alloc_new w (.cells (rolesRow Vc.zero 0 (.slice none 0 0) (.slice none 0 0)) 64)
  have hA := below1 w (.cells (rolesRow Vc.zero 0 (.slice none 0 0) (.slice none 0 0)) 64)
  have hsz := World.size_alloc w (.cells (rolesRow Vc.zero 0 (.slice none 0 0) (.slice none 0 0)) 64)
  replace hn := hide hn
  replace h := hide h
  go_enter Try.func23, Try.ntmps23
  go_wp2_with fail
  have hF1 := hide (Fl.new (w.alloc (.cells (rolesRow Vc.zero 0 (.slice none 0 0) (.slice none 0 0)) 64)) 32 fP (List.replicate n Rp.zero))
  have hA2 := below1 (w.alloc (.cells (rolesRow Vc.zero 0 (.slice none 0 0) (.slice none 0 0)) 64)) (.cells (flat fP (List.replicate n Rp.zero)).toArray 32)
  have hR2 := hide (heap_kept hA2 hR)
  have hB2 := hide (hA.later hA2)
  rw [hsz] at hF1
  clear hA hA2 hR hsz hmk c1
  generalize (w.alloc (.cells (rolesRow Vc.zero 0 (.slice none 0 0) (.slice none 0 0)) 64)).alloc (.cells (flat fP (List.replicate n Rp.zero)).toArray 32) = w2 at *
  rw [← hc0.out] at hF1
  generalize hpk : w.heap.size + 1 = pk at *
  replace hpk := hide hpk
  go_loopw [16] (fun i wr => ∃ j : Nat, j ≤ n ∧ i = .int .i64 j ∧ Hid (Below w.heap.size w wr) ∧ Hid (wr.heap[w.heap.size]? = some (.cells (rolesRow Vc.zero 0 (.slice none 0 0) (.slice none 0 0)) 64)) ∧ Hid (Fl wr pk 32 fP (copyTo T j) [])) (fun i _ => n - (intOf i).toNat)
  case atStart => exact ⟨0, Nat.zero_le _, rfl, hB2, hR2, hF1⟩
  case round =>
    obtain ⟨j, hj, rfl, hB, hZ, hF⟩ := hrel
    clear hB2 hR2 hF1
    by_cases hlt : j < n
    · obtain ⟨pb, cap, rfl, hW⟩ := hat.out j hlt
      obtain ⟨hc, c1, hpl⟩ := hW wr hB.out
      have hth := hide (hF.out.there wide_P Rp.zero j 0 8 (by rw [hcl.out]; exact hlt) (by omega))
      have hF2 := hide (hF.out.setn wide_P Rp.zero j 0 (fP (T.at j).b) (T.at j).b (by rw [hcl.out]; exact hlt) (by simp) (setL_fP _ _))
      rw [Nat.add_zero] at hth hF2
      rw [hst.out j hlt] at hF2
      have hB3 := hide (below_setCellsF (b := pk) (show w.heap.size ≤ pk by have := hpk.out; omega) (fP (T.at j).b) (j * 8) _ hB.out)
      have hZ3 := hide ((heap_setCells_other pk (fP (T.at j).b) (j * 8) wr w.heap.size (by have := hpk.out; omega)).trans hZ.out)
      generalize T.at j = tp at *
      obtain ⟨⟨id, cost, up, has, ⟨a0, a1, a2, a3⟩⟩, ed, ro, st, age, left, wait, ch, agr⟩ := tp
      obtain ⟨k0, k1, k2, k3, k4, k5, k6, k7, k8, k9, k10, k11, k12, k13, k14, k15⟩ := hc
      dsimp only at *
      clear k8 k9 k10 k11 k12 k13 k14 k15
      clear hW
      go_wp2_with ((with_reducible change wpList _ _ _ _ _ _); refine stop_store 32 (.tmp 29) (.tmp 28) rfl ?_)
      refine hide ?_
      have hth2 : wr.there pk (j * 8) (Rp.row ⟨id, cost, up, has, ⟨a0, a1, a2, a3⟩⟩).size := hth.out
      refine wpList_store_mid rfl 32 (.tmp 29) (.tmp 28) rfl pk (j * 8) (Rp.row ⟨id, cost, up, has, ⟨a0, a1, a2, a3⟩⟩) rfl rfl hth2 (rpSize Rp.zero) (Rp.row_all ⟨id, cost, up, has, ⟨a0, a1, a2, a3⟩⟩) ?_
      clear hth2
      go_wp2
      clear hth hF hB hZ c1 k0 k1 k2 k3 k4 k5 k6 k7
      go_round
      case rel => exact ⟨j + 1, by omega, by go_num, hB3, hZ3, hF2⟩
      case measure => simp [intOf]; omega
    · obtain rfl : n = j := by omega
      have hd0 : wr.cell? ⟨tb, 0, none⟩ = some (.int .u64 T.id) := (hB.out.cell (p := ⟨tb, 0, none⟩) hltb).trans c0
      have hRp := hide (Rps.of_fl hF.out (hcl.out n) (fun i hi => by rw [hcall.out]; exact hwfb.out i))
      rw [hcall.out] at hRp
      have hz := hZ.out
      clear hF
      go_wp2_with fail
      refine (Select_any T.id _ n n T.bs wr (by omega) hRp).mono ?_
      rintro e w5 ⟨ib, vb, rfl, hb5, hle1, hle2, hne, hi5, hv5⟩
      have hz5 := heap_kept hb5 hz
      obtain ⟨e1, e2, e3, e4⟩ := hsel.out
      rw [← hn.out] at e1 e2
      rw [hn.out] at e1 e2
      have hRow := hide (setRow_heap w5 w.heap.size _ (rolesRow (bestW T.id T.bs n).v (bestW T.id T.bs n).place (.slice (some ⟨ib, 0, none⟩) n n) (.slice (some ⟨vb, 0, none⟩) n n)) 64 _ hz5)
      have hB5 := hide (below_setRow (hB.out.later hb5) (Nat.le_refl _) (rolesRow (bestW T.id T.bs n).v (bestW T.id T.bs n).place (.slice (some ⟨ib, 0, none⟩) n n) (.slice (some ⟨vb, 0, none⟩) n n)))
      have hrl : w.heap.size < wr.heap.size := (Array.getElem?_eq_some_iff.1 hz).1
      have hi6 := hide (hi5.blk (Go.setRow_other w5 w.heap.size ib (rolesRow (bestW T.id T.bs n).v (bestW T.id T.bs n).place (.slice (some ⟨ib, 0, none⟩) n n) (.slice (some ⟨vb, 0, none⟩) n n)) (by omega)))
      have hv6 := hide (hv5.blk (Go.setRow_other w5 w.heap.size vb (rolesRow (bestW T.id T.bs n).v (bestW T.id T.bs n).place (.slice (some ⟨ib, 0, none⟩) n n) (.slice (some ⟨vb, 0, none⟩) n n)) (by omega)))
      clear hi5 hv5 hb5 hZ hB
      generalize bestW T.id T.bs n = Y at *
      replace e1 := hide e1
      replace e2 := hide e2
      replace e3 := hide e3
      replace e4 := hide e4
      go_wp2_with ((with_reducible change wpList _ _ _ _ _ _); refine wpList_store_row rfl 64 (.tmp 2) (.tmp 36) rfl w.heap.size (rolesRow Y.v Y.place (.slice (some ⟨ib, 0, none⟩) n n) (.slice (some ⟨vb, 0, none⟩) n n)) rfl rfl 64 _ hz5 (rolesSize Vc.zero 0 (.bool true) (.bool true)) rfl (by simp [Value.oneCell']) ?_)
      refine bodyPost_ret (results_cell_row rfl _ _ w.heap.size 64 _ _ _ rfl hRow.out Try.underlying64 rfl (rolesSize Vc.zero 0 (.bool true) (.bool true))) rfl ⟨ib, vb, ?_, hB5.out, by omega, by omega, hne, ?_, ?_⟩
      · rw [e1.out, e2.out]
      · rw [e3.out]; exact hi6.out
      · rw [e4.out]; exact hv6.out
/-- Ports in a row that came in, or that was made elsewhere. -/
def Tps (w : World) (a : Option Addr) (n : Nat) (ps : List Tp) : Prop := ps.length = n ∧ ∀ i, i < n → ∃ b off, a = some ⟨b, off, none⟩ ∧ TpAt w b (off + i * 16) (ps.getD i Tp.zero) ∧ (ps.getD i Tp.zero).b.wf
theorem Tps.below {w w' : World} {a : Option Addr} {n : Nat} {ps : List Tp} (h : Tps w a n ps) (hb : Below w.heap.size w w') : Tps w' a n ps := by
  refine ⟨h.1, fun i hi => ?_⟩
  obtain ⟨b, off, e, hP, hw⟩ := h.2 i hi
  have hq := (bcell hb).1 b
  have hl := block_lt_of_cell hP.c0
  refine ⟨b, off, e, ⟨(hq _ hl).trans hP.c0, (hq _ hl).trans hP.c1, (hq _ hl).trans hP.c2, (hq _ hl).trans hP.c3, (hq _ hl).trans hP.c4, (hq _ hl).trans hP.c5, (hq _ hl).trans hP.c6, (hq _ hl).trans hP.c7, (hq _ hl).trans hP.c8, (hq _ hl).trans hP.c9, (hq _ hl).trans hP.c10, (hq _ hl).trans hP.c11, (hq _ hl).trans hP.c12, (hq _ hl).trans hP.c13, (hq _ hl).trans hP.c14, (hq _ hl).trans hP.c15⟩, hw⟩
def bareP (p : Tp) : Tp := ⟨⟨p.b.id, p.b.cost, false, false, Vc.zero⟩, p.edge, 0, 0, 0, 0, 0, 0, false⟩
def bareL (ps : List Tp) (j : Nat) : List Tp := (ps.take j).map bareP
def preT (id : Int) (ps : List Tp) : Tt := ⟨id, ps.map bareP, Vc.zero, 0, [], [], [], List.replicate 16 false, 0⟩
def newT (id : Int) (ps : List Tp) : Tt := selT (preT id ps)
theorem bareP_ok {p : Tp} (h : p.b.wf) : (bareP p).ok := ⟨⟨h.id, h.cost, ⟨by simp [U64, bareP], by simp [U64, bareP], by simp [U64, bareP], by simp [I64, bareP]⟩⟩, by simp [bareP], by simp [bareP], by simp [bareP], by simp [bareP], by simp [bareP], by simp [bareP]⟩
theorem preT_at (id : Int) (ps : List Tp) (i : Nat) (hi : i < ps.length) : (preT id ps).at i = bareP (ps.getD i Tp.zero) := by
  simp [preT, Tt.at, hi]
theorem preT_b (id : Int) (ps : List Tp) (h : ∀ i, i < ps.length → (ps.getD i Tp.zero).b.wf) (i : Nat) : ((preT id ps).at i).b.wf := by
  by_cases hi : i < ps.length
  · rw [preT_at id ps i hi]; exact (bareP_ok (h i hi)).b
  · have : (preT id ps).at i = Tp.zero := by simp [preT, Tt.at, List.getElem?_eq_none (Nat.le_of_not_lt hi)]
    rw [this]; exact zero_ok.b
theorem newT_ok {id : Int} {ps : List Tp} (hid : U64 id) (h : ∀ i, i < ps.length → (ps.getD i Tp.zero).b.wf) : (newT id ps).ok := by
  have hb : ∀ i, ((preT id ps).bs.getD i Rp.zero).wf := fun i => by rw [bs_at]; exact preT_b id ps h i
  refine ⟨hid, fun i hi => ?_, bestW_place _ _ _, fun j hj => ?_⟩
  · have hi' : i < ps.length := by simpa [newT, selT, preT] using hi
    show ((preT id ps).at i).ok
    rw [preT_at id ps i hi']
    exact bareP_ok (h i hi')
  · have hj' : j < (preT id ps).bs.length := by rw [bs_len]; exact hj
    show ((tellsL (preT id ps).id (preT id ps).bs).getD j Vc.zero).wf
    rw [tellsL_at _ _ _ hj']
    exact tellV_wf hid (bestW_wf _ _ _ hid (fun i _ => hb i)) (hb j)
theorem newT_len (id : Int) (ps : List Tp) : (newT id ps).ps.length = ps.length := by simp [newT, selT, preT]
/-- The tree while it is made. -/
@[reducible] def newRow (id : Int) (pv : Value) : List Value := [.int .u64 id, pv, .int .u64 0, .int .u64 0, .int .u64 0, .int .i64 0, .int .i64 0, .slice none 0 0, .slice none 0 0, .slice none 0 0, .bool false, .bool false, .bool false, .bool false, .bool false, .bool false, .bool false, .bool false, .bool false, .bool false, .bool false, .bool false, .bool false, .bool false, .bool false, .bool false, .int .i64 0]
structure Nw (w : World) (tb : Nat) (id : Int) (pv : Value) (l : List Tp) : Prop where
  row : w.heap[tb]? = some (.cells (newRow id pv).toArray 67 (0, 0))
  sl : Sl w pv 34 16 fT l
  own : ∀ b, pv.ownBlock = some b → tb < b
theorem Nw.below {w w' : World} {tb : Nat} {id : Int} {pv : Value} {l : List Tp} (h : Nw w tb id pv l) (hb : Below w.heap.size w w') : Nw w' tb id pv l := ⟨heap_kept hb h.row, h.sl.below hb, h.own⟩
theorem Nw.cell {w : World} {tb : Nat} {id : Int} {pv : Value} {l : List Tp} (h : Nw w tb id pv l) (o : Nat) : w.cell? ⟨tb, o, none⟩ = (newRow id pv)[o]? := by
  rw [cell_of_row _ _ _ _ _ _ h.row]
  simp
theorem Nw.frozen {w : World} {tb : Nat} {id : Int} {pv : Value} {l : List Tp} (h : Nw w tb id pv l) (o : Nat) : w.frozen? ⟨tb, o, none⟩ = false := by
  simp [World.frozen?, h.row]
theorem Nw.ltb {w : World} {tb : Nat} {id : Int} {pv : Value} {l : List Tp} (h : Nw w tb id pv l) : tb < w.heap.size := (Array.getElem?_eq_some_iff.1 h.row).1
/-- It is done. -/
theorem Nw.fin {w w1 : World} {tb : Nat} {id : Int} {pv : Value} {ps : List Tp} (h : Nw w tb id pv (ps.map bareP)) (hf : ps.length ≤ 16) (hb : Below w.heap.size w w1) (ib vb : Nat) (h1 : w.heap.size ≤ ib) (h2 : w.heap.size ≤ vb) (hi : Fl w1 ib 3 fI (newT id ps).roles []) (hv : Fl w1 vb 30 fV (newT id ps).tells []) :
    Tr (w1.setCells tb 2 (rolesRow (newT id ps).y (newT id ps).rp (.slice (some ⟨ib, 0, none⟩) (preT id ps).ps.length (preT id ps).ps.length) (.slice (some ⟨vb, 0, none⟩) (preT id ps).ps.length (preT id ps).ps.length)).toList) ⟨tb, pv, .slice none 0 0, ib, vb⟩ (newT id ps) := by
  have hw := Wr.cells (rolesRow (newT id ps).y (newT id ps).rp (.slice (some ⟨ib, 0, none⟩) (preT id ps).ps.length (preT id ps).ps.length) (.slice (some ⟨vb, 0, none⟩) (preT id ps).ps.length (preT id ps).ps.length)).toList 2 w1 (Wr.refl tb w1)
  have htb := h.ltb
  have hrl : (newT id ps).roles.length = (newT id ps).ps.length := by show (rolesL _ (preT id ps).bs).length = (preT id ps).ps.length; rw [rolesL_len, bs_len]
  have htl : (newT id ps).tells.length = (newT id ps).ps.length := by show (tellsL _ (preT id ps).bs).length = (preT id ps).ps.length; rw [tellsL_len, bs_len]
  have hpl : ∀ b, pv.ownBlock = some b → b < w.heap.size := fun b e => h.sl.lt e
  refine ⟨?_, ?_, ?_, hi.blk (hw.block ib (by omega)), hv.blk (hw.block vb (by omega)), by simp [newT, selT, preT], by rw [newT_len]; exact hf, hrl, htl, fun e => by have := h.own _ e; simp at this, fun e => by simp [Value.ownBlock] at e, fun b e e' => by simp [Value.ownBlock] at e', fun e => ?_, fun e => ?_⟩
  · rw [heap_setCells tb 67 _ 2 w1 (newRow id pv) (heap_kept hb h.row)]
    rfl
  · show Sl _ pv _ 16 fT (ps.map bareP)
    exact (h.sl.below hb).blk fun b e => hw.block b (fun e' => by have := h.own b e; omega)
  · exact Sl.nil _ _ _ _
  · rcases e with e | e | e
    · simp at e; omega
    · have := hpl _ e; simp at this; omega
    · simp [Value.ownBlock] at e
  · rcases e with e | e | e
    · simp at e; omega
    · have := hpl _ e; simp at this; omega
    · simp [Value.ownBlock] at e
theorem Tp.zrow : (Tp.zero.row : Array Value) = (fT Tp.zero).toArray := rfl
theorem bare_push (ps : List Tp) (j : Nat) (hj : j < ps.length) : bareL ps j ++ [bareP (ps.getD j Tp.zero)] = bareL ps (j + 1) := by
  unfold bareL
  rw [List.take_add_one, List.map_append, List.getElem?_eq_getElem hj]
  simp [hj]
theorem TpAt.range {w : World} {b o : Nat} {p : Tp} (h : TpAt w b o p) : w.rangeAt b o (fT p) := by
  intro j v hj
  have hjl : j < 16 := (List.getElem?_eq_some_iff.1 hj).1
  rcases (show j = 0 ∨ j = 1 ∨ j = 2 ∨ j = 3 ∨ j = 4 ∨ j = 5 ∨ j = 6 ∨ j = 7 ∨ j = 8 ∨ j = 9 ∨ j = 10 ∨ j = 11 ∨ j = 12 ∨ j = 13 ∨ j = 14 ∨ j = 15 by omega) with rfl | rfl | rfl | rfl | rfl | rfl | rfl | rfl | rfl | rfl | rfl | rfl | rfl | rfl | rfl | rfl
  · exact h.c0.trans hj
  · exact h.c1.trans hj
  · exact h.c2.trans hj
  · exact h.c3.trans hj
  · exact h.c4.trans hj
  · exact h.c5.trans hj
  · exact h.c6.trans hj
  · exact h.c7.trans hj
  · exact h.c8.trans hj
  · exact h.c9.trans hj
  · exact h.c10.trans hj
  · exact h.c11.trans hj
  · exact h.c12.trans hj
  · exact h.c13.trans hj
  · exact h.c14.trans hj
  · exact h.c15.trans hj
set_option maxHeartbeats 8000000 in
theorem New_any (id : Int) (a : Option Addr) (n cap : Nat) (ps : List Tp) (w : World) (hid : U64 id) (hn : n ≤ 16) (hc : n ≤ cap) (hc0 : a = none → cap = 0) (hI : Hid (Tps w a n ps)) :
    Calls Try.prog 6 #[.int .u64 id, .slice a n cap] w fun r w' => ∃ m, r = .returned (.pointer (some ⟨m.tb, 0, none⟩)) ∧ Tr w' m (newT id ps) ∧ Below w.heap.size w w' ∧ ∀ k, m.foot k → w.heap.size ≤ k := by
  have hmin : ∀ ts t (w : World), (Builtin.min_ ts t #[.int .i64 n, .int .i64 16]).run Try.prog w = .ok (.int .i64 n) w := fun ts t w => by
    rw [run_min_int2]; congr 2; omega
  have hB0 := hide (below1 w (.cells (newRow id (.slice none 0 0)).toArray 67))
  have hN0 : Hid (Nw (w.alloc (.cells (newRow id (.slice none 0 0)).toArray 67)) w.heap.size id (.slice none 0 0) (bareL ps 0)) := ⟨heap_alloc_new w _, Sl.nil _ _ _ _, fun b e => by simp [Value.ownBlock] at e⟩
  go_enter Try.func6, Try.ntmps6
  go_wp2_with fail
  generalize htb : w.heap.size = tb at *
  replace htb := hide htb
  generalize w.alloc (.cells (newRow id (.slice none 0 0)).toArray 67) = w1 at *
  clear hmin
  go_loopw [18] (fun i wr => ∃ j : Nat, j ≤ n ∧ i = .int .i64 j ∧ Hid (Below tb w wr) ∧ Hid (∃ pv, Nw wr tb id pv (bareL ps j))) (fun i _ => n - (intOf i).toNat)
  case atStart => exact ⟨0, Nat.zero_le _, rfl, hB0, ⟨_, hN0.out⟩⟩
  case round =>
    obtain ⟨j, hj, rfl, hB, hX⟩ := hrel
    obtain ⟨pv, hN⟩ := hX.out
    clear hB0 hN0 hX
    by_cases hlt : j < n
    · obtain ⟨b, off, rfl, hP, hwf⟩ := (hI.out.below (by rw [htb.out]; exact hB.out)).2 j hlt
      have hpush := hide (bare_push ps j (by rw [hI.out.1]; exact hlt))
      have hbl : (bareL ps j).length ≤ 16 := by simp [bareL]; omega
      generalize hT1 : bareL ps (j + 1) = lt1 at *
      replace hT1 := hide hT1
      generalize bareL ps j = lt at *
      have hrg0 := hide hP.range
      generalize ps.getD j Tp.zero = p at *
      obtain ⟨⟨pid, cost, up, has, ⟨a0, a1, a2, a3⟩⟩, ed, ro, st, age, left, wait, ch, agr⟩ := p
      have hrg : wr.rangeAt b (off + j * 16) (fT ⟨⟨pid, cost, up, has, ⟨a0, a1, a2, a3⟩⟩, ed, ro, st, age, left, wait, ch, agr⟩) := hrg0.out
      have hbare : Hid (bareP ⟨⟨pid, cost, up, has, ⟨a0, a1, a2, a3⟩⟩, ed, ro, st, age, left, wait, ch, agr⟩ = ⟨⟨pid, cost, false, false, ⟨0, 0, 0, 0⟩⟩, ed, 0, 0, 0, 0, 0, 0, false⟩) := rfl
      generalize bareP ⟨⟨pid, cost, up, has, ⟨a0, a1, a2, a3⟩⟩, ed, ro, st, age, left, wait, ch, agr⟩ = bp at *
      have hbl' := hide hbl
      replace hN := hide hN
      clear hP hwf hrg0 hbl
      go_wp2_with (first | ((with_reducible change wpList _ _ _ _ _ _); refine wpList_load_mid rfl 34 (.tmp 20) rfl b (off + j * 16) rfl (fT ⟨⟨pid, cost, up, has, ⟨a0, a1, a2, a3⟩⟩, ed, ro, st, age, left, wait, ch, agr⟩) _ hrg Try.underlying34 rfl (tpLen _) ?_) | ((with_reducible change wpList _ _ _ _ _ _); refine wpList_store_fresh rfl 34 (.tmp 7) (.tmp 21) rfl (Tp.row ⟨⟨pid, cost, up, has, ⟨a0, a1, a2, a3⟩⟩, ed, ro, st, age, left, wait, ch, agr⟩) Tp.zero.row rfl rfl 34 (tpSize _) rfl (Tp.row_all _) ?_; intro w3 hH3 hb3; refine unhB ?_))
      have k0 : w3.cell? ⟨wr.heap.size, 0, none⟩ = some (.int .i64 pid) := (cell_of_row _ _ _ _ _ _ hH3).trans rfl
      have k1 : w3.cell? ⟨wr.heap.size, 1, none⟩ = some (.int .u64 cost) := (cell_of_row _ _ _ _ _ _ hH3).trans rfl
      have hb3' := hide hb3
      have hH3' := hide hH3
      clear hH3 hb3 hrg
      refine hide ?_
      go_wp2_with ((with_reducible change wpList _ _ _ _ _ _); refine wpList_store_fresh rfl 32 (.tmp 8) (.tmp 28) rfl (Rp.row ⟨pid, cost, false, false, ⟨0, 0, 0, 0⟩⟩) Rp.zero.row rfl rfl 32 (rpSize Rp.zero) rfl (Rp.row_all _) ?_; intro w5 hH5 hb5; refine unhB ?_)
      clear k0 k1
      have hb5' := hide (hb3'.out.later hb5)
      have hH7 := hide (heap_kept hb5 hH3'.out)
      have hN5 := hide (hN.out.below hb5'.out)
      have hB5 : Hid (Below tb w w5) := by have h1 := hB.out; have h2 := hb5'.out; rw [← htb.out] at h1 ⊢; exact h1.later h2
      have hH5' := hide hH5
      have hk8 : Hid (w5.cell? ⟨wr.heap.size, 8, none⟩ = some (.bool ed)) := (cell_of_row _ _ _ _ _ _ hH7.out).trans rfl
      have hg7l : Hid (wr.heap.size < w5.heap.size) := (Array.getElem?_eq_some_iff.1 hH7.out).1
      have hg8l : Hid (w3.heap.size < w5.heap.size) := (Array.getElem?_eq_some_iff.1 hH5).1
      have htr : Hid (tb < wr.heap.size) := hN.out.ltb
      have hown7 : Hid (∀ x, pv.ownBlock = some x → x < wr.heap.size) := fun x e => hN.out.sl.lt e
      have h73 : Hid (wr.heap.size < w3.heap.size) := (Array.getElem?_eq_some_iff.1 hH3'.out).1
      clear hb5 hH5 hb3' hb5' hH3' hN hB hH7
      generalize wr.heap.size = g7 at *
      generalize w3.heap.size = g8 at *
      clear w3 wr
      refine hide ?_
      obtain ⟨oa, oc, hov⟩ := hN5.out.sl.shape
      have c1 := hN5.out.cell 1
      have z1 := hN5.out.frozen 1
      simp only [newRow, List.getElem?_cons_succ, List.getElem?_cons_zero] at c1
      go_wp2_with fail
      refine wp_region_noPanic ?_
      refine wp_region_held_drew (S := fun W => W.cell? ⟨g7, 8, none⟩ = some (.bool ed) ∧ W.heap[g8]? = some (.cells (Rp.row ⟨pid, cost, false, false, ⟨0, 0, 0, 0⟩⟩) 32 (0, 0))) (by kernel_rfl) ⟨hk8.out, hH5'.out⟩ (fun hHeld => ?_)
      refine wpAnyH_take (i := 0) (oi := { dst := some 29, op := Op.move (Operand.tmp 5), type := 35, pos := "tree.go:68", after := #[], guard := none }) (v := ?v1) rfl (by kernel_rfl) (by kernel_rfl) (by kernel_rfl) (fun _ _ _ h => h) (Or.inl ⟨by rfl, ?y1⟩) (by assumption) ?r1
      case y1 => (intro w hSw; (try dsimp only at hSw); (try (go_split_ands)); go_simp; try with_reducible rfl)
      try simp only [Act.put, List.setIfInBounds_toArray, List.set_cons_zero, List.set_cons_succ]
      refine wpAnyH_take (i := 1) (oi := { dst := some 30, op := Op.move (Operand.tmp 5), type := 35, pos := "tree.go:68", after := #[], guard := none }) (v := ?v2) rfl (by kernel_rfl) (by kernel_rfl) (by kernel_rfl) (fun _ _ _ h => h) (Or.inl ⟨by rfl, ?y2⟩) (by assumption) ?r2
      case y2 => (intro w hSw; (try dsimp only at hSw); (try (go_split_ands)); go_simp; try with_reducible rfl)
      try simp only [Act.put, List.setIfInBounds_toArray, List.set_cons_zero, List.set_cons_succ]
      refine wpAnyH_take (i := 2) (oi := { dst := some 31, op := Op.nilCheck (Operand.tmp 30), type := 0, pos := "tree.go:68", after := #[{ on := 1, ground := Ground.data }], guard := none }) (v := ?v3) rfl (by kernel_rfl) (by kernel_rfl) (by kernel_rfl) (fun _ _ _ h => h) (Or.inl ⟨by rfl, ?y3⟩) (by assumption) ?r3
      case y3 => (intro w hSw; (try dsimp only at hSw); (try (go_split_ands)); go_simp; try with_reducible rfl)
      try simp only [Act.put, List.setIfInBounds_toArray, List.set_cons_zero, List.set_cons_succ]
      refine wpAnyH_take (i := 3) (oi := { dst := some 32, op := Op.fieldAddr 67 (Operand.tmp 31) 1, type := 0, pos := "tree.go:68", after := #[{ on := 2, ground := Ground.data }], guard := none }) (v := ?v4) rfl (by kernel_rfl) (by kernel_rfl) (by kernel_rfl) (fun _ _ _ h => h) (Or.inl ⟨by rfl, ?y4⟩) (by assumption) ?r4
      case y4 => (intro w hSw; (try dsimp only at hSw); (try (go_split_ands)); go_simp; try with_reducible rfl)
      try simp only [Act.put, List.setIfInBounds_toArray, List.set_cons_zero, List.set_cons_succ]
      refine wpAnyH_take (i := 5) (oi := { dst := some 34, op := Op.load 32 (Operand.tmp 8), type := 32, pos := "tree.go:68", after := #[], guard := none }) (v := _) rfl (by kernel_rfl) (by kernel_rfl) (by kernel_rfl) (fun _ _ _ h => h) (yieldsIf_load_row rfl 32 (.tmp 8) rfl g8 rfl 32 _ _ _ (fun W hW => hW.2) Try.underlying32 rfl (rpSize Rp.zero)) (by assumption) ?_
      try simp only [Act.put, List.setIfInBounds_toArray, List.set_cons_zero, List.set_cons_succ]
      refine wpAnyH_take (i := 6) (oi := { dst := some 35, op := Op.fieldAddr 34 (Operand.tmp 7) 1, type := 0, pos := "tree.go:68", after := #[], guard := none }) (v := ?v5) rfl (by kernel_rfl) (by kernel_rfl) (by kernel_rfl) (fun _ _ _ h => h) (Or.inl ⟨by rfl, ?y5⟩) (by assumption) ?r5
      case y5 => (intro w hSw; (try dsimp only at hSw); (try (go_split_ands)); go_simp; try with_reducible rfl)
      try simp only [Act.put, List.setIfInBounds_toArray, List.set_cons_zero, List.set_cons_succ]
      refine wpAnyH_take (i := 7) (oi := { dst := some 36, op := Op.load 4 (Operand.tmp 35), type := 4, pos := "tree.go:68", after := #[{ on := 6, ground := Ground.data }], guard := none }) (v := ?v6) rfl (by kernel_rfl) (by kernel_rfl) (by kernel_rfl) (fun _ _ _ h => h) (Or.inl ⟨by rfl, ?y6⟩) (by assumption) ?r6
      case y6 => (intro w hSw; (try dsimp only at hSw); (try (go_split_ands)); go_simp; try with_reducible rfl)
      try simp only [Act.put, List.setIfInBounds_toArray, List.set_cons_zero, List.set_cons_succ]
      refine wpAnyH_take (i := 8) (oi := { dst := some 37, op := Op.build 34 #[(0, Operand.tmp 34), (1, Operand.tmp 36)], type := 34, pos := "tree.go:68", after := #[{ on := 5, ground := Ground.data }, { on := 7, ground := Ground.data }], guard := none }) (v := ?v7) rfl (by kernel_rfl) (by kernel_rfl) (by kernel_rfl) (fun _ _ _ h => h) (Or.inl ⟨by rfl, ?y7⟩) (by assumption) ?r7
      case y7 => (intro w hSw; (try dsimp only at hSw); (try (go_split_ands)); go_simp; try with_reducible rfl)
      try simp only [Act.put, List.setIfInBounds_toArray, List.set_cons_zero, List.set_cons_succ]
      refine (fun (key2 : (?T2 : Prop)) => ?main2) ?kp2
      case main2 =>
        have hb8 : Below w5.heap.size w5 (w5.alloc (.cells (fT ⟨⟨pid, cost, false, false, ⟨0, 0, 0, 0⟩⟩, ed, 0, 0, 0, 0, 0, 0, false⟩).toArray 34)).drew := below_drewN (below1 w5 _) 1
        have hr8 : (w5.alloc (.cells (fT ⟨⟨pid, cost, false, false, ⟨0, 0, 0, 0⟩⟩, ed, 0, 0, 0, 0, 0, 0, false⟩).toArray 34)).drew.heap[w5.heap.size]? = some (.cells (fT ⟨⟨pid, cost, false, false, ⟨0, 0, 0, 0⟩⟩, ed, 0, 0, 0, 0, 0, 0, false⟩).toArray 34) := heap_alloc_new w5 _
        refine wpAnyH_ready (rs := [4, 9]) (by kernel_rfl) (by simp) ?_
        refine AllReadyH.cons (o := { dst := some 33, op := Op.load 23 (Operand.tmp 32), type := 23, pos := "tree.go:68", after := #[{ on := 3, ground := Ground.data }], guard := none }) rfl (fun K hK => ?_) (AllReadyH.cons (o := { dst := some 38, op := Op.buildSlice 23 1 #[(0, Operand.tmp 37)], type := 23, pos := "tree.go:68", after := #[{ on := 8, ground := Ground.data }], guard := none }) rfl (fun K hK => ?_) AllReadyH.nil)
        · go_simp
          refine hK.out _ _ ⟨hk8.out, hH5'.out⟩ (fun hHeld4 => ?_)
          clear hK K
          try simp only [Act.put, List.setIfInBounds_toArray, List.set_cons_zero, List.set_cons_succ]
          refine wpAnyH_ready (rs := [9]) (by kernel_rfl) (by simp) ?_
          refine AllReadyH.cons (o := { dst := some 38, op := Op.buildSlice 23 1 #[(0, Operand.tmp 37)], type := 23, pos := "tree.go:68", after := #[{ on := 8, ground := Ground.data }], guard := none }) rfl (fun K hK => ?_) AllReadyH.nil
          go_simp
          refine hK.out _ _ ⟨((bcell hb8).1 _ _ hg7l.out).trans hk8.out, heap_kept hb8 hH5'.out⟩ (fun hHeld8 => ?_)
          clear hK K
          try simp only [Act.put, List.setIfInBounds_toArray, List.set_cons_zero, List.set_cons_succ]
          clear hHeld8 hHeld4
          revert hr8
          revert hb8
          generalize (w5.alloc (.cells (fT ⟨⟨pid, cost, false, false, ⟨0, 0, 0, 0⟩⟩, ed, 0, 0, 0, 0, 0, 0, false⟩).toArray 34)).drew = w8
          revert w8
          exact key2
        · go_simp
          refine hK.out _ _ ⟨((bcell hb8).1 _ _ hg7l.out).trans hk8.out, heap_kept hb8 hH5'.out⟩ (fun hHeld8 => ?_)
          clear hK K
          try simp only [Act.put, List.setIfInBounds_toArray, List.set_cons_zero, List.set_cons_succ]
          have d9 : (w5.alloc (.cells (fT ⟨⟨pid, cost, false, false, ⟨0, 0, 0, 0⟩⟩, ed, 0, 0, 0, 0, 0, 0, false⟩).toArray 34)).drew.cell? ⟨tb, 1, none⟩ = some pv := ((bcell hb8).1 _ _ hN5.out.ltb).trans c1
          refine wpAnyH_ready (rs := [4]) (by kernel_rfl) (by simp) ?_
          refine AllReadyH.cons (o := { dst := some 33, op := Op.load 23 (Operand.tmp 32), type := 23, pos := "tree.go:68", after := #[{ on := 3, ground := Ground.data }], guard := none }) rfl (fun K hK => ?_) AllReadyH.nil
          go_simp
          refine hK.out _ _ ⟨((bcell hb8).1 _ _ hg7l.out).trans hk8.out, heap_kept hb8 hH5'.out⟩ (fun hHeld4 => ?_)
          clear hK K
          try simp only [Act.put, List.setIfInBounds_toArray, List.set_cons_zero, List.set_cons_succ]
          exact key2 _ hb8 hr8
      case kp2 =>
        intro w8 hb8 hr8
        have hN8 := hide (hN5.out.below hb8)
        refine wpAnyH_ready (rs := [10]) (by kernel_rfl) (by simp) ?_
        refine AllReadyH.cons (o := { dst := some 39, op := Op.call { callee := Callee.builtin Builtin.append, args := #[Operand.tmp 33, Operand.tmp 38], argTypes := #[23, 23] }, type := 23, pos := "tree.go:68", after := #[{ on := 4, ground := Ground.data }, { on := 9, ground := Ground.data }], guard := none }) rfl (fun K hK => ?_) AllReadyH.nil
        refine step_append_sl rfl (.tmp 33) (.tmp 38) rfl wide_T sty_T pv lt hov.symm hN8.out.sl ⟨w5.heap.size, 0, none⟩ 1 1 [bp] rfl rfl (fun x u hx => ?_) (by have := hbl'.out; simp; omega) (by omega) ?_
        · rw [Addr.add_lit, cell_of_row _ _ _ _ _ _ hr8, ← hx, hbare.out]
          simp [flat]
        intro v' w9 hS9 hg9 ho9
        rw [hpush.out] at hS9
        have hblk : ∀ k, k < w5.heap.size → pv.ownBlock ≠ some k → w9.heap[k]? = w5.heap[k]? := fun k hk hne => (hg9.block k (by have := hb8.size; omega) (fun e => hne e.symm)).trans (hb8.block k hk)
        have hp7 : pv.ownBlock ≠ some g7 := fun e => by have := hown7.out _ e; omega
        have hp8 : pv.ownBlock ≠ some g8 := fun e => by have := hown7.out _ e; have := h73.out; omega
        have hpt : pv.ownBlock ≠ some tb := fun e => by have := hN5.out.own _ e; omega
        have hk9 : w9.cell? ⟨g7, 8, none⟩ = some (.bool ed) := (World.cell?_of_block (a := ⟨g7, 8, none⟩) (hblk g7 hg7l.out hp7)).trans hk8.out
        have hr9 := (hblk g8 hg8l.out hp8).trans hH5'.out
        refine hK.out _ _ ⟨hk9, hr9⟩ (fun hHeld10 => ?_)
        clear hK K
        try simp only [Act.put, List.setIfInBounds_toArray, List.set_cons_zero, List.set_cons_succ]
        refine wpAnyH_take (i := 11) (oi := { dst := some 40, op := Op.nilCheck (Operand.tmp 29), type := 0, pos := "tree.go:68", after := #[{ on := 0, ground := Ground.data }, { on := 0, ground := Ground.phase }, { on := 1, ground := Ground.phase }, { on := 2, ground := Ground.phase }, { on := 3, ground := Ground.phase }, { on := 4, ground := Ground.phase }, { on := 5, ground := Ground.phase }, { on := 6, ground := Ground.phase }, { on := 7, ground := Ground.phase }, { on := 8, ground := Ground.phase }, { on := 9, ground := Ground.phase }, { on := 10, ground := Ground.phase }], guard := none }) (v := ?v8) rfl (by kernel_rfl) (by kernel_rfl) (by kernel_rfl) (fun _ _ _ h => h) (Or.inl ⟨by rfl, ?y8⟩) (by assumption) ?r8
        case y8 => (intro w hSw; (try dsimp only at hSw); (try (go_split_ands)); go_simp; try with_reducible rfl)
        try simp only [Act.put, List.setIfInBounds_toArray, List.set_cons_zero, List.set_cons_succ]
        refine wpAnyH_take (i := 12) (oi := { dst := some 41, op := Op.fieldAddr 67 (Operand.tmp 40) 1, type := 0, pos := "tree.go:68", after := #[{ on := 11, ground := Ground.data }, { on := 0, ground := Ground.phase }, { on := 1, ground := Ground.phase }, { on := 2, ground := Ground.phase }, { on := 3, ground := Ground.phase }, { on := 4, ground := Ground.phase }, { on := 5, ground := Ground.phase }, { on := 6, ground := Ground.phase }, { on := 7, ground := Ground.phase }, { on := 8, ground := Ground.phase }, { on := 9, ground := Ground.phase }, { on := 10, ground := Ground.phase }], guard := none }) (v := ?v9) rfl (by kernel_rfl) (by kernel_rfl) (by kernel_rfl) (fun _ _ _ h => h) (Or.inl ⟨by rfl, ?y9⟩) (by assumption) ?r9
        case y9 => (intro w hSw; (try dsimp only at hSw); (try (go_split_ands)); go_simp; try with_reducible rfl)
        try simp only [Act.put, List.setIfInBounds_toArray, List.set_cons_zero, List.set_cons_succ]
        have htl := hN5.out.ltb
        have d1 : w9.cell? ⟨tb, 1, none⟩ = some pv := (World.cell?_of_block (a := ⟨tb, 1, none⟩) (hblk tb htl hpt)).trans c1
        have y1 : w9.frozen? ⟨tb, 1, none⟩ = false := (World.frozen?_of_block (a := ⟨tb, 1, none⟩) (hblk tb htl hpt)).trans z1
        have hrw9 := (hblk tb htl hpt).trans hN5.out.row
        have hown' : ∀ x, v'.ownBlock = some x → tb < x := fun x e => by
          rcases ho9 with e1 | e1
          · rw [e1] at e; exact hN5.out.own x e
          · rw [e1] at e; have e2 : w8.heap.size = x := Option.some.inj e; have := hb8.size; omega
        have hNf : Hid (Nw (w9.setCell ⟨tb, 1, none⟩ v') tb id v' lt1) := ⟨by rw [heap_setCell_same _ _ _ _ _ _ hrw9]; simp, hS9.blk fun x e => heap_setCell_other w9 ⟨tb, 1, none⟩ x v' (fun e' => by have h1 := hown' x e; have h2 : x = tb := e'; omega), hown'⟩
        have hBf : Hid (Below tb w (w9.setCell ⟨tb, 1, none⟩ v')) := by
          have h1 := hB5.out
          rw [← htb.out] at h1
          have h2 := h1.later hb8
          rw [htb.out] at h2
          exact (grown_below hg9 h2 (by have := hb8.size; omega) (fun x e => Nat.le_of_lt (hN5.out.own x e))).setCell (p := ⟨tb, 1, none⟩) (Nat.le_refl _) v'
        obtain ⟨va, vc, rfl⟩ := hS9.shape
        generalize hLL : lt1.length = LL at *
        replace hLL := hide hLL
        refine wpAnyH_ready (rs := [13]) (by kernel_rfl) (by simp) ?_
        refine AllReadyH.cons (o := { dst := none, op := Op.store 23 (Operand.tmp 41) (Operand.tmp 39), type := 0, pos := "tree.go:68", after := #[{ on := 12, ground := Ground.data }, { on := 10, ground := Ground.data }, { on := 10, ground := Ground.chain }, { on := 0, ground := Ground.phase }, { on := 1, ground := Ground.phase }, { on := 2, ground := Ground.phase }, { on := 3, ground := Ground.phase }, { on := 4, ground := Ground.phase }, { on := 5, ground := Ground.phase }, { on := 6, ground := Ground.phase }, { on := 7, ground := Ground.phase }, { on := 8, ground := Ground.phase }, { on := 9, ground := Ground.phase }, { on := 10, ground := Ground.phase }], guard := none }) rfl (fun K hK => ?_) AllReadyH.nil
        go_simp
        refine hK.out _ _ ⟨(World.cell?_of_block (a := ⟨g7, 8, none⟩) (heap_setCell_other w9 ⟨tb, 1, none⟩ g7 _ (fun e => by have h1 : g7 = tb := e; have := htr.out; omega))).trans hk9, (heap_setCell_other w9 ⟨tb, 1, none⟩ g8 _ (fun e => by have h1 : g8 = tb := e; have := htr.out; have := h73.out; omega)).trans hr9⟩ (fun hHeld12 => ?_)
        clear hK K
        try simp only [Act.put]
        refine wpAnyH_done (by kernel_rfl) ?_ _
        refine NoPanic.normal ?_
        clear hHeld12 hHeld10 hk9 hr9 hblk d1 y1 hrw9 hown' hg9 ho9 hS9 hN8 hr8 hb8 c1 z1
        go_wp2
        go_round
        case rel => exact ⟨j + 1, by omega, by go_num, hBf, ⟨_, by rw [hT1.out]; exact hNf.out⟩⟩
        case measure => simp [intOf]; omega
    · obtain rfl : n = j := by omega
      have hall : bareL ps n = ps.map bareP := by unfold bareL; rw [List.take_of_length_le (by rw [hI.out.1]; omega)]
      rw [hall] at hN
      have hpl : (preT id ps).ps.length = n := by simp [preT, hI.out.1]
      have hwfp : ∀ i, i < ps.length → (ps.getD i Tp.zero).b.wf := fun i hi => by
        rw [hI.out.1] at hi
        obtain ⟨_, _, _, _, h⟩ := hI.out.2 i hi
        exact h
      have c1 := hN.cell 1
      have c0 := hN.cell 0
      simp only [newRow, List.getElem?_cons_succ, List.getElem?_cons_zero] at c1 c0
      have hse := hide (selectRoles_of (T := preT id ps) hN.sl c1 c0 (by rw [hpl]; exact hn) hN.ltb (preT_b id ps hwfp))
      rw [hpl] at hse
      have hsel : selT (preT id ps) = newT id ps := rfl
      rw [hsel] at hse
      have hfin := hide (fun (W : World) (hb : Below wr.heap.size wr W) (ib vb : Nat) => hN.fin (by rw [hI.out.1]; exact hn) hb ib vb)
      rw [hpl] at hfin
      have htl := hN.ltb
      have hpf : Hid (∀ x, pv.ownBlock = some x → tb ≤ x) := fun x e => Nat.le_of_lt (hN.own x e)
      have hth0 : Hid (∀ W : World, Below wr.heap.size wr W → W.there tb 2 7) := fun W hb j hj => by
        have hNW := hN.below hb
        refine ⟨?_, hNW.frozen _⟩
        rw [hNW.cell]
        rcases (show j = 0 ∨ j = 1 ∨ j = 2 ∨ j = 3 ∨ j = 4 ∨ j = 5 ∨ j = 6 by omega) with rfl | rfl | rfl | rfl | rfl | rfl | rfl
        all_goals rfl
      generalize hNTe : newT id ps = NT at *
      replace hNTe := hide hNTe
      clear hN c1 c0 hpl hwfp hall hsel
      go_wp2_with fail
      refine hse.out.mono ?_
      rintro e w5 ⟨ib, vb, rfl, hb5, hle1, hle2, hne, hi5, hv5⟩
      have hTf := hide (hfin.out _ hb5 ib vb hle1 hle2 hi5 hv5)
      have hth2 : w5.there tb 2 (rolesRow NT.y NT.rp (.slice (some ⟨ib, 0, none⟩) n n) (.slice (some ⟨vb, 0, none⟩) n n)).size := hth0.out _ hb5
      have hBf : Hid (Below tb w (w5.setCells tb 2 (rolesRow NT.y NT.rp (.slice (some ⟨ib, 0, none⟩) n n) (.slice (some ⟨vb, 0, none⟩) n n)).toList)) := by
        have h1 := hB.out
        rw [← htb.out] at h1
        have h2 := h1.later hb5
        rw [htb.out] at h2
        exact below_setCellsF (Nat.le_refl _) _ _ _ h2
      replace hth2 := hide hth2
      clear hse hfin hth0 hi5 hv5 hb5
      go_wp2_with ((with_reducible change wpList _ _ _ _ _ _); refine stop_store 64 (.tmp 47) (.tmp 45) rfl ?_)
      refine hide ?_
      refine wpList_store_mid rfl 64 (.tmp 47) (.tmp 45) rfl tb 2 (rolesRow NT.y NT.rp (.slice (some ⟨ib, 0, none⟩) n n) (.slice (some ⟨vb, 0, none⟩) n n)) rfl rfl hth2.out (rolesSize Vc.zero 0 (.bool true) (.bool true)) (by simp [Value.oneCell']) ?_
      clear hth2
      generalize w5.setCells tb 2 (rolesRow NT.y NT.rp (.slice (some ⟨ib, 0, none⟩) n n) (.slice (some ⟨vb, 0, none⟩) n n)).toList = w6 at *
      go_wp2
      go_ret
      refine ⟨_, rfl, by rw [hNTe.out]; exact hTf.out, by rw [htb.out]; exact hBf.out, fun k hk => ?_⟩
      rw [htb.out]
      rcases hk with e | e | e
      · exact Nat.le_of_eq e.symm
      · exact hpf.out k e
      · simp [Value.ownBlock] at e
end Go.Proofs.Ytoejoneecanbbaa
