
/-
  Contract of tree's selectRoles; what stays as it should be. Conditions: those that each theorem names.
-/
import Derived.Test.YtoejoneecanbbaaTree6
import Derived.Test.YtoejoneecanbbaaOpn
namespace Go.Proofs.Ytoejoneecanbbaa
open Go.RowKit
set_option linter.unusedVariables false
set_option maxRecDepth 20000

theorem setP_ok {T : Tt} (h : T.ok) (i : Nat) (p : Tp) (hp : p.ok) : (setP T i p).ok := by
  refine ⟨h.id, fun j hj => ?_, ?_, fun j hj => ?_⟩
  · rw [setP_len] at hj
    by_cases hi : i < T.ps.length
    · rw [setP_at _ _ _ _ hi]
      split
      · exact hp
      · exact h.port j hj
    · have : setP T i p = T := by unfold setP; rw [List.set_eq_of_length_le (by omega)]
      rw [this]; exact h.port j hj
  · rw [setP_len]; exact h.rp
  · rw [setP_len] at hj; exact h.tells j hj
theorem forgetT_ok {T : Tt} (h : T.ok) (i : Nat) : (forgetT T i).ok := ⟨h.id, h.port, h.rp, h.tells⟩
theorem zero_ok : Tp.zero.ok := ⟨⟨by simp [I64], by simp [U64], ⟨by simp [U64], by simp [U64], by simp [U64], by simp [I64]⟩⟩, by simp, by simp, by simp, by simp, by simp, by simp⟩
theorem at_ok {T : Tt} (h : T.ok) (i : Nat) : (T.at i).ok := by
  by_cases hi : i < T.ps.length
  · exact h.port i hi
  · unfold Tt.at
    rw [List.getD_eq_getElem?_getD, List.getElem?_eq_none (by omega)]
    exact zero_ok
theorem changeP_ok {p : Tp} (h : p.ok) : (changeP p).ok := ⟨h.b, h.age, h.left, h.wait, by simp [changeP], h.role, h.state⟩
theorem fwdP_ok {p : Tp} (h : p.ok) : (fwdP p).ok := ⟨h.b, h.age, h.left, by simp [fwdP], h.change, h.role, by simp [fwdP]⟩
theorem waitP_ok {p : Tp} (h : p.ok) : (waitP p).ok := ⟨h.b, h.age, h.left, by simp [waitP], h.change, h.role, by simp [waitP]⟩
theorem dropP_ok {p : Tp} (h : p.ok) : (dropP p).ok := ⟨⟨h.b.id, h.b.cost, ⟨by simp [U64, dropP], by simp [U64, dropP], by simp [U64, dropP], by simp [I64, dropP]⟩⟩, by simp [dropP], by simp [dropP], h.wait, h.change, h.role, h.state⟩
theorem newP_ok {p : Tp} (h : p.ok) (r : Int) (hr : 0 ≤ r ∧ r ≤ 4) : (newP p r).ok := ⟨h.b, h.age, h.left, by simp [newP], by simp [newP], hr, by simp [newP]⟩
theorem disP_ok {p : Tp} (h : p.ok) : (disP p).ok := ⟨h.b, h.age, h.left, h.wait, h.change, h.role, h.state⟩
theorem stepS_ok {T : Tt} (h : T.ok) (fr : Int) (i : Nat) : (stepS fr T i).ok := by
  unfold stepS
  split
  · exact forgetT_ok (setP_ok h _ _ (changeP_ok (at_ok h i))) _
  · exact h
theorem spreadTo_ok {T : Tt} (h : T.ok) (fr : Int) : ∀ k, (spreadTo T fr k).ok
  | 0 => h
  | k + 1 => stepS_ok (spreadTo_ok h fr k) fr k
theorem forwardT_ok {T : Tt} (h : T.ok) (i : Nat) : (forwardT T i).ok := by
  unfold forwardT
  split
  · exact setP_ok h _ _ (fwdP_ok (at_ok h i))
  · exact spreadTo_ok (setP_ok h _ _ (changeP_ok (fwdP_ok (at_ok h i)))) _ _
theorem takeT_ok {T : Tt} (h : T.ok) (i : Nat) (r : Int) (hr : 0 ≤ r ∧ r ≤ 4) : (takeT T i r).ok := by
  have hn := setP_ok h i _ (newP_ok (at_ok h i) r hr)
  unfold takeT
  repeat' split
  · exact forgetT_ok (forwardT_ok hn i) i
  · exact forgetT_ok (setP_ok h i _ (waitP_ok (newP_ok (at_ok h i) r hr))) i
  · exact hn
  · exact forgetT_ok hn i
theorem disTo_ok {T : Tt} (h : T.ok) : ∀ k, (disTo T k).ok
  | 0 => h
  | k + 1 => setP_ok (disTo_ok h k) _ _ (disP_ok (at_ok (disTo_ok h k) k))
theorem stepH_ok {T : Tt} (h : T.ok) (fr : Int) (i : Nat) : (stepH fr T i).ok := by
  unfold stepH
  split
  · exact forgetT_ok (setP_ok h _ _ (waitP_ok (at_ok h i))) _
  · exact h
theorem holdTo_ok {T : Tt} (h : T.ok) (fr : Int) : ∀ k, (holdTo T fr k).ok
  | 0 => h
  | k + 1 => stepH_ok (holdTo_ok h fr k) fr k
def Tt.bs (T : Tt) : List Rp := T.ps.map (·.b)
theorem bs_len (T : Tt) : T.bs.length = T.ps.length := by simp [Tt.bs]
theorem bs_at (T : Tt) (i : Nat) : T.bs.getD i Rp.zero = (T.at i).b := by
  unfold Tt.bs Tt.at
  rw [List.getD_eq_getElem?_getD, List.getElem?_map, List.getD_eq_getElem?_getD]
  cases T.ps[i]? <;> rfl
theorem roleN_ok (p : Rp) (r : Bool) (t : Vc) : 0 ≤ roleN p r t ∧ roleN p r t ≤ 4 := by
  unfold roleN
  repeat' split
  all_goals omega
def selT (T : Tt) : Tt := { T with y := (bestW T.id T.bs T.ps.length).v, rp := (bestW T.id T.bs T.ps.length).place, roles := rolesL T.id T.bs, tells := tellsL T.id T.bs }
theorem bestW_place (b : Int) (ps : List Rp) (k : Nat) : -1 ≤ (bestW b ps k).place ∧ (bestW b ps k).place < k := by
  rcases bestW_is b ps k with h | ⟨i, h0, h, _⟩
  · rw [h]; simp; omega
  · rw [h]; simp [wayOf]; omega
theorem selT_ok {T : Tt} (h : T.ok) : (selT T).ok := by
  refine ⟨h.id, h.port, bestW_place _ _ _, fun j hj => ?_⟩
  have hj' : j < T.bs.length := by rw [bs_len]; exact hj
  show ((tellsL T.id T.bs).getD j Vc.zero).wf
  rw [tellsL_at _ _ _ hj']
  have hb : ∀ i, (T.bs.getD i Rp.zero).wf := fun i => by rw [bs_at]; exact (at_ok h i).b
  exact tellV_wf h.id (bestW_wf _ _ _ h.id (fun i _ => hb i)) (hb j)
theorem selT_role (T : Tt) (i : Nat) : 0 ≤ (selT T).roles.getD i 0 ∧ (selT T).roles.getD i 0 ≤ 4 := by
  show 0 ≤ (rolesL T.id T.bs).getD i 0 ∧ (rolesL T.id T.bs).getD i 0 ≤ 4
  by_cases hi : i < T.bs.length
  · rw [rolesL_at _ _ _ hi]
    exact roleN_ok _ _ _
  · rw [List.getD_eq_getElem?_getD, List.getElem?_eq_none (by rw [rolesL_len]; omega)]
    simp
theorem Try.infoRp : (Try.prog.info? 32).map (fun i => (i.zero, i.size, i.bytes)) = some (some (.agg (fP Rp.zero).toArray), 8, 56) := by kernel_rfl
theorem make_P (w : World) (n : Nat) (hn : n ≤ 100000) : (Instr.makeSlice 82 (.int .i64 n) (.int .i64 n)).run Try.prog w = .ok (.slice (some ⟨w.heap.size, 0, none⟩) n n) (w.alloc (.cells (flat fP (List.replicate n Rp.zero)).toArray 32)) := by
  obtain ⟨i0, hi, hz0, hz1, hz2⟩ := info_parts Try.infoRp
  have hr := run_make (P := Try.prog) w 82 32 i0 _ Try.underlying82 hi hz0 .i64 .i64 n n (by omega) (by omega) (by rw [hz2]; omega) (by omega)
  rw [hz1] at hr
  have hm := made_flat wide_P Rp.zero (by omega) n
  rw [← hm]
  simpa only [Int.toNat_natCast, Value.cells] using hr
def copyTo (T : Tt) (j : Nat) : List Rp := (List.range T.ps.length).map fun i => if i < j then (T.at i).b else Rp.zero
theorem copyTo_all (T : Tt) : copyTo T T.ps.length = T.bs := by
  apply List.ext_getElem
  · simp [copyTo, Tt.bs]
  · intro i h1 h2
    simp [copyTo] at h1
    simp [copyTo, Tt.bs, Tt.at, h1]
theorem Rps.of_fl {w : World} {b n : Nat} {l : List Rp} (h : Fl w b 32 fP l []) (hn : l.length = n) (hw : ∀ i, i < n → (l.getD i Rp.zero).wf) : Rps w (some ⟨b, 0, none⟩) n l := by
  refine ⟨hn, fun i hi => ⟨b, 0, rfl, ?_, hw i hi⟩⟩
  have g := fun k hk => h.cell wide_P Rp.zero i k (by omega) hk
  rw [Nat.zero_add]
  exact ⟨g 0 (by omega), g 1 (by omega), g 2 (by omega), g 3 (by omega), g 4 (by omega), g 5 (by omega), g 6 (by omega), g 7 (by omega)⟩
theorem rpSize (p : Rp) : (Try.prog.info? 32).map (·.size) = some p.row.size := by kernel_rfl
theorem stop_store {P : Program} {ops : Array Oper} {rest : List Oper} {o : Oper} {a : Act} {w : World} {Q : Exit → Act → World → Prop} (ty : TypeId) (x y : Operand) (_ho : o.op = .store ty x y) (h : Hid (wpList P ops Q (o :: rest) a w)) : wpList P ops Q (o :: rest) a w := h.out
theorem setL_fP (x y : Rp) : setL (fP x) 0 (fP y) = fP y := rfl
theorem rpLen (p : Rp) : (Try.prog.info? 32).map (·.size) = some (fP p).length := by kernel_rfl
theorem rpLenA (p : Rp) : (Try.prog.info? 32).map (·.size) = some (fP p).toArray.size := by kernel_rfl
theorem Rp.row_all (p : Rp) : p.row.all (·.oneCell') = true := by simp [Value.oneCell']
set_option maxHeartbeats 1000000 in
theorem selectRoles_any {w : World} {m : Mt} {T : Tt} (h : Tr w m T) (hok : T.ok) :
    Calls Try.prog 23 #[.pointer (some ⟨m.tb, 0, none⟩)] w fun r w' => ∃ ib vb, r = .returned (.agg (rolesRow (selT T).y (selT T).rp (.slice (some ⟨ib, 0, none⟩) T.ps.length T.ps.length) (.slice (some ⟨vb, 0, none⟩) T.ps.length T.ps.length))) ∧ Below w.heap.size w w' ∧
      w.heap.size ≤ ib ∧ w.heap.size ≤ vb ∧ ib ≠ vb ∧ Fl w' ib 3 fI (selT T).roles [] ∧ Fl w' vb 30 fV (selT T).tells [] := by
  obtain ⟨a, cap0, hv⟩ := h.ports.shape
  have c1 := h.cell 1
  have c0 := h.cell 0
  simp only [treeRow, List.getElem?_cons_succ, List.getElem?_cons_zero] at c1 c0
  rw [hv] at c1
  have hfew := h.few
  have hltb := h.ltb
  have hcall : Hid (copyTo T T.ps.length = T.bs) := copyTo_all T
  have hwfb : Hid (∀ i, (T.bs.getD i Rp.zero).wf) := fun i => by rw [bs_at]; exact (at_ok hok i).b
  have hbl := hide (bs_len T)
  have hsel : Hid ((selT T).y = (bestW T.id T.bs T.ps.length).v ∧ (selT T).rp = (bestW T.id T.bs T.ps.length).place ∧ (selT T).roles = rolesL T.id T.bs ∧ (selT T).tells = tellsL T.id T.bs) := ⟨rfl, rfl, rfl, rfl⟩
  have hst : Hid (∀ j, j < T.ps.length → (copyTo T j).set j (T.at j).b = copyTo T (j + 1)) := fun j hj => map_range_set _ _ (fun i => (T.at i).b) _ hj
  have hcl : Hid (∀ j, (copyTo T j).length = T.ps.length) := fun j => by simp [copyTo]
  have hc0 : Hid (copyTo T 0 = List.replicate T.ps.length Rp.zero) := map_range_zero _ (fun i => (T.at i).b) _
  have hat : Hid (∀ j, j < T.ps.length → ∃ pb cap, a = some ⟨pb, 0, none⟩ ∧ ∀ W, Below w.heap.size w W → TpAt W pb (j * 16) (T.at j) ∧ W.cell? ⟨m.tb, 1, none⟩ = some (.slice (some ⟨pb, 0, none⟩) T.ps.length cap) ∧ pb < w.heap.size) := fun j hj => by
    obtain ⟨pb, cap, sp, hP, e1, _, hl⟩ := h.at_i j hj
    have e2 := hP.pv
    rw [hv] at e2
    simp only [Value.slice.injEq] at e2
    refine ⟨pb, cap, e2.1, fun W hW => ⟨(hP.fl.below hW).tp j hj, (hW.cell (p := ⟨m.tb, 1, none⟩) hltb).trans e1, hl⟩⟩
  clear hv
  generalize hn : T.ps.length = n at *
  generalize (selT T).y = sy at *
  generalize (selT T).rp = srp at *
  generalize (selT T).roles = sro at *
  generalize (selT T).tells = ste at *
  have hmk := fun w => make_P w n (by omega)
  have hR := heap_alloc_new w (.cells (rolesRow Vc.zero 0 (.slice none 0 0) (.slice none 0 0)) 64)
  have hA := below1 w (.cells (rolesRow Vc.zero 0 (.slice none 0 0) (.slice none 0 0)) 64)
  have hsz := World.size_alloc w (.cells (rolesRow Vc.zero 0 (.slice none 0 0) (.slice none 0 0)) 64)
  replace hn := hide hn
  replace h := hide h
  go_enter Try.func23, Try.ntmps23
  go_wp2_with fail
  have hF1 := hide (Fl.new (w.alloc (.cells (rolesRow Vc.zero 0 (.slice none 0 0) (.slice none 0 0)) 64)) 32 fP (List.replicate n Rp.zero))
  have hA2 := below1 (w.alloc (.cells (rolesRow Vc.zero 0 (.slice none 0 0) (.slice none 0 0)) 64)) (.cells (flat fP (List.replicate n Rp.zero)).toArray 32)
  have hR2 := hide (heap_kept hA2 hR)
  have hB2 := hide (hA.later hA2)
  rw [hsz] at hF1
  clear hA hA2 hR hsz hmk c1
  generalize (w.alloc (.cells (rolesRow Vc.zero 0 (.slice none 0 0) (.slice none 0 0)) 64)).alloc (.cells (flat fP (List.replicate n Rp.zero)).toArray 32) = w2 at *
  rw [← hc0.out] at hF1
  generalize hpk : w.heap.size + 1 = pk at *
  replace hpk := hide hpk
  go_loopw [16] (fun i wr => ∃ j : Nat, j ≤ n ∧ i = .int .i64 j ∧ Hid (Below w.heap.size w wr) ∧ Hid (wr.heap[w.heap.size]? = some (.cells (rolesRow Vc.zero 0 (.slice none 0 0) (.slice none 0 0)) 64)) ∧ Hid (Fl wr pk 32 fP (copyTo T j) [])) (fun i _ => n - (intOf i).toNat)
  case atStart => exact ⟨0, Nat.zero_le _, rfl, hB2, hR2, hF1⟩
  case round =>
    obtain ⟨j, hj, rfl, hB, hZ, hF⟩ := hrel
    clear hB2 hR2 hF1
    by_cases hlt : j < n
    · obtain ⟨pb, cap, rfl, hW⟩ := hat.out j hlt
      obtain ⟨hc, c1, hpl⟩ := hW wr hB.out
      have hth := hide (hF.out.there wide_P Rp.zero j 0 8 (by rw [hcl.out]; exact hlt) (by omega))
      have hF2 := hide (hF.out.setn wide_P Rp.zero j 0 (fP (T.at j).b) (T.at j).b (by rw [hcl.out]; exact hlt) (by simp) (setL_fP _ _))
      rw [Nat.add_zero] at hth hF2
      rw [hst.out j hlt] at hF2
      have hB3 := hide (below_setCellsF (b := pk) (show w.heap.size ≤ pk by have := hpk.out; omega) (fP (T.at j).b) (j * 8) _ hB.out)
      have hZ3 := hide ((heap_setCells_other pk (fP (T.at j).b) (j * 8) wr w.heap.size (by have := hpk.out; omega)).trans hZ.out)
      generalize T.at j = tp at *
      obtain ⟨⟨id, cost, up, has, ⟨a0, a1, a2, a3⟩⟩, ed, ro, st, age, left, wait, ch, agr⟩ := tp
      obtain ⟨k0, k1, k2, k3, k4, k5, k6, k7, k8, k9, k10, k11, k12, k13, k14, k15⟩ := hc
      dsimp only at *
      clear k8 k9 k10 k11 k12 k13 k14 k15
      clear hW
      go_wp2_with ((with_reducible change wpList _ _ _ _ _ _); refine stop_store 32 (.tmp 29) (.tmp 28) rfl ?_)
      refine hide ?_
      have hth2 : wr.there pk (j * 8) (Rp.row ⟨id, cost, up, has, ⟨a0, a1, a2, a3⟩⟩).size := hth.out
      refine wpList_store_mid rfl 32 (.tmp 29) (.tmp 28) rfl pk (j * 8) (Rp.row ⟨id, cost, up, has, ⟨a0, a1, a2, a3⟩⟩) rfl rfl hth2 (rpSize Rp.zero) (Rp.row_all ⟨id, cost, up, has, ⟨a0, a1, a2, a3⟩⟩) ?_
      clear hth2
      go_wp2
      clear hth hF hB hZ c1 k0 k1 k2 k3 k4 k5 k6 k7
      go_round
      case rel => exact ⟨j + 1, by omega, by go_num, hB3, hZ3, hF2⟩
      case measure => simp [intOf]; omega
    · obtain rfl : n = j := by omega
      have hd0 : wr.cell? ⟨m.tb, 0, none⟩ = some (.int .u64 T.id) := (hB.out.cell (p := ⟨m.tb, 0, none⟩) hltb).trans c0
      have hRp := hide (Rps.of_fl hF.out (hcl.out n) (fun i hi => by rw [hcall.out]; exact hwfb.out i))
      rw [hcall.out] at hRp
      have hz := hZ.out
      clear hF
      go_wp2_with fail
      refine (Select_any T.id _ n n T.bs wr (by omega) hRp).mono ?_
      rintro e w5 ⟨ib, vb, rfl, hb5, hle1, hle2, hne, hi5, hv5⟩
      have hz5 := heap_kept hb5 hz
      obtain ⟨e1, e2, e3, e4⟩ := hsel.out
      rw [← hn.out] at e1 e2
      rw [hn.out] at e1 e2
      have hRow := hide (setRow_heap w5 w.heap.size _ (rolesRow (bestW T.id T.bs n).v (bestW T.id T.bs n).place (.slice (some ⟨ib, 0, none⟩) n n) (.slice (some ⟨vb, 0, none⟩) n n)) 64 _ hz5)
      have hB5 := hide (below_setRow (hB.out.later hb5) (Nat.le_refl _) (rolesRow (bestW T.id T.bs n).v (bestW T.id T.bs n).place (.slice (some ⟨ib, 0, none⟩) n n) (.slice (some ⟨vb, 0, none⟩) n n)))
      have hrl : w.heap.size < wr.heap.size := (Array.getElem?_eq_some_iff.1 hz).1
      have hi6 := hide (hi5.blk (Go.setRow_other w5 w.heap.size ib (rolesRow (bestW T.id T.bs n).v (bestW T.id T.bs n).place (.slice (some ⟨ib, 0, none⟩) n n) (.slice (some ⟨vb, 0, none⟩) n n)) (by omega)))
      have hv6 := hide (hv5.blk (Go.setRow_other w5 w.heap.size vb (rolesRow (bestW T.id T.bs n).v (bestW T.id T.bs n).place (.slice (some ⟨ib, 0, none⟩) n n) (.slice (some ⟨vb, 0, none⟩) n n)) (by omega)))
      clear hi5 hv5 hb5 hZ hB
      generalize bestW T.id T.bs n = Y at *
      replace e1 := hide e1
      replace e2 := hide e2
      replace e3 := hide e3
      replace e4 := hide e4
      go_wp2_with ((with_reducible change wpList _ _ _ _ _ _); refine wpList_store_row rfl 64 (.tmp 2) (.tmp 36) rfl w.heap.size (rolesRow Y.v Y.place (.slice (some ⟨ib, 0, none⟩) n n) (.slice (some ⟨vb, 0, none⟩) n n)) rfl rfl 64 _ hz5 (rolesSize Vc.zero 0 (.bool true) (.bool true)) rfl (by simp [Value.oneCell']) ?_)
      refine bodyPost_ret (results_cell_row rfl _ _ w.heap.size 64 _ _ _ rfl hRow.out Try.underlying64 rfl (rolesSize Vc.zero 0 (.bool true) (.bool true))) rfl ⟨ib, vb, ?_, hB5.out, by omega, by omega, hne, ?_, ?_⟩
      · rw [e1.out, e2.out]
      · rw [e3.out]; exact hi6.out
      · rw [e4.out]; exact hv6.out
end Go.Proofs.Ytoejoneecanbbaa
