/-
  The statement BpduFlags, walked. Condition: the table lies as the program's text lays it ('Tab').
-/
import Derived.Test.YtmakaadmjgakaaaDoorBq7
import Derived.Test.YtmakaadmjgakaaaDoorFlatB
import Derived.Test.YtmakaadmjgakaaaDoorBpO
import Derived.BigQuiet
import Derived.Deep.QuietTactic
namespace Go.Proofs.YtmakaadmjgakaaaDoor
open Go.RowKit
set_option linter.unusedVariables false

@[reducible] def Bp.rap (b : Bp) : Bp := ⟨1, b.root, b.cost, b.bridge, b.port, b.change, b.ack, b.proposal, b.agreement, b.learning, b.forwarding, b.role, b.age, b.maxAge, b.hello, b.delay⟩
theorem Bp.rap_wf {b : Bp} (h : b.wf) : b.rap.wf := ⟨by show I64 1; unfold I64; omega, h.root, h.cost, h.bridge, h.port, h.role, h.age, h.maxAge, h.hello, h.delay⟩
theorem set_kind {w : World} {g : Nat} {b : Bp} {t : TypeId} (h : w.heap[g]? = some (.cells b.row t (0, 0))) : (w.setCell ⟨g, 0, none⟩ (.int .i64 1)).heap[g]? = some (.cells b.rap.row t (0, 0)) := by
  rw [heap_setCell_same _ _ _ _ _ _ h]
  rfl
theorem _root_.Go.Proofs.YtmakaadmjgakaaaDoor.Own.belowO {w w' : World} {B : Nat} {v : Value} {l : List Int} (h : Own w B v l) (hb : Below w.heap.size w w') : Own w' B v l := by
  refine ⟨h.1, h.2.1, ?_⟩
  rcases h.2.2 with h2 | ⟨g, cap, cur, rfl, hB, hh, r⟩
  · exact .inl h2
  · exact .inr ⟨g, cap, cur, rfl, hB, by rw [hb.block g (Array.getElem?_eq_some_iff.1 hh).1]; exact hh, r⟩
theorem own_form {w : World} {B : Nat} {a : Option Addr} {n c : Nat} {P R : List Int} {F : Int} (h : Own w B (.slice a n c) (P ++ F :: R)) (hP : P.length = 7) : ∃ g, a = some ⟨g, 0, none⟩ ∧ n = 8 + R.length ∧ g < w.heap.size ∧ n ≤ maxLen := by
  rcases h.form with ⟨_, e⟩ | ⟨g, cap, e, _, h1, h2, h3⟩
  · simp at e
  · simp only [Value.slice.injEq] at e
    obtain ⟨rfl, rfl, rfl⟩ := e
    exact ⟨g, rfl, by simp [hP]; omega, h1, by omega⟩
theorem own_at7 {w : World} {B g n c : Nat} {P R : List Int} {F : Int} (h : Own w B (.slice (some ⟨g, 0, none⟩) n c) (P ++ F :: R)) (hP : P.length = 7) :
    w.cell? ⟨g, 7, none⟩ = some (.int .u8 F) ∧ w.frozen? ⟨g, 7, none⟩ = false ∧ Own (w.setCell ⟨g, 7, none⟩ (.int .u8 0)) B (.slice (some ⟨g, 0, none⟩) n c) (P ++ 0 :: R) := by
  obtain ⟨g', e, hn, _⟩ := own_form h hP
  have hl : (P ++ F :: R).length = n := by rw [hn]; simp [hP]; omega
  have hrow := h.2
  rw [hl] at hrow
  refine ⟨?_, hrow.frozenAt 7, ?_, ?_⟩
  · rw [hrow.cellAt 7 (by omega), getElem?_map_u8 _ _ (by rw [hl]; omega)]
    simp [List.getD_eq_getElem?_getD, hP]
  · have := h.1.set 7 0 (by decide)
    rwa [List.set_append_right _ _ (by omega), hP] at this
  · have hs := (hrow.stored 7 (.int .u8 0)).1
    rw [← List.map_set, List.set_append_right _ _ (by omega), hP] at hs
    rw [show (P ++ 0 :: R).length = n by rw [← hl]; simp]
    exact hs
theorem own_other {w : World} {B g n c : Nat} {l : List Int} (h : Own w B (.slice (some ⟨g, 0, none⟩) n c) l) (g2 o : Nat) (u : Value) (hne : g ≠ g2) : Own (w.setCell ⟨g2, o, none⟩ u) B (.slice (some ⟨g, 0, none⟩) n c) l := by
  refine ⟨h.1, h.2.1, ?_⟩
  rcases h.2.2 with h2 | ⟨g', cap, cur, e, hB, hh, r⟩
  · exact .inl h2
  · simp only [Value.slice.injEq, Option.some.injEq, Addr.mk.injEq, and_true] at e
    obtain ⟨rfl, rfl, rfl⟩ := e
    exact .inr ⟨g, c, cur, rfl, hB, by rw [heap_setCell_other _ _ _ _ hne]; exact hh, r⟩
theorem both_zero {w : World} {B B' gx gy n k k2 : Nat} {P R : List Int} {F1 F2 : Int} (hx : Own w B (.slice (some ⟨gx, 0, none⟩) n k) (P ++ F1 :: R)) (hy : Own w B' (.slice (some ⟨gy, 0, none⟩) n k2) (P ++ F2 :: R)) (hP : P.length = 7) (hne : gx ≠ gy) :
    Bs ((w.setCell ⟨gx, 7, none⟩ (.int .u8 0)).setCell ⟨gy, 7, none⟩ (.int .u8 0)) (.slice (some ⟨gx, 0, none⟩) n k) (P ++ 0 :: R) ∧ Bs ((w.setCell ⟨gx, 7, none⟩ (.int .u8 0)).setCell ⟨gy, 7, none⟩ (.int .u8 0)) (.slice (some ⟨gy, 0, none⟩) n k2) (P ++ 0 :: R) :=
  ⟨(own_other (own_at7 hx hP).2.2 gy 7 _ hne).bs, (own_at7 (own_other hy gx 7 _ (Ne.symm hne)) hP).2.2.bs⟩
/-- The check does not look at the flags of a rapid message. -/
theorem bcheck_flags (a b : Bp) (h1 : a.kind = 1) (h2 : b.kind = 1) (h3 : a.root = b.root) (h4 : a.cost = b.cost) (h5 : a.bridge = b.bridge) (h6 : a.port = b.port) (h7 : a.role = b.role) (h8 : a.age = b.age) (h9 : a.maxAge = b.maxAge) (h10 : a.hello = b.hello) (h11 : a.delay = b.delay) : bcheckE a = bcheckE b := by
  unfold bcheckE
  have hn : numsB a = numsB b := by unfold numsB Bp.five; rw [h4, h6, h7, h8, h9, h10, h11]
  rw [h1, h2, hn, h8, h9]
  simp
theorem digs_one (n : Int) (h0 : 0 ≤ n) (h1 : n < 256) : digs n 1 = [n] := by
  have : digs n 1 = [dig n 0] := rfl
  rw [this]
  unfold dig
  simp
  omega
theorem rapid_eq (b : Bp) (h0 : 0 ≤ b.role) (h3 : b.role ≤ 3) : nsL (headP 2 2) ++ (nsL (toldP b) ++ [0]) = nsL (headP 2 2) ++ flagsN b :: (nsL [(b.root, 8), (b.cost, 4), (b.bridge, 8), (b.port, 2), (b.age, 2), (b.maxAge, 2), (b.hello, 2), (b.delay, 2)] ++ [0]) := by
  have hf := flagsN_range b h0 h3
  have : nsL (toldP b) = flagsN b :: nsL [(b.root, 8), (b.cost, 4), (b.bridge, 8), (b.port, 2), (b.age, 2), (b.maxAge, 2), (b.hello, 2), (b.delay, 2)] := by
    simp only [nsL, toldP, List.map_cons, List.flatten_cons]
    rw [show (1 : Int).toNat = 1 by rfl, digs_one _ hf.1 hf.2]
    rfl
  rw [this]
  rfl
theorem rapid_shape (b : Bp) (h0 : 0 ≤ b.role) (h3 : b.role ≤ 3) : ∃ P R : List Int, P.length = 7 ∧ nsL (headP 2 2) ++ (nsL (toldP b) ++ [0]) = P ++ flagsN b :: R :=
  ⟨_, _, by simp [nsL, headP, digs_length], rapid_eq b h0 h3⟩
theorem rapid_other (a b : Bp) (h0 : 0 ≤ a.role) (h0' : a.role ≤ 3) (h7 : a.role = b.role) (h3 : a.root = b.root) (h4 : a.cost = b.cost) (h5 : a.bridge = b.bridge) (h6 : a.port = b.port) (h8 : a.age = b.age) (h9 : a.maxAge = b.maxAge) (h10 : a.hello = b.hello) (h11 : a.delay = b.delay) (_ : (0 : Int) = 0) {P R : List Int} (hP : P.length = 7) (h : nsL (headP 2 2) ++ (nsL (toldP a) ++ [0]) = P ++ flagsN a :: R) :
    nsL (headP 2 2) ++ (nsL (toldP b) ++ [0]) = P ++ flagsN b :: R := by
  rw [rapid_eq a h0 h0'] at h
  rw [rapid_eq b (by omega) (by omega)]
  have hl : (nsL (headP 2 2)).length = P.length := by rw [hP]; simp [nsL, headP, digs_length]
  obtain ⟨e1, e2⟩ := List.append_inj h hl
  rw [← h3, ← h4, ← h5, ← h6, ← h8, ← h9, ← h10, ← h11]
  simp only [List.cons.injEq, true_and] at e2
  rw [e1, e2]
set_option maxRecDepth 20000 in
theorem Fl_bad (b : Bp) (which : Int) (w : World) (hT : Tab w) (hW : b.wf) (hE : bcheckE b.rap ≠ 0) :
    Calls Tryd.prog 5 #[.agg b.row, .int .i64 which] w fun e w' => e = .returned (.bool true) ∧ Below w.heap.size w w' := by
  have hC := hide (fun w => BCheck_any b.rap w (Bp.rap_wf hW))
  have hne : (bcheckE b.rap != 0) = true := by simpa using hE
  generalize bcheckE b.rap = E at *
  have hF := hide (fun w hT => tells_any w hT)
  have HT := hide hT
  have hk := heap_alloc_new w (.cells b.row 41)
  clear hT hW hE
  go_enter Tryd.func5, Tryd.ntmps5
  go_wp2_with fail
  refine (hF.out _ (HT.out.later (below1 _ _))).mono ?_
  rintro e w1 ⟨rfl, hb1⟩
  have hk1 := heap_kept hb1 hk
  have hW1 := hide ((below1 w _).later hb1)
  have hf1 : w1.frozen? ⟨w.heap.size, 0, none⟩ = false := frozen_of_row w1 _ _ _ _ hk1
  have hc1 : w1.cell? ⟨w.heap.size, 0, none⟩ = some (.int .i64 b.kind) := (cell_of_row _ _ _ _ _ _ hk1).trans rfl
  have hk2 := set_kind hk1
  have hW2 := hide (hW1.out.setCell (p := ⟨w.heap.size, 0, none⟩) (Nat.le_refl _) (.int .i64 1))
  clear hb1 hk hF
  go_wp2_with ((with_reducible change wpList _ _ _ _ _ _); refine wpList_load_row rfl 41 (.tmp 2) rfl w.heap.size rfl 41 _ _ _ hk2 Tryd.underlying41 rfl (bpSize _) ?_)
  refine (hC.out _).mono ?_
  rintro e w3 ⟨rfl, hb3⟩
  have hW3 := hide (hW2.out.trans (hb3.mono (by simpa [World.setCell] using hW1.out.size)))
  clear hb3 hk2 hC hW2
  go_wp2
  go_ret
  exact ⟨rfl, hW3.out⟩
set_option maxRecDepth 20000 in
theorem Fl_out (b : Bp) (which : Int) (w : World) (hT : Tab w) (hW : b.wf) (hE : bcheckE b.rap = 0) (hw : which < 0 ∨ 5 < which) :
    Calls Tryd.prog 5 #[.agg b.row, .int .i64 which] w fun e w' => e = .returned (.bool true) ∧ Below w.heap.size w w' := by
  have hC := hide (fun w => BCheck_any b.rap w (Bp.rap_wf hW))
  rw [hE] at hC
  have hF := hide (fun w hT => tells_any w hT)
  have HT := hide hT
  have hk := heap_alloc_new w (.cells b.row 41)
  clear hT hW hE
  rcases (show which < 0 ∨ (0 ≤ which ∧ 5 < which) by omega) with h1 | ⟨h1, h2⟩
  all_goals
    clear hw
    go_enter Tryd.func5, Tryd.ntmps5
    go_wp2_with fail
    refine (hF.out _ (HT.out.later (below1 _ _))).mono ?_
    rintro e w1 ⟨rfl, hb1⟩
    have hk1 := heap_kept hb1 hk
    have hW1 := hide ((below1 w _).later hb1)
    have hf1 : w1.frozen? ⟨w.heap.size, 0, none⟩ = false := frozen_of_row w1 _ _ _ _ hk1
    have hc1 : w1.cell? ⟨w.heap.size, 0, none⟩ = some (.int .i64 b.kind) := (cell_of_row _ _ _ _ _ _ hk1).trans rfl
    have hk2 := set_kind hk1
    have hW2 := hide (hW1.out.setCell (p := ⟨w.heap.size, 0, none⟩) (Nat.le_refl _) (.int .i64 1))
    clear hb1 hk
    go_wp2_with ((with_reducible change wpList _ _ _ _ _ _); refine wpList_load_row rfl 41 (.tmp 2) rfl w.heap.size rfl 41 _ _ _ hk2 Tryd.underlying41 rfl (bpSize _) ?_)
    refine (hC.out _).mono ?_
    rintro e w3 ⟨rfl, hb3⟩
    have hW3 := hide (hW2.out.trans (hb3.mono (by simpa [World.setCell] using hW1.out.size)))
    clear hb3 hk2 hW2
    go_wp2
    go_ret
    exact ⟨rfl, hW3.out⟩

theorem six0 (w : World) : (Instr.index 48 (.agg #[.int .i64 0, .int .i64 1, .int .i64 4, .int .i64 5, .int .i64 6, .int .i64 7]) (.int .i64 0)).run Tryd.prog w = .ok (.int .i64 0) w := by
  simp [Instr.index, run_underlying Tryd.underlying48, asIntOf, go_sem]
@[reducible] def Bp.flip0 (b : Bp) : Bp := ⟨1, b.root, b.cost, b.bridge, b.port, !b.change, b.ack, b.proposal, b.agreement, b.learning, b.forwarding, b.role, b.age, b.maxAge, b.hello, b.delay⟩
theorem flip0_xor (b : Bp) (h0 : 0 ≤ b.role) (h3 : b.role ≤ 3) : bits .xor .u8 (flagsN b.rap) (flagsN b.flip0) = 1 := by
  obtain ⟨r, hr⟩ := Int.eq_ofNat_of_zero_le h0
  have h : ∀ (c k p a l f : Bool) (r : Fin 4), bits .xor .u8 (flagsN ⟨1, 0, 0, 0, 0, c, k, p, a, l, f, ((r.val : Nat) : Int), 0, 0, 0, 0⟩) (flagsN (Bp.flip0 ⟨1, 0, 0, 0, 0, c, k, p, a, l, f, ((r.val : Nat) : Int), 0, 0, 0, 0⟩)) = 1 := by decide +kernel
  have := h b.change b.ack b.proposal b.agreement b.learning b.forwarding ⟨r, by omega⟩
  simp only [flagsN] at this ⊢
  rw [hr]
  exact this
set_option maxRecDepth 20000 in
set_option maxHeartbeats 2000000 in
theorem Fl_in0 (b : Bp) (w : World) (hT : Tab w) (hW : b.wf) (hE : bcheckE b.rap = 0) :
    Calls Tryd.prog 5 #[.agg b.row, .int .i64 0] w fun e w' => e = .returned (.bool true) ∧ Below w.heap.size w w' := by
  have hC := hide (fun w => BCheck_any b.rap w (Bp.rap_wf hW))
  rw [hE] at hC
  obtain ⟨hfit, _, _⟩ := bfits (Bp.rap_wf hW) hE (by show (1 : Int) ≠ 2; decide)
  have hE2 : bcheckE b.flip0 = 0 := by rw [← hE]; exact bcheck_flags _ _ rfl rfl rfl rfl rfl rfl rfl rfl rfl rfl rfl
  have hW2' : b.flip0.wf := ⟨(Bp.rap_wf hW).kind, hW.root, hW.cost, hW.bridge, hW.port, hW.role, hW.age, hW.maxAge, hW.hello, hW.delay⟩
  have hB1 := hide (fun w => BBuildO_rapid b.rap w (Bp.rap_wf hW) hE rfl hfit)
  have hB2 := hide (fun w => BBuildO_rapid b.flip0 w hW2' hE2 rfl ⟨hfit.role, hfit.root, hfit.cost, hfit.bridge, hfit.port, hfit.age, hfit.maxAge, hfit.hello, hfit.delay⟩)
  obtain ⟨P, R, hP7, hx1⟩ := rapid_shape b.rap hfit.role.1 hfit.role.2
  have hx2 : nsL (headP 2 2) ++ (nsL (toldP b.flip0) ++ [0]) = P ++ flagsN b.flip0 :: R := rapid_other b.rap b.flip0 hfit.role.1 hfit.role.2 rfl rfl rfl rfl rfl rfl rfl rfl rfl rfl hP7 hx1
  rw [hx1] at hB1
  rw [hx2] at hB2
  have hX := flip0_xor b hfit.role.1 hfit.role.2
  have hi6 := six0
  generalize flagsN b.rap = F1 at *
  generalize flagsN b.flip0 = F2 at *
  have HP7 := hide hP7
  have hF := hide (fun w hT => tells_any w hT)
  have HT := hide hT
  have hk := heap_alloc_new w (.cells b.row 41)
  clear hT hW hE hE2 hW2' hfit hx1 hx2 hP7
  go_enter Tryd.func5, Tryd.ntmps5
  go_wp2_with fail
  refine (hF.out _ (HT.out.later (below1 _ _))).mono ?_
  rintro e w1 ⟨rfl, hb1⟩
  have hk1 := heap_kept hb1 hk
  have hW1 := hide ((below1 w _).later hb1)
  have hf1 : w1.frozen? ⟨w.heap.size, 0, none⟩ = false := frozen_of_row w1 _ _ _ _ hk1
  have hc1 : w1.cell? ⟨w.heap.size, 0, none⟩ = some (.int .i64 b.kind) := (cell_of_row _ _ _ _ _ _ hk1).trans rfl
  have hk2 := set_kind hk1
  have hW2 := hide (hW1.out.setCell (p := ⟨w.heap.size, 0, none⟩) (Nat.le_refl _) (.int .i64 1))
  clear hb1 hk
  go_wp2_with ((with_reducible change wpList _ _ _ _ _ _); refine wpList_load_row rfl 41 (.tmp 2) rfl w.heap.size rfl 41 _ _ _ hk2 Tryd.underlying41 rfl (bpSize _) ?_)
  refine (hC.out _).mono ?_
  rintro e w3 ⟨rfl, hb3⟩
  have hk3 := heap_kept hb3 hk2
  have hW3 := hide (hW2.out.trans (hb3.mono (by simpa [World.setCell] using hW1.out.size)))
  clear hb3 hk2 hW2 hf1 hc1 hk1 hW1
  go_wp2_with ((with_reducible change wpList _ _ _ _ _ _); first | refine wpList_load_row rfl 41 (.tmp 2) rfl w.heap.size rfl 41 _ _ _ hk3 Tryd.underlying41 rfl (bpSize _) ?_ | (refine wpList_store_fresh rfl 41 _ _ rfl b.rap.row Bp.zero.row rfl rfl 41 (bpSize _) rfl (by simp [Value.oneCell']) ?_; intro w4 hG4 hb4; refine unhide ?_))
  have hlt : w.heap.size < w3.heap.size := (Array.getElem?_eq_some_iff.1 hk3).1
  have hk4 := heap_kept hb4 hk3
  have hW4 := hide (hW3.out.later hb4)
  have hc4 : w4.cell? ⟨w.heap.size, 5, none⟩ = some (.bool b.change) := (cell_of_row _ _ _ _ _ _ hk4).trans rfl
  have hd4 : w4.cell? ⟨w3.heap.size, 5, none⟩ = some (.bool b.change) := (cell_of_row _ _ _ _ _ _ hG4).trans rfl
  have hf4 : w4.frozen? ⟨w3.heap.size, 5, none⟩ = false := frozen_of_row w4 _ _ _ _ hG4
  have hk5 : (w4.setCell ⟨w3.heap.size, 5, none⟩ (.bool !b.change)).heap[w.heap.size]? = some (.cells b.rap.row 41 (0, 0)) := by
    rw [heap_setCell_other _ _ _ _ (by show w.heap.size ≠ w3.heap.size; omega)]; exact hk4
  have hG5 : (w4.setCell ⟨w3.heap.size, 5, none⟩ (.bool !b.change)).heap[w3.heap.size]? = some (.cells b.flip0.row 41 (0, 0)) := by
    rw [heap_setCell_same _ _ _ _ _ _ hG4]; rfl
  have hW5 := hide (hW4.out.setCell (p := ⟨w3.heap.size, 5, none⟩) (by show w.heap.size ≤ w3.heap.size; omega) (.bool !b.change))
  have hs5 : Hid (w.heap.size ≤ (w4.setCell ⟨w3.heap.size, 5, none⟩ (.bool !b.change)).heap.size) := by have := hW4.out.size; show _ ≤ _; simpa [World.setCell] using this
  clear hb4 hk3 hk4 hW3 hG4 hW4
  refine hide ?_
  go_wp2_with ((with_reducible change wpList _ _ _ _ _ _); refine wpList_load_row rfl 41 (.tmp 2) rfl w.heap.size rfl 41 _ _ _ hk5 Tryd.underlying41 rfl (bpSize _) ?_)
  generalize w4.setCell ⟨w3.heap.size, 5, none⟩ (.bool !b.change) = w5 at *
  generalize w3.heap.size = g1 at *
  refine (hB1.out _).mono ?_
  rintro e w6 ⟨va, n, k, rfl, hO6, hb6⟩
  obtain ⟨gx, rfl, hn1', hgx, hnm⟩ := own_form hO6 HP7.out
  have hn1 := hide hn1'
  clear hn1'
  have hG6 := heap_kept hb6 hG5
  have hW6 := hide (hW5.out.trans (hb6.mono hs5.out))
  have hs6 : Hid (w.heap.size ≤ w6.heap.size) := Nat.le_trans hs5.out hb6.size
  have hgw : Hid (w.heap.size ≤ gx) := Nat.le_trans hs5.out (hO6.fresh _ _ _ rfl)
  have HO6 := hide hO6
  clear hO6 hb6 hk5 hG5 hW5 hc4 hd4 hf4 hs5 hlt hB1
  go_wp2_with ((with_reducible change wpList _ _ _ _ _ _); refine wpList_load_row rfl 41 (.tmp 5) rfl g1 rfl 41 _ _ _ hG6 Tryd.underlying41 rfl (bpSize _) ?_)
  refine (hB2.out _).mono ?_
  rintro e w7 ⟨vb, n2, k2, rfl, hO7, hb7⟩
  obtain ⟨gy, rfl, hn2, hgy, _⟩ := own_form hO7 HP7.out
  obtain rfl : n2 = n := by have := hn1.out; omega
  have hne : gx ≠ gy := by have := hO7.fresh _ _ _ rfl; have h2 : w6.heap.size ≤ gy := this; omega
  have hW7 := hide (hW6.out.trans (hb7.mono hs6.out))
  have hgv : Hid (w.heap.size ≤ gy) := Nat.le_trans hs6.out (hO7.fresh _ _ _ rfl)
  have HO7 := hide hO7
  have HO6' := hide (HO6.out.belowO hb7)
  have hn7 : 8 ≤ n2 := by omega
  unfold maxLen at hnm
  obtain ⟨cx, fx, _⟩ := own_at7 HO6'.out HP7.out
  obtain ⟨cy, fy, _⟩ := own_at7 HO7.out HP7.out
  clear hO7 hb7 hG6 hW6 hs6 HO6 hB2 hgx hgy hn1 hn2
  have hn7' : (7 : Int) < (n2 : Int) := by omega
  obtain ⟨S, hS⟩ : ∃ S, S = bstr (P ++ 0 :: R) := ⟨_, rfl⟩
  have hBB := fun nq => both_zero (HO6'.out.belowO (below_drewN (Below.refl _ _) nq)) (HO7.out.belowO (below_drewN (Below.refl _ _) nq)) HP7.out hne
  have z1 : ∀ nq, (convert 26 9 (.slice (some ⟨gx, 0, none⟩) n2 k)).run Tryd.prog (((w7.drewN nq).setCell ⟨gx, 7, none⟩ (.int .u8 0)).setCell ⟨gy, 7, none⟩ (.int .u8 0)) = .ok (.string S) (((w7.drewN nq).setCell ⟨gx, 7, none⟩ (.int .u8 0)).setCell ⟨gy, 7, none⟩ (.int .u8 0)) := fun nq => by rw [hS]; exact conv_str 26 9 5 Tryd.underlying26 Tryd.underlying5 Tryd.underlying9 (hBB nq).1
  have z2 : ∀ nq, (convert 26 9 (.slice (some ⟨gy, 0, none⟩) n2 k2)).run Tryd.prog (((w7.drewN nq).setCell ⟨gx, 7, none⟩ (.int .u8 0)).setCell ⟨gy, 7, none⟩ (.int .u8 0)) = .ok (.string S) (((w7.drewN nq).setCell ⟨gx, 7, none⟩ (.int .u8 0)).setCell ⟨gy, 7, none⟩ (.int .u8 0)) := fun nq => by rw [hS]; exact conv_str 26 9 5 Tryd.underlying26 Tryd.underlying5 Tryd.underlying9 (hBB nq).2
  have hWf : Hid (∀ nq, Below w.heap.size w (((w7.drewN nq).setCell ⟨gx, 7, none⟩ (.int .u8 0)).setCell ⟨gy, 7, none⟩ (.int .u8 0))) := fun nq => ((below_drewN hW7.out nq).setCell (p := ⟨gx, 7, none⟩) hgw.out _).setCell (p := ⟨gy, 7, none⟩) hgv.out _
  clear hS hBB HO7 HO6' hW7
  go_wp2
  go_quiet (fail)
  go_wp2
  go_ret
  exact ⟨rfl, hWf.out _⟩

theorem six1 (w : World) : (Instr.index 48 (.agg #[.int .i64 0, .int .i64 1, .int .i64 4, .int .i64 5, .int .i64 6, .int .i64 7]) (.int .i64 1)).run Tryd.prog w = .ok (.int .i64 1) w := by
  simp [Instr.index, run_underlying Tryd.underlying48, asIntOf, go_sem]
@[reducible] def Bp.flip1 (b : Bp) : Bp := ⟨1, b.root, b.cost, b.bridge, b.port, b.change, b.ack, !b.proposal, b.agreement, b.learning, b.forwarding, b.role, b.age, b.maxAge, b.hello, b.delay⟩
theorem flip1_xor (b : Bp) (h0 : 0 ≤ b.role) (h3 : b.role ≤ 3) : bits .xor .u8 (flagsN b.rap) (flagsN b.flip1) = 2 := by
  obtain ⟨r, hr⟩ := Int.eq_ofNat_of_zero_le h0
  have h : ∀ (c k p a l f : Bool) (r : Fin 4), bits .xor .u8 (flagsN ⟨1, 0, 0, 0, 0, c, k, p, a, l, f, ((r.val : Nat) : Int), 0, 0, 0, 0⟩) (flagsN (Bp.flip1 ⟨1, 0, 0, 0, 0, c, k, p, a, l, f, ((r.val : Nat) : Int), 0, 0, 0, 0⟩)) = 2 := by decide +kernel
  have := h b.change b.ack b.proposal b.agreement b.learning b.forwarding ⟨r, by omega⟩
  simp only [flagsN] at this ⊢
  rw [hr]
  exact this
set_option maxRecDepth 20000 in
set_option maxHeartbeats 2000000 in
theorem Fl_in1 (b : Bp) (w : World) (hT : Tab w) (hW : b.wf) (hE : bcheckE b.rap = 0) :
    Calls Tryd.prog 5 #[.agg b.row, .int .i64 1] w fun e w' => e = .returned (.bool true) ∧ Below w.heap.size w w' := by
  have hC := hide (fun w => BCheck_any b.rap w (Bp.rap_wf hW))
  rw [hE] at hC
  obtain ⟨hfit, _, _⟩ := bfits (Bp.rap_wf hW) hE (by show (1 : Int) ≠ 2; decide)
  have hE2 : bcheckE b.flip1 = 0 := by rw [← hE]; exact bcheck_flags _ _ rfl rfl rfl rfl rfl rfl rfl rfl rfl rfl rfl
  have hW2' : b.flip1.wf := ⟨(Bp.rap_wf hW).kind, hW.root, hW.cost, hW.bridge, hW.port, hW.role, hW.age, hW.maxAge, hW.hello, hW.delay⟩
  have hB1 := hide (fun w => BBuildO_rapid b.rap w (Bp.rap_wf hW) hE rfl hfit)
  have hB2 := hide (fun w => BBuildO_rapid b.flip1 w hW2' hE2 rfl ⟨hfit.role, hfit.root, hfit.cost, hfit.bridge, hfit.port, hfit.age, hfit.maxAge, hfit.hello, hfit.delay⟩)
  obtain ⟨P, R, hP7, hx1⟩ := rapid_shape b.rap hfit.role.1 hfit.role.2
  have hx2 : nsL (headP 2 2) ++ (nsL (toldP b.flip1) ++ [0]) = P ++ flagsN b.flip1 :: R := rapid_other b.rap b.flip1 hfit.role.1 hfit.role.2 rfl rfl rfl rfl rfl rfl rfl rfl rfl rfl hP7 hx1
  rw [hx1] at hB1
  rw [hx2] at hB2
  have hX := flip1_xor b hfit.role.1 hfit.role.2
  have hi6 := six1
  generalize flagsN b.rap = F1 at *
  generalize flagsN b.flip1 = F2 at *
  have HP7 := hide hP7
  have hF := hide (fun w hT => tells_any w hT)
  have HT := hide hT
  have hk := heap_alloc_new w (.cells b.row 41)
  clear hT hW hE hE2 hW2' hfit hx1 hx2 hP7
  go_enter Tryd.func5, Tryd.ntmps5
  go_wp2_with fail
  refine (hF.out _ (HT.out.later (below1 _ _))).mono ?_
  rintro e w1 ⟨rfl, hb1⟩
  have hk1 := heap_kept hb1 hk
  have hW1 := hide ((below1 w _).later hb1)
  have hf1 : w1.frozen? ⟨w.heap.size, 0, none⟩ = false := frozen_of_row w1 _ _ _ _ hk1
  have hc1 : w1.cell? ⟨w.heap.size, 0, none⟩ = some (.int .i64 b.kind) := (cell_of_row _ _ _ _ _ _ hk1).trans rfl
  have hk2 := set_kind hk1
  have hW2 := hide (hW1.out.setCell (p := ⟨w.heap.size, 0, none⟩) (Nat.le_refl _) (.int .i64 1))
  clear hb1 hk
  go_wp2_with ((with_reducible change wpList _ _ _ _ _ _); refine wpList_load_row rfl 41 (.tmp 2) rfl w.heap.size rfl 41 _ _ _ hk2 Tryd.underlying41 rfl (bpSize _) ?_)
  refine (hC.out _).mono ?_
  rintro e w3 ⟨rfl, hb3⟩
  have hk3 := heap_kept hb3 hk2
  have hW3 := hide (hW2.out.trans (hb3.mono (by simpa [World.setCell] using hW1.out.size)))
  clear hb3 hk2 hW2 hf1 hc1 hk1 hW1
  go_wp2_with ((with_reducible change wpList _ _ _ _ _ _); first | refine wpList_load_row rfl 41 (.tmp 2) rfl w.heap.size rfl 41 _ _ _ hk3 Tryd.underlying41 rfl (bpSize _) ?_ | (refine wpList_store_fresh rfl 41 _ _ rfl b.rap.row Bp.zero.row rfl rfl 41 (bpSize _) rfl (by simp [Value.oneCell']) ?_; intro w4 hG4 hb4; refine unhide ?_))
  have hlt : w.heap.size < w3.heap.size := (Array.getElem?_eq_some_iff.1 hk3).1
  have hk4 := heap_kept hb4 hk3
  have hW4 := hide (hW3.out.later hb4)
  have hc4 : w4.cell? ⟨w.heap.size, 7, none⟩ = some (.bool b.proposal) := (cell_of_row _ _ _ _ _ _ hk4).trans rfl
  have hd4 : w4.cell? ⟨w3.heap.size, 7, none⟩ = some (.bool b.proposal) := (cell_of_row _ _ _ _ _ _ hG4).trans rfl
  have hf4 : w4.frozen? ⟨w3.heap.size, 7, none⟩ = false := frozen_of_row w4 _ _ _ _ hG4
  have hk5 : (w4.setCell ⟨w3.heap.size, 7, none⟩ (.bool !b.proposal)).heap[w.heap.size]? = some (.cells b.rap.row 41 (0, 0)) := by
    rw [heap_setCell_other _ _ _ _ (by show w.heap.size ≠ w3.heap.size; omega)]; exact hk4
  have hG5 : (w4.setCell ⟨w3.heap.size, 7, none⟩ (.bool !b.proposal)).heap[w3.heap.size]? = some (.cells b.flip1.row 41 (0, 0)) := by
    rw [heap_setCell_same _ _ _ _ _ _ hG4]; rfl
  have hW5 := hide (hW4.out.setCell (p := ⟨w3.heap.size, 7, none⟩) (by show w.heap.size ≤ w3.heap.size; omega) (.bool !b.proposal))
  have hs5 : Hid (w.heap.size ≤ (w4.setCell ⟨w3.heap.size, 7, none⟩ (.bool !b.proposal)).heap.size) := by have := hW4.out.size; show _ ≤ _; simpa [World.setCell] using this
  clear hb4 hk3 hk4 hW3 hG4 hW4
  refine hide ?_
  go_wp2_with ((with_reducible change wpList _ _ _ _ _ _); refine wpList_load_row rfl 41 (.tmp 2) rfl w.heap.size rfl 41 _ _ _ hk5 Tryd.underlying41 rfl (bpSize _) ?_)
  generalize w4.setCell ⟨w3.heap.size, 7, none⟩ (.bool !b.proposal) = w5 at *
  generalize w3.heap.size = g1 at *
  refine (hB1.out _).mono ?_
  rintro e w6 ⟨va, n, k, rfl, hO6, hb6⟩
  obtain ⟨gx, rfl, hn1', hgx, hnm⟩ := own_form hO6 HP7.out
  have hn1 := hide hn1'
  clear hn1'
  have hG6 := heap_kept hb6 hG5
  have hW6 := hide (hW5.out.trans (hb6.mono hs5.out))
  have hs6 : Hid (w.heap.size ≤ w6.heap.size) := Nat.le_trans hs5.out hb6.size
  have hgw : Hid (w.heap.size ≤ gx) := Nat.le_trans hs5.out (hO6.fresh _ _ _ rfl)
  have HO6 := hide hO6
  clear hO6 hb6 hk5 hG5 hW5 hc4 hd4 hf4 hs5 hlt hB1
  go_wp2_with ((with_reducible change wpList _ _ _ _ _ _); refine wpList_load_row rfl 41 (.tmp 5) rfl g1 rfl 41 _ _ _ hG6 Tryd.underlying41 rfl (bpSize _) ?_)
  refine (hB2.out _).mono ?_
  rintro e w7 ⟨vb, n2, k2, rfl, hO7, hb7⟩
  obtain ⟨gy, rfl, hn2, hgy, _⟩ := own_form hO7 HP7.out
  obtain rfl : n2 = n := by have := hn1.out; omega
  have hne : gx ≠ gy := by have := hO7.fresh _ _ _ rfl; have h2 : w6.heap.size ≤ gy := this; omega
  have hW7 := hide (hW6.out.trans (hb7.mono hs6.out))
  have hgv : Hid (w.heap.size ≤ gy) := Nat.le_trans hs6.out (hO7.fresh _ _ _ rfl)
  have HO7 := hide hO7
  have HO6' := hide (HO6.out.belowO hb7)
  have hn7 : 8 ≤ n2 := by omega
  unfold maxLen at hnm
  obtain ⟨cx, fx, _⟩ := own_at7 HO6'.out HP7.out
  obtain ⟨cy, fy, _⟩ := own_at7 HO7.out HP7.out
  clear hO7 hb7 hG6 hW6 hs6 HO6 hB2 hgx hgy hn1 hn2
  have hn7' : (7 : Int) < (n2 : Int) := by omega
  obtain ⟨S, hS⟩ : ∃ S, S = bstr (P ++ 0 :: R) := ⟨_, rfl⟩
  have hBB := fun nq => both_zero (HO6'.out.belowO (below_drewN (Below.refl _ _) nq)) (HO7.out.belowO (below_drewN (Below.refl _ _) nq)) HP7.out hne
  have z1 : ∀ nq, (convert 26 9 (.slice (some ⟨gx, 0, none⟩) n2 k)).run Tryd.prog (((w7.drewN nq).setCell ⟨gx, 7, none⟩ (.int .u8 0)).setCell ⟨gy, 7, none⟩ (.int .u8 0)) = .ok (.string S) (((w7.drewN nq).setCell ⟨gx, 7, none⟩ (.int .u8 0)).setCell ⟨gy, 7, none⟩ (.int .u8 0)) := fun nq => by rw [hS]; exact conv_str 26 9 5 Tryd.underlying26 Tryd.underlying5 Tryd.underlying9 (hBB nq).1
  have z2 : ∀ nq, (convert 26 9 (.slice (some ⟨gy, 0, none⟩) n2 k2)).run Tryd.prog (((w7.drewN nq).setCell ⟨gx, 7, none⟩ (.int .u8 0)).setCell ⟨gy, 7, none⟩ (.int .u8 0)) = .ok (.string S) (((w7.drewN nq).setCell ⟨gx, 7, none⟩ (.int .u8 0)).setCell ⟨gy, 7, none⟩ (.int .u8 0)) := fun nq => by rw [hS]; exact conv_str 26 9 5 Tryd.underlying26 Tryd.underlying5 Tryd.underlying9 (hBB nq).2
  have hWf : Hid (∀ nq, Below w.heap.size w (((w7.drewN nq).setCell ⟨gx, 7, none⟩ (.int .u8 0)).setCell ⟨gy, 7, none⟩ (.int .u8 0))) := fun nq => ((below_drewN hW7.out nq).setCell (p := ⟨gx, 7, none⟩) hgw.out _).setCell (p := ⟨gy, 7, none⟩) hgv.out _
  clear hS hBB HO7 HO6' hW7
  go_wp2
  go_quiet (fail)
  go_wp2
  go_ret
  exact ⟨rfl, hWf.out _⟩

theorem six2 (w : World) : (Instr.index 48 (.agg #[.int .i64 0, .int .i64 1, .int .i64 4, .int .i64 5, .int .i64 6, .int .i64 7]) (.int .i64 2)).run Tryd.prog w = .ok (.int .i64 4) w := by
  simp [Instr.index, run_underlying Tryd.underlying48, asIntOf, go_sem]
@[reducible] def Bp.flip2 (b : Bp) : Bp := ⟨1, b.root, b.cost, b.bridge, b.port, b.change, b.ack, b.proposal, b.agreement, !b.learning, b.forwarding, b.role, b.age, b.maxAge, b.hello, b.delay⟩
theorem flip2_xor (b : Bp) (h0 : 0 ≤ b.role) (h3 : b.role ≤ 3) : bits .xor .u8 (flagsN b.rap) (flagsN b.flip2) = 16 := by
  obtain ⟨r, hr⟩ := Int.eq_ofNat_of_zero_le h0
  have h : ∀ (c k p a l f : Bool) (r : Fin 4), bits .xor .u8 (flagsN ⟨1, 0, 0, 0, 0, c, k, p, a, l, f, ((r.val : Nat) : Int), 0, 0, 0, 0⟩) (flagsN (Bp.flip2 ⟨1, 0, 0, 0, 0, c, k, p, a, l, f, ((r.val : Nat) : Int), 0, 0, 0, 0⟩)) = 16 := by decide +kernel
  have := h b.change b.ack b.proposal b.agreement b.learning b.forwarding ⟨r, by omega⟩
  simp only [flagsN] at this ⊢
  rw [hr]
  exact this
set_option maxRecDepth 20000 in
set_option maxHeartbeats 2000000 in
theorem Fl_in2 (b : Bp) (w : World) (hT : Tab w) (hW : b.wf) (hE : bcheckE b.rap = 0) :
    Calls Tryd.prog 5 #[.agg b.row, .int .i64 2] w fun e w' => e = .returned (.bool true) ∧ Below w.heap.size w w' := by
  have hC := hide (fun w => BCheck_any b.rap w (Bp.rap_wf hW))
  rw [hE] at hC
  obtain ⟨hfit, _, _⟩ := bfits (Bp.rap_wf hW) hE (by show (1 : Int) ≠ 2; decide)
  have hE2 : bcheckE b.flip2 = 0 := by rw [← hE]; exact bcheck_flags _ _ rfl rfl rfl rfl rfl rfl rfl rfl rfl rfl rfl
  have hW2' : b.flip2.wf := ⟨(Bp.rap_wf hW).kind, hW.root, hW.cost, hW.bridge, hW.port, hW.role, hW.age, hW.maxAge, hW.hello, hW.delay⟩
  have hB1 := hide (fun w => BBuildO_rapid b.rap w (Bp.rap_wf hW) hE rfl hfit)
  have hB2 := hide (fun w => BBuildO_rapid b.flip2 w hW2' hE2 rfl ⟨hfit.role, hfit.root, hfit.cost, hfit.bridge, hfit.port, hfit.age, hfit.maxAge, hfit.hello, hfit.delay⟩)
  obtain ⟨P, R, hP7, hx1⟩ := rapid_shape b.rap hfit.role.1 hfit.role.2
  have hx2 : nsL (headP 2 2) ++ (nsL (toldP b.flip2) ++ [0]) = P ++ flagsN b.flip2 :: R := rapid_other b.rap b.flip2 hfit.role.1 hfit.role.2 rfl rfl rfl rfl rfl rfl rfl rfl rfl rfl hP7 hx1
  rw [hx1] at hB1
  rw [hx2] at hB2
  have hX := flip2_xor b hfit.role.1 hfit.role.2
  have hi6 := six2
  generalize flagsN b.rap = F1 at *
  generalize flagsN b.flip2 = F2 at *
  have HP7 := hide hP7
  have hF := hide (fun w hT => tells_any w hT)
  have HT := hide hT
  have hk := heap_alloc_new w (.cells b.row 41)
  clear hT hW hE hE2 hW2' hfit hx1 hx2 hP7
  go_enter Tryd.func5, Tryd.ntmps5
  go_wp2_with fail
  refine (hF.out _ (HT.out.later (below1 _ _))).mono ?_
  rintro e w1 ⟨rfl, hb1⟩
  have hk1 := heap_kept hb1 hk
  have hW1 := hide ((below1 w _).later hb1)
  have hf1 : w1.frozen? ⟨w.heap.size, 0, none⟩ = false := frozen_of_row w1 _ _ _ _ hk1
  have hc1 : w1.cell? ⟨w.heap.size, 0, none⟩ = some (.int .i64 b.kind) := (cell_of_row _ _ _ _ _ _ hk1).trans rfl
  have hk2 := set_kind hk1
  have hW2 := hide (hW1.out.setCell (p := ⟨w.heap.size, 0, none⟩) (Nat.le_refl _) (.int .i64 1))
  clear hb1 hk
  go_wp2_with ((with_reducible change wpList _ _ _ _ _ _); refine wpList_load_row rfl 41 (.tmp 2) rfl w.heap.size rfl 41 _ _ _ hk2 Tryd.underlying41 rfl (bpSize _) ?_)
  refine (hC.out _).mono ?_
  rintro e w3 ⟨rfl, hb3⟩
  have hk3 := heap_kept hb3 hk2
  have hW3 := hide (hW2.out.trans (hb3.mono (by simpa [World.setCell] using hW1.out.size)))
  clear hb3 hk2 hW2 hf1 hc1 hk1 hW1
  go_wp2_with ((with_reducible change wpList _ _ _ _ _ _); first | refine wpList_load_row rfl 41 (.tmp 2) rfl w.heap.size rfl 41 _ _ _ hk3 Tryd.underlying41 rfl (bpSize _) ?_ | (refine wpList_store_fresh rfl 41 _ _ rfl b.rap.row Bp.zero.row rfl rfl 41 (bpSize _) rfl (by simp [Value.oneCell']) ?_; intro w4 hG4 hb4; refine unhide ?_))
  have hlt : w.heap.size < w3.heap.size := (Array.getElem?_eq_some_iff.1 hk3).1
  have hk4 := heap_kept hb4 hk3
  have hW4 := hide (hW3.out.later hb4)
  have hc4 : w4.cell? ⟨w.heap.size, 9, none⟩ = some (.bool b.learning) := (cell_of_row _ _ _ _ _ _ hk4).trans rfl
  have hd4 : w4.cell? ⟨w3.heap.size, 9, none⟩ = some (.bool b.learning) := (cell_of_row _ _ _ _ _ _ hG4).trans rfl
  have hf4 : w4.frozen? ⟨w3.heap.size, 9, none⟩ = false := frozen_of_row w4 _ _ _ _ hG4
  have hk5 : (w4.setCell ⟨w3.heap.size, 9, none⟩ (.bool !b.learning)).heap[w.heap.size]? = some (.cells b.rap.row 41 (0, 0)) := by
    rw [heap_setCell_other _ _ _ _ (by show w.heap.size ≠ w3.heap.size; omega)]; exact hk4
  have hG5 : (w4.setCell ⟨w3.heap.size, 9, none⟩ (.bool !b.learning)).heap[w3.heap.size]? = some (.cells b.flip2.row 41 (0, 0)) := by
    rw [heap_setCell_same _ _ _ _ _ _ hG4]; rfl
  have hW5 := hide (hW4.out.setCell (p := ⟨w3.heap.size, 9, none⟩) (by show w.heap.size ≤ w3.heap.size; omega) (.bool !b.learning))
  have hs5 : Hid (w.heap.size ≤ (w4.setCell ⟨w3.heap.size, 9, none⟩ (.bool !b.learning)).heap.size) := by have := hW4.out.size; show _ ≤ _; simpa [World.setCell] using this
  clear hb4 hk3 hk4 hW3 hG4 hW4
  refine hide ?_
  go_wp2_with ((with_reducible change wpList _ _ _ _ _ _); refine wpList_load_row rfl 41 (.tmp 2) rfl w.heap.size rfl 41 _ _ _ hk5 Tryd.underlying41 rfl (bpSize _) ?_)
  generalize w4.setCell ⟨w3.heap.size, 9, none⟩ (.bool !b.learning) = w5 at *
  generalize w3.heap.size = g1 at *
  refine (hB1.out _).mono ?_
  rintro e w6 ⟨va, n, k, rfl, hO6, hb6⟩
  obtain ⟨gx, rfl, hn1', hgx, hnm⟩ := own_form hO6 HP7.out
  have hn1 := hide hn1'
  clear hn1'
  have hG6 := heap_kept hb6 hG5
  have hW6 := hide (hW5.out.trans (hb6.mono hs5.out))
  have hs6 : Hid (w.heap.size ≤ w6.heap.size) := Nat.le_trans hs5.out hb6.size
  have hgw : Hid (w.heap.size ≤ gx) := Nat.le_trans hs5.out (hO6.fresh _ _ _ rfl)
  have HO6 := hide hO6
  clear hO6 hb6 hk5 hG5 hW5 hc4 hd4 hf4 hs5 hlt hB1
  go_wp2_with ((with_reducible change wpList _ _ _ _ _ _); refine wpList_load_row rfl 41 (.tmp 5) rfl g1 rfl 41 _ _ _ hG6 Tryd.underlying41 rfl (bpSize _) ?_)
  refine (hB2.out _).mono ?_
  rintro e w7 ⟨vb, n2, k2, rfl, hO7, hb7⟩
  obtain ⟨gy, rfl, hn2, hgy, _⟩ := own_form hO7 HP7.out
  obtain rfl : n2 = n := by have := hn1.out; omega
  have hne : gx ≠ gy := by have := hO7.fresh _ _ _ rfl; have h2 : w6.heap.size ≤ gy := this; omega
  have hW7 := hide (hW6.out.trans (hb7.mono hs6.out))
  have hgv : Hid (w.heap.size ≤ gy) := Nat.le_trans hs6.out (hO7.fresh _ _ _ rfl)
  have HO7 := hide hO7
  have HO6' := hide (HO6.out.belowO hb7)
  have hn7 : 8 ≤ n2 := by omega
  unfold maxLen at hnm
  obtain ⟨cx, fx, _⟩ := own_at7 HO6'.out HP7.out
  obtain ⟨cy, fy, _⟩ := own_at7 HO7.out HP7.out
  clear hO7 hb7 hG6 hW6 hs6 HO6 hB2 hgx hgy hn1 hn2
  have hn7' : (7 : Int) < (n2 : Int) := by omega
  obtain ⟨S, hS⟩ : ∃ S, S = bstr (P ++ 0 :: R) := ⟨_, rfl⟩
  have hBB := fun nq => both_zero (HO6'.out.belowO (below_drewN (Below.refl _ _) nq)) (HO7.out.belowO (below_drewN (Below.refl _ _) nq)) HP7.out hne
  have z1 : ∀ nq, (convert 26 9 (.slice (some ⟨gx, 0, none⟩) n2 k)).run Tryd.prog (((w7.drewN nq).setCell ⟨gx, 7, none⟩ (.int .u8 0)).setCell ⟨gy, 7, none⟩ (.int .u8 0)) = .ok (.string S) (((w7.drewN nq).setCell ⟨gx, 7, none⟩ (.int .u8 0)).setCell ⟨gy, 7, none⟩ (.int .u8 0)) := fun nq => by rw [hS]; exact conv_str 26 9 5 Tryd.underlying26 Tryd.underlying5 Tryd.underlying9 (hBB nq).1
  have z2 : ∀ nq, (convert 26 9 (.slice (some ⟨gy, 0, none⟩) n2 k2)).run Tryd.prog (((w7.drewN nq).setCell ⟨gx, 7, none⟩ (.int .u8 0)).setCell ⟨gy, 7, none⟩ (.int .u8 0)) = .ok (.string S) (((w7.drewN nq).setCell ⟨gx, 7, none⟩ (.int .u8 0)).setCell ⟨gy, 7, none⟩ (.int .u8 0)) := fun nq => by rw [hS]; exact conv_str 26 9 5 Tryd.underlying26 Tryd.underlying5 Tryd.underlying9 (hBB nq).2
  have hWf : Hid (∀ nq, Below w.heap.size w (((w7.drewN nq).setCell ⟨gx, 7, none⟩ (.int .u8 0)).setCell ⟨gy, 7, none⟩ (.int .u8 0))) := fun nq => ((below_drewN hW7.out nq).setCell (p := ⟨gx, 7, none⟩) hgw.out _).setCell (p := ⟨gy, 7, none⟩) hgv.out _
  clear hS hBB HO7 HO6' hW7
  go_wp2
  go_quiet (fail)
  go_wp2
  go_ret
  exact ⟨rfl, hWf.out _⟩

theorem six3 (w : World) : (Instr.index 48 (.agg #[.int .i64 0, .int .i64 1, .int .i64 4, .int .i64 5, .int .i64 6, .int .i64 7]) (.int .i64 3)).run Tryd.prog w = .ok (.int .i64 5) w := by
  simp [Instr.index, run_underlying Tryd.underlying48, asIntOf, go_sem]
@[reducible] def Bp.flip3 (b : Bp) : Bp := ⟨1, b.root, b.cost, b.bridge, b.port, b.change, b.ack, b.proposal, b.agreement, b.learning, !b.forwarding, b.role, b.age, b.maxAge, b.hello, b.delay⟩
theorem flip3_xor (b : Bp) (h0 : 0 ≤ b.role) (h3 : b.role ≤ 3) : bits .xor .u8 (flagsN b.rap) (flagsN b.flip3) = 32 := by
  obtain ⟨r, hr⟩ := Int.eq_ofNat_of_zero_le h0
  have h : ∀ (c k p a l f : Bool) (r : Fin 4), bits .xor .u8 (flagsN ⟨1, 0, 0, 0, 0, c, k, p, a, l, f, ((r.val : Nat) : Int), 0, 0, 0, 0⟩) (flagsN (Bp.flip3 ⟨1, 0, 0, 0, 0, c, k, p, a, l, f, ((r.val : Nat) : Int), 0, 0, 0, 0⟩)) = 32 := by decide +kernel
  have := h b.change b.ack b.proposal b.agreement b.learning b.forwarding ⟨r, by omega⟩
  simp only [flagsN] at this ⊢
  rw [hr]
  exact this
set_option maxRecDepth 20000 in
set_option maxHeartbeats 2000000 in
theorem Fl_in3 (b : Bp) (w : World) (hT : Tab w) (hW : b.wf) (hE : bcheckE b.rap = 0) :
    Calls Tryd.prog 5 #[.agg b.row, .int .i64 3] w fun e w' => e = .returned (.bool true) ∧ Below w.heap.size w w' := by
  have hC := hide (fun w => BCheck_any b.rap w (Bp.rap_wf hW))
  rw [hE] at hC
  obtain ⟨hfit, _, _⟩ := bfits (Bp.rap_wf hW) hE (by show (1 : Int) ≠ 2; decide)
  have hE2 : bcheckE b.flip3 = 0 := by rw [← hE]; exact bcheck_flags _ _ rfl rfl rfl rfl rfl rfl rfl rfl rfl rfl rfl
  have hW2' : b.flip3.wf := ⟨(Bp.rap_wf hW).kind, hW.root, hW.cost, hW.bridge, hW.port, hW.role, hW.age, hW.maxAge, hW.hello, hW.delay⟩
  have hB1 := hide (fun w => BBuildO_rapid b.rap w (Bp.rap_wf hW) hE rfl hfit)
  have hB2 := hide (fun w => BBuildO_rapid b.flip3 w hW2' hE2 rfl ⟨hfit.role, hfit.root, hfit.cost, hfit.bridge, hfit.port, hfit.age, hfit.maxAge, hfit.hello, hfit.delay⟩)
  obtain ⟨P, R, hP7, hx1⟩ := rapid_shape b.rap hfit.role.1 hfit.role.2
  have hx2 : nsL (headP 2 2) ++ (nsL (toldP b.flip3) ++ [0]) = P ++ flagsN b.flip3 :: R := rapid_other b.rap b.flip3 hfit.role.1 hfit.role.2 rfl rfl rfl rfl rfl rfl rfl rfl rfl rfl hP7 hx1
  rw [hx1] at hB1
  rw [hx2] at hB2
  have hX := flip3_xor b hfit.role.1 hfit.role.2
  have hi6 := six3
  generalize flagsN b.rap = F1 at *
  generalize flagsN b.flip3 = F2 at *
  have HP7 := hide hP7
  have hF := hide (fun w hT => tells_any w hT)
  have HT := hide hT
  have hk := heap_alloc_new w (.cells b.row 41)
  clear hT hW hE hE2 hW2' hfit hx1 hx2 hP7
  go_enter Tryd.func5, Tryd.ntmps5
  go_wp2_with fail
  refine (hF.out _ (HT.out.later (below1 _ _))).mono ?_
  rintro e w1 ⟨rfl, hb1⟩
  have hk1 := heap_kept hb1 hk
  have hW1 := hide ((below1 w _).later hb1)
  have hf1 : w1.frozen? ⟨w.heap.size, 0, none⟩ = false := frozen_of_row w1 _ _ _ _ hk1
  have hc1 : w1.cell? ⟨w.heap.size, 0, none⟩ = some (.int .i64 b.kind) := (cell_of_row _ _ _ _ _ _ hk1).trans rfl
  have hk2 := set_kind hk1
  have hW2 := hide (hW1.out.setCell (p := ⟨w.heap.size, 0, none⟩) (Nat.le_refl _) (.int .i64 1))
  clear hb1 hk
  go_wp2_with ((with_reducible change wpList _ _ _ _ _ _); refine wpList_load_row rfl 41 (.tmp 2) rfl w.heap.size rfl 41 _ _ _ hk2 Tryd.underlying41 rfl (bpSize _) ?_)
  refine (hC.out _).mono ?_
  rintro e w3 ⟨rfl, hb3⟩
  have hk3 := heap_kept hb3 hk2
  have hW3 := hide (hW2.out.trans (hb3.mono (by simpa [World.setCell] using hW1.out.size)))
  clear hb3 hk2 hW2 hf1 hc1 hk1 hW1
  go_wp2_with ((with_reducible change wpList _ _ _ _ _ _); first | refine wpList_load_row rfl 41 (.tmp 2) rfl w.heap.size rfl 41 _ _ _ hk3 Tryd.underlying41 rfl (bpSize _) ?_ | (refine wpList_store_fresh rfl 41 _ _ rfl b.rap.row Bp.zero.row rfl rfl 41 (bpSize _) rfl (by simp [Value.oneCell']) ?_; intro w4 hG4 hb4; refine unhide ?_))
  have hlt : w.heap.size < w3.heap.size := (Array.getElem?_eq_some_iff.1 hk3).1
  have hk4 := heap_kept hb4 hk3
  have hW4 := hide (hW3.out.later hb4)
  have hc4 : w4.cell? ⟨w.heap.size, 10, none⟩ = some (.bool b.forwarding) := (cell_of_row _ _ _ _ _ _ hk4).trans rfl
  have hd4 : w4.cell? ⟨w3.heap.size, 10, none⟩ = some (.bool b.forwarding) := (cell_of_row _ _ _ _ _ _ hG4).trans rfl
  have hf4 : w4.frozen? ⟨w3.heap.size, 10, none⟩ = false := frozen_of_row w4 _ _ _ _ hG4
  have hk5 : (w4.setCell ⟨w3.heap.size, 10, none⟩ (.bool !b.forwarding)).heap[w.heap.size]? = some (.cells b.rap.row 41 (0, 0)) := by
    rw [heap_setCell_other _ _ _ _ (by show w.heap.size ≠ w3.heap.size; omega)]; exact hk4
  have hG5 : (w4.setCell ⟨w3.heap.size, 10, none⟩ (.bool !b.forwarding)).heap[w3.heap.size]? = some (.cells b.flip3.row 41 (0, 0)) := by
    rw [heap_setCell_same _ _ _ _ _ _ hG4]; rfl
  have hW5 := hide (hW4.out.setCell (p := ⟨w3.heap.size, 10, none⟩) (by show w.heap.size ≤ w3.heap.size; omega) (.bool !b.forwarding))
  have hs5 : Hid (w.heap.size ≤ (w4.setCell ⟨w3.heap.size, 10, none⟩ (.bool !b.forwarding)).heap.size) := by have := hW4.out.size; show _ ≤ _; simpa [World.setCell] using this
  clear hb4 hk3 hk4 hW3 hG4 hW4
  refine hide ?_
  go_wp2_with ((with_reducible change wpList _ _ _ _ _ _); refine wpList_load_row rfl 41 (.tmp 2) rfl w.heap.size rfl 41 _ _ _ hk5 Tryd.underlying41 rfl (bpSize _) ?_)
  generalize w4.setCell ⟨w3.heap.size, 10, none⟩ (.bool !b.forwarding) = w5 at *
  generalize w3.heap.size = g1 at *
  refine (hB1.out _).mono ?_
  rintro e w6 ⟨va, n, k, rfl, hO6, hb6⟩
  obtain ⟨gx, rfl, hn1', hgx, hnm⟩ := own_form hO6 HP7.out
  have hn1 := hide hn1'
  clear hn1'
  have hG6 := heap_kept hb6 hG5
  have hW6 := hide (hW5.out.trans (hb6.mono hs5.out))
  have hs6 : Hid (w.heap.size ≤ w6.heap.size) := Nat.le_trans hs5.out hb6.size
  have hgw : Hid (w.heap.size ≤ gx) := Nat.le_trans hs5.out (hO6.fresh _ _ _ rfl)
  have HO6 := hide hO6
  clear hO6 hb6 hk5 hG5 hW5 hc4 hd4 hf4 hs5 hlt hB1
  go_wp2_with ((with_reducible change wpList _ _ _ _ _ _); refine wpList_load_row rfl 41 (.tmp 5) rfl g1 rfl 41 _ _ _ hG6 Tryd.underlying41 rfl (bpSize _) ?_)
  refine (hB2.out _).mono ?_
  rintro e w7 ⟨vb, n2, k2, rfl, hO7, hb7⟩
  obtain ⟨gy, rfl, hn2, hgy, _⟩ := own_form hO7 HP7.out
  obtain rfl : n2 = n := by have := hn1.out; omega
  have hne : gx ≠ gy := by have := hO7.fresh _ _ _ rfl; have h2 : w6.heap.size ≤ gy := this; omega
  have hW7 := hide (hW6.out.trans (hb7.mono hs6.out))
  have hgv : Hid (w.heap.size ≤ gy) := Nat.le_trans hs6.out (hO7.fresh _ _ _ rfl)
  have HO7 := hide hO7
  have HO6' := hide (HO6.out.belowO hb7)
  have hn7 : 8 ≤ n2 := by omega
  unfold maxLen at hnm
  obtain ⟨cx, fx, _⟩ := own_at7 HO6'.out HP7.out
  obtain ⟨cy, fy, _⟩ := own_at7 HO7.out HP7.out
  clear hO7 hb7 hG6 hW6 hs6 HO6 hB2 hgx hgy hn1 hn2
  have hn7' : (7 : Int) < (n2 : Int) := by omega
  obtain ⟨S, hS⟩ : ∃ S, S = bstr (P ++ 0 :: R) := ⟨_, rfl⟩
  have hBB := fun nq => both_zero (HO6'.out.belowO (below_drewN (Below.refl _ _) nq)) (HO7.out.belowO (below_drewN (Below.refl _ _) nq)) HP7.out hne
  have z1 : ∀ nq, (convert 26 9 (.slice (some ⟨gx, 0, none⟩) n2 k)).run Tryd.prog (((w7.drewN nq).setCell ⟨gx, 7, none⟩ (.int .u8 0)).setCell ⟨gy, 7, none⟩ (.int .u8 0)) = .ok (.string S) (((w7.drewN nq).setCell ⟨gx, 7, none⟩ (.int .u8 0)).setCell ⟨gy, 7, none⟩ (.int .u8 0)) := fun nq => by rw [hS]; exact conv_str 26 9 5 Tryd.underlying26 Tryd.underlying5 Tryd.underlying9 (hBB nq).1
  have z2 : ∀ nq, (convert 26 9 (.slice (some ⟨gy, 0, none⟩) n2 k2)).run Tryd.prog (((w7.drewN nq).setCell ⟨gx, 7, none⟩ (.int .u8 0)).setCell ⟨gy, 7, none⟩ (.int .u8 0)) = .ok (.string S) (((w7.drewN nq).setCell ⟨gx, 7, none⟩ (.int .u8 0)).setCell ⟨gy, 7, none⟩ (.int .u8 0)) := fun nq => by rw [hS]; exact conv_str 26 9 5 Tryd.underlying26 Tryd.underlying5 Tryd.underlying9 (hBB nq).2
  have hWf : Hid (∀ nq, Below w.heap.size w (((w7.drewN nq).setCell ⟨gx, 7, none⟩ (.int .u8 0)).setCell ⟨gy, 7, none⟩ (.int .u8 0))) := fun nq => ((below_drewN hW7.out nq).setCell (p := ⟨gx, 7, none⟩) hgw.out _).setCell (p := ⟨gy, 7, none⟩) hgv.out _
  clear hS hBB HO7 HO6' hW7
  go_wp2
  go_quiet (fail)
  go_wp2
  go_ret
  exact ⟨rfl, hWf.out _⟩

theorem six4 (w : World) : (Instr.index 48 (.agg #[.int .i64 0, .int .i64 1, .int .i64 4, .int .i64 5, .int .i64 6, .int .i64 7]) (.int .i64 4)).run Tryd.prog w = .ok (.int .i64 6) w := by
  simp [Instr.index, run_underlying Tryd.underlying48, asIntOf, go_sem]
@[reducible] def Bp.flip4 (b : Bp) : Bp := ⟨1, b.root, b.cost, b.bridge, b.port, b.change, b.ack, b.proposal, !b.agreement, b.learning, b.forwarding, b.role, b.age, b.maxAge, b.hello, b.delay⟩
theorem flip4_xor (b : Bp) (h0 : 0 ≤ b.role) (h3 : b.role ≤ 3) : bits .xor .u8 (flagsN b.rap) (flagsN b.flip4) = 64 := by
  obtain ⟨r, hr⟩ := Int.eq_ofNat_of_zero_le h0
  have h : ∀ (c k p a l f : Bool) (r : Fin 4), bits .xor .u8 (flagsN ⟨1, 0, 0, 0, 0, c, k, p, a, l, f, ((r.val : Nat) : Int), 0, 0, 0, 0⟩) (flagsN (Bp.flip4 ⟨1, 0, 0, 0, 0, c, k, p, a, l, f, ((r.val : Nat) : Int), 0, 0, 0, 0⟩)) = 64 := by decide +kernel
  have := h b.change b.ack b.proposal b.agreement b.learning b.forwarding ⟨r, by omega⟩
  simp only [flagsN] at this ⊢
  rw [hr]
  exact this
set_option maxRecDepth 20000 in
set_option maxHeartbeats 2000000 in
theorem Fl_in4 (b : Bp) (w : World) (hT : Tab w) (hW : b.wf) (hE : bcheckE b.rap = 0) :
    Calls Tryd.prog 5 #[.agg b.row, .int .i64 4] w fun e w' => e = .returned (.bool true) ∧ Below w.heap.size w w' := by
  have hC := hide (fun w => BCheck_any b.rap w (Bp.rap_wf hW))
  rw [hE] at hC
  obtain ⟨hfit, _, _⟩ := bfits (Bp.rap_wf hW) hE (by show (1 : Int) ≠ 2; decide)
  have hE2 : bcheckE b.flip4 = 0 := by rw [← hE]; exact bcheck_flags _ _ rfl rfl rfl rfl rfl rfl rfl rfl rfl rfl rfl
  have hW2' : b.flip4.wf := ⟨(Bp.rap_wf hW).kind, hW.root, hW.cost, hW.bridge, hW.port, hW.role, hW.age, hW.maxAge, hW.hello, hW.delay⟩
  have hB1 := hide (fun w => BBuildO_rapid b.rap w (Bp.rap_wf hW) hE rfl hfit)
  have hB2 := hide (fun w => BBuildO_rapid b.flip4 w hW2' hE2 rfl ⟨hfit.role, hfit.root, hfit.cost, hfit.bridge, hfit.port, hfit.age, hfit.maxAge, hfit.hello, hfit.delay⟩)
  obtain ⟨P, R, hP7, hx1⟩ := rapid_shape b.rap hfit.role.1 hfit.role.2
  have hx2 : nsL (headP 2 2) ++ (nsL (toldP b.flip4) ++ [0]) = P ++ flagsN b.flip4 :: R := rapid_other b.rap b.flip4 hfit.role.1 hfit.role.2 rfl rfl rfl rfl rfl rfl rfl rfl rfl rfl hP7 hx1
  rw [hx1] at hB1
  rw [hx2] at hB2
  have hX := flip4_xor b hfit.role.1 hfit.role.2
  have hi6 := six4
  generalize flagsN b.rap = F1 at *
  generalize flagsN b.flip4 = F2 at *
  have HP7 := hide hP7
  have hF := hide (fun w hT => tells_any w hT)
  have HT := hide hT
  have hk := heap_alloc_new w (.cells b.row 41)
  clear hT hW hE hE2 hW2' hfit hx1 hx2 hP7
  go_enter Tryd.func5, Tryd.ntmps5
  go_wp2_with fail
  refine (hF.out _ (HT.out.later (below1 _ _))).mono ?_
  rintro e w1 ⟨rfl, hb1⟩
  have hk1 := heap_kept hb1 hk
  have hW1 := hide ((below1 w _).later hb1)
  have hf1 : w1.frozen? ⟨w.heap.size, 0, none⟩ = false := frozen_of_row w1 _ _ _ _ hk1
  have hc1 : w1.cell? ⟨w.heap.size, 0, none⟩ = some (.int .i64 b.kind) := (cell_of_row _ _ _ _ _ _ hk1).trans rfl
  have hk2 := set_kind hk1
  have hW2 := hide (hW1.out.setCell (p := ⟨w.heap.size, 0, none⟩) (Nat.le_refl _) (.int .i64 1))
  clear hb1 hk
  go_wp2_with ((with_reducible change wpList _ _ _ _ _ _); refine wpList_load_row rfl 41 (.tmp 2) rfl w.heap.size rfl 41 _ _ _ hk2 Tryd.underlying41 rfl (bpSize _) ?_)
  refine (hC.out _).mono ?_
  rintro e w3 ⟨rfl, hb3⟩
  have hk3 := heap_kept hb3 hk2
  have hW3 := hide (hW2.out.trans (hb3.mono (by simpa [World.setCell] using hW1.out.size)))
  clear hb3 hk2 hW2 hf1 hc1 hk1 hW1
  go_wp2_with ((with_reducible change wpList _ _ _ _ _ _); first | refine wpList_load_row rfl 41 (.tmp 2) rfl w.heap.size rfl 41 _ _ _ hk3 Tryd.underlying41 rfl (bpSize _) ?_ | (refine wpList_store_fresh rfl 41 _ _ rfl b.rap.row Bp.zero.row rfl rfl 41 (bpSize _) rfl (by simp [Value.oneCell']) ?_; intro w4 hG4 hb4; refine unhide ?_))
  have hlt : w.heap.size < w3.heap.size := (Array.getElem?_eq_some_iff.1 hk3).1
  have hk4 := heap_kept hb4 hk3
  have hW4 := hide (hW3.out.later hb4)
  have hc4 : w4.cell? ⟨w.heap.size, 8, none⟩ = some (.bool b.agreement) := (cell_of_row _ _ _ _ _ _ hk4).trans rfl
  have hd4 : w4.cell? ⟨w3.heap.size, 8, none⟩ = some (.bool b.agreement) := (cell_of_row _ _ _ _ _ _ hG4).trans rfl
  have hf4 : w4.frozen? ⟨w3.heap.size, 8, none⟩ = false := frozen_of_row w4 _ _ _ _ hG4
  have hk5 : (w4.setCell ⟨w3.heap.size, 8, none⟩ (.bool !b.agreement)).heap[w.heap.size]? = some (.cells b.rap.row 41 (0, 0)) := by
    rw [heap_setCell_other _ _ _ _ (by show w.heap.size ≠ w3.heap.size; omega)]; exact hk4
  have hG5 : (w4.setCell ⟨w3.heap.size, 8, none⟩ (.bool !b.agreement)).heap[w3.heap.size]? = some (.cells b.flip4.row 41 (0, 0)) := by
    rw [heap_setCell_same _ _ _ _ _ _ hG4]; rfl
  have hW5 := hide (hW4.out.setCell (p := ⟨w3.heap.size, 8, none⟩) (by show w.heap.size ≤ w3.heap.size; omega) (.bool !b.agreement))
  have hs5 : Hid (w.heap.size ≤ (w4.setCell ⟨w3.heap.size, 8, none⟩ (.bool !b.agreement)).heap.size) := by have := hW4.out.size; show _ ≤ _; simpa [World.setCell] using this
  clear hb4 hk3 hk4 hW3 hG4 hW4
  refine hide ?_
  go_wp2_with ((with_reducible change wpList _ _ _ _ _ _); refine wpList_load_row rfl 41 (.tmp 2) rfl w.heap.size rfl 41 _ _ _ hk5 Tryd.underlying41 rfl (bpSize _) ?_)
  generalize w4.setCell ⟨w3.heap.size, 8, none⟩ (.bool !b.agreement) = w5 at *
  generalize w3.heap.size = g1 at *
  refine (hB1.out _).mono ?_
  rintro e w6 ⟨va, n, k, rfl, hO6, hb6⟩
  obtain ⟨gx, rfl, hn1', hgx, hnm⟩ := own_form hO6 HP7.out
  have hn1 := hide hn1'
  clear hn1'
  have hG6 := heap_kept hb6 hG5
  have hW6 := hide (hW5.out.trans (hb6.mono hs5.out))
  have hs6 : Hid (w.heap.size ≤ w6.heap.size) := Nat.le_trans hs5.out hb6.size
  have hgw : Hid (w.heap.size ≤ gx) := Nat.le_trans hs5.out (hO6.fresh _ _ _ rfl)
  have HO6 := hide hO6
  clear hO6 hb6 hk5 hG5 hW5 hc4 hd4 hf4 hs5 hlt hB1
  go_wp2_with ((with_reducible change wpList _ _ _ _ _ _); refine wpList_load_row rfl 41 (.tmp 5) rfl g1 rfl 41 _ _ _ hG6 Tryd.underlying41 rfl (bpSize _) ?_)
  refine (hB2.out _).mono ?_
  rintro e w7 ⟨vb, n2, k2, rfl, hO7, hb7⟩
  obtain ⟨gy, rfl, hn2, hgy, _⟩ := own_form hO7 HP7.out
  obtain rfl : n2 = n := by have := hn1.out; omega
  have hne : gx ≠ gy := by have := hO7.fresh _ _ _ rfl; have h2 : w6.heap.size ≤ gy := this; omega
  have hW7 := hide (hW6.out.trans (hb7.mono hs6.out))
  have hgv : Hid (w.heap.size ≤ gy) := Nat.le_trans hs6.out (hO7.fresh _ _ _ rfl)
  have HO7 := hide hO7
  have HO6' := hide (HO6.out.belowO hb7)
  have hn7 : 8 ≤ n2 := by omega
  unfold maxLen at hnm
  obtain ⟨cx, fx, _⟩ := own_at7 HO6'.out HP7.out
  obtain ⟨cy, fy, _⟩ := own_at7 HO7.out HP7.out
  clear hO7 hb7 hG6 hW6 hs6 HO6 hB2 hgx hgy hn1 hn2
  have hn7' : (7 : Int) < (n2 : Int) := by omega
  obtain ⟨S, hS⟩ : ∃ S, S = bstr (P ++ 0 :: R) := ⟨_, rfl⟩
  have hBB := fun nq => both_zero (HO6'.out.belowO (below_drewN (Below.refl _ _) nq)) (HO7.out.belowO (below_drewN (Below.refl _ _) nq)) HP7.out hne
  have z1 : ∀ nq, (convert 26 9 (.slice (some ⟨gx, 0, none⟩) n2 k)).run Tryd.prog (((w7.drewN nq).setCell ⟨gx, 7, none⟩ (.int .u8 0)).setCell ⟨gy, 7, none⟩ (.int .u8 0)) = .ok (.string S) (((w7.drewN nq).setCell ⟨gx, 7, none⟩ (.int .u8 0)).setCell ⟨gy, 7, none⟩ (.int .u8 0)) := fun nq => by rw [hS]; exact conv_str 26 9 5 Tryd.underlying26 Tryd.underlying5 Tryd.underlying9 (hBB nq).1
  have z2 : ∀ nq, (convert 26 9 (.slice (some ⟨gy, 0, none⟩) n2 k2)).run Tryd.prog (((w7.drewN nq).setCell ⟨gx, 7, none⟩ (.int .u8 0)).setCell ⟨gy, 7, none⟩ (.int .u8 0)) = .ok (.string S) (((w7.drewN nq).setCell ⟨gx, 7, none⟩ (.int .u8 0)).setCell ⟨gy, 7, none⟩ (.int .u8 0)) := fun nq => by rw [hS]; exact conv_str 26 9 5 Tryd.underlying26 Tryd.underlying5 Tryd.underlying9 (hBB nq).2
  have hWf : Hid (∀ nq, Below w.heap.size w (((w7.drewN nq).setCell ⟨gx, 7, none⟩ (.int .u8 0)).setCell ⟨gy, 7, none⟩ (.int .u8 0))) := fun nq => ((below_drewN hW7.out nq).setCell (p := ⟨gx, 7, none⟩) hgw.out _).setCell (p := ⟨gy, 7, none⟩) hgv.out _
  clear hS hBB HO7 HO6' hW7
  go_wp2
  go_quiet (fail)
  go_wp2
  go_ret
  exact ⟨rfl, hWf.out _⟩

theorem six5 (w : World) : (Instr.index 48 (.agg #[.int .i64 0, .int .i64 1, .int .i64 4, .int .i64 5, .int .i64 6, .int .i64 7]) (.int .i64 5)).run Tryd.prog w = .ok (.int .i64 7) w := by
  simp [Instr.index, run_underlying Tryd.underlying48, asIntOf, go_sem]
@[reducible] def Bp.flip5 (b : Bp) : Bp := ⟨1, b.root, b.cost, b.bridge, b.port, b.change, !b.ack, b.proposal, b.agreement, b.learning, b.forwarding, b.role, b.age, b.maxAge, b.hello, b.delay⟩
theorem flip5_xor (b : Bp) (h0 : 0 ≤ b.role) (h3 : b.role ≤ 3) : bits .xor .u8 (flagsN b.rap) (flagsN b.flip5) = 128 := by
  obtain ⟨r, hr⟩ := Int.eq_ofNat_of_zero_le h0
  have h : ∀ (c k p a l f : Bool) (r : Fin 4), bits .xor .u8 (flagsN ⟨1, 0, 0, 0, 0, c, k, p, a, l, f, ((r.val : Nat) : Int), 0, 0, 0, 0⟩) (flagsN (Bp.flip5 ⟨1, 0, 0, 0, 0, c, k, p, a, l, f, ((r.val : Nat) : Int), 0, 0, 0, 0⟩)) = 128 := by decide +kernel
  have := h b.change b.ack b.proposal b.agreement b.learning b.forwarding ⟨r, by omega⟩
  simp only [flagsN] at this ⊢
  rw [hr]
  exact this
set_option maxRecDepth 20000 in
set_option maxHeartbeats 2000000 in
theorem Fl_in5 (b : Bp) (w : World) (hT : Tab w) (hW : b.wf) (hE : bcheckE b.rap = 0) :
    Calls Tryd.prog 5 #[.agg b.row, .int .i64 5] w fun e w' => e = .returned (.bool true) ∧ Below w.heap.size w w' := by
  have hC := hide (fun w => BCheck_any b.rap w (Bp.rap_wf hW))
  rw [hE] at hC
  obtain ⟨hfit, _, _⟩ := bfits (Bp.rap_wf hW) hE (by show (1 : Int) ≠ 2; decide)
  have hE2 : bcheckE b.flip5 = 0 := by rw [← hE]; exact bcheck_flags _ _ rfl rfl rfl rfl rfl rfl rfl rfl rfl rfl rfl
  have hW2' : b.flip5.wf := ⟨(Bp.rap_wf hW).kind, hW.root, hW.cost, hW.bridge, hW.port, hW.role, hW.age, hW.maxAge, hW.hello, hW.delay⟩
  have hB1 := hide (fun w => BBuildO_rapid b.rap w (Bp.rap_wf hW) hE rfl hfit)
  have hB2 := hide (fun w => BBuildO_rapid b.flip5 w hW2' hE2 rfl ⟨hfit.role, hfit.root, hfit.cost, hfit.bridge, hfit.port, hfit.age, hfit.maxAge, hfit.hello, hfit.delay⟩)
  obtain ⟨P, R, hP7, hx1⟩ := rapid_shape b.rap hfit.role.1 hfit.role.2
  have hx2 : nsL (headP 2 2) ++ (nsL (toldP b.flip5) ++ [0]) = P ++ flagsN b.flip5 :: R := rapid_other b.rap b.flip5 hfit.role.1 hfit.role.2 rfl rfl rfl rfl rfl rfl rfl rfl rfl rfl hP7 hx1
  rw [hx1] at hB1
  rw [hx2] at hB2
  have hX := flip5_xor b hfit.role.1 hfit.role.2
  have hi6 := six5
  generalize flagsN b.rap = F1 at *
  generalize flagsN b.flip5 = F2 at *
  have HP7 := hide hP7
  have hF := hide (fun w hT => tells_any w hT)
  have HT := hide hT
  have hk := heap_alloc_new w (.cells b.row 41)
  clear hT hW hE hE2 hW2' hfit hx1 hx2 hP7
  go_enter Tryd.func5, Tryd.ntmps5
  go_wp2_with fail
  refine (hF.out _ (HT.out.later (below1 _ _))).mono ?_
  rintro e w1 ⟨rfl, hb1⟩
  have hk1 := heap_kept hb1 hk
  have hW1 := hide ((below1 w _).later hb1)
  have hf1 : w1.frozen? ⟨w.heap.size, 0, none⟩ = false := frozen_of_row w1 _ _ _ _ hk1
  have hc1 : w1.cell? ⟨w.heap.size, 0, none⟩ = some (.int .i64 b.kind) := (cell_of_row _ _ _ _ _ _ hk1).trans rfl
  have hk2 := set_kind hk1
  have hW2 := hide (hW1.out.setCell (p := ⟨w.heap.size, 0, none⟩) (Nat.le_refl _) (.int .i64 1))
  clear hb1 hk
  go_wp2_with ((with_reducible change wpList _ _ _ _ _ _); refine wpList_load_row rfl 41 (.tmp 2) rfl w.heap.size rfl 41 _ _ _ hk2 Tryd.underlying41 rfl (bpSize _) ?_)
  refine (hC.out _).mono ?_
  rintro e w3 ⟨rfl, hb3⟩
  have hk3 := heap_kept hb3 hk2
  have hW3 := hide (hW2.out.trans (hb3.mono (by simpa [World.setCell] using hW1.out.size)))
  clear hb3 hk2 hW2 hf1 hc1 hk1 hW1
  go_wp2_with ((with_reducible change wpList _ _ _ _ _ _); first | refine wpList_load_row rfl 41 (.tmp 2) rfl w.heap.size rfl 41 _ _ _ hk3 Tryd.underlying41 rfl (bpSize _) ?_ | (refine wpList_store_fresh rfl 41 _ _ rfl b.rap.row Bp.zero.row rfl rfl 41 (bpSize _) rfl (by simp [Value.oneCell']) ?_; intro w4 hG4 hb4; refine unhide ?_))
  have hlt : w.heap.size < w3.heap.size := (Array.getElem?_eq_some_iff.1 hk3).1
  have hk4 := heap_kept hb4 hk3
  have hW4 := hide (hW3.out.later hb4)
  have hc4 : w4.cell? ⟨w.heap.size, 6, none⟩ = some (.bool b.ack) := (cell_of_row _ _ _ _ _ _ hk4).trans rfl
  have hd4 : w4.cell? ⟨w3.heap.size, 6, none⟩ = some (.bool b.ack) := (cell_of_row _ _ _ _ _ _ hG4).trans rfl
  have hf4 : w4.frozen? ⟨w3.heap.size, 6, none⟩ = false := frozen_of_row w4 _ _ _ _ hG4
  have hk5 : (w4.setCell ⟨w3.heap.size, 6, none⟩ (.bool !b.ack)).heap[w.heap.size]? = some (.cells b.rap.row 41 (0, 0)) := by
    rw [heap_setCell_other _ _ _ _ (by show w.heap.size ≠ w3.heap.size; omega)]; exact hk4
  have hG5 : (w4.setCell ⟨w3.heap.size, 6, none⟩ (.bool !b.ack)).heap[w3.heap.size]? = some (.cells b.flip5.row 41 (0, 0)) := by
    rw [heap_setCell_same _ _ _ _ _ _ hG4]; rfl
  have hW5 := hide (hW4.out.setCell (p := ⟨w3.heap.size, 6, none⟩) (by show w.heap.size ≤ w3.heap.size; omega) (.bool !b.ack))
  have hs5 : Hid (w.heap.size ≤ (w4.setCell ⟨w3.heap.size, 6, none⟩ (.bool !b.ack)).heap.size) := by have := hW4.out.size; show _ ≤ _; simpa [World.setCell] using this
  clear hb4 hk3 hk4 hW3 hG4 hW4
  refine hide ?_
  go_wp2_with ((with_reducible change wpList _ _ _ _ _ _); refine wpList_load_row rfl 41 (.tmp 2) rfl w.heap.size rfl 41 _ _ _ hk5 Tryd.underlying41 rfl (bpSize _) ?_)
  generalize w4.setCell ⟨w3.heap.size, 6, none⟩ (.bool !b.ack) = w5 at *
  generalize w3.heap.size = g1 at *
  refine (hB1.out _).mono ?_
  rintro e w6 ⟨va, n, k, rfl, hO6, hb6⟩
  obtain ⟨gx, rfl, hn1', hgx, hnm⟩ := own_form hO6 HP7.out
  have hn1 := hide hn1'
  clear hn1'
  have hG6 := heap_kept hb6 hG5
  have hW6 := hide (hW5.out.trans (hb6.mono hs5.out))
  have hs6 : Hid (w.heap.size ≤ w6.heap.size) := Nat.le_trans hs5.out hb6.size
  have hgw : Hid (w.heap.size ≤ gx) := Nat.le_trans hs5.out (hO6.fresh _ _ _ rfl)
  have HO6 := hide hO6
  clear hO6 hb6 hk5 hG5 hW5 hc4 hd4 hf4 hs5 hlt hB1
  go_wp2_with ((with_reducible change wpList _ _ _ _ _ _); refine wpList_load_row rfl 41 (.tmp 5) rfl g1 rfl 41 _ _ _ hG6 Tryd.underlying41 rfl (bpSize _) ?_)
  refine (hB2.out _).mono ?_
  rintro e w7 ⟨vb, n2, k2, rfl, hO7, hb7⟩
  obtain ⟨gy, rfl, hn2, hgy, _⟩ := own_form hO7 HP7.out
  obtain rfl : n2 = n := by have := hn1.out; omega
  have hne : gx ≠ gy := by have := hO7.fresh _ _ _ rfl; have h2 : w6.heap.size ≤ gy := this; omega
  have hW7 := hide (hW6.out.trans (hb7.mono hs6.out))
  have hgv : Hid (w.heap.size ≤ gy) := Nat.le_trans hs6.out (hO7.fresh _ _ _ rfl)
  have HO7 := hide hO7
  have HO6' := hide (HO6.out.belowO hb7)
  have hn7 : 8 ≤ n2 := by omega
  unfold maxLen at hnm
  obtain ⟨cx, fx, _⟩ := own_at7 HO6'.out HP7.out
  obtain ⟨cy, fy, _⟩ := own_at7 HO7.out HP7.out
  clear hO7 hb7 hG6 hW6 hs6 HO6 hB2 hgx hgy hn1 hn2
  have hn7' : (7 : Int) < (n2 : Int) := by omega
  obtain ⟨S, hS⟩ : ∃ S, S = bstr (P ++ 0 :: R) := ⟨_, rfl⟩
  have hBB := fun nq => both_zero (HO6'.out.belowO (below_drewN (Below.refl _ _) nq)) (HO7.out.belowO (below_drewN (Below.refl _ _) nq)) HP7.out hne
  have z1 : ∀ nq, (convert 26 9 (.slice (some ⟨gx, 0, none⟩) n2 k)).run Tryd.prog (((w7.drewN nq).setCell ⟨gx, 7, none⟩ (.int .u8 0)).setCell ⟨gy, 7, none⟩ (.int .u8 0)) = .ok (.string S) (((w7.drewN nq).setCell ⟨gx, 7, none⟩ (.int .u8 0)).setCell ⟨gy, 7, none⟩ (.int .u8 0)) := fun nq => by rw [hS]; exact conv_str 26 9 5 Tryd.underlying26 Tryd.underlying5 Tryd.underlying9 (hBB nq).1
  have z2 : ∀ nq, (convert 26 9 (.slice (some ⟨gy, 0, none⟩) n2 k2)).run Tryd.prog (((w7.drewN nq).setCell ⟨gx, 7, none⟩ (.int .u8 0)).setCell ⟨gy, 7, none⟩ (.int .u8 0)) = .ok (.string S) (((w7.drewN nq).setCell ⟨gx, 7, none⟩ (.int .u8 0)).setCell ⟨gy, 7, none⟩ (.int .u8 0)) := fun nq => by rw [hS]; exact conv_str 26 9 5 Tryd.underlying26 Tryd.underlying5 Tryd.underlying9 (hBB nq).2
  have hWf : Hid (∀ nq, Below w.heap.size w (((w7.drewN nq).setCell ⟨gx, 7, none⟩ (.int .u8 0)).setCell ⟨gy, 7, none⟩ (.int .u8 0))) := fun nq => ((below_drewN hW7.out nq).setCell (p := ⟨gx, 7, none⟩) hgw.out _).setCell (p := ⟨gy, 7, none⟩) hgv.out _
  clear hS hBB HO7 HO6' hW7
  go_wp2
  go_quiet (fail)
  go_wp2
  go_ret
  exact ⟨rfl, hWf.out _⟩
theorem Flags_walk (b : Bp) (which : Int) (w : World) (hT : Tab w) (hW : b.wf) :
    Calls Tryd.prog 5 #[.agg b.row, .int .i64 which] w fun e w' => e = .returned (.bool true) ∧ Below w.heap.size w w' := by
  by_cases hE : bcheckE b.rap = 0
  · by_cases hw : which < 0 ∨ 5 < which
    · exact Fl_out b which w hT hW hE hw
    · rcases (show which = 0 ∨ which = 1 ∨ which = 2 ∨ which = 3 ∨ which = 4 ∨ which = 5 by omega) with rfl | rfl | rfl | rfl | rfl | rfl
      · exact Fl_in0 b w hT hW hE
      · exact Fl_in1 b w hT hW hE
      · exact Fl_in2 b w hT hW hE
      · exact Fl_in3 b w hT hW hE
      · exact Fl_in4 b w hT hW hE
      · exact Fl_in5 b w hT hW hE
  · exact Fl_bad b which w hT hW hE
end Go.Proofs.YtmakaadmjgakaaaDoor
