
/-
  Contracts of tree's small functions. Conditions: those that each theorem names.
-/
import Derived.Test.YtoejoneecanbbaaTree1
namespace Go.Proofs.Ytoejoneecanbbaa
open Go.RowKit
set_option linter.unusedVariables false
set_option maxRecDepth 20000

theorem v_end {P : Program} {fn : Func} {R : Ending → World → Prop} {a : Act} {w : World} (hr : fn.results = #[]) (hd : a.defers = []) (hR : R (.returned (.tuple #[])) w) : bodyPost P fn R .normal a w := bodyPost_end (results_none hr _ _ _) hd hR
theorem v_ret {P : Program} {fn : Func} {R : Ending → World → Prop} {a : Act} {w : World} (hr : fn.results = #[]) (hd : a.defers = []) (hR : R (.returned (.tuple #[])) w) : bodyPost P fn R .ret a w := bodyPost_ret (results_none hr _ _ _) hd hR
theorem has_any {w : World} {m : Mt} {T : Tt} (h : Tr w m T) (i : Int) :
    Calls Try.prog 36 #[.pointer (some ⟨m.tb, 0, none⟩), .int .i64 i] w fun e w' => e = .returned (.bool (decide (0 ≤ i) && decide (i < T.ps.length))) ∧ w' = w := by
  obtain ⟨a, cap, hv⟩ := h.ports.shape
  have c1 := h.cell 1
  simp only [treeRow, List.getElem?_cons_succ, List.getElem?_cons_zero] at c1
  rw [hv] at c1
  clear hv h
  generalize T.ps.length = n at *
  go_enter Try.func36, Try.ntmps36
  by_cases h0 : 0 ≤ i
  · go_wp2
    go_ret
    exact ⟨ret_bool (by simp [h0]), rfl⟩
  · go_wp2
    go_ret
    exact ⟨ret_bool (by rw [decide_eq_false (show ¬ 0 ≤ i by omega), Bool.false_and]), rfl⟩
theorem forget_any {w : World} {m : Mt} {T : Tt} (h : Tr w m T) (i : Nat) (hi : i < T.ps.length) :
    Calls Try.prog 38 #[.pointer (some ⟨m.tb, 0, none⟩), .int .i64 i] w fun e w' => e = .returned (.tuple #[]) ∧ Tr w' m (forgetT T i) ∧ Goes m w m w' := by
  have hlt : i < 16 := by have := h.few; omega
  have hfg : i < T.fg.length := by rw [h.fg]; exact hlt
  have hz := h.frozen (10 + i)
  have hc : w.cell? ⟨m.tb, 10 + i, none⟩ = some (.bool (T.fg.getD i false)) := by rw [h.cell, treeRow_fg m T i hfg]
  have hO := hide (h.own (10 + i) (.bool true) (treeRow_forget m T i hfg) rfl rfl rfl rfl (by show (T.fg.set i true).length = 16; rw [List.length_set]; exact h.fg))
  generalize forgetT T i = T' at *
  clear h hfg
  go_enter Try.func38, Try.ntmps38
  go_wp2
  exact v_end rfl rfl ⟨rfl, hO.out.1, hO.out.2⟩
/-- The cells of a port, one by one. -/
structure TpAt (w : World) (pb o : Nat) (p : Tp) : Prop where
  c0 : w.cell? ⟨pb, o, none⟩ = some (.int .i64 p.b.id)
  c1 : w.cell? ⟨pb, o + 1, none⟩ = some (.int .u64 p.b.cost)
  c2 : w.cell? ⟨pb, o + 2, none⟩ = some (.bool p.b.up)
  c3 : w.cell? ⟨pb, o + 3, none⟩ = some (.bool p.b.has)
  c4 : w.cell? ⟨pb, o + 4, none⟩ = some (.int .u64 p.b.told.root)
  c5 : w.cell? ⟨pb, o + 5, none⟩ = some (.int .u64 p.b.told.cost)
  c6 : w.cell? ⟨pb, o + 6, none⟩ = some (.int .u64 p.b.told.bridge)
  c7 : w.cell? ⟨pb, o + 7, none⟩ = some (.int .i64 p.b.told.port)
  c8 : w.cell? ⟨pb, o + 8, none⟩ = some (.bool p.edge)
  c9 : w.cell? ⟨pb, o + 9, none⟩ = some (.int .i64 p.role)
  c10 : w.cell? ⟨pb, o + 10, none⟩ = some (.int .i64 p.state)
  c11 : w.cell? ⟨pb, o + 11, none⟩ = some (.int .i64 p.age)
  c12 : w.cell? ⟨pb, o + 12, none⟩ = some (.int .i64 p.left)
  c13 : w.cell? ⟨pb, o + 13, none⟩ = some (.int .i64 p.wait)
  c14 : w.cell? ⟨pb, o + 14, none⟩ = some (.int .i64 p.change)
  c15 : w.cell? ⟨pb, o + 15, none⟩ = some (.bool p.agreed)
theorem Fl.tp {w : World} {pb : Nat} {l : List Tp} {sp : List Value} (h : Fl w pb 34 fT l sp) (i : Nat) (hi : i < l.length) : TpAt w pb (i * 16) (l.getD i Tp.zero) := by
  have g := fun k hk => h.cell wide_T Tp.zero i k hi hk
  exact ⟨g 0 (by omega), g 1 (by omega), g 2 (by omega), g 3 (by omega), g 4 (by omega), g 5 (by omega), g 6 (by omega), g 7 (by omega), g 8 (by omega), g 9 (by omega), g 10 (by omega), g 11 (by omega), g 12 (by omega), g 13 (by omega), g 14 (by omega), g 15 (by omega)⟩
theorem Fl.tp_set {w : World} {pb : Nat} {l : List Tp} {sp : List Value} {i : Nat} {p : Tp} (h : Fl w pb 34 fT (l.set i p) sp) (hi : i < l.length) : TpAt w pb (i * 16) p := by
  have := h.tp i (by rw [List.length_set]; exact hi)
  rwa [getD_set _ _ _ _ _ hi, if_pos rfl] at this
def dropP (p : Tp) : Tp := ⟨⟨p.b.id, p.b.cost, p.b.up, false, Vc.zero⟩, p.edge, p.role, p.state, 0, 0, p.wait, p.change, p.agreed⟩
def waitP (p : Tp) : Tp := ⟨p.b, p.edge, p.role, 0, p.age, p.left, 15, p.change, p.agreed⟩
def actB (p : Tp) : Bool := decide (p.role = 1) || decide (p.role = 2)
def unsB (p : Tp) : Bool := decide (p.role = 2) && !p.edge && !p.agreed && !decide (p.state = 0)
theorem isActive_any {w : World} {pb o : Nat} {p : Tp} (h : TpAt w pb o p) :
    Calls Try.prog 58 #[.pointer (some ⟨pb, o, none⟩)] w fun e w' => e = .returned (.bool (actB p)) ∧ w' = w := by
  have c9 := h.c9
  have hP : Hid (actB p = (decide (p.role = 1) || decide (p.role = 2))) := rfl
  generalize actB p = x at *
  generalize p.role = r at *
  clear h
  go_enter Try.func58, Try.ntmps58
  by_cases h0 : r = 1
  · subst h0
    go_wp2
    go_ret
    exact ⟨ret_bool (by rw [hP.out]; rfl), rfl⟩
  · have h1 : (r == 1) = false := by rw [beq_eq_false_iff_ne]; exact h0
    go_wp2
    go_ret
    exact ⟨ret_bool (by rw [hP.out, decide_eq_false h0, Bool.false_or, int_beq]), rfl⟩
theorem isUnsure_any {w : World} {pb o : Nat} {p : Tp} (h : TpAt w pb o p) :
    Calls Try.prog 73 #[.pointer (some ⟨pb, o, none⟩)] w fun e w' => e = .returned (.bool (unsB p)) ∧ w' = w := by
  have c9 := h.c9
  have c8 := h.c8
  have c10 := h.c10
  have c15 := h.c15
  have hP : Hid (unsB p = (decide (p.role = 2) && !p.edge && !p.agreed && !decide (p.state = 0))) := rfl
  generalize unsB p = x at *
  generalize p.role = r at *
  generalize p.edge = ed at *
  generalize p.agreed = ag at *
  generalize p.state = st at *
  clear h
  go_enter Try.func73, Try.ntmps73
  by_cases h0 : r = 2
  · subst h0
    cases ed
    · cases ag
      · go_wp2
        go_ret
        exact ⟨ret_bool (by rw [hP.out]; simp [int_bne]), rfl⟩
      · go_wp2
        go_ret
        exact ⟨ret_bool (by rw [hP.out]; simp), rfl⟩
    · go_wp2
      go_ret
      exact ⟨ret_bool (by rw [hP.out]; simp), rfl⟩
  · have h1 : (r == 2) = false := by rw [beq_eq_false_iff_ne]; exact h0
    go_wp2
    go_ret
    exact ⟨ret_bool (by rw [hP.out, decide_eq_false h0]; rfl), rfl⟩
theorem startWait_any {w : World} {m : Mt} {T : Tt} (h : Tr w m T) {i pb cap : Nat} {sp : List Value} (hP : PtAt w m T i pb cap sp) :
    Calls Try.prog 64 #[.pointer (some ⟨pb, i * 16, none⟩)] w fun e w' => e = .returned (.tuple #[]) ∧ Tr w' m (setP T i (waitP (T.ps.getD i Tp.zero))) ∧ Goes m w m w' := by
  have hc := hP.fl.tp i hP.hi
  have c10 := hc.c10
  have c13 := hc.c13
  have z := fun o => hP.fl.frozen o
  have z1 := z (i * 16 + 10)
  have z2 := z (i * 16 + 13)
  have hE := hide (h.put hP (waitP (T.ps.getD i Tp.zero)) (((hP.fl.at_set Tp.zero i hP.hi).put wide_T 10 (.int .i64 0) { T.ps.getD i Tp.zero with state := 0 } hP.hi (by omega) rfl).put wide_T 13 (.int .i64 15) _ hP.hi (by omega) rfl) (((Wr.refl _ _).cell _ _).cell _ _))
  clear h hP hc z
  generalize setP T i (waitP (T.ps.getD i Tp.zero)) = T' at *
  go_enter Try.func64, Try.ntmps64
  go_wp2
  exact v_end rfl rfl ⟨rfl, hE.out.1, hE.out.2⟩
theorem dropTold_any {w : World} {m : Mt} {T : Tt} (h : Tr w m T) {i pb cap : Nat} {sp : List Value} (hP : PtAt w m T i pb cap sp) :
    Calls Try.prog 37 #[.pointer (some ⟨pb, i * 16, none⟩)] w fun e w' => e = .returned (.tuple #[]) ∧ Tr w' m (setP T i (dropP (T.ps.getD i Tp.zero))) ∧ Goes m w m w' := by
  have hi := hP.hi
  have F1 := (hP.fl.at_set Tp.zero i hi).put wide_T 3 (.bool false) ⟨⟨_, _, _, false, _⟩, _, _, _, _, _, _, _, _⟩ hi (by omega) rfl
  have F2 := F1.putn wide_T 4 (fV Vc.zero) ⟨⟨_, _, _, _, Vc.zero⟩, _, _, _, _, _, _, _, _⟩ hi (by decide) rfl
  have F4 := hide ((F2.put wide_T 11 (.int .i64 0) { T.ps.getD i Tp.zero with b := { (T.ps.getD i Tp.zero).b with has := false, told := Vc.zero }, age := 0 } hi (by omega) rfl).put wide_T 12 (.int .i64 0) (dropP (T.ps.getD i Tp.zero)) hi (by omega) rfl)
  have W2 : Wr pb w ((w.setCell ⟨pb, i * 16 + 3, none⟩ (.bool false)).setCells pb (i * 16 + 4) (fV Vc.zero)) := Wr.cells _ _ _ ((Wr.refl _ _).cell _ _)
  have hE := hide (h.put hP (dropP (T.ps.getD i Tp.zero)) F4.out ((W2.cell _ _).cell _ _))
  have c3 := (hP.fl.tp i hi).c3
  have z3 := hP.fl.frozen (i * 16 + 3)
  have hth := hide (F1.there wide_T Tp.zero i 4 4 (by rw [List.length_set]; exact hi) (by omega))
  have D := F2.tp_set hi
  have c11 := hide D.c11
  have c12 := hide D.c12
  have z11 := hide (F2.frozen (i * 16 + 11))
  have z12 := hide (F2.frozen (i * 16 + 12))
  clear h hP D F1 F2 W2 F4
  generalize setP T i (dropP (T.ps.getD i Tp.zero)) = T' at *
  generalize T.ps.getD i Tp.zero = p at *
  dsimp only at *
  go_enter Try.func37, Try.ntmps37
  go_wp2_with ((with_reducible change wpList _ _ _ _ _ _); refine wpList_store_mid rfl 30 (.tmp 10) (.tmp 4) rfl pb (i * 16 + 4) Vc.zero.row rfl rfl hth.out (vecSize Vc.zero) (Vc.row_all _) ?_; refine unhB ?_)
  have d11 := c11.out
  have d12 := c12.out
  have y11 := z11.out
  have y12 := z12.out
  clear c11 c12 z11 z12 c3 z3 hth
  generalize (w.setCell ⟨pb, i * 16 + 3, none⟩ (.bool false)).setCells pb (i * 16 + 4) (fV Vc.zero) = w2 at *
  refine hide ?_
  go_wp2
  exact v_end rfl rfl ⟨rfl, hE.out.1, hE.out.2⟩
end Go.Proofs.Ytoejoneecanbbaa
