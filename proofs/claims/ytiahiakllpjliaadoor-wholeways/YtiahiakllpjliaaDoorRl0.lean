import Derived.Test.YtiahiakllpjliaaDoorFdb12
import Derived.Test.YtiahiakllpjliaaDoorVlan5
/-
  Contracts of bpdu.Group, firstFive and Reserved, in the words of layer 12's addresses (as Bp4). Conditions: those that each theorem names.
-/
namespace Go.Proofs.YtiahiakllpjliaaDoor
open Go.RowKit Go.Maps
set_option linter.unusedVariables false
set_option linter.unusedSimpArgs false
set_option maxRecDepth 20000

@[reducible] def mac6R (a b c d e f : Int) : Array Value := #[.int .u8 a, .int .u8 b, .int .u8 c, .int .u8 d, .int .u8 e, .int .u8 f]
def macLitsR (l : List Int) : List Lit := l.map (Lit.int .u8)
theorem macLitsR_inj {a b : List Int} (h : macLitsR a = macLitsR b) : a = b := by
  induction a generalizing b with
  | nil => cases b with
    | nil => rfl
    | cons y b => simp [macLitsR] at h
  | cons x a ih => cases b with
    | nil => simp [macLitsR] at h
    | cons y b =>
      simp only [macLitsR, List.map_cons, List.cons.injEq, Lit.int.injEq, true_and] at h
      rw [h.1, ih h.2]
theorem macSizeR : (Tryd.prog.info? 23).map (·.size) = some 6 := by kernel_rfl
@[reducible] def mac5R (a b c d e : Int) : Array Value := #[.int .u8 a, .int .u8 b, .int .u8 c, .int .u8 d, .int .u8 e]
theorem fiveSizeR : (Tryd.prog.info? 114).map (·.size) = some 5 := by kernel_rfl
theorem mac6_allR (a b c d e f : Int) : (mac6R a b c d e f).all (·.oneCell') = true := by simp [Value.oneCell']
theorem mac5_allR (a b c d e : Int) : (mac5R a b c d e).all (·.oneCell') = true := by simp [Value.oneCell']

theorem BGroup_anyR (w : World) :
    Calls Tryd.prog 58 #[] w fun e w' => e = .returned (.agg (mac6R 1 128 194 0 0 0)) ∧ Below w.heap.size w w' := by
  have hA := heap_alloc_new w (.cells (mac6R 0 0 0 0 0 0) 23)
  go_enter Tryd.func58, Tryd.ntmps58
  go_wp2_with ((with_reducible change wpList _ _ _ _ _ _); refine wpList_store_row rfl 23 (.tmp 0) (.tmp 1) rfl w.heap.size (mac6R 1 128 194 0 0 0) rfl rfl 23 _ hA macSizeR rfl (mac6_allR _ _ _ _ _ _) ?_)
  refine bodyPost_ret (v := .agg (mac6R 1 128 194 0 0 0)) ?_ rfl ⟨rfl, below_setRow (below1 _ _) (Nat.le_refl _) _⟩
  exact results_cell_row rfl _ _ w.heap.size 23 _ _ _ rfl (setRow_heap _ _ _ _ _ _ hA) Tryd.underlying23 rfl macSizeR

set_option maxRecDepth 20000 in
theorem firstFive_anyR (a b c d e f : Int) (w : World) :
    Calls Tryd.prog 57 #[.agg (mac6R a b c d e f)] w fun r w' => r = .returned (.agg (mac5R a b c d e)) ∧ Below w.heap.size w w' := by
  have hsz1 : (Tryd.prog.info? 5).map (·.size) = some 1 := by kernel_rfl
  go_enter Tryd.func57, Tryd.ntmps57
  go_wp2_with fail
  refine wp_region_noPanic ?_
  refine wp_region_held_drew (S := fun _ => True) (by kernel_rfl) trivial (fun hHeld => ?_)
  refine wpAnyH_take (i := 0) (oi := { dst := some 4, op := Op.slice 114 (Operand.tmp 3) none none none, type := 26, pos := "bpdu.go:80", after := #[], guard := none }) (v := ?v1) rfl (by kernel_rfl) (by kernel_rfl) (by kernel_rfl) (fun _ _ _ h => h) (Or.inl ⟨by rfl, ?y1⟩) (by assumption) ?r1
  case y1 => (intro w hSw; (try dsimp only at hSw); (try (go_split_ands)); go_simp; try with_reducible rfl)
  try simp only [Act.put, List.setIfInBounds_toArray, List.set_cons_zero, List.set_cons_succ]
  refine wpAnyH_take (i := 1) (oi := { dst := some 5, op := Op.slice 23 (Operand.tmp 1) none none none, type := 26, pos := "bpdu.go:80", after := #[], guard := none }) (v := ?v2) rfl (by kernel_rfl) (by kernel_rfl) (by kernel_rfl) (fun _ _ _ h => h) (Or.inl ⟨by rfl, ?y2⟩) (by assumption) ?r2
  case y2 => (intro w hSw; (try dsimp only at hSw); (try (go_split_ands)); go_simp; try with_reducible rfl)
  try simp only [Act.put, List.setIfInBounds_toArray, List.set_cons_zero, List.set_cons_succ]
  have hP : (((w.alloc (.cells (mac6R a b c d e f) 23)).alloc (.cells (mac5R 0 0 0 0 0) 114)).alloc (.cells (mac5R 0 0 0 0 0) 114)).drew.heap[w.heap.size]? = some (.cells (mac6R a b c d e f) 23 (0, 0)) := heap_kept (below_drewN (below1 _ _) 1) (heap_alloc2_old _ _ _)
  have hR : (((w.alloc (.cells (mac6R a b c d e f) 23)).alloc (.cells (mac5R 0 0 0 0 0) 114)).alloc (.cells (mac5R 0 0 0 0 0) 114)).drew.heap[w.heap.size + 1]? = some (.cells (mac5R 0 0 0 0 0) 114 (0, 0)) := heap_kept (below_drewN (below1 _ _) 1) (heap_alloc2_new _ _ _)
  have hF : (((w.alloc (.cells (mac6R a b c d e f) 23)).alloc (.cells (mac5R 0 0 0 0 0) 114)).alloc (.cells (mac5R 0 0 0 0 0) 114)).drew.heap[w.heap.size + 2]? = some (.cells (mac5R 0 0 0 0 0) 114 (0, 0)) := by
    have := heap_alloc_new ((w.alloc (.cells (mac6R a b c d e f) 23)).alloc (.cells (mac5R 0 0 0 0 0) 114)) (.cells (mac5R 0 0 0 0 0) 114)
    simp only [World.size_alloc] at this
    exact this
  have hb0 : Below w.heap.size w (((w.alloc (.cells (mac6R a b c d e f) 23)).alloc (.cells (mac5R 0 0 0 0 0) 114)).alloc (.cells (mac5R 0 0 0 0 0) 114)).drew := below_drewN (((below1 _ _).later (below1 _ _)).later (below1 _ _)) 1
  refine wpAnyH_ready (rs := [2]) (by kernel_rfl) (by simp) ?_
  refine AllReadyH.cons (o := { dst := some 6, op := Op.call { callee := Callee.builtin Builtin.copy, args := #[Operand.tmp 4, Operand.tmp 5], argTypes := #[26, 26] }, type := 3, pos := "bpdu.go:80", after := #[{ on := 0, ground := Ground.data }, { on := 1, ground := Ground.data }], guard := none }) rfl (fun K hK => ?_) AllReadyH.nil
  refine step_copy_splice rfl _ _ 26 26 rfl 5 Tryd.underlying26 hsz1 (some ⟨w.heap.size + 2, 0, none⟩) (some ⟨w.heap.size, 0, none⟩) 5 5 6 6 rfl rfl (w.heap.size + 2) 0 (mac5R 0 0 0 0 0).toList 114 hF [.int .u8 a, .int .u8 b, .int .u8 c, .int .u8 d, .int .u8 e] rfl (fun _ => ⟨rfl, ⟨w.heap.size, 0, none⟩, rfl, fun j v hv => ?_⟩) (by simp) (by intro v hv; simp at hv; rcases hv with rfl | rfl | rfl | rfl | rfl <;> rfl) (w.heap.size + 2) _ (Below.refl _ _) (Nat.le_refl _) ?_
  · rw [Addr.add_mid, Nat.zero_add, cell_of_row _ _ _ _ _ _ hP]
    match j, hv with
    | 0, hv => exact hv
    | 1, hv => exact hv
    | 2, hv => exact hv
    | 3, hv => exact hv
    | 4, hv => exact hv
  intro w2 hH2 hb2
  have hH2' : w2.heap[w.heap.size + 2]? = some (.cells (mac5R a b c d e) 114 (0, 0)) := hH2.out
  have hR2 := (hb2.block (w.heap.size + 1) (by omega)).trans hR
  have hW2 := hide (hb0.trans (hb2.mono (by omega)))
  clear hP hR hF hb0 hH2 hb2
  refine hK.out _ _ trivial (fun hHeld2 => ?_)
  clear hK K
  try simp only [Act.put, List.setIfInBounds_toArray, List.set_cons_zero, List.set_cons_succ]
  refine wpAnyH_done (by kernel_rfl) ?_ _
  refine NoPanic.normal ?_
  go_wp2_with (first | ((with_reducible change wpList _ _ _ _ _ _); refine wpList_load_row rfl 114 (.tmp 3) rfl (w.heap.size + 2) rfl 114 _ _ _ hH2' Tryd.underlying114 rfl fiveSizeR ?_) | ((with_reducible change wpList _ _ _ _ _ _); refine wpList_store_row rfl 114 (.tmp 2) (.tmp 7) rfl (w.heap.size + 1) (mac5R a b c d e) rfl rfl 114 _ hR2 fiveSizeR rfl (mac5_allR _ _ _ _ _) ?_))
  refine bodyPost_ret (v := .agg (mac5R a b c d e)) ?_ rfl ⟨rfl, below_setRow hW2.out (by omega) _⟩
  exact results_cell_row rfl _ _ (w.heap.size + 1) 114 _ _ _ rfl (setRow_heap _ _ _ _ _ _ hR2) Tryd.underlying114 rfl fiveSizeR

theorem cells_fiveR : Tryd.prog.cellsOf 114 = 5 := by kernel_rfl
theorem five_litsR (d : Nat) (a b c e f : Int) (h : Byte [a, b, c, e, f]) : Tryd.prog.keyLits (d + 2) 114 [.int .u8 a, .int .u8 b, .int .u8 c, .int .u8 e, .int .u8 f] = some (macLitsR [a, b, c, e, f]) := by
  have h1 := lit8 d a (h a (by simp))
  have h2 := lit8 d b (h b (by simp))
  have h3 := lit8 d c (h c (by simp))
  have h4 := lit8 d e (h e (by simp))
  have h5 := lit8 d f (h f (by simp))
  unfold Program.keyLits
  rw [Tryd.underlying114]
  simp [cells_fiveR, cells6_u8, List.range_succ, h1, h2, h3, h4, h5, macLitsR]
theorem five_eqlR (a b c d e a' b' c' d' e' : Int) (h : Byte [a, b, c, d, e]) (h' : Byte [a', b', c', d', e']) (w : World) : (binOp .eql 114 (.agg (mac5R a b c d e)) (.agg (mac5R a' b' c' d' e'))).run Tryd.prog w = .ok (.bool (decide ([a, b, c, d, e] = [a', b', c', d', e']))) w := by
  obtain ⟨r, h1, h2⟩ := run_equalIn_deep (P := Tryd.prog) 9998 2 114 (by kernel_rfl) w 2 2 (.agg (mac5R a b c d e)) (.agg (mac5R a' b' c' d' e')) _ _ (by kernel_rfl) (by kernel_rfl) (five_litsR 0 a b c d e h) (five_litsR 0 a' b' c' d' e' h')
  have h3 : (Op.equalIn 10000 114 (.agg (mac5R a b c d e)) (.agg (mac5R a' b' c' d' e'))).run Tryd.prog w = .ok (decide ([a, b, c, d, e] = [a', b', c', d', e'])) w := by
    refine h1.trans (congrArg (fun r => Result.ok r w) ?_)
    rw [Bool.eq_iff_iff, decide_eq_true_eq]
    exact h2.trans ⟨macLitsR_inj, fun e => by rw [e]⟩
  rw [run_eql_struct, h3]; rfl
theorem eqGuard_fiveR : Tryd.prog.eqGuardType Tryd.prog.depth 114 = false := by kernel_rfl
def resBR (a b c d e f : Int) : Bool := decide ([a, b, c, d, e] = [1, 128, 194, 0, 0]) && decide (f < 16)
set_option maxRecDepth 20000 in
theorem Reserved_anyR (a b c d e f : Int) (w : World) (hB : Byte [a, b, c, d, e, f]) :
    Calls Tryd.prog 39 #[.agg (mac6R a b c d e f)] w fun r w' => r = .returned (.bool (resBR a b c d e f)) ∧ Below w.heap.size w w' := by
  have hk := heap_alloc_new w (.cells (mac6R a b c d e f) 23)
  have hgd := eqGuard_fiveR
  have hb5 : Byte [a, b, c, d, e] := fun z hz => hB z (by simp at hz ⊢; rcases hz with h | h | h | h | h <;> simp [h])
  have hg5 : Byte [1, 128, 194, 0, 0] := by intro z hz; simp at hz; omega
  have heq := fun w => five_eqlR a b c d e 1 128 194 0 0 hb5 hg5 w
  have hf1 := hide (fun w => firstFive_anyR a b c d e f w)
  have hf2 := hide (fun w => firstFive_anyR 1 128 194 0 0 0 w)
  have hG := hide BGroup_anyR
  have hR : Hid (resBR a b c d e f = (decide ([a, b, c, d, e] = [1, 128, 194, 0, 0]) && decide (f < 16))) := rfl
  generalize resBR a b c d e f = R at *
  clear hb5 hg5 hB
  cases hq : decide ([a, b, c, d, e] = [1, 128, 194, 0, 0])
  all_goals
    rw [hq] at hR
    have heq' : ∀ w, (binOp .eql 114 (.agg (mac5R a b c d e)) (.agg (mac5R 1 128 194 0 0))).run Tryd.prog w = .ok (.bool _) w := fun w => (heq w).trans (by rw [hq])
    clear heq hq
    go_enter Tryd.func39, Tryd.ntmps39
    go_wp2_with ((with_reducible change wpList _ _ _ _ _ _); refine wpList_load_row rfl 23 (.tmp 1) rfl w.heap.size rfl 23 _ _ _ hk Tryd.underlying23 rfl macSizeR ?_)
    refine (hf1.out _).mono ?_
    rintro e w1 ⟨rfl, hb1⟩
    go_wp2_with fail
    refine (hG.out _).mono ?_
    rintro e w2 ⟨rfl, hb2⟩
    go_wp2_with fail
    refine (hf2.out _).mono ?_
    rintro e w3 ⟨rfl, hb3⟩
    have hk3 := heap_kept hb3 (heap_kept hb2 (heap_kept hb1 hk))
    have c5 : w3.cell? ⟨w.heap.size, 5, none⟩ = some (.int .u8 f) := (cell_of_row _ _ _ _ _ _ hk3).trans rfl
    go_wp2_with fail
    go_ret
    refine ⟨ret_bool ?_, (((below1 _ _).later hb1).later hb2).later hb3⟩
    rw [hR.out]
    simp
end Go.Proofs.YtiahiakllpjliaaDoor

/-
  Contracts of relay: Name, whyNot, state, isOpen. Conditions: those that each theorem names.
-/
namespace Go.Proofs.YtiahiakllpjliaaDoor
open Go.RowKit Go.Maps
set_option linter.unusedVariables false
set_option linter.unusedSimpArgs false
set_option maxRecDepth 20000

theorem whyNot_any (e : Int) (w : World) : Calls Tryd.prog 41 #[.int .i64 e] w fun r w' => r = .returned (.int .i64 (if e = 21 then 3 else 2)) ∧ w' = w := by
  by_cases h : e = 21
  · subst h
    go_enter Tryd.func41, Tryd.ntmps41
    go_wp2
    go_ret
    exact ⟨rfl, rfl⟩
  · rw [if_neg h]
    go_enter Tryd.func41, Tryd.ntmps41
    go_wp2
    go_ret
    exact ⟨rfl, rfl⟩
/-- A bridge's cells. -/
@[reducible] def brC (g t sb n : Nat) : Array Value := #[.pointer (some ⟨g, 0, none⟩), .pointer (some ⟨t, 0, none⟩), .slice (some ⟨sb, 0, none⟩) n n]
theorem brSize (g t sb n : Nat) : (Tryd.prog.info? 35).map (·.size) = some (brC g t sb n).size := by kernel_rfl
theorem br_all (g t sb n : Nat) : (brC g t sb n).all (·.oneCell') = true := by simp [Value.oneCell']
def stRow (sts : List Int) : Array Value := (sts.map (Value.int .i64)).toArray
def stateN (sts : List Int) (p : Int) : Int := if 0 ≤ p ∧ p < sts.length then sts.getD p.toNat 0 else 0
theorem st_cell {w : World} {sb : Nat} {sts : List Int} (h : w.heap[sb]? = some (.cells (stRow sts) 3 (0, 0))) (k : Nat) (hk : k < sts.length) : w.cell? ⟨sb, k, none⟩ = some (.int .i64 (sts.getD k 0)) := by
  rw [cell_of_row _ _ _ _ _ _ h]
  simp [stRow, List.getD, hk]
theorem state_any (g t sb : Nat) (sts : List Int) (p : Int) (w : World) (h : w.heap[sb]? = some (.cells (stRow sts) 3 (0, 0))) (hl : sts.length ≤ 1000) :
    Calls Tryd.prog 42 #[.agg (brC g t sb sts.length), .int .i64 p] w fun r w' => r = .returned (.int .i64 (stateN sts p)) ∧ Below w.heap.size w w' := by
  have hb := hide (below1 w (.cells (brC g t sb sts.length) 35))
  have h2 : (w.alloc (.cells (brC g t sb sts.length) 35)).cell? ⟨w.heap.size, 2, none⟩ = some (.slice (some ⟨sb, 0, none⟩) sts.length sts.length) := (cell_of_row _ _ _ _ _ _ (heap_alloc_new w _)).trans rfl
  have hst := hide (fun k hk => st_cell (heap_kept (below1 w (.cells (brC g t sb sts.length) 35)) h) k hk)
  clear h
  unfold stateN
  by_cases c1 : 0 ≤ p
  · by_cases c2 : p < sts.length
    · rw [if_pos ⟨c1, c2⟩]
      obtain ⟨k, rfl⟩ := Int.eq_ofNat_of_zero_le c1
      have hk : k < sts.length := by omega
      have hck := hst.out k hk
      rw [Int.toNat_natCast]
      generalize sts.getD k 0 = z at *
      generalize sts.length = n at *
      have hd1 : decide ((n : Int) ≤ (k : Int)) = false := decide_eq_false (by omega)
      go_enter Tryd.func42, Tryd.ntmps42
      go_wp2
      go_ret
      exact ⟨rfl, hb.out⟩
    · rw [if_neg (fun e => c2 e.2)]
      generalize sts.length = n at *
      have hd1 : decide ((n : Int) ≤ p) = true := decide_eq_true (by omega)
      go_enter Tryd.func42, Tryd.ntmps42
      go_wp2
      go_ret
      exact ⟨rfl, hb.out⟩
  · rw [if_neg (fun e => c1 e.1)]
    generalize sts.length = n at *
    go_enter Tryd.func42, Tryd.ntmps42
    go_wp2
    go_ret
    exact ⟨rfl, hb.out⟩
/-- What a relay only reads. -/
structure Br (w : World) (g pb mb sb : Nat) (ps : List Pv) (f : Int → Option (Int × Int)) (c : Nat) (sts : List Int) : Prop where
  vt : Vt w g pb mb ps f c
  st : w.heap[sb]? = some (.cells (stRow sts) 3 (0, 0))
  few : sts.length ≤ 1000
theorem Br.below {w w' : World} {g pb mb sb : Nat} {ps : List Pv} {f : Int → Option (Int × Int)} {c : Nat} {sts : List Int} (h : Br w g pb mb sb ps f c sts) (hb : Below w.heap.size w w') : Br w' g pb mb sb ps f c sts := ⟨h.vt.below hb, heap_kept hb h.st, h.few⟩
def opnB (ps : List Pv) (f : Int → Option (Int × Int)) (sts : List Int) (v p : Int) : Bool := (hasP ps.length p && bitAt (memN f v) p) && (stateN sts p == 2)
theorem isOpen_any {w : World} {g pb mb sb : Nat} {ps : List Pv} {f : Int → Option (Int × Int)} {c : Nat} {sts : List Int} (h : Br w g pb mb sb ps f c sts) (t : Nat) (v p : Int) (hv : I64G v) :
    Calls Tryd.prog 66 #[.agg (brC g t sb sts.length), .int .i64 v, .int .i64 p] w fun r w' => r = .returned (.bool (opnB ps f sts v p)) ∧ Below w.heap.size w w' := by
  have hb := hide (below1 w (.cells (brC g t sb sts.length) 35))
  have hr := hide (heap_alloc_new w (.cells (brC g t sb sts.length) 35))
  have h0 : (w.alloc (.cells (brC g t sb sts.length) 35)).cell? ⟨w.heap.size, 0, none⟩ = some (.pointer (some ⟨g, 0, none⟩)) := (cell_of_row _ _ _ _ _ _ hr.out).trans rfl
  have hM := hide (Member_any (h.below hb.out).vt v p hv)
  have hS := hide (state_any g t sb sts p _ (h.below hb.out).st h.few)
  have hsz := brSize g t sb sts.length
  unfold opnB
  generalize (hasP ps.length p && bitAt (memN f v) p) = d at *
  generalize stateN sts p = s at *
  generalize brC g t sb sts.length = C at *
  clear h hv
  cases d
  · clear hS
    go_enter Tryd.func66, Tryd.ntmps66
    go_wp2_with fail
    refine hM.out.mono ?_
    rintro _ w1 ⟨rfl, rfl⟩
    go_wp2
    go_ret
    exact ⟨rfl, hb.out⟩
  · go_enter Tryd.func66, Tryd.ntmps66
    go_wp2_with fail
    refine hM.out.mono ?_
    rintro _ w1 ⟨rfl, rfl⟩
    go_wp2_with ((with_reducible change wpList _ _ _ _ _ _); refine wpList_load_row_on rfl 35 (.tmp 3) rfl w.heap.size rfl 35 _ _ _ hr.out Tryd.underlying35 rfl hsz ?_)
    refine hS.out.mono ?_
    rintro _ w2 ⟨rfl, hb2⟩
    go_wp2
    go_ret
    exact ⟨by simp, hb.out.later hb2⟩
end Go.Proofs.YtiahiakllpjliaaDoor
