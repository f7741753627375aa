/-
  Contracts of the table's other calls: SetPort, Set, New, Classify. Conditions: those that each theorem names.
-/
import Derived.Test.YtiahiakllpjliaaVlan1
namespace Go.Proofs.Ytiahiakllpjliaa
open Go.RowKit Go.Maps
set_option linter.unusedVariables false
set_option maxRecDepth 20000

theorem may_any (p : Pv) (w : World) : Calls Try.prog 59 #[.agg (fPv p).toArray] w fun r w' => r = .returned (.bool (mayB p)) ∧ Below w.heap.size w w' := by
  obtain ⟨a, v, q, fl⟩ := p
  have hV := hide (fun w => isVid_any v w)
  have hE : Hid (mayB ⟨a, v, q, fl⟩ = (decide (0 ≤ a) && decide (a ≤ 2) && vidB v && decide (0 ≤ q) && decide (q ≤ 7))) := rfl
  generalize mayB ⟨a, v, q, fl⟩ = m at *
  generalize vidB v = vb at *
  dsimp only [fPv]
  have hB : Hid (∀ o, Below w.heap.size w (w.alloc o)) := fun o => below1 w o
  by_cases h0 : 0 ≤ a
  rotate_left
  · go_enter Try.func59, Try.ntmps59
    go_wp2
    go_ret
    exact ⟨ret_bool (by rw [hE.out, decide_eq_false (show ¬ 0 ≤ a by omega)]; rfl), hB.out _⟩
  by_cases h1 : a ≤ 2
  rotate_left
  · go_enter Try.func59, Try.ntmps59
    go_wp2
    go_ret
    exact ⟨ret_bool (by rw [hE.out, decide_eq_false (show ¬ a ≤ 2 by omega), Bool.and_false]; rfl), hB.out _⟩
  rw [decide_eq_true h0, decide_eq_true h1] at hE
  cases vb
  · go_enter Try.func59, Try.ntmps59
    go_wp2_with (go_at_call 45; refine (hV.out _).mono ?_; rintro e w' ⟨rfl, rfl⟩)
    go_ret
    exact ⟨ret_bool (by rw [hE.out]; rfl), hB.out _⟩
  by_cases h2 : 0 ≤ q
  rotate_left
  · go_enter Try.func59, Try.ntmps59
    go_wp2_with (go_at_call 45; refine (hV.out _).mono ?_; rintro e w' ⟨rfl, rfl⟩)
    go_ret
    exact ⟨ret_bool (by rw [hE.out, decide_eq_false (show ¬ 0 ≤ q by omega)]; rfl), hB.out _⟩
  by_cases h3 : q ≤ 7
  rotate_left
  · go_enter Try.func59, Try.ntmps59
    go_wp2_with (go_at_call 45; refine (hV.out _).mono ?_; rintro e w' ⟨rfl, rfl⟩)
    go_ret
    exact ⟨ret_bool (by rw [hE.out, decide_eq_true h2, Bool.true_and, Bool.true_and, Bool.true_and, Bool.true_and]), hB.out _⟩
  · go_enter Try.func59, Try.ntmps59
    go_wp2_with (go_at_call 45; refine (hV.out _).mono ?_; rintro e w' ⟨rfl, rfl⟩)
    go_ret
    exact ⟨ret_bool (by rw [hE.out, decide_eq_true h2, decide_eq_true h3]; rfl), hB.out _⟩
def takesB (p : Pv) (n : Bool) : Bool := if p.acc = 1 then n else if p.acc = 2 then !n else true
theorem takes_any (p : Pv) (n : Bool) (w : World) : Calls Try.prog 60 #[.agg (fPv p).toArray, .bool n] w fun r w' => r = .returned (.bool (takesB p n)) ∧ Below w.heap.size w w' := by
  obtain ⟨a, v, q, fl⟩ := p
  unfold takesB
  dsimp only [fPv]
  have hB : Hid (∀ o, Below w.heap.size w (w.alloc o)) := fun o => below1 w o
  by_cases h1 : a = 1
  · subst h1
    rw [if_pos rfl]
    go_enter Try.func60, Try.ntmps60
    go_wp2
    go_ret
    exact ⟨rfl, hB.out _⟩
  · rw [if_neg h1]
    by_cases h2 : a = 2
    · subst h2
      rw [if_pos rfl]
      go_enter Try.func60, Try.ntmps60
      go_wp2
      go_ret
      exact ⟨rfl, hB.out _⟩
    · rw [if_neg h2]
      go_enter Try.func60, Try.ntmps60
      go_wp2
      go_ret
      exact ⟨rfl, hB.out _⟩
theorem pvSize (p : Pv) : (Try.prog.info? 82).map (·.size) = some (fPv p).toArray.size := by kernel_rfl
theorem pv_all (p : Pv) : (fPv p).toArray.all (·.oneCell') = true := by simp [Value.oneCell']
/-- What SetPort answers. -/
def spE (n : Nat) (i : Int) (p : Pv) : Bool := hasP n i && mayB p
section
variable {w : World} {g pb mb c : Nat} {ps : List Pv} {f : Int → Option (Int × Int)}
theorem SetPort_no (h : Vt w g pb mb ps f c) (i : Int) (p : Pv) (hE : spE ps.length i p = false) :
    Calls Try.prog 35 #[.pointer (some ⟨g, 0, none⟩), .int .i64 i, .agg (fPv p).toArray] w fun r w' => r = .returned (.int .i64 1) ∧ Below w.heap.size w w' := by
  have hH := hide (fun w' (hb : Below w.heap.size w w') => vhas_any (h.below hb) i)
  have hM := hide (fun w => may_any p w)
  have hb1 := hide (below1 w (.cells (fPv p).toArray 82))
  have hc := heap_alloc_new w (.cells (fPv p).toArray 82)
  have hrow := hide hc
  unfold spE at hE
  clear h hc
  generalize hasP ps.length i = x at *
  cases x
  · clear hE hM
    go_enter Try.func35, Try.ntmps35
    go_wp2_with (go_at_call 58; refine (hH.out _ hb1.out).mono ?_; rintro e w' ⟨rfl, rfl⟩)
    go_ret
    exact ⟨rfl, hb1.out⟩
  · rw [Bool.true_and] at hE
    rw [hE] at hM
    clear hE
    go_enter Try.func35, Try.ntmps35
    go_wp2_with (first | (go_at_call 58; refine (hH.out _ hb1.out).mono ?_; rintro e w' ⟨rfl, rfl⟩) | ((with_reducible change wpList _ _ _ _ _ _); refine wpList_load_row_on rfl 82 (.tmp 5) rfl w.heap.size rfl 82 _ _ _ hrow.out Try.underlying82 rfl (pvSize p) ?_) | (go_at_call 59; refine (hM.out _).mono ?_; rintro e w' ⟨rfl, hb2⟩))
    go_ret
    exact ⟨rfl, hb1.out.later hb2⟩
theorem Vt.setPort (h : Vt w g pb mb ps f c) (k : Nat) (hk : k < ps.length) (p : Pv) : Vt (w.setCells pb (k * 4) (fPv p)) g pb mb (ps.set k p) f c ∧ Ch (· = pb) w (w.setCells pb (k * 4) (fPv p)) := by
  have hn := h.ne
  have ho := fun k (e : k ≠ pb) => heap_setCells_other pb (fPv p) (k := k) (w := w) (o := 0)
  refine ⟨⟨by rw [List.length_set]; exact h.few, ?_, h.fl.setn wide_Pv Pv.zero k 0 (fPv p) p hk (by simp) rfl, h.mp.blk (heap_setCells_other pb _ _ _ mb (Ne.symm hn.2.2)), hn⟩, Ch.setCells _ _ _ _⟩
  rw [heap_setCells_other pb _ _ _ g hn.1, List.length_set]
  exact h.at_g
theorem SetPort_yes (h : Vt w g pb mb ps f c) (i : Int) (p : Pv) (hE : spE ps.length i p = true) :
    Calls Try.prog 35 #[.pointer (some ⟨g, 0, none⟩), .int .i64 i, .agg (fPv p).toArray] w fun r w' => r = .returned (.int .i64 0) ∧ Vt w' g pb mb (ps.set i.toNat p) f c ∧ Ch (· = pb) w w' := by
  have hH := hide (fun w' (hb : Below w.heap.size w w') => vhas_any (h.below hb) i)
  have hM := hide (fun w => may_any p w)
  have hb1 := hide (below1 w (.cells (fPv p).toArray 82))
  have hrow := hide (heap_alloc_new w (.cells (fPv p).toArray 82))
  unfold spE at hE
  rw [Bool.and_eq_true] at hE
  obtain ⟨hE1, hE2⟩ := hE
  rw [hE1] at hH
  rw [hE2] at hM
  simp only [hasP, Bool.and_eq_true, decide_eq_true_eq] at hE1
  obtain ⟨k, rfl⟩ := Int.eq_ofNat_of_zero_le hE1.1
  have hk : k < ps.length := by omega
  rw [Int.toNat_natCast]
  have hS := hide (fun w' (hb : Below w.heap.size w w') => (h.below hb).setPort k hk p)
  have hc0 := hide (fun w' (hb : Below w.heap.size w w') => (h.below hb).c0)
  have hT := hide (fun w' (hb : Below w.heap.size w w') => (h.below hb).fl.there wide_Pv Pv.zero k 0 4 hk (by omega))
  have hf := h.few
  have hne := h.ne.1
  have hlt := h.lt.2.1
  clear h hE1 hE2
  generalize ps.length = n at *
  generalize ps.set k p = ps' at *
  go_enter Try.func35, Try.ntmps35
  go_wp2_with (first | (go_at_call 58; refine (hH.out _ hb1.out).mono ?_; rintro e w' ⟨rfl, rfl⟩) | ((with_reducible change wpList _ _ _ _ _ _); refine wpList_load_row_on rfl 82 (.tmp 5) rfl w.heap.size rfl 82 _ _ _ hrow.out Try.underlying82 rfl (pvSize p) ?_) | fail)
  refine (hM.out _).mono ?_
  rintro e w2 ⟨rfl, hb2⟩
  have hb := hide (hb1.out.later hb2)
  have hrow2 := hide (heap_kept hb2 hrow.out)
  have c0 := hc0.out _ hb.out
  have hbd : Below w.heap.size w w2.drew := ⟨hb.out.os, hb.out.tape, hb.out.output, hb.out.size, hb.out.block⟩
  have hS2 := hide (hS.out w2.drew hbd)
  have hT2 := hide (hT.out w2.drew hbd)
  clear hS hT hH hM hc0
  go_wp2_with fail
  refine wp_region_noPanic ?_
  refine wp_region_held_drew (S := fun W => W.cell? ⟨g, 0, none⟩ = some (.slice (some ⟨pb, 0, none⟩) n n) ∧ W.heap[w.heap.size]? = some (.cells (fPv p).toArray 82 (0, 0))) (by kernel_rfl) ⟨c0, hrow2.out⟩ (fun hHeld => ?_)
  refine wpAnyH_take (i := 0) (oi := { dst := some 16, op := Op.move (Operand.tmp 0), type := 56, pos := "vlan.go:97", after := #[], guard := none }) (v := ?v1) rfl (by kernel_rfl) (by kernel_rfl) (by kernel_rfl) (fun _ _ _ h => h) (Or.inl ⟨by rfl, ?y1⟩) (by assumption) ?r1
  case y1 => (intro w hSw; (try dsimp only at hSw); (try (go_split_ands)); go_simp; try with_reducible rfl)
  try simp only [Act.put, List.setIfInBounds_toArray, List.set_cons_zero, List.set_cons_succ]
  refine wpAnyH_take (i := 1) (oi := { dst := some 17, op := Op.nilCheck (Operand.tmp 16), type := 0, pos := "vlan.go:97", after := #[{ on := 0, ground := Ground.data }], guard := none }) (v := ?v2) rfl (by kernel_rfl) (by kernel_rfl) (by kernel_rfl) (fun _ _ _ h => h) (Or.inl ⟨by rfl, ?y2⟩) (by assumption) ?r2
  case y2 => (intro w hSw; (try dsimp only at hSw); (try (go_split_ands)); go_simp; try with_reducible rfl)
  try simp only [Act.put, List.setIfInBounds_toArray, List.set_cons_zero, List.set_cons_succ]
  refine wpAnyH_take (i := 2) (oi := { dst := some 18, op := Op.fieldAddr 103 (Operand.tmp 17) 0, type := 0, pos := "vlan.go:97", after := #[{ on := 1, ground := Ground.data }], guard := none }) (v := ?v3) rfl (by kernel_rfl) (by kernel_rfl) (by kernel_rfl) (fun _ _ _ h => h) (Or.inl ⟨by rfl, ?y3⟩) (by assumption) ?r3
  case y3 => (intro w hSw; (try dsimp only at hSw); (try (go_split_ands)); go_simp; try with_reducible rfl)
  try simp only [Act.put, List.setIfInBounds_toArray, List.set_cons_zero, List.set_cons_succ]
  refine wpAnyH_take (i := 3) (oi := { dst := some 19, op := Op.load 100 (Operand.tmp 18), type := 100, pos := "vlan.go:97", after := #[{ on := 2, ground := Ground.data }], guard := none }) (v := ?v4) rfl (by kernel_rfl) (by kernel_rfl) (by kernel_rfl) (fun _ _ _ h => h) (Or.inl ⟨by rfl, ?y4⟩) (by assumption) ?r4
  case y4 => (intro w hSw; (try dsimp only at hSw); (try (go_split_ands)); go_simp; try with_reducible rfl)
  try simp only [Act.put, List.setIfInBounds_toArray, List.set_cons_zero, List.set_cons_succ]
  refine wpAnyH_take (i := 4) (oi := { dst := some 20, op := Op.move (Operand.tmp 1), type := 3, pos := "vlan.go:97", after := #[], guard := none }) (v := ?v5) rfl (by kernel_rfl) (by kernel_rfl) (by kernel_rfl) (fun _ _ _ h => h) (Or.inl ⟨by rfl, ?y5⟩) (by assumption) ?r5
  case y5 => (intro w hSw; (try dsimp only at hSw); (try (go_split_ands)); go_simp; try with_reducible rfl)
  try simp only [Act.put, List.setIfInBounds_toArray, List.set_cons_zero, List.set_cons_succ]
  refine wpAnyH_take (i := 5) (oi := { dst := some 21, op := Op.load 82 (Operand.tmp 5), type := 82, pos := "vlan.go:97", after := #[], guard := none }) (v := _) rfl (by kernel_rfl) (by kernel_rfl) (by kernel_rfl) (fun _ _ _ h => h) (yieldsIf_load_row (by rfl) 82 (.tmp 5) rfl w.heap.size rfl 82 _ (0, 0) _ (fun W hW => hW.2) Try.underlying82 rfl (pvSize p)) (by assumption) ?_
  try simp only [Act.put, List.setIfInBounds_toArray, List.set_cons_zero, List.set_cons_succ]
  refine wpAnyH_take (i := 6) (oi := { dst := some 22, op := Op.indexAddr 100 (Operand.tmp 19) (Operand.tmp 20), type := 0, pos := "vlan.go:97", after := #[{ on := 3, ground := Ground.data }, { on := 4, ground := Ground.data }, { on := 0, ground := Ground.phase }, { on := 1, ground := Ground.phase }, { on := 2, ground := Ground.phase }, { on := 3, ground := Ground.phase }, { on := 4, ground := Ground.phase }, { on := 5, ground := Ground.phase }], guard := none }) (v := ?v6) rfl (by kernel_rfl) (by kernel_rfl) (by kernel_rfl) (fun _ _ _ h => h) (Or.inl ⟨by rfl, ?y6⟩) (by assumption) ?r6
  case y6 => (intro w hSw; (try dsimp only at hSw); (try (go_split_ands)); go_simp; try with_reducible rfl)
  try simp only [Act.put, List.setIfInBounds_toArray, List.set_cons_zero, List.set_cons_succ]
  refine wpAnyH_ready (rs := [7]) (by kernel_rfl) (by simp) ?_
  refine AllReadyH.cons (o := { dst := none, op := Op.store 82 (Operand.tmp 22) (Operand.tmp 21), type := 0, pos := "vlan.go:97", after := #[{ on := 6, ground := Ground.data }, { on := 5, ground := Ground.data }, { on := 0, ground := Ground.phase }, { on := 1, ground := Ground.phase }, { on := 2, ground := Ground.phase }, { on := 3, ground := Ground.phase }, { on := 4, ground := Ground.phase }, { on := 5, ground := Ground.phase }], guard := none }) rfl (fun K hK => ?_) AllReadyH.nil
  refine step_storeB rfl 82 (.tmp 22) (.tmp 21) rfl pb (k * 4) (fPv p).toArray rfl rfl hT2.out (pvSize p) (pv_all p) ?_
  refine hK.out _ _ ⟨(World.cell?_of_block (heap_setCells_other pb _ _ _ g hne)).trans c0, (heap_setCells_other pb _ _ _ w.heap.size (by omega)).trans hrow2.out⟩ (fun hHeld7 => ?_)
  clear hK K
  try simp only [Act.put]
  refine wpAnyH_done (by kernel_rfl) ?_ _
  refine NoPanic.normal ?_
  have hS3 := hS2.out
  clear hS2 hT2 hHeld7 hHeld
  generalize w2.drew.setCells pb (k * 4) (fPv p) = w5 at *
  go_wp2
  go_ret
  exact ⟨rfl, hS3.1, (Ch.of_below hbd).trans hS3.2⟩
end
end Go.Proofs.Ytiahiakllpjliaa
