/-
  The walk of RoleDown. Conditions: those that the theorem names.
-/
import Derived.Test.YtaepjiakehkeoaaRoleA
namespace Go.Proofs.Ytaepjiakehkeoaa
open Go.RowKit
set_option linter.unusedVariables false
set_option maxRecDepth 20000

def downP (p : Rp) : Rp := ⟨p.id, p.cost, false, false, p.told⟩
def zeroP (p : Rp) : Rp := ⟨p.id, p.cost, false, true, Vc.zero⟩
theorem unhR {p : Prop} (h : Hid p) : p := h.out
set_option maxHeartbeats 4000000 in
theorem Rd_walk (b : Int) (a : Option Addr) (n cap : Nat) (ps : List Rp) (at_ : Int) (W : World) (hbU : U64 b) (hat : I64 at_) (hI : Rps W a n ps) :
    Calls Try.prog 5 #[.int .u64 b, .slice a n cap, .int .i64 at_] W fun e W' => e = .returned (.bool true) ∧ Below W.heap.size W W' := by
  replace hI := hide hI
  obtain ⟨hat0, hat1⟩ := hat
  go_enter Try.func5, Try.ntmps5
  go_wp2_with fail
  refine (selects_ok _).mono ?_
  rintro e w1 ⟨rfl, hb1⟩
  have hB1 := hide hb1
  have hI1 := hide (hI.out.below hb1)
  clear hb1 hI
  by_cases hz : n = 0
  · subst hz
    go_wp2
    go_ret
    exact ⟨rfl, hB1.out⟩
  have hzq : ((n : Int) == 0) = false := by rw [beq_eq_false_iff_ne]; omega
  by_cases hbig : 60 < n
  · go_wp2
    go_ret
    exact ⟨rfl, hB1.out⟩
  by_cases hneg : at_ < 0
  · go_wp2
    go_ret
    exact ⟨rfl, hB1.out⟩
  obtain ⟨k, hk, hkn⟩ : ∃ k : Nat, at_.tmod n = k ∧ k < n := by
    have h1 := Int.tmod_nonneg (n : Int) (show 0 ≤ at_ by omega)
    have h2 := Int.tmod_lt_of_pos at_ (show 0 < (n : Int) by omega)
    exact ⟨(at_.tmod n).toNat, by omega, by omega⟩
  obtain ⟨b0, off, hab⟩ : ∃ b0 off, a = some ⟨b0, off, none⟩ := by
    obtain ⟨b0, off, e, _⟩ := hI1.out.2 0 (by omega)
    exact ⟨b0, off, e⟩
  subst hab
  go_wp2_with (at_builtin; refine wpList_append_sl rfl (.tmp 30) (.tmp 31) rfl wide_P sty_P (.slice (some ⟨w1.heap.size, 0, none⟩) 0 0) [] rfl (Sl.made0 _ _ _) ⟨b0, off, none⟩ n cap ps rfl hI1.out.1.symm (fun j u hj => (hI1.out.below (below1 _ _)).cells j u hj) (by have := hI1.out.1; simp; omega) (by omega) ?_)
  intro v2 w2 hS2 hg2 ho2
  have hpl := hI1.out.1
  have hB2 : Hid (Below W.heap.size W w2) := grown_below hg2 (hB1.out.later (below1 w1 _)) (by have := hB1.out.size; rw [World.size_alloc]; omega) (fun x e => by
    simp only [Value.ownBlock, Option.some.injEq] at e
    have := hB1.out.size; omega)
  have hown2 : ∀ x, v2.ownBlock = some x → w1.heap.size ≤ x := fun x e => by
    rcases ho2 with e' | e'
    · rw [e'] at e; simp only [Value.ownBlock, Option.some.injEq] at e; omega
    · rw [e'] at e; simp only [Option.some.injEq] at e; omega
  obtain ⟨pA, cA, spA, rfl, hFA, hcA, hmA⟩ := hS2.at_i (by omega)
  have hpA : w1.heap.size ≤ pA := hown2 pA rfl
  have hWw1 := hB1.out.size
  clear hg2 ho2 hS2 hown2
  rw [hpl]
  have F2 := hide (((hFA.at_self Rp.zero k (by omega)).put1 wide_P 2 (.bool false) { ps.getD k Rp.zero with up := false } (by omega) (by omega) rfl).put1 wide_P 3 (.bool false) (downP (ps.getD k Rp.zero)) (by omega) (by omega) rfl)
  have hRA := (hFA.at_self Rp.zero k (by omega)).put8 (by omega)
  have c2 := hRA.c2
  have c3 := hRA.c3
  have z2 := hFA.frozen (k * 8 + 2)
  have z3 := hFA.frozen (k * 8 + 3)
  have hB3 := hide ((hB2.out.setCell (p := ⟨pA, k * 8 + 2, none⟩) (by show W.heap.size ≤ pA; omega) (.bool false)).setCell (p := ⟨pA, k * 8 + 3, none⟩) (by show W.heap.size ≤ pA; omega) (.bool false))
  clear hRA hFA
  refine unhR ?_
  refine hide ?_
  go_wp2_with (at_builtin; refine unhR ?_)
  --CUT1
  have hs3 : ((w2.setCell ⟨pA, k * 8 + 2, none⟩ (.bool false)).setCell ⟨pA, k * 8 + 3, none⟩ (.bool false)).heap.size = w2.heap.size := by simp [World.setCell]
  have hpA2 := F2.out.lt
  clear c2 c3 z2 z3 hB2
  generalize (w2.setCell ⟨pA, k * 8 + 2, none⟩ (.bool false)).setCell ⟨pA, k * 8 + 3, none⟩ (.bool false) = w3 at *
  rw [← hs3]
  have hl3 : (ps.set k (downP (ps.getD k Rp.zero))).length = n := by rw [List.length_set]; exact hpl
  refine hide ?_
  refine wpList_append_sl rfl (.tmp 41) (.tmp 42) rfl wide_P sty_P (.slice (some ⟨w3.heap.size, 0, none⟩) 0 0) [] rfl (Sl.made0 _ _ _) ⟨pA, 0, none⟩ n cA (ps.set k (downP (ps.getD k Rp.zero))) rfl hl3.symm (fun j u hj => (F2.out.below (below1 _ _)).cells j u hj) (by rw [hl3]; simp; omega) (by omega) ?_
  intro v4 w4 hS4 hg4 ho4
  have hFA4 := hide ((F2.out.below (below1 w3 (.cells #[] 38))).blk (hg4.block pA (by rw [World.size_alloc]; omega) (by simp only [Value.ownBlock, ne_eq, Option.some.injEq]; omega)))
  have hW3 := hB3.out.size
  have hB4 : Hid (Below W.heap.size W w4) := grown_below hg4 (hB3.out.later (below1 w3 _)) (by rw [World.size_alloc]; omega) (fun x e => by
    simp only [Value.ownBlock, Option.some.injEq] at e
    omega)
  have hown4 : ∀ x, v4.ownBlock = some x → w3.heap.size ≤ x := fun x e => by
    rcases ho4 with e' | e'
    · rw [e'] at e; simp only [Value.ownBlock, Option.some.injEq] at e; omega
    · rw [e', World.size_alloc] at e; simp only [Option.some.injEq] at e; omega
  simp only [List.nil_append] at hS4
  obtain ⟨pB, cB, spB, rfl, hFB, hcB, hmB⟩ := hS4.at_i (by omega)
  have hpB : w3.heap.size ≤ pB := hown4 pB rfl
  clear hg4 ho4 hS4 hown4 F2 hB3
  rw [hl3]
  have G1 := hFB.put1 wide_P 3 (.bool true) { downP (ps.getD k Rp.zero) with has := true } (by omega) (by omega) rfl
  have G2 := hide (G1.putm wide_P 4 (fV Vc.zero) (zeroP (ps.getD k Rp.zero)) (by omega) (by decide) rfl)
  have hth := hide (G1.there wide_P Rp.zero k 4 4 (by rw [List.length_set]; omega) (by omega))
  have d3 := (hFB.put8 (by omega)).c3
  have y3 := hFB.frozen (k * 8 + 3)
  have hB5 := hide (below_setCellsF (b := pB) (show W.heap.size ≤ pB by omega) (fV Vc.zero) (k * 8 + 4) _ (hB4.out.setCell (p := ⟨pB, k * 8 + 3, none⟩) (by show W.heap.size ≤ pB; omega) (.bool true)))
  have hFA5 := hide (hFA4.out.blk ((heap_setCells_other pB (fV Vc.zero) (k * 8 + 4) (w4.setCell ⟨pB, k * 8 + 3, none⟩ (.bool true)) pA (by omega)).trans (heap_setCell_other w4 ⟨pB, k * 8 + 3, none⟩ pA _ (by show pA ≠ pB; omega))))
  clear G1 hFB
  go_wp2_with (first | ((with_reducible change wpList _ _ _ _ _ _); refine wpList_store_mid rfl 26 (.tmp 52) (.tmp 48) rfl pB (k * 8 + 4) Vc.zero.row rfl rfl hth.out (vecSize Vc.zero) (Vc.row_all _) ?_; refine unhR ?_))
  clear d3 y3 hth hFA4 hB4
  generalize (w4.setCell ⟨pB, k * 8 + 3, none⟩ (.bool true)).setCells pB (k * 8 + 4) (fV Vc.zero) = w5 at *
  have hwfp : ∀ i, i < n → (ps.getD i Rp.zero).wf := fun i hi => by obtain ⟨_, _, _, _, h⟩ := hI1.out.2 i hi; exact h
  have hRA := hide (hFA5.out.rps (fun i hi => by
    rw [getD_set _ _ _ _ _ (by omega)]
    rw [hl3] at hi
    split
    · have := hwfp k hkn; exact ⟨this.id, this.cost, this.told⟩
    · exact hwfp i hi))
  have hRB := hide (G2.out.rps (fun i hi => by
    rw [getD_set _ _ _ _ _ (by omega)]
    rw [List.length_set] at hi
    split
    · have := hwfp k hkn; exact ⟨this.id, this.cost, ⟨by simp [zeroP, U64], by simp [zeroP, U64], by simp [zeroP, U64], by simp [zeroP, I64]⟩⟩
    · exact hwfp i (by omega)))
  rw [List.length_set, hpl] at hRA hRB
  have hsame := hide (roles_down b ps k (downP (ps.getD k Rp.zero)) (zeroP (ps.getD k Rp.zero)) (by omega) rfl rfl rfl)
  have hsY := hide (bestW_down b ps k (downP (ps.getD k Rp.zero)) (zeroP (ps.getD k Rp.zero)) (by omega) rfl rfl n)
  have hYwf : Hid ((bestW b (ps.set k (downP (ps.getD k Rp.zero))) n).v.wf) := bestW_wf b _ n hbU (fun i hi => by obtain ⟨_, _, _, _, h⟩ := hRA.out.2 i hi; exact h)
  have hro0 : Hid (roleV b (bestW b (ps.set k (downP (ps.getD k Rp.zero))) n) k ((ps.set k (downP (ps.getD k Rp.zero))).getD k Rp.zero) = 0) := by
    show _ = _
    rw [getD_set _ _ _ _ _ (by omega), if_pos rfl]
    rfl
  have hlA : (ps.set k (downP (ps.getD k Rp.zero))).length = n := hl3
  have hlB : (ps.set k (zeroP (ps.getD k Rp.zero))).length = n := by rw [List.length_set]; exact hpl
  generalize ps.set k (downP (ps.getD k Rp.zero)) = pa at *
  generalize ps.set k (zeroP (ps.getD k Rp.zero)) = pb at *
  clear hFA5 G2 hwfp hl3
  refine hide ?_
  go_wp2_with fail
  refine (Select_any b _ n cA pa w5 (by omega) hRA).mono ?_
  rintro e w6 ⟨ia, va, rfl, hb6, hle1, hle2, hne, hi6, hv6⟩
  have hSA6 : Hid (Sel w6 ia va n b pa) := ⟨hlA, hi6, hv6⟩
  have hRB6 := hide (hRB.out.below hb6)
  have hB6 := hide (hB5.out.later hb6)
  clear hi6 hv6 hb6 hRB hB5
  go_wp2_with fail
  refine (Select_any b _ n cB pb w6 (by omega) hRB6).mono ?_
  rintro e w7 ⟨ib, vb, rfl, hb7, hle3, hle4, hne2, hi7, hv7⟩
  have hSB7 : Hid (Sel w7 ib vb n b pb) := ⟨hlB, hi7, hv7⟩
  have hSA7 := hide (hSA6.out.below hb7)
  have hB7 := hide (hB6.out.later hb7)
  clear hi7 hv7 hb7 hRB6 hB6 hSA6
  rw [← hsY.out]
  --CUT2
  have hEA : Hid (∀ j, j < n → roleV b (bestW b pb n) j (pb.getD j Rp.zero) = roleV b (bestW b pa n) j (pa.getD j Rp.zero) ∧ tellV b (bestW b pb n) (pb.getD j Rp.zero) = tellV b (bestW b pa n) (pa.getD j Rp.zero)) := fun j hj => by
    have h1 : (rolesL b pa).getD j 0 = (rolesL b pb).getD j 0 := congrArg (fun l => l.getD j 0) hsame.out.1
    have h2 : (tellsL b pa).getD j Vc.zero = (tellsL b pb).getD j Vc.zero := congrArg (fun l => l.getD j Vc.zero) hsame.out.2
    rw [rolesL_at _ _ _ (by omega), rolesL_at _ _ _ (by omega), hlA, hlB] at h1
    rw [tellsL_at _ _ _ (by omega), tellsL_at _ _ _ (by omega), hlA, hlB] at h2
    exact ⟨h1.symm, h2.symm⟩
  have hTwf : Hid (∀ j, j < n → (tellV b (bestW b pa n) (pa.getD j Rp.zero)).wf) := fun j hj => tellV_wf hbU hYwf.out (by obtain ⟨_, _, _, _, h⟩ := hRA.out.2 j hj; exact h)
  have hvn : ∀ w, (binOp .neq 26 (.agg (bestW b pa n).v.row) (.agg (bestW b pa n).v.row)).run Try.prog w = .ok (.bool false) w := fun w => by rw [vec_neq _ _ hYwf.out hYwf.out]; simp
  have hk0 := hSA7.out.role k hkn
  rw [hro0.out] at hk0
  have hial := hSA7.out.ri.lt
  generalize hYE : bestW b pa n = Y at *
  replace hYE := hide hYE
  obtain ⟨⟨y0, y1, y2, y3⟩, y4, y5⟩ := Y
  dsimp only at *
  have hA8 := (below1 w7 (.cells (rolesRow ⟨y0, y1, y2, y3⟩ y4 (.slice (some ⟨ia, 0, none⟩) n n) (.slice (some ⟨va, 0, none⟩) n n)) 30)).later (below1 _ (.cells (rolesRow ⟨y0, y1, y2, y3⟩ y4 (.slice (some ⟨ib, 0, none⟩) n n) (.slice (some ⟨vb, 0, none⟩) n n)) 30))
  have hG1 := heap_alloc2_oldB w7 (.cells (rolesRow ⟨y0, y1, y2, y3⟩ y4 (.slice (some ⟨ia, 0, none⟩) n n) (.slice (some ⟨va, 0, none⟩) n n)) 30) (.cells (rolesRow ⟨y0, y1, y2, y3⟩ y4 (.slice (some ⟨ib, 0, none⟩) n n) (.slice (some ⟨vb, 0, none⟩) n n)) 30)
  have hG2 := heap_alloc2_newB w7 (.cells (rolesRow ⟨y0, y1, y2, y3⟩ y4 (.slice (some ⟨ia, 0, none⟩) n n) (.slice (some ⟨va, 0, none⟩) n n)) 30) (.cells (rolesRow ⟨y0, y1, y2, y3⟩ y4 (.slice (some ⟨ib, 0, none⟩) n n) (.slice (some ⟨vb, 0, none⟩) n n)) 30)
  have hS8a := hide (hSA7.out.below hA8)
  have hS8b := hide (hSB7.out.below hA8)
  have hB8 := hide (hB7.out.later hA8)
  have hk8 : ((w7.alloc (.cells (rolesRow ⟨y0, y1, y2, y3⟩ y4 (.slice (some ⟨ia, 0, none⟩) n n) (.slice (some ⟨va, 0, none⟩) n n)) 30)).alloc (.cells (rolesRow ⟨y0, y1, y2, y3⟩ y4 (.slice (some ⟨ib, 0, none⟩) n n) (.slice (some ⟨vb, 0, none⟩) n n)) 30)).cell? ⟨ia, k, none⟩ = some (.int .i64 0) := (hA8.cell (p := ⟨ia, k, none⟩) hial).trans hk0
  replace hG1 := hide hG1
  replace hG2 := hide hG2
  clear hA8 hSA7 hSB7 hB7 hsame hro0
  go_wp2_with fail
  clear hk0 hk8 hvn
  generalize (w7.alloc (.cells (rolesRow ⟨y0, y1, y2, y3⟩ y4 (.slice (some ⟨ia, 0, none⟩) n n) (.slice (some ⟨va, 0, none⟩) n n)) 30)).alloc (.cells (rolesRow ⟨y0, y1, y2, y3⟩ y4 (.slice (some ⟨ib, 0, none⟩) n n) (.slice (some ⟨vb, 0, none⟩) n n)) 30) = w8 at *
  generalize hg2 : w7.heap.size + 1 = g2 at *
  generalize w7.heap.size = g1 at *
  replace hg2 := hide hg2
  go_loopw [91] (fun i wr => ∃ j : Nat, j ≤ n ∧ i = .int .i64 j ∧ Hid (Below w8.heap.size w8 wr)) (fun i _ => n - (intOf i).toNat)
  case atStart => exact ⟨0, Nat.zero_le _, rfl, hide (Below.refl _ _)⟩
  case round =>
    obtain ⟨j, hj, rfl, hB⟩ := hrel
    by_cases hlt : j < n
    · have hra := (hS8a.out.below hB.out).role j hlt
      have hta := (hS8a.out.below hB.out).tell j hlt
      have hrb := (hS8b.out.below hB.out).role j hlt
      have htb := (hS8b.out.below hB.out).tell j hlt
      rw [(hEA.out j hlt).1] at hrb
      rw [(hEA.out j hlt).2] at htb
      have hw := hide (hTwf.out j hlt)
      rw [hYE.out] at hra hta
      generalize roleV b ⟨⟨y0, y1, y2, y3⟩, y4, y5⟩ j (pa.getD j Rp.zero) = ro at *
      generalize tellV b ⟨⟨y0, y1, y2, y3⟩, y4, y5⟩ (pa.getD j Rp.zero) = tv at *
      obtain ⟨t0, t1, t2, t3⟩ := tv
      obtain ⟨q0, q1, q2, q3⟩ := hta
      obtain ⟨r0, r1, r2, r3⟩ := htb
      dsimp only at *
      have hvn : ∀ w, (binOp .neq 26 (.agg (Vc.row ⟨t0, t1, t2, t3⟩)) (.agg (Vc.row ⟨t0, t1, t2, t3⟩))).run Try.prog w = .ok (.bool false) w := fun w => by rw [vec_neq _ _ hw.out hw.out]; simp
      have k1 := heap_kept hB.out hG1.out
      have k2 := heap_kept hB.out hG2.out
      have e5 : wr.cell? ⟨g1, 5, none⟩ = some (.slice (some ⟨ia, 0, none⟩) n n) := (cell_of_row _ _ _ _ _ _ k1).trans rfl
      have e6 : wr.cell? ⟨g1, 6, none⟩ = some (.slice (some ⟨va, 0, none⟩) n n) := (cell_of_row _ _ _ _ _ _ k1).trans rfl
      have f5 : wr.cell? ⟨g2, 5, none⟩ = some (.slice (some ⟨ib, 0, none⟩) n n) := (cell_of_row _ _ _ _ _ _ k2).trans rfl
      have f6 : wr.cell? ⟨g2, 6, none⟩ = some (.slice (some ⟨vb, 0, none⟩) n n) := (cell_of_row _ _ _ _ _ _ k2).trans rfl
      clear k1 k2 hw
      have hBn := hide (below_drewN hB.out 1)
      go_wp2_with fail
      refine wp_region_noPanic ?_
      refine wp_region_held_drew (S := fun W => W.cell? ⟨g1, 5, none⟩ = some (.slice (some ⟨ia, 0, none⟩) n n) ∧ W.cell? ⟨g1, 6, none⟩ = some (.slice (some ⟨va, 0, none⟩) n n) ∧ W.cell? ⟨g2, 5, none⟩ = some (.slice (some ⟨ib, 0, none⟩) n n) ∧ W.cell? ⟨g2, 6, none⟩ = some (.slice (some ⟨vb, 0, none⟩) n n) ∧ W.cell? ⟨ia, j, none⟩ = some (.int .i64 ro) ∧ W.cell? ⟨ib, j, none⟩ = some (.int .i64 ro) ∧ W.cell? ⟨va, j * 4, none⟩ = some (.int .u64 t0) ∧ W.cell? ⟨va, j * 4 + 1, none⟩ = some (.int .u64 t1) ∧ W.cell? ⟨va, j * 4 + 2, none⟩ = some (.int .u64 t2) ∧ W.cell? ⟨va, j * 4 + 3, none⟩ = some (.int .i64 t3) ∧ W.cell? ⟨vb, j * 4, none⟩ = some (.int .u64 t0) ∧ W.cell? ⟨vb, j * 4 + 1, none⟩ = some (.int .u64 t1) ∧ W.cell? ⟨vb, j * 4 + 2, none⟩ = some (.int .u64 t2) ∧ W.cell? ⟨vb, j * 4 + 3, none⟩ = some (.int .i64 t3)) (by kernel_rfl) ⟨e5, e6, f5, f6, hra, hrb, q0, q1, q2, q3, r0, r1, r2, r3⟩ (fun hHeld => ?_)
      refine wpAnyH_take (i := 0) (oi := { dst := some 94, op := Op.fieldAddr 30 (Operand.tmp 9) 2, type := 0, pos := "law.go:108", after := #[], guard := none }) (v := ?v1) rfl (by kernel_rfl) (by kernel_rfl) (by kernel_rfl) (fun _ _ _ h => h) (Or.inl ⟨by rfl, ?y1⟩) (by assumption) ?r1
      case y1 => (intro w hSw; (try dsimp only at hSw); (try (go_split_ands)); go_simp; try with_reducible rfl)
      try simp only [Act.put, List.setIfInBounds_toArray, List.set_cons_zero, List.set_cons_succ]
      refine wpAnyH_take (i := 1) (oi := { dst := some 95, op := Op.load 27 (Operand.tmp 94), type := 27, pos := "law.go:108", after := #[{ on := 0, ground := Ground.data }], guard := none }) (v := ?v2) rfl (by kernel_rfl) (by kernel_rfl) (by kernel_rfl) (fun _ _ _ h => h) (Or.inl ⟨by rfl, ?y2⟩) (by assumption) ?r2
      case y2 => (intro w hSw; (try dsimp only at hSw); (try (go_split_ands)); go_simp; try with_reducible rfl)
      try simp only [Act.put, List.setIfInBounds_toArray, List.set_cons_zero, List.set_cons_succ]
      refine wpAnyH_take (i := 2) (oi := { dst := some 96, op := Op.move (Operand.tmp 11), type := 3, pos := "law.go:108", after := #[], guard := none }) (v := ?v3) rfl (by kernel_rfl) (by kernel_rfl) (by kernel_rfl) (fun _ _ _ h => h) (Or.inl ⟨by rfl, ?y3⟩) (by assumption) ?r3
      case y3 => (intro w hSw; (try dsimp only at hSw); (try (go_split_ands)); go_simp; try with_reducible rfl)
      try simp only [Act.put, List.setIfInBounds_toArray, List.set_cons_zero, List.set_cons_succ]
      refine wpAnyH_take (i := 3) (oi := { dst := some 97, op := Op.indexAddr 27 (Operand.tmp 95) (Operand.tmp 96), type := 0, pos := "law.go:108", after := #[{ on := 1, ground := Ground.data }, { on := 2, ground := Ground.data }], guard := none }) (v := ?v4) rfl (by kernel_rfl) (by kernel_rfl) (by kernel_rfl) (fun _ _ _ h => h) (Or.inl ⟨by rfl, ?y4⟩) (by assumption) ?r4
      case y4 => (intro w hSw; (try dsimp only at hSw); (try (go_split_ands)); go_simp; try with_reducible rfl)
      try simp only [Act.put, List.setIfInBounds_toArray, List.set_cons_zero, List.set_cons_succ]
      refine wpAnyH_take (i := 4) (oi := { dst := some 98, op := Op.load 3 (Operand.tmp 97), type := 3, pos := "law.go:108", after := #[{ on := 3, ground := Ground.data }], guard := none }) (v := ?v5) rfl (by kernel_rfl) (by kernel_rfl) (by kernel_rfl) (fun _ _ _ h => h) (Or.inl ⟨by rfl, ?y5⟩) (by assumption) ?r5
      case y5 => (intro w hSw; (try dsimp only at hSw); (try (go_split_ands)); go_simp; try with_reducible rfl)
      try simp only [Act.put, List.setIfInBounds_toArray, List.set_cons_zero, List.set_cons_succ]
      refine wpAnyH_take (i := 5) (oi := { dst := some 99, op := Op.fieldAddr 30 (Operand.tmp 10) 2, type := 0, pos := "law.go:108", after := #[], guard := none }) (v := ?v6) rfl (by kernel_rfl) (by kernel_rfl) (by kernel_rfl) (fun _ _ _ h => h) (Or.inl ⟨by rfl, ?y6⟩) (by assumption) ?r6
      case y6 => (intro w hSw; (try dsimp only at hSw); (try (go_split_ands)); go_simp; try with_reducible rfl)
      try simp only [Act.put, List.setIfInBounds_toArray, List.set_cons_zero, List.set_cons_succ]
      refine wpAnyH_take (i := 6) (oi := { dst := some 100, op := Op.load 27 (Operand.tmp 99), type := 27, pos := "law.go:108", after := #[{ on := 5, ground := Ground.data }], guard := none }) (v := ?v7) rfl (by kernel_rfl) (by kernel_rfl) (by kernel_rfl) (fun _ _ _ h => h) (Or.inl ⟨by rfl, ?y7⟩) (by assumption) ?r7
      case y7 => (intro w hSw; (try dsimp only at hSw); (try (go_split_ands)); go_simp; try with_reducible rfl)
      try simp only [Act.put, List.setIfInBounds_toArray, List.set_cons_zero, List.set_cons_succ]
      refine wpAnyH_take (i := 7) (oi := { dst := some 101, op := Op.move (Operand.tmp 11), type := 3, pos := "law.go:108", after := #[], guard := none }) (v := ?v8) rfl (by kernel_rfl) (by kernel_rfl) (by kernel_rfl) (fun _ _ _ h => h) (Or.inl ⟨by rfl, ?y8⟩) (by assumption) ?r8
      case y8 => (intro w hSw; (try dsimp only at hSw); (try (go_split_ands)); go_simp; try with_reducible rfl)
      try simp only [Act.put, List.setIfInBounds_toArray, List.set_cons_zero, List.set_cons_succ]
      refine wpAnyH_take (i := 8) (oi := { dst := some 102, op := Op.indexAddr 27 (Operand.tmp 100) (Operand.tmp 101), type := 0, pos := "law.go:108", after := #[{ on := 6, ground := Ground.data }, { on := 7, ground := Ground.data }], guard := none }) (v := ?v9) rfl (by kernel_rfl) (by kernel_rfl) (by kernel_rfl) (fun _ _ _ h => h) (Or.inl ⟨by rfl, ?y9⟩) (by assumption) ?r9
      case y9 => (intro w hSw; (try dsimp only at hSw); (try (go_split_ands)); go_simp; try with_reducible rfl)
      try simp only [Act.put, List.setIfInBounds_toArray, List.set_cons_zero, List.set_cons_succ]
      refine wpAnyH_take (i := 9) (oi := { dst := some 103, op := Op.load 3 (Operand.tmp 102), type := 3, pos := "law.go:108", after := #[{ on := 8, ground := Ground.data }], guard := none }) (v := ?v10) rfl (by kernel_rfl) (by kernel_rfl) (by kernel_rfl) (fun _ _ _ h => h) (Or.inl ⟨by rfl, ?y10⟩) (by assumption) ?r10
      case y10 => (intro w hSw; (try dsimp only at hSw); (try (go_split_ands)); go_simp; try with_reducible rfl)
      try simp only [Act.put, List.setIfInBounds_toArray, List.set_cons_zero, List.set_cons_succ]
      refine wpAnyH_take (i := 10) (oi := { dst := some 104, op := Op.binOp BinOp.neq 3 (Operand.tmp 98) (Operand.tmp 103) 3, type := 4, pos := "law.go:108", after := #[{ on := 4, ground := Ground.data }, { on := 9, ground := Ground.data }], guard := none }) (v := ?v11) rfl (by kernel_rfl) (by kernel_rfl) (by kernel_rfl) (fun _ _ _ h => h) (Or.inl ⟨by rfl, ?y11⟩) (by assumption) ?r11
      case y11 => (intro w hSw; (try dsimp only at hSw); (try (go_split_ands)); go_simp; try with_reducible rfl)
      try simp only [Act.put, List.setIfInBounds_toArray, List.set_cons_zero, List.set_cons_succ]
      refine wpAnyH_take (i := 11) (oi := { dst := some 105, op := Op.move (Operand.tmp 104), type := 4, pos := "law.go:108", after := #[{ on := 10, ground := Ground.data }], guard := none }) (v := ?v12) rfl (by kernel_rfl) (by kernel_rfl) (by kernel_rfl) (fun _ _ _ h => h) (Or.inl ⟨by rfl, ?y12⟩) (by assumption) ?r12
      case y12 => (intro w hSw; (try dsimp only at hSw); (try (go_split_ands)); go_simp; try with_reducible rfl)
      try simp only [Act.put, List.setIfInBounds_toArray, List.set_cons_zero, List.set_cons_succ]
      refine wpAnyH_take (i := 12) (oi := { dst := some 106, op := Op.fieldAddr 30 (Operand.tmp 9) 3, type := 0, pos := "law.go:108", after := #[{ on := 11, ground := Ground.guard }], guard := some (11, false) }) (v := ?v13) rfl (by kernel_rfl) (by kernel_rfl) (by kernel_rfl) (fun _ _ _ h => h) (Or.inl ⟨by rfl, ?y13⟩) (by assumption) ?r13
      case y13 => (intro w hSw; (try dsimp only at hSw); (try (go_split_ands)); go_simp; try with_reducible rfl)
      try simp only [Act.put, List.setIfInBounds_toArray, List.set_cons_zero, List.set_cons_succ]
      refine wpAnyH_take (i := 13) (oi := { dst := some 107, op := Op.load 28 (Operand.tmp 106), type := 28, pos := "law.go:108", after := #[{ on := 12, ground := Ground.data }, { on := 11, ground := Ground.guard }], guard := some (11, false) }) (v := ?v14) rfl (by kernel_rfl) (by kernel_rfl) (by kernel_rfl) (fun _ _ _ h => h) (Or.inl ⟨by rfl, ?y14⟩) (by assumption) ?r14
      case y14 => (intro w hSw; (try dsimp only at hSw); (try (go_split_ands)); go_simp; try with_reducible rfl)
      try simp only [Act.put, List.setIfInBounds_toArray, List.set_cons_zero, List.set_cons_succ]
      refine wpAnyH_take (i := 14) (oi := { dst := some 108, op := Op.move (Operand.tmp 11), type := 3, pos := "law.go:108", after := #[{ on := 11, ground := Ground.guard }], guard := some (11, false) }) (v := ?v15) rfl (by kernel_rfl) (by kernel_rfl) (by kernel_rfl) (fun _ _ _ h => h) (Or.inl ⟨by rfl, ?y15⟩) (by assumption) ?r15
      case y15 => (intro w hSw; (try dsimp only at hSw); (try (go_split_ands)); go_simp; try with_reducible rfl)
      try simp only [Act.put, List.setIfInBounds_toArray, List.set_cons_zero, List.set_cons_succ]
      refine wpAnyH_take (i := 15) (oi := { dst := some 109, op := Op.indexAddr 28 (Operand.tmp 107) (Operand.tmp 108), type := 0, pos := "law.go:108", after := #[{ on := 13, ground := Ground.data }, { on := 14, ground := Ground.data }, { on := 11, ground := Ground.guard }], guard := some (11, false) }) (v := ?v16) rfl (by kernel_rfl) (by kernel_rfl) (by kernel_rfl) (fun _ _ _ h => h) (Or.inl ⟨by rfl, ?y16⟩) (by assumption) ?r16
      case y16 => (intro w hSw; (try dsimp only at hSw); (try (go_split_ands)); go_simp; try with_reducible rfl)
      try simp only [Act.put, List.setIfInBounds_toArray, List.set_cons_zero, List.set_cons_succ]
      refine wpAnyH_take (i := 16) (oi := { dst := some 110, op := Op.load 26 (Operand.tmp 109), type := 26, pos := "law.go:108", after := #[{ on := 15, ground := Ground.data }, { on := 11, ground := Ground.guard }], guard := some (11, false) }) (v := ?v17) rfl (by kernel_rfl) (by kernel_rfl) (by kernel_rfl) (fun _ _ _ h => h) (Or.inl ⟨by rfl, ?y17⟩) (by assumption) ?r17
      case y17 => (intro w hSw; (try dsimp only at hSw); (try (go_split_ands)); go_simp; try with_reducible rfl)
      try simp only [Act.put, List.setIfInBounds_toArray, List.set_cons_zero, List.set_cons_succ]
      refine wpAnyH_take (i := 17) (oi := { dst := some 111, op := Op.fieldAddr 30 (Operand.tmp 10) 3, type := 0, pos := "law.go:108", after := #[{ on := 11, ground := Ground.guard }], guard := some (11, false) }) (v := ?v18) rfl (by kernel_rfl) (by kernel_rfl) (by kernel_rfl) (fun _ _ _ h => h) (Or.inl ⟨by rfl, ?y18⟩) (by assumption) ?r18
      case y18 => (intro w hSw; (try dsimp only at hSw); (try (go_split_ands)); go_simp; try with_reducible rfl)
      try simp only [Act.put, List.setIfInBounds_toArray, List.set_cons_zero, List.set_cons_succ]
      refine wpAnyH_take (i := 18) (oi := { dst := some 112, op := Op.load 28 (Operand.tmp 111), type := 28, pos := "law.go:108", after := #[{ on := 17, ground := Ground.data }, { on := 11, ground := Ground.guard }], guard := some (11, false) }) (v := ?v19) rfl (by kernel_rfl) (by kernel_rfl) (by kernel_rfl) (fun _ _ _ h => h) (Or.inl ⟨by rfl, ?y19⟩) (by assumption) ?r19
      case y19 => (intro w hSw; (try dsimp only at hSw); (try (go_split_ands)); go_simp; try with_reducible rfl)
      try simp only [Act.put, List.setIfInBounds_toArray, List.set_cons_zero, List.set_cons_succ]
      refine wpAnyH_take (i := 19) (oi := { dst := some 113, op := Op.move (Operand.tmp 11), type := 3, pos := "law.go:108", after := #[{ on := 11, ground := Ground.guard }], guard := some (11, false) }) (v := ?v20) rfl (by kernel_rfl) (by kernel_rfl) (by kernel_rfl) (fun _ _ _ h => h) (Or.inl ⟨by rfl, ?y20⟩) (by assumption) ?r20
      case y20 => (intro w hSw; (try dsimp only at hSw); (try (go_split_ands)); go_simp; try with_reducible rfl)
      try simp only [Act.put, List.setIfInBounds_toArray, List.set_cons_zero, List.set_cons_succ]
      refine wpAnyH_take (i := 20) (oi := { dst := some 114, op := Op.indexAddr 28 (Operand.tmp 112) (Operand.tmp 113), type := 0, pos := "law.go:108", after := #[{ on := 18, ground := Ground.data }, { on := 19, ground := Ground.data }, { on := 11, ground := Ground.guard }], guard := some (11, false) }) (v := ?v21) rfl (by kernel_rfl) (by kernel_rfl) (by kernel_rfl) (fun _ _ _ h => h) (Or.inl ⟨by rfl, ?y21⟩) (by assumption) ?r21
      case y21 => (intro w hSw; (try dsimp only at hSw); (try (go_split_ands)); go_simp; try with_reducible rfl)
      try simp only [Act.put, List.setIfInBounds_toArray, List.set_cons_zero, List.set_cons_succ]
      refine wpAnyH_take (i := 21) (oi := { dst := some 115, op := Op.load 26 (Operand.tmp 114), type := 26, pos := "law.go:108", after := #[{ on := 20, ground := Ground.data }, { on := 11, ground := Ground.guard }], guard := some (11, false) }) (v := ?v22) rfl (by kernel_rfl) (by kernel_rfl) (by kernel_rfl) (fun _ _ _ h => h) (Or.inl ⟨by rfl, ?y22⟩) (by assumption) ?r22
      case y22 => (intro w hSw; (try dsimp only at hSw); (try (go_split_ands)); go_simp; try with_reducible rfl)
      try simp only [Act.put, List.setIfInBounds_toArray, List.set_cons_zero, List.set_cons_succ]
      refine wpAnyH_take (i := 22) (oi := { dst := some 116, op := Op.binOp BinOp.neq 26 (Operand.tmp 110) (Operand.tmp 115) 26, type := 4, pos := "law.go:108", after := #[{ on := 16, ground := Ground.data }, { on := 21, ground := Ground.data }, { on := 11, ground := Ground.guard }], guard := some (11, false) }) (v := ?v23) rfl (by kernel_rfl) (by kernel_rfl) (by kernel_rfl) (fun _ _ _ h => h) (Or.inl ⟨by rfl, ?y23⟩) (by assumption) ?r23
      case y23 => (intro w hSw; (try dsimp only at hSw); (try (go_split_ands)); go_simp; try with_reducible rfl)
      try simp only [Act.put, List.setIfInBounds_toArray, List.set_cons_zero, List.set_cons_succ]
      refine wpAnyH_take (i := 23) (oi := { dst := some 117, op := Op.pick (Operand.tmp 105) (Operand.const (Value.bool true)) (Operand.tmp 116), type := 4, pos := "law.go:108", after := #[{ on := 11, ground := Ground.data }, { on := 22, ground := Ground.data }], guard := none }) (v := ?v24) rfl (by kernel_rfl) (by kernel_rfl) (by kernel_rfl) (fun _ _ _ h => h) (Or.inl ⟨by rfl, ?y24⟩) (by assumption) ?r24
      case y24 => (intro w hSw; (try dsimp only at hSw); (try (go_split_ands)); go_simp; try with_reducible rfl)
      try simp only [Act.put, List.setIfInBounds_toArray, List.set_cons_zero, List.set_cons_succ]
      refine wpAnyH_done (by kernel_rfl) ?_ _
      refine NoPanic.normal ?_
      clear hHeld e5 e6 f5 f6 hra hrb q0 q1 q2 q3 r0 r1 r2 r3 hvn
      go_wp2
      go_round
      case rel => exact ⟨j + 1, by omega, by go_num, hBn⟩
      case measure => simp [intOf]; omega
    · obtain rfl : j = n := by omega
      go_wp2
      go_ret
      exact ⟨rfl, hB8.out.later hB.out⟩
end Go.Proofs.Ytaepjiakehkeoaa
