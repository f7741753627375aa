
/-
  Contracts of bpdu.numbersFit, checkNotice and Check; of Group, firstFive and Reserved. Conditions: those that each theorem names.
-/
import Derived.Test.YtoejoneecanbbaaBp1T
namespace Go.Proofs.Ytoejoneecanbbaa
open Go.RowKit
set_option linter.unusedVariables false

/-- A whole row is stored into a block that was just made (its number spelled otherwise). -/
theorem wpList_store_fresh_at {P : Program} {ops : Array Oper} {rest : List Oper} {o : Oper} {a : Act} {w2 : World} {Q : Exit → Act → World → Prop} (hgd : o.guard = none) (ty : TypeId) (x y : Operand) (ho : o.op = .store ty x y)
    (g : Nat) (hg : g = w2.heap.size) (cells old : Array Value) (hx : a.eval x = .pointer (some ⟨g, 0, none⟩)) (hy : a.eval y = .agg cells)
    (t : TypeId) (hi : (P.info? ty).map (·.size) = some cells.size) (hold : old.size = cells.size) (h1 : cells.all (·.oneCell') = true)
    (h : ∀ w3 : World, w3.heap[g]? = some (.cells cells t (0, 0)) → Below w2.heap.size w2 w3 → wpList P ops Q rest (a.put o.dst undef) w3) : wpList P ops Q (o :: rest) a (w2.alloc (.cells old t)) := by
  subst hg
  exact wpList_store_fresh hgd ty x y ho cells old hx hy t hi hold h1 h
theorem unhB {p : Prop} (h : Hid p) : p := h.out
def pairB (n : Int) : Bool := decide (0 ≤ n ∧ n ≤ 65535)
def Bp.five (b : Bp) : List Int := [b.port, b.age, b.maxAge, b.hello, b.delay]
def numsB (b : Bp) : Bool := decide (0 ≤ b.role ∧ b.role ≤ 3 ∧ b.cost ≤ 4294967295) && b.five.all pairB
theorem five_index (a b c d e : Int) (j : Nat) (h : j < 5) (w : World) : (Instr.index 88 (.agg #[.int .i64 a, .int .i64 b, .int .i64 c, .int .i64 d, .int .i64 e]) (.int .i64 j)).run Try.prog w = .ok (.int .i64 ([a, b, c, d, e].getD j 0)) w := by
  rcases (show j = 0 ∨ j = 1 ∨ j = 2 ∨ j = 3 ∨ j = 4 by omega) with rfl | rfl | rfl | rfl | rfl
  all_goals kernel_rfl
theorem all_five {l : List Int} (hl : l.length = 5) : l.all pairB = true ↔ ∀ t, t < 5 → 0 ≤ l.getD t 0 ∧ l.getD t 0 ≤ 65535 := by
  match l, hl with
  | [a, b, c, d, e], _ =>
    simp only [List.all_cons, List.all_nil, Bool.and_true, Bool.and_eq_true, pairB, decide_eq_true_eq]
    constructor
    · rintro ⟨h0, h1, h2, h3, h4⟩ t ht
      rcases (show t = 0 ∨ t = 1 ∨ t = 2 ∨ t = 3 ∨ t = 4 by omega) with rfl | rfl | rfl | rfl | rfl
      · exact h0
      · exact h1
      · exact h2
      · exact h3
      · exact h4
    · intro h
      exact ⟨h 0 (by decide), h 1 (by decide), h 2 (by decide), h 3 (by decide), h 4 (by decide)⟩
theorem numbersFit_any (b : Bp) (w : World) :
    Calls Try.prog 30 #[.agg b.row] w fun e w' => e = .returned (.bool (numsB b)) ∧ Below w.heap.size w w' := by
  have hN : Hid (numsB b = (decide (0 ≤ b.role ∧ b.role ≤ 3 ∧ b.cost ≤ 4294967295) && b.five.all pairB)) := rfl
  have hA := hide (all_five (l := b.five) rfl)
  obtain ⟨kind, root, cost, bridge, port, change, ack, proposal, agreement, learning, forwarding, role, age, maxAge, hello, delay⟩ := b
  simp only [Bp.five] at hN hA
  have hix := hide (fun j h w => five_index port age maxAge hello delay j h w)
  generalize numsB ⟨kind, root, cost, bridge, port, change, ack, proposal, agreement, learning, forwarding, role, age, maxAge, hello, delay⟩ = NB at *
  by_cases r0 : role < 0
  · go_enter Try.func30, Try.ntmps30
    go_wp2
    go_ret
    refine ⟨ret_bool ?_, below1 _ _⟩
    rw [hN.out, decide_eq_false (by omega)]; rfl
  by_cases r1 : 3 < role
  · go_enter Try.func30, Try.ntmps30
    go_wp2
    go_ret
    refine ⟨ret_bool ?_, below1 _ _⟩
    rw [hN.out, decide_eq_false (by omega)]; rfl
  by_cases c0 : 4294967295 < cost
  · go_enter Try.func30, Try.ntmps30
    go_wp2
    go_ret
    refine ⟨ret_bool ?_, below1 _ _⟩
    rw [hN.out, decide_eq_false (by omega)]; rfl
  have hN2 : Hid (NB = [port, age, maxAge, hello, delay].all pairB) := by
    show NB = _
    rw [hN.out, decide_eq_true (by omega)]; rfl
  clear hN
  go_enter Try.func30, Try.ntmps30
  go_wp2
  generalize hl : [port, age, maxAge, hello, delay] = l at *
  clear hl
  go_loop [31] (fun i => ∃ j : Nat, j ≤ 5 ∧ i = .int .i64 j ∧ Hid (∀ t, t < j → 0 ≤ l.getD t 0 ∧ l.getD t 0 ≤ 65535)) (fun i => 5 - (intOf i).toNat)
  case atStart => exact ⟨0, Nat.zero_le _, rfl, fun t ht => by omega⟩
  case round =>
    obtain ⟨j, hj, rfl, HJ⟩ := hrel
    by_cases hlt : j < 5
    · have hixj := fun w => hix.out j hlt w
      by_cases hb : 0 ≤ l.getD j 0 ∧ l.getD j 0 ≤ 65535
      · have HB := hide hb
        obtain ⟨hb1, hb2⟩ := hb
        generalize hx : l.getD j 0 = x at *
        have HX := hide hx
        clear hx
        go_wp2
        go_round
        case rel => exact ⟨j + 1, by omega, by go_num, fun t ht => by
          by_cases e : t = j
          · subst e; rw [HX.out]; exact HB.out
          · exact HJ.out t (by omega)⟩
        case measure => simp [intOf]; omega
      · have hfalse : Hid (NB = false) := by
          show NB = false
          rw [hN2.out]
          cases hq : l.all pairB
          · rfl
          · exact absurd (hA.out.1 hq j hlt) hb
        rcases (show l.getD j 0 < 0 ∨ (0 ≤ l.getD j 0 ∧ 65535 < l.getD j 0) from by omega) with hb1 | ⟨hb1, hb2⟩
        all_goals
          generalize l.getD j 0 = x at *
          clear hb
          go_wp2
          go_ret
          exact ⟨ret_bool (by rw [hfalse.out]), below1 _ _⟩
    · obtain rfl : j = 5 := by omega
      go_wp2
      go_ret
      refine ⟨ret_bool ?_, below1 _ _⟩
      rw [hN2.out]
      exact (hA.out.2 HJ.out).symm

@[reducible] def Bp.bare : Bp := ⟨2, 0, 0, 0, 0, false, false, false, false, false, false, 0, 0, 0, 0, 0⟩
theorem bare_wf : Bp.bare.wf := ⟨⟨by decide, by decide⟩, ⟨by decide, by decide⟩, ⟨by decide, by decide⟩, ⟨by decide, by decide⟩, ⟨by decide, by decide⟩, ⟨by decide, by decide⟩, ⟨by decide, by decide⟩, ⟨by decide, by decide⟩, ⟨by decide, by decide⟩, ⟨by decide, by decide⟩⟩
set_option maxRecDepth 20000 in
theorem checkNotice_any (b : Bp) (w : World) (hW : b.wf) :
    Calls Try.prog 29 #[.agg b.row] w fun e w' => e = .returned (.int .i64 (if b = Bp.bare then (0 : Int) else 1)) ∧ Below w.heap.size w w' := by
  have hk := heap_alloc_new w (.cells b.row 40)
  have hgd := eqGuard_bp
  have hne := fun w => bp_neq b Bp.bare hW bare_wf w
  have hR : Hid ((if b = Bp.bare then (0 : Int) else 1) = if decide (b = Bp.bare) then 0 else 1) := by
    by_cases h : b = Bp.bare
    · rw [if_pos h, decide_eq_true h]; rfl
    · rw [if_neg h, decide_eq_false h]; rfl
  generalize (if b = Bp.bare then (0 : Int) else 1) = R at *
  cases hq : decide (b = Bp.bare)
  all_goals
    rw [hq] at hne hR
    go_enter Try.func29, Try.ntmps29
    go_wp2_with ((with_reducible change wpList _ _ _ _ _ _); refine wpList_store_fresh_at rfl 40 (.tmp 3) (.tmp 4) rfl (w.heap.size + 1) (World.size_alloc _ _).symm Bp.bare.row Bp.zero.row rfl rfl 40 (bpSize _) rfl (Bp.row_all _) ?_; intro w2 hH2 hb2; refine unhB ?_)
    have hk2 := heap_kept hb2 hk
    refine hide ?_
    go_wp2_with (first | ((with_reducible change wpList _ _ _ _ _ _); refine wpList_load_row rfl 40 (.tmp 1) rfl w.heap.size rfl 40 _ _ _ hk2 Try.underlying40 rfl (bpSize _) ?_) | ((with_reducible change wpList _ _ _ _ _ _); refine wpList_load_row rfl 40 (.tmp 3) rfl (w.heap.size + 1) rfl 40 _ _ _ hH2 Try.underlying40 rfl (bpSize _) ?_))
    go_ret
    exact ⟨ret_i64 (by rw [hR.out]; rfl), (below1 _ _).later hb2⟩
end Go.Proofs.Ytoejoneecanbbaa
