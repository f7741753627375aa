/-
  Contracts of a row's functions. Conditions: those that each theorem names.
-/
import Derived.Test.YtjfjohbibkidhaaRing2
namespace Go.Proofs.Ytjfjohbibkidhaa
open Go.RowKit
set_option linter.unusedVariables false

theorem has_yes (k : Nat) (w : World) (hk : k < 8) : Calls Try.prog 36 #[.int .i64 k] w fun r w' => r = .returned (.bool true) ∧ w' = w := by
  go_enter Try.func36, Try.ntmps36
  go_wp2
  go_ret
  exact ⟨ret_bool (decide_eq_true (by omega)), rfl⟩
theorem has_no (c : Int) (w : World) (hc : c < 0 ∨ 8 ≤ c) : Calls Try.prog 36 #[.int .i64 c] w fun r w' => r = .returned (.bool false) ∧ w' = w := by
  go_enter Try.func36, Try.ntmps36
  by_cases h : 0 ≤ c
  · go_wp2
    go_ret
    exact ⟨ret_bool (decide_eq_false (by omega)), rfl⟩
  · go_wp2
    go_ret
    exact ⟨rfl, rfl⟩
theorem orMissing_no (n : Int) (w : World) : Calls Try.prog 38 #[.int .i64 n, .bool false] w fun r w' => r = .returned (.tuple #[.int .i64 0, .int .i64 21]) ∧ w' = w := by
  go_enter Try.func38, Try.ntmps38
  go_wp2
  go_ret2
  exact ⟨rfl, rfl⟩
theorem orMissing_yes (n : Int) (w : World) : Calls Try.prog 38 #[.int .i64 n, .bool true] w fun r w' => r = .returned (.tuple #[.int .i64 n, .int .i64 0]) ∧ w' = w := by
  go_enter Try.func38, Try.ntmps38
  go_wp2
  go_ret2
  exact ⟨rfl, rfl⟩
theorem head_no {w : World} {B g : Nat} {rs : List Rw} (h : Pt w B g rs) (k : Nat) (hk : k < 8) (hl : (rs.getD k Rw.none).l = []) :
    Calls Try.prog 39 #[.pointer (some ⟨g, k * 3, none⟩)] w fun r w' => r = .returned (.tuple #[.int .i64 0, .bool false]) ∧ w' = w := by
  obtain ⟨a, cap, hv⟩ := (h.row k hk).shape
  have hc := h.cellV k hk
  rw [hl] at hv
  rw [hv] at hc
  clear hv h hl
  go_enter Try.func39, Try.ntmps39
  go_wp2
  go_ret2
  exact ⟨rfl, rfl⟩
theorem head_yes {w : World} {B g : Nat} {rs : List Rw} (h : Pt w B g rs) (k : Nat) (hk : k < 8) (x : Int) (r : List Int) (hl : (rs.getD k Rw.none).l = x :: r) :
    Calls Try.prog 39 #[.pointer (some ⟨g, k * 3, none⟩)] w fun r w' => r = .returned (.tuple #[.int .i64 x, .bool true]) ∧ w' = w := by
  obtain ⟨a, cap, hv⟩ := (h.row k hk).shape
  have hc := h.cellV k hk
  have hq := h.row k hk
  rw [hl] at hv hq
  rw [hv] at hc hq
  obtain ⟨_, b, off, rfl, hx⟩ := hq.cellsAt 0 (by simp)
  simp only [List.getD_cons_zero, Nat.add_zero] at hx
  have hn : 0 < (x :: r).length := by simp
  generalize (x :: r).length = n at *
  clear hv h hl hq
  go_enter Try.func39, Try.ntmps39
  have hne : ((n : Int) == 0) = false := by rw [beq_eq_false_iff_ne]; omega
  go_wp2
  go_ret2
  exact ⟨rfl, rfl⟩
theorem pop_no {w : World} {B g : Nat} {rs : List Rw} (h : Pt w B g rs) (k : Nat) (hk : k < 8) (hl : (rs.getD k Rw.none).l = []) :
    Calls Try.prog 40 #[.pointer (some ⟨g, k * 3, none⟩)] w fun r w' => r = .returned (.tuple #[.int .i64 0, .bool false]) ∧ w' = w := by
  have hH := hide (head_no h k hk hl)
  clear h hl
  go_enter Try.func40, Try.ntmps40
  go_wp2_with fail
  refine hH.out.mono ?_
  rintro e w' ⟨rfl, rfl⟩
  go_wp2
  go_ret2
  exact ⟨rfl, rfl⟩
theorem pop_yes {w : World} {B g : Nat} {rs : List Rw} (h : Pt w B g rs) (k : Nat) (hk : k < 8) (x : Int) (r : List Int) (hl : (rs.getD k Rw.none).l = x :: r) :
    Calls Try.prog 40 #[.pointer (some ⟨g, k * 3, none⟩)] w fun e w' => e = .returned (.tuple #[.int .i64 x, .bool true]) ∧ ∃ v', Pt w' B g (rs.set k ⟨v', r, (rs.getD k Rw.none).bound, (rs.getD k Rw.none).lost⟩) ∧ Tch g rs w w' ∧ ∀ b, v'.ownBlock = some b → (rs.getD k Rw.none).v.ownBlock = some b ∨ w.heap.size ≤ b := by
  have hH := hide (head_yes h k hk x r hl)
  obtain ⟨a, cap, hv⟩ := (h.row k hk).shape
  have hc := h.cellV k hk
  have hq := h.row k hk
  have hfz := h.frozen (k * 3)
  rw [hl] at hv hq
  rw [hv] at hc hq
  obtain ⟨_, b, off, rfl, hx⟩ := hq.cellsAt 0 (by simp)
  have hn : 0 < (x :: r).length := by simp
  have hcap : (x :: r).length ≤ cap := by
    rcases hq with ⟨h0, _⟩ | ⟨b', off', cap', cur, h0, h1, h2, h3⟩
    · simp at h0
    · simp only [Value.slice.injEq] at h0; omega
  have hpt := fun (hc1 : ¬ cap = 1) => h.put k hk (.slice (some ⟨b, off + 1, none⟩) ((x :: r).length - 1) (cap - 1)) r (hq.tail hn) rfl rfl rfl (Nat.le_refl _) (fun _ _ _ => rfl) (fun b' e => .inl (by rw [hv]; exact e))
  replace hpt := hide hpt
  have hpt1 : cap = 1 → Pt (w.setCell ⟨g, k * 3, none⟩ (.slice (some ⟨b, off, none⟩) 0 0)) B g (rs.set k ⟨.slice (some ⟨b, off, none⟩) 0 0, r, (rs.getD k Rw.none).bound, (rs.getD k Rw.none).lost⟩) ∧ Tch g rs w (w.setCell ⟨g, k * 3, none⟩ (.slice (some ⟨b, off, none⟩) 0 0)) := fun hc1 => by
    refine h.put k hk _ r ?_ rfl rfl rfl (Nat.le_refl _) (fun _ _ _ => rfl) (fun b' e => .inl (by rw [hv]; exact e))
    have hr : r = [] := by
      simp only [List.length_cons] at hcap
      exact List.eq_nil_of_length_eq_zero (by omega)
    subst hr
    rcases hq with ⟨h0, _⟩ | ⟨b', off', cap', cur, h0, h1, h2, h3, h4, _⟩
    · simp at h0
    · simp only [Value.slice.injEq, Option.some.injEq, Addr.mk.injEq, and_true] at h0
      obtain ⟨⟨rfl, rfl⟩, _⟩ := h0
      exact .inr ⟨b, off, 0, cur, rfl, h1, by simp, by simp [maxLen], by omega, by simp [iv]⟩
  replace hpt1 := hide hpt1
  have hown : Hid (∀ a' n' c', a' = off ∨ a' = off + 1 → ∀ b', (Value.slice (some ⟨b, a', none⟩) n' c').ownBlock = some b' → (rs.getD k Rw.none).v.ownBlock = some b' ∨ w.heap.size ≤ b') := fun a' n' c' _ b' e => .inl (by rw [hv]; exact e)
  generalize hN : (x :: r).length = n at *
  clear hv h hl hq hx hN
  generalize (rs.getD k Rw.none).v = V at *
  generalize (rs.getD k Rw.none).bound = bd at *
  generalize (rs.getD k Rw.none).lost = ls at *
  go_enter Try.func40, Try.ntmps40
  go_wp2_with fail
  refine hH.out.mono ?_
  rintro e w' ⟨rfl, rfl⟩
  clear hH
  by_cases hc1 : cap = 1
  · replace hpt1 := hide (hpt1.out hc1)
    obtain rfl : n = 1 := by omega
    subst hc1
    go_wp2
    go_ret2
    exact ⟨rfl, _, hpt1.out.1, hpt1.out.2, hown.out _ _ _ (.inl rfl)⟩
  · replace hpt := hide (hpt.out hc1)
    go_wp2
    go_ret2
    exact ⟨rfl, _, hpt.out.1, hpt.out.2, hown.out _ _ _ (.inr rfl)⟩
theorem Tch.drew {g : Nat} {rs : List Rw} {w w' : World} (h : Tch g rs w.drew w') : Tch g rs w w' := ⟨h.os, h.tape, h.output, h.size, h.block⟩
theorem push_full {w : World} {B g : Nat} {rs : List Rw} (h : Pt w B g rs) (k : Nat) (hk : k < 8) (id : Int) (hf : (rs.getD k Rw.none).bound ≤ (rs.getD k Rw.none).l.length) (hs : (rs.getD k Rw.none).l.length ≤ 1000000) (hL : (rs.getD k Rw.none).lost ≤ 1000000000) :
    Calls Try.prog 37 #[.pointer (some ⟨g, k * 3, none⟩), .int .i64 id] w fun e w' => e = .returned (.bool false) ∧ Pt w' B g (rs.set k ⟨(rs.getD k Rw.none).v, (rs.getD k Rw.none).l, (rs.getD k Rw.none).bound, (rs.getD k Rw.none).lost + 1⟩) ∧ Tch g rs w w' := by
  obtain ⟨a, cap, hv⟩ := (h.row k hk).shape
  have hc := h.cellV k hk
  have hcb := h.cellB k hk
  have hcl := h.cellL k hk
  have hfz := h.frozen (k * 3 + 2)
  have hpt := hide ((h.below (below_drewN (Below.refl _ _) 1) : Pt w.drew B g rs).putL k ((rs.getD k Rw.none).lost + 1) hk)
  rw [hv] at hc
  clear h hv
  generalize (rs.getD k Rw.none).v = V at *
  generalize (rs.getD k Rw.none).bound = bd at *
  generalize (rs.getD k Rw.none).lost = ls at *
  generalize (rs.getD k Rw.none).l.length = n at *
  rw [show ((ls + 1 : Nat) : Int) = (ls : Int) + 1 by omega] at hpt
  generalize rs.set k _ = qs at *
  go_enter Try.func37, Try.ntmps37
  go_wp2_with fail
  refine wp_region_noPanic ?_
  refine wp_region_held_drew (S := fun W => W.cell? ⟨g, k * 3, none⟩ = some (.slice a n cap) ∧ W.cell? ⟨g, k * 3 + 1, none⟩ = some (.int .i64 bd)) (by kernel_rfl) ⟨hc, hcb⟩ (fun hHeld => ?_)
  refine wpAnyH_take (i := 0) (oi := { dst := some 5, op := Op.move (Operand.tmp 0), type := 81, pos := "ring.go:28", after := #[], guard := none }) (v := ?v1) rfl (by kernel_rfl) (by kernel_rfl) (by kernel_rfl) (fun _ _ _ h => h) (Or.inl ⟨by rfl, ?y1⟩) (by assumption) ?r1
  case y1 => (intro w hSw; (try dsimp only at hSw); (try (go_split_ands)); go_simp; try with_reducible rfl)
  try simp only [Act.put, List.setIfInBounds_toArray, List.set_cons_zero, List.set_cons_succ]
  refine wpAnyH_take (i := 1) (oi := { dst := some 6, op := Op.nilCheck (Operand.tmp 5), type := 0, pos := "ring.go:28", after := #[{ on := 0, ground := Ground.data }], guard := none }) (v := ?v2) rfl (by kernel_rfl) (by kernel_rfl) (by kernel_rfl) (fun _ _ _ h => h) (Or.inl ⟨by rfl, ?y2⟩) (by assumption) ?r2
  case y2 => (intro w hSw; (try dsimp only at hSw); (try (go_split_ands)); go_simp; try with_reducible rfl)
  try simp only [Act.put, List.setIfInBounds_toArray, List.set_cons_zero, List.set_cons_succ]
  refine wpAnyH_take (i := 2) (oi := { dst := some 7, op := Op.fieldAddr 69 (Operand.tmp 6) 0, type := 0, pos := "ring.go:28", after := #[{ on := 1, ground := Ground.data }], guard := none }) (v := ?v3) rfl (by kernel_rfl) (by kernel_rfl) (by kernel_rfl) (fun _ _ _ h => h) (Or.inl ⟨by rfl, ?y3⟩) (by assumption) ?r3
  case y3 => (intro w hSw; (try dsimp only at hSw); (try (go_split_ands)); go_simp; try with_reducible rfl)
  try simp only [Act.put, List.setIfInBounds_toArray, List.set_cons_zero, List.set_cons_succ]
  refine wpAnyH_take (i := 3) (oi := { dst := some 8, op := Op.load 27 (Operand.tmp 7), type := 27, pos := "ring.go:28", after := #[{ on := 2, ground := Ground.data }], guard := none }) (v := ?v4) rfl (by kernel_rfl) (by kernel_rfl) (by kernel_rfl) (fun _ _ _ h => h) (Or.inl ⟨by rfl, ?y4⟩) (by assumption) ?r4
  case y4 => (intro w hSw; (try dsimp only at hSw); (try (go_split_ands)); go_simp; try with_reducible rfl)
  try simp only [Act.put, List.setIfInBounds_toArray, List.set_cons_zero, List.set_cons_succ]
  refine wpAnyH_take (i := 4) (oi := { dst := some 9, op := Op.call { callee := Callee.builtin Builtin.len, args := #[Operand.tmp 8], argTypes := #[27] }, type := 3, pos := "ring.go:28", after := #[{ on := 3, ground := Ground.data }], guard := none }) (v := ?v5) rfl (by kernel_rfl) (by kernel_rfl) (by kernel_rfl) (fun _ _ _ h => h) (Or.inl ⟨by rfl, ?y5⟩) (by assumption) ?r5
  case y5 => (intro w hSw; (try dsimp only at hSw); (try (go_split_ands)); go_simp; try with_reducible rfl)
  try simp only [Act.put, List.setIfInBounds_toArray, List.set_cons_zero, List.set_cons_succ]
  refine wpAnyH_take (i := 5) (oi := { dst := some 10, op := Op.move (Operand.tmp 0), type := 81, pos := "ring.go:28", after := #[], guard := none }) (v := ?v6) rfl (by kernel_rfl) (by kernel_rfl) (by kernel_rfl) (fun _ _ _ h => h) (Or.inl ⟨by rfl, ?y6⟩) (by assumption) ?r6
  case y6 => (intro w hSw; (try dsimp only at hSw); (try (go_split_ands)); go_simp; try with_reducible rfl)
  try simp only [Act.put, List.setIfInBounds_toArray, List.set_cons_zero, List.set_cons_succ]
  refine wpAnyH_take (i := 6) (oi := { dst := some 11, op := Op.nilCheck (Operand.tmp 10), type := 0, pos := "ring.go:28", after := #[{ on := 5, ground := Ground.data }], guard := none }) (v := ?v7) rfl (by kernel_rfl) (by kernel_rfl) (by kernel_rfl) (fun _ _ _ h => h) (Or.inl ⟨by rfl, ?y7⟩) (by assumption) ?r7
  case y7 => (intro w hSw; (try dsimp only at hSw); (try (go_split_ands)); go_simp; try with_reducible rfl)
  try simp only [Act.put, List.setIfInBounds_toArray, List.set_cons_zero, List.set_cons_succ]
  refine wpAnyH_take (i := 7) (oi := { dst := some 12, op := Op.fieldAddr 69 (Operand.tmp 11) 1, type := 0, pos := "ring.go:28", after := #[{ on := 6, ground := Ground.data }], guard := none }) (v := ?v8) rfl (by kernel_rfl) (by kernel_rfl) (by kernel_rfl) (fun _ _ _ h => h) (Or.inl ⟨by rfl, ?y8⟩) (by assumption) ?r8
  case y8 => (intro w hSw; (try dsimp only at hSw); (try (go_split_ands)); go_simp; try with_reducible rfl)
  try simp only [Act.put, List.setIfInBounds_toArray, List.set_cons_zero, List.set_cons_succ]
  refine wpAnyH_take (i := 8) (oi := { dst := some 13, op := Op.load 3 (Operand.tmp 12), type := 3, pos := "ring.go:28", after := #[{ on := 7, ground := Ground.data }], guard := none }) (v := ?v9) rfl (by kernel_rfl) (by kernel_rfl) (by kernel_rfl) (fun _ _ _ h => h) (Or.inl ⟨by rfl, ?y9⟩) (by assumption) ?r9
  case y9 => (intro w hSw; (try dsimp only at hSw); (try (go_split_ands)); go_simp; try with_reducible rfl)
  try simp only [Act.put, List.setIfInBounds_toArray, List.set_cons_zero, List.set_cons_succ]
  refine wpAnyH_take (i := 9) (oi := { dst := some 14, op := Op.binOp BinOp.geq 3 (Operand.tmp 9) (Operand.tmp 13) 3, type := 4, pos := "ring.go:28", after := #[{ on := 4, ground := Ground.data }, { on := 8, ground := Ground.data }], guard := none }) (v := ?v10) rfl (by kernel_rfl) (by kernel_rfl) (by kernel_rfl) (fun _ _ _ h => h) (Or.inl ⟨by rfl, ?y10⟩) (by assumption) ?r10
  case y10 => (intro w hSw; (try dsimp only at hSw); (try (go_split_ands)); go_simp; try with_reducible rfl)
  try simp only [Act.put, List.setIfInBounds_toArray, List.set_cons_zero, List.set_cons_succ]
  refine wpAnyH_done (by kernel_rfl) ?_ _
  refine NoPanic.normal ?_
  go_wp2
  go_ret
  exact ⟨rfl, hpt.out.1, hpt.out.2.drew⟩
theorem push_ok {w : World} {B g : Nat} {rs : List Rw} (h : Pt w B g rs) (k : Nat) (hk : k < 8) (id : Int) (hf : (rs.getD k Rw.none).l.length < (rs.getD k Rw.none).bound) (hs : (rs.getD k Rw.none).bound ≤ 100000) :
    Calls Try.prog 37 #[.pointer (some ⟨g, k * 3, none⟩), .int .i64 id] w fun e w' => e = .returned (.bool true) ∧ ∃ v', Pt w' B g (rs.set k ⟨v', (rs.getD k Rw.none).l ++ [id], (rs.getD k Rw.none).bound, (rs.getD k Rw.none).lost⟩) ∧ Tch g rs w w' ∧ ∀ b, v'.ownBlock = some b → (rs.getD k Rw.none).v.ownBlock = some b ∨ w.heap.size ≤ b := by
  obtain ⟨a, cap, hv⟩ := (h.row k hk).shape
  have hc := h.cellV k hk
  have hcb := h.cellB k hk
  have hbA : Below w.heap.size w (w.drew.alloc (.cells #[.int .i64 id] 3)) := (below_drewN (Below.refl _ _) 1).later (below1 w.drew _)
  have hq := hide ((h.row k hk).below hbA)
  have hgo := hide (h.own k hk)
  have hgl := h.ltg
  have hfr := hide (fun (w1 : World) (hh : w1.heap[g]? = w.heap[g]?) => (⟨(World.cell?_of_block (a := ⟨g, k * 3, none⟩) hh).trans hc, (World.frozen?_of_block (a := ⟨g, k * 3, none⟩) hh).trans (h.frozen (k * 3))⟩ : w1.cell? ⟨g, k * 3, none⟩ = some (rs.getD k Rw.none).v ∧ w1.frozen? ⟨g, k * 3, none⟩ = false))
  have hput := hide (fun (w1 : World) (v' : Value) (hq1 : Qe w1 v' ((rs.getD k Rw.none).l ++ [id])) (hgr : (w.drew.alloc (.cells #[.int .i64 id] 3)).grownBy w1 (rs.getD k Rw.none).v.ownBlock) (hl : v'.ownBlock = (rs.getD k Rw.none).v.ownBlock ∨ v'.ownBlock = some (w.drew.alloc (.cells #[.int .i64 id] 3)).heap.size) =>
    (h.put k hk v' ((rs.getD k Rw.none).l ++ [id]) hq1 (hgr.os.trans hbA.os) (hgr.tape.trans hbA.tape) (hgr.output.trans hbA.output) (Nat.le_trans hbA.size hgr.size) (fun b hb hne => (hgr.block b (Nat.lt_of_lt_of_le hb hbA.size) (Ne.symm hne)).trans (hbA.block b hb)) (fun b e => by
      rcases hl with e' | e'
      · rw [e'] at e; exact .inl e
      · rw [e'] at e
        simp only [Option.some.injEq] at e
        exact .inr (by rw [← e]; exact hbA.size))))
  rw [hv] at hc
  have hvE := hide hv
  clear hv
  generalize hn : (rs.getD k Rw.none).l.length = n at *
  replace hn := hide hn
  generalize (rs.getD k Rw.none).v = V at *
  generalize (rs.getD k Rw.none).bound = bd at *
  generalize (rs.getD k Rw.none).lost = ls at *
  generalize (rs.getD k Rw.none).l = L at *
  clear h
  go_enter Try.func37, Try.ntmps37
  go_wp2_with fail
  refine wp_region_noPanic ?_
  refine wp_region_held_drew (S := fun W => W.cell? ⟨g, k * 3, none⟩ = some (.slice a n cap) ∧ W.cell? ⟨g, k * 3 + 1, none⟩ = some (.int .i64 bd)) (by kernel_rfl) ⟨hc, hcb⟩ (fun hHeld => ?_)
  refine wpAnyH_take (i := 0) (oi := { dst := some 5, op := Op.move (Operand.tmp 0), type := 81, pos := "ring.go:28", after := #[], guard := none }) (v := ?v11) rfl (by kernel_rfl) (by kernel_rfl) (by kernel_rfl) (fun _ _ _ h => h) (Or.inl ⟨by rfl, ?y11⟩) (by assumption) ?r11
  case y11 => (intro w hSw; (try dsimp only at hSw); (try (go_split_ands)); go_simp; try with_reducible rfl)
  try simp only [Act.put, List.setIfInBounds_toArray, List.set_cons_zero, List.set_cons_succ]
  refine wpAnyH_take (i := 1) (oi := { dst := some 6, op := Op.nilCheck (Operand.tmp 5), type := 0, pos := "ring.go:28", after := #[{ on := 0, ground := Ground.data }], guard := none }) (v := ?v12) rfl (by kernel_rfl) (by kernel_rfl) (by kernel_rfl) (fun _ _ _ h => h) (Or.inl ⟨by rfl, ?y12⟩) (by assumption) ?r12
  case y12 => (intro w hSw; (try dsimp only at hSw); (try (go_split_ands)); go_simp; try with_reducible rfl)
  try simp only [Act.put, List.setIfInBounds_toArray, List.set_cons_zero, List.set_cons_succ]
  refine wpAnyH_take (i := 2) (oi := { dst := some 7, op := Op.fieldAddr 69 (Operand.tmp 6) 0, type := 0, pos := "ring.go:28", after := #[{ on := 1, ground := Ground.data }], guard := none }) (v := ?v13) rfl (by kernel_rfl) (by kernel_rfl) (by kernel_rfl) (fun _ _ _ h => h) (Or.inl ⟨by rfl, ?y13⟩) (by assumption) ?r13
  case y13 => (intro w hSw; (try dsimp only at hSw); (try (go_split_ands)); go_simp; try with_reducible rfl)
  try simp only [Act.put, List.setIfInBounds_toArray, List.set_cons_zero, List.set_cons_succ]
  refine wpAnyH_take (i := 3) (oi := { dst := some 8, op := Op.load 27 (Operand.tmp 7), type := 27, pos := "ring.go:28", after := #[{ on := 2, ground := Ground.data }], guard := none }) (v := ?v14) rfl (by kernel_rfl) (by kernel_rfl) (by kernel_rfl) (fun _ _ _ h => h) (Or.inl ⟨by rfl, ?y14⟩) (by assumption) ?r14
  case y14 => (intro w hSw; (try dsimp only at hSw); (try (go_split_ands)); go_simp; try with_reducible rfl)
  try simp only [Act.put, List.setIfInBounds_toArray, List.set_cons_zero, List.set_cons_succ]
  refine wpAnyH_take (i := 4) (oi := { dst := some 9, op := Op.call { callee := Callee.builtin Builtin.len, args := #[Operand.tmp 8], argTypes := #[27] }, type := 3, pos := "ring.go:28", after := #[{ on := 3, ground := Ground.data }], guard := none }) (v := ?v15) rfl (by kernel_rfl) (by kernel_rfl) (by kernel_rfl) (fun _ _ _ h => h) (Or.inl ⟨by rfl, ?y15⟩) (by assumption) ?r15
  case y15 => (intro w hSw; (try dsimp only at hSw); (try (go_split_ands)); go_simp; try with_reducible rfl)
  try simp only [Act.put, List.setIfInBounds_toArray, List.set_cons_zero, List.set_cons_succ]
  refine wpAnyH_take (i := 5) (oi := { dst := some 10, op := Op.move (Operand.tmp 0), type := 81, pos := "ring.go:28", after := #[], guard := none }) (v := ?v16) rfl (by kernel_rfl) (by kernel_rfl) (by kernel_rfl) (fun _ _ _ h => h) (Or.inl ⟨by rfl, ?y16⟩) (by assumption) ?r16
  case y16 => (intro w hSw; (try dsimp only at hSw); (try (go_split_ands)); go_simp; try with_reducible rfl)
  try simp only [Act.put, List.setIfInBounds_toArray, List.set_cons_zero, List.set_cons_succ]
  refine wpAnyH_take (i := 6) (oi := { dst := some 11, op := Op.nilCheck (Operand.tmp 10), type := 0, pos := "ring.go:28", after := #[{ on := 5, ground := Ground.data }], guard := none }) (v := ?v17) rfl (by kernel_rfl) (by kernel_rfl) (by kernel_rfl) (fun _ _ _ h => h) (Or.inl ⟨by rfl, ?y17⟩) (by assumption) ?r17
  case y17 => (intro w hSw; (try dsimp only at hSw); (try (go_split_ands)); go_simp; try with_reducible rfl)
  try simp only [Act.put, List.setIfInBounds_toArray, List.set_cons_zero, List.set_cons_succ]
  refine wpAnyH_take (i := 7) (oi := { dst := some 12, op := Op.fieldAddr 69 (Operand.tmp 11) 1, type := 0, pos := "ring.go:28", after := #[{ on := 6, ground := Ground.data }], guard := none }) (v := ?v18) rfl (by kernel_rfl) (by kernel_rfl) (by kernel_rfl) (fun _ _ _ h => h) (Or.inl ⟨by rfl, ?y18⟩) (by assumption) ?r18
  case y18 => (intro w hSw; (try dsimp only at hSw); (try (go_split_ands)); go_simp; try with_reducible rfl)
  try simp only [Act.put, List.setIfInBounds_toArray, List.set_cons_zero, List.set_cons_succ]
  refine wpAnyH_take (i := 8) (oi := { dst := some 13, op := Op.load 3 (Operand.tmp 12), type := 3, pos := "ring.go:28", after := #[{ on := 7, ground := Ground.data }], guard := none }) (v := ?v19) rfl (by kernel_rfl) (by kernel_rfl) (by kernel_rfl) (fun _ _ _ h => h) (Or.inl ⟨by rfl, ?y19⟩) (by assumption) ?r19
  case y19 => (intro w hSw; (try dsimp only at hSw); (try (go_split_ands)); go_simp; try with_reducible rfl)
  try simp only [Act.put, List.setIfInBounds_toArray, List.set_cons_zero, List.set_cons_succ]
  refine wpAnyH_take (i := 9) (oi := { dst := some 14, op := Op.binOp BinOp.geq 3 (Operand.tmp 9) (Operand.tmp 13) 3, type := 4, pos := "ring.go:28", after := #[{ on := 4, ground := Ground.data }, { on := 8, ground := Ground.data }], guard := none }) (v := ?v20) rfl (by kernel_rfl) (by kernel_rfl) (by kernel_rfl) (fun _ _ _ h => h) (Or.inl ⟨by rfl, ?y20⟩) (by assumption) ?r20
  case y20 => (intro w hSw; (try dsimp only at hSw); (try (go_split_ands)); go_simp; try with_reducible rfl)
  try simp only [Act.put, List.setIfInBounds_toArray, List.set_cons_zero, List.set_cons_succ]
  refine wpAnyH_done (by kernel_rfl) ?_ _
  refine NoPanic.normal ?_
  clear hHeld
  have hcd : w.drew.cell? ⟨g, k * 3, none⟩ = some (.slice a n cap) := hc
  go_wp2_with (at_builtin; refine wpList_append_q rfl (.tmp 26) (.tmp 28) rfl V L hvE.out.symm hq.out ⟨w.heap.size, 0, none⟩ 1 1 [id] rfl rfl (fun j hj => ?_) (by rw [hn.out]; simp; omega) ?_)
  · obtain rfl : j = 0 := by simpa using hj
    exact cell_one_new w (.int .i64 id) 3 0 _ rfl
  · intro v' w1 hq1 hgr hl
    have hp := hide (hput.out w1 v' hq1 hgr (hl.imp (fun e => e) (fun e => e.trans (by rw [World.size_alloc]; rfl))))
    have hown : Hid (∀ b, v'.ownBlock = some b → V.ownBlock = some b ∨ w.heap.size ≤ b) := fun b e => by
      rcases hl with e' | e'
      · rw [e'] at e; exact .inl e
      · rw [e'] at e
        simp only [Option.some.injEq] at e
        exact .inr (by omega)
    obtain ⟨hc1, hfz1⟩ := hfr.out w1 ((hgr.block g (by simp; omega) (fun e => (hgo.out g e.symm).2 rfl)).trans (heap_alloc_old w.drew _ (show g < w.drew.heap.size from hgl)))
    obtain ⟨a', cap', rfl⟩ := hq1.shape
    clear hq1 hgr hl hput hfr hq hgo
    generalize (L ++ [id]).length = m at *
    go_wp2
    go_ret
    exact ⟨rfl, _, hp.out.1, hp.out.2, hown.out⟩
end Go.Proofs.Ytjfjohbibkidhaa
