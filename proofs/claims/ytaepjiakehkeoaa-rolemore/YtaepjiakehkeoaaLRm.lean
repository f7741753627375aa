/-
  The walk of RoleMore. Conditions: those that the theorem names.
-/
import Derived.Test.YtaepjiakehkeoaaRoleA
namespace Go.Proofs.Ytaepjiakehkeoaa
open Go.RowKit
set_option linter.unusedVariables false
set_option maxRecDepth 20000

theorem cmp_cases (a b : Vc) :
    (cmpN a b = -1 ∧ cmpN b a = 1 ∧ (a.root < b.root ∨ a.root = b.root ∧ a.cost < b.cost ∨ a.root = b.root ∧ a.cost = b.cost ∧ a.bridge < b.bridge ∨ a.root = b.root ∧ a.cost = b.cost ∧ a.bridge = b.bridge ∧ a.port < b.port)) ∨
    (cmpN a b = 1 ∧ cmpN b a = -1 ∧ (b.root < a.root ∨ a.root = b.root ∧ b.cost < a.cost ∨ a.root = b.root ∧ a.cost = b.cost ∧ b.bridge < a.bridge ∨ a.root = b.root ∧ a.cost = b.cost ∧ a.bridge = b.bridge ∧ b.port < a.port)) ∨
    (cmpN a b = 0 ∧ cmpN b a = 0 ∧ a.root = b.root ∧ a.cost = b.cost ∧ a.bridge = b.bridge ∧ a.port = b.port) := by
  unfold cmpN
  simp only [orL, ordN]
  rcases Int.lt_trichotomy a.root b.root with h | h | h
  · left; simp [h, show ¬ b.root < a.root by omega]
  · rcases Int.lt_trichotomy a.cost b.cost with h1 | h1 | h1
    · left; simp [h, h1, show ¬ b.cost < a.cost by omega]
    · rcases Int.lt_trichotomy a.bridge b.bridge with h2 | h2 | h2
      · left; simp [h, h1, h2, show ¬ b.bridge < a.bridge by omega]
      · rcases Int.lt_trichotomy a.port b.port with h3 | h3 | h3
        · left; simp [h, h1, h2, h3, show ¬ b.port < a.port by omega]
        · right; right; simp [h, h1, h2, h3]
        · right; left; simp [h, h1, h2, h3, show ¬ a.port < b.port by omega]
      · right; left; simp [h, h1, h2, show ¬ a.bridge < b.bridge by omega]
    · right; left; simp [h, h1, show ¬ a.cost < b.cost by omega]
  · right; left; simp [h, show ¬ a.root < b.root by omega]
theorem bet_iff (a b : Vc) : betB a b = true ↔ (a.root < b.root ∨ a.root = b.root ∧ a.cost < b.cost ∨ a.root = b.root ∧ a.cost = b.cost ∧ a.bridge < b.bridge ∨ a.root = b.root ∧ a.cost = b.cost ∧ a.bridge = b.bridge ∧ a.port < b.port) := by
  unfold betB
  rw [decide_eq_true_eq]
  rcases cmp_cases a b with ⟨h, _, h1⟩ | ⟨h, _, h1⟩ | ⟨h, _, h1⟩ <;> rw [h] <;> simp <;> omega

def moreP (u : Vc) : Rp := ⟨1048576, 4294967296, true, true, u⟩
theorem moreP_wf {u : Vc} (h : u.wf) : (moreP u).wf := ⟨by simp [moreP, I64], by simp [moreP, U64], h⟩
theorem getD_app_lt {α : Type} (l : List α) (x d : α) (i : Nat) (h : i < l.length) : (l ++ [x]).getD i d = l.getD i d := by
  rw [List.getD_eq_getElem?_getD, List.getD_eq_getElem?_getD, List.getElem?_append_left h]
theorem getD_app_eq {α : Type} (l : List α) (x d : α) : (l ++ [x]).getD l.length d = x := by simp
theorem bestW_app (b : Int) (ps : List Rp) (q : Rp) : ∀ k, k ≤ ps.length → bestW b (ps ++ [q]) k = bestW b ps k
  | 0, _ => rfl
  | k + 1, h => by rw [bestW, bestW, bestW_app b ps q k (by omega), getD_app_lt _ _ _ _ (by omega)]
theorem bestW_more (b : Int) (ps : List Rp) (u : Vc) (n : Nat) (hn : ps.length = n) (hu : U64 u.cost) (h1 : ¬ u.root < (bestW b ps n).v.root) (h2 : (bestW b ps n).v.cost < 4294967295) : bestW b (ps ++ [moreP u]) (n + 1) = bestW b ps n := by
  rw [bestW, bestW_app _ _ _ _ (by omega), ← hn, getD_app_eq]
  rw [← hn] at h1 h2
  generalize bestW b ps ps.length = Y at *
  unfold stepW
  rw [if_pos ⟨rfl, rfl⟩, if_neg]
  rintro ⟨_, hb⟩
  have hc : overN u.cost 4294967296 = 4294967295 := by
    unfold overN U64 at *
    repeat' split
    all_goals omega
  have hv : (wayOf (moreP u) ps.length).v = ⟨u.root, 4294967295, u.bridge, u.port⟩ := by simp [wayOf, moreP, overV, hc]
  simp only [befB, Bool.or_eq_true, Bool.and_eq_true, decide_eq_true_eq] at hb
  rcases cmp_cases (wayOf (moreP u) ps.length).v Y.v with ⟨e, _, e1⟩ | ⟨e, _, e1⟩ | ⟨e, _, e1⟩
  all_goals (rw [hv] at e1; dsimp only at e1; try rw [e] at hb)
  · omega
  · omega
  · omega
theorem Rps.more {w : World} {v : Value} {ps : List Rp} {u : Vc} (h : Sl w v 38 8 fP (ps ++ [moreP u])) (hw : ∀ i, i < ps.length → (ps.getD i Rp.zero).wf) (hu : u.wf) : ∃ a cap, v = .slice a (ps.length + 1) cap ∧ Rps w a (ps.length + 1) (ps ++ [moreP u]) := by
  obtain ⟨a, cap, e, hR⟩ := h.rps (fun i hi => by
    rw [List.length_append] at hi
    by_cases hl : i < ps.length
    · rw [getD_app_lt _ _ _ _ hl]; exact hw i hl
    · obtain rfl : i = ps.length := by simp at hi; omega
      rw [getD_app_eq]; exact moreP_wf hu)
  rw [List.length_append] at e hR
  exact ⟨a, cap, e, hR⟩
theorem append_none (w : World) (g cap : Nat) (a : Option Addr) (ty : TypeId) : (Builtin.append_ #[23, 23] ty #[.slice (some ⟨g, 0, none⟩) 0 0, .slice a 0 cap]).run Try.prog w = .ok (.slice (some ⟨g, 0, none⟩) 0 0) w := by
  obtain ⟨i, h1, h2, h3, h4⟩ := info_parts Try.infoRq
  cases a with
  | none => simp [Builtin.append_, run_underlying Try.underlying23, sizeOf, typeInfo, h1, Builtin.lenOf, Builtin.firstCells, loadCells, loadCellsFrom, storeCells]
  | some a => simp [Builtin.append_, run_underlying Try.underlying23, sizeOf, typeInfo, h1, Builtin.lenOf, Builtin.firstCells, loadCells, loadCellsFrom, storeCells]
theorem step_append_src {w : World} {ops : Array Oper} {o : Oper} {a : Act} {K : Act → World → Prop} {Q : Exit → Act → World → Prop} {E : Prop} (hw : Region.wanted o (yielded ops a.tmps) = true) (s x : Operand)
    (ho : o.op = .call { callee := .builtin .append, args := #[s, x], argTypes := #[23, 23] })
    (g : Nat) (hs : a.eval s = .slice (some ⟨g, 0, none⟩) 0 0) (hq : Sl w (.slice (some ⟨g, 0, none⟩) 0 0) 38 8 fP []) (ad : Option Addr) (n c : Nat) (ps : List Rp) (hx : a.eval x = .slice ad n c) (hn : ps.length = n) (hn6 : n ≤ 60)
    (hsrc : n = 0 ∨ ∃ b0 off, ad = some ⟨b0, off, none⟩ ∧ ∀ j x, (flat fP ps)[j]? = some x → w.cell? ((⟨b0, off, none⟩ : Addr).add j) = some x)
    (h : ∀ v' w', Sl w' v' 38 8 fP ps → w.grownBy w' (some g) → (v'.ownBlock = some g ∨ v'.ownBlock = some w.heap.size) → K (a.put o.dst v') w') :
    if Region.wanted o (yielded ops a.tmps) = true then Oper.wp Try.prog o a w K Q else E := by
  rcases hsrc with rfl | ⟨b0, off, rfl, hc⟩
  · rw [if_pos hw]
    have hp : ps = [] := List.eq_nil_of_length_eq_zero hn
    subst hp
    unfold Oper.wp execOp
    simp only [ho, resolve, invoke, builtin, Sem.run_bind, Sem.run_pure, Result.andThen_ok, List.map_toArray, List.map_cons, List.map_nil, hs, hx, append_none]
    exact h _ _ hq ⟨rfl, rfl, rfl, Nat.le_refl _, fun _ _ _ => rfl⟩ (.inl rfl)
  · exact step_append_sl hw s x ho wide_P sty_P _ [] hs hq ⟨b0, off, none⟩ n c ps hx hn.symm hc (by simp; omega) (by omega) (fun v' w' h1 h2 h3 => h v' w' h1 h2 h3)
theorem wf_of_rps {w : World} {a : Option Addr} {n : Nat} {ps : List Rp} (h : Rps w a n ps) : ∀ i, i < ps.length → (ps.getD i Rp.zero).wf := fun i hi => by
  rw [h.1] at hi
  obtain ⟨_, _, _, _, h⟩ := h.2 i hi
  exact h
set_option maxHeartbeats 8000000 in
theorem Rm_walk (b : Int) (a : Option Addr) (n cap : Nat) (ps : List Rp) (u : Vc) (W0 : World) (hbU : U64 b) (hu : u.wf) (hI : Rps W0 a n ps) :
    Calls Try.prog 7 #[.int .u64 b, .slice a n cap, .agg u.row] W0 fun e W' => e = .returned (.bool true) ∧ Below W0.heap.size W0 W' := by
  replace hI := hide hI
  obtain ⟨u0, u1, u2, u3⟩ := u
  replace hu := hide hu
  go_enter Try.func7, Try.ntmps7
  go_wp2_with fail
  have hbA := below1 W0 (.cells (Vc.row ⟨u0, u1, u2, u3⟩) 26)
  have hUA := heap_alloc_new W0 (.cells (Vc.row ⟨u0, u1, u2, u3⟩) 26)
  have hUlt : W0.heap.size < (W0.alloc (.cells (Vc.row ⟨u0, u1, u2, u3⟩) 26)).heap.size := by rw [World.size_alloc]; omega
  refine (selects_ok _).mono ?_
  rintro e w1 ⟨rfl, hb1⟩
  have hB1 := hide (hbA.later hb1)
  have hU1 := hide (heap_kept hb1 hUA)
  have hI1 := hide ((hI.out.below hbA).below hb1)
  clear hb1 hI hbA hUA hUlt
  by_cases hbig : 60 < n
  · go_wp2
    go_ret
    exact ⟨rfl, hB1.out⟩
  go_wp2_with fail
  refine (Select_any b a n cap ps w1 (by omega) hI1).mono ?_
  rintro e w2 ⟨ia, va, rfl, hb2, hle1, hle2, hne, hi2, hv2⟩
  have hSA2 : Hid (Sel w2 ia va n b ps) := ⟨hI1.out.1, hi2, hv2⟩
  have hB2 := hide (hB1.out.later hb2)
  have hI2 := hide (hI1.out.below hb2)
  have hU2 := hide (heap_kept hb2 hU1.out)
  clear hi2 hv2 hb2 hB1 hI1 hU1
  have hps := hI2.out.1
  have hmore := hide (bestW_more b ps ⟨u0, u1, u2, u3⟩ n hps hu.out.cost)
  have hYwf : Hid ((bestW b ps n).v.wf) := bestW_wf b _ n hbU (fun i hi => wf_of_rps hI2.out i (by omega))
  generalize hYE : bestW b ps n = Y at *
  replace hYE := hide hYE
  obtain ⟨⟨y0, y1, y2, y3⟩, y4, y5⟩ := Y
  dsimp only at *
  go_wp2_with fail
  have hA4 := below1 w2 (.cells (rolesRow ⟨y0, y1, y2, y3⟩ y4 (.slice (some ⟨ia, 0, none⟩) n n) (.slice (some ⟨va, 0, none⟩) n n)) 30)
  have hG1 := hide (heap_alloc_new w2 (.cells (rolesRow ⟨y0, y1, y2, y3⟩ y4 (.slice (some ⟨ia, 0, none⟩) n n) (.slice (some ⟨va, 0, none⟩) n n)) 30))
  have hSA4 := hide (hSA2.out.below hA4)
  have hB4 := hide (hB2.out.later hA4)
  have hI4 := hide (hI2.out.below hA4)
  have hU4 := hide (heap_kept hA4 hU2.out)
  clear hA4 hSA2 hB2 hI2 hU2
  generalize w2.alloc (.cells (rolesRow ⟨y0, y1, y2, y3⟩ y4 (.slice (some ⟨ia, 0, none⟩) n n) (.slice (some ⟨va, 0, none⟩) n n)) 30) = w4 at *
  generalize w2.heap.size = g1 at *
  have hSS : Hid (∀ W : World, Below w4.heap.size w4 W → Below w4.heap.size w4 W ∧ W.cell? ⟨W0.heap.size, 0, none⟩ = some (.int .u64 u0) ∧ W.cell? ⟨W0.heap.size, 1, none⟩ = some (.int .u64 u1) ∧ W.cell? ⟨W0.heap.size, 2, none⟩ = some (.int .u64 u2) ∧ W.cell? ⟨W0.heap.size, 3, none⟩ = some (.int .i64 u3)) := fun W hW => by
    have hk := heap_kept hW hU4.out
    exact ⟨hW, (cell_of_row _ _ _ _ _ _ hk).trans rfl, (cell_of_row _ _ _ _ _ _ hk).trans rfl, (cell_of_row _ _ _ _ _ _ hk).trans rfl, (cell_of_row _ _ _ _ _ _ hk).trans rfl⟩
  have hsrc : Hid (∀ W : World, Below w4.heap.size w4 W → n = 0 ∨ ∃ b0 off, a = some ⟨b0, off, none⟩ ∧ ∀ j x, (flat fP ps)[j]? = some x → W.cell? ((⟨b0, off, none⟩ : Addr).add j) = some x) := fun W hW => by
    by_cases hz : n = 0
    · exact .inl hz
    · obtain ⟨b0, off, e, _⟩ := (hI4.out.below hW).2 0 (by omega)
      subst e
      exact .inr ⟨b0, off, rfl, fun j x hj => (hI4.out.below hW).cells j x hj⟩
  refine (fun (key : Hid (?T : Prop)) => ?main) ?kp
  case main =>
    refine wp_region_noPanic ?_
    refine wp_region_held_drew (S := fun W => Below w4.heap.size w4 W ∧ W.cell? ⟨W0.heap.size, 0, none⟩ = some (.int .u64 u0) ∧ W.cell? ⟨W0.heap.size, 1, none⟩ = some (.int .u64 u1) ∧ W.cell? ⟨W0.heap.size, 2, none⟩ = some (.int .u64 u2) ∧ W.cell? ⟨W0.heap.size, 3, none⟩ = some (.int .i64 u3)) (by kernel_rfl) (hSS.out _ (below_drewN (Below.refl _ _) 1)) (fun hHeld => ?_)
    have hb : Below w4.heap.size w4 w4.drew := below_drewN (Below.refl _ _) 1
    refine wpAnyH_take (i := 1) (oi := { dst := some 20, op := Op.move (Operand.tmp 1), type := 23, pos := "law.go:135", after := #[], guard := none }) (v := ?v1) rfl (by kernel_rfl) (by kernel_rfl) (by kernel_rfl) (fun _ _ _ h => h) (Or.inl ⟨by rfl, ?y1⟩) (by assumption) ?r1
    case y1 => (intro w hSw; (try dsimp only at hSw); (try (go_split_ands)); go_simp; try with_reducible rfl)
    try simp only [Act.put, List.setIfInBounds_toArray, List.set_cons_zero, List.set_cons_succ]
    refine wpAnyH_take (i := 3) (oi := { dst := some 22, op := Op.load 26 (Operand.tmp 5), type := 26, pos := "law.go:135", after := #[], guard := none }) (v := ?v2) rfl (by kernel_rfl) (by kernel_rfl) (by kernel_rfl) (fun _ _ _ h => h) (Or.inl ⟨by rfl, ?y2⟩) (by assumption) ?r2
    case y2 => (intro w hSw; (try dsimp only at hSw); (try (go_split_ands)); go_simp; try with_reducible rfl)
    try simp only [Act.put, List.setIfInBounds_toArray, List.set_cons_zero, List.set_cons_succ]
    refine wpAnyH_take (i := 4) (oi := { dst := some 23, op := Op.build 38 #[(0, Operand.const (Value.int IntKind.i64 1048576)), (2, Operand.const (Value.bool true)), (3, Operand.const (Value.bool true)), (4, Operand.tmp 22), (1, Operand.const (Value.int IntKind.u64 4294967296))], type := 38, pos := "law.go:135", after := #[{ on := 3, ground := Ground.data }], guard := none }) (v := ?v3) rfl (by kernel_rfl) (by kernel_rfl) (by kernel_rfl) (fun _ _ _ h => h) (Or.inl ⟨by rfl, ?y3⟩) (by assumption) ?r3
    case y3 => (intro w hSw; (try dsimp only at hSw); (try (go_split_ands)); go_simp; try with_reducible rfl)
    try simp only [Act.put, List.setIfInBounds_toArray, List.set_cons_zero, List.set_cons_succ]
    generalize w4.drew = z0 at *
    refine wpAnyH_ready (rs := [0, 5]) (by kernel_rfl) (by simp) ?_
    refine AllReadyH.cons (o := { dst := some 19, op := Op.buildSlice 23 0 #[], type := 23, pos := "law.go:135", after := #[], guard := none }) rfl (fun K hK => ?_) (AllReadyH.cons (o := { dst := some 24, op := Op.buildSlice 23 1 #[(0, Operand.tmp 23)], type := 23, pos := "law.go:135", after := #[{ on := 4, ground := Ground.data }], guard := none }) rfl (fun K hK => ?_) (AllReadyH.nil))
    ·
      go_simp
      have hS0 : Hid (Sl (z0.alloc (.cells #[] 38)) (.slice (some ⟨z0.heap.size, 0, none⟩) 0 0) 38 8 fP []) := Sl.made0 _ _ _
      have hq0 : w4.heap.size ≤ z0.heap.size := hb.size
      replace hb := hb.later (below1 z0 (.cells #[] 38))
      refine hK.out _ _ (hSS.out _ hb) (fun hHeld0 => ?_)
      clear hK K
      try simp only [Act.put, List.setIfInBounds_toArray, List.set_cons_zero, List.set_cons_succ]
      generalize z0.alloc (.cells #[] 38) = z1 at *
      generalize z0.heap.size = g0 at *
      refine wpAnyH_ready (rs := [2, 5]) (by kernel_rfl) (by simp) ?_
      refine AllReadyH.cons (o := { dst := some 21, op := Op.call { callee := Callee.builtin Builtin.append, args := #[Operand.tmp 19, Operand.tmp 20], argTypes := #[23, 23] }, type := 23, pos := "law.go:135", after := #[{ on := 0, ground := Ground.data }, { on := 1, ground := Ground.data }], guard := none }) rfl (fun K hK => ?_) (AllReadyH.cons (o := { dst := some 24, op := Op.buildSlice 23 1 #[(0, Operand.tmp 23)], type := 23, pos := "law.go:135", after := #[{ on := 4, ground := Ground.data }], guard := none }) rfl (fun K hK => ?_) (AllReadyH.nil))
      ·
        refine step_append_src rfl (.tmp 19) (.tmp 20) rfl g0 rfl hS0.out a n cap ps rfl hps (by omega) (hsrc.out _ hb) ?_
        intro v2 z2 hS2 hg2 ho2
        replace hS2 := hide hS2
        have hS2l : Hid (∀ x, v2.ownBlock = some x → w4.heap.size ≤ x) := fun x e => by
          rcases ho2 with e' | e'
          · rw [e'] at e; simp only [Option.some.injEq] at e; omega
          · rw [e'] at e; simp only [Option.some.injEq] at e; have := hb.size; omega
        replace hb := grown_below hg2 hb hb.size (fun x e => by simp only [Option.some.injEq] at e; omega)
        refine hK.out _ _ (hSS.out _ hb) (fun hHeld2 => ?_)
        clear hK K
        try simp only [Act.put, List.setIfInBounds_toArray, List.set_cons_zero, List.set_cons_succ]
        clear hS0 hg2 ho2
        refine wpAnyH_ready (rs := [5]) (by kernel_rfl) (by simp) ?_
        refine AllReadyH.cons (o := { dst := some 24, op := Op.buildSlice 23 1 #[(0, Operand.tmp 23)], type := 23, pos := "law.go:135", after := #[{ on := 4, ground := Ground.data }], guard := none }) rfl (fun K hK => ?_) AllReadyH.nil
        go_simp
        have hR5 : (z2.alloc (.cells #[.int .i64 1048576, .int .u64 4294967296, .bool true, .bool true, .int .u64 u0, .int .u64 u1, .int .u64 u2, .int .i64 u3] 38)).heap[z2.heap.size]? = some (.cells #[.int .i64 1048576, .int .u64 4294967296, .bool true, .bool true, .int .u64 u0, .int .u64 u1, .int .u64 u2, .int .i64 u3] 38) := heap_alloc_new z2 _
        replace hS2 := hide (hS2.out.below (below1 z2 (.cells #[.int .i64 1048576, .int .u64 4294967296, .bool true, .bool true, .int .u64 u0, .int .u64 u1, .int .u64 u2, .int .i64 u3] 38)))
        have hq5 : w4.heap.size ≤ z2.heap.size := hb.size
        replace hb := hb.later (below1 z2 (.cells #[.int .i64 1048576, .int .u64 4294967296, .bool true, .bool true, .int .u64 u0, .int .u64 u1, .int .u64 u2, .int .i64 u3] 38))
        refine hK.out _ _ (hSS.out _ hb) (fun hHeld5 => ?_)
        clear hK K
        try simp only [Act.put, List.setIfInBounds_toArray, List.set_cons_zero, List.set_cons_succ]
        generalize z2.alloc (.cells #[.int .i64 1048576, .int .u64 4294967296, .bool true, .bool true, .int .u64 u0, .int .u64 u1, .int .u64 u2, .int .i64 u3] 38) = z3 at *
        generalize z2.heap.size = g5 at *
        refine wpAnyH_ready (rs := [6]) (by kernel_rfl) (by simp) ?_
        refine AllReadyH.cons (o := { dst := some 25, op := Op.call { callee := Callee.builtin Builtin.append, args := #[Operand.tmp 21, Operand.tmp 24], argTypes := #[23, 23] }, type := 23, pos := "law.go:135", after := #[{ on := 2, ground := Ground.data }, { on := 5, ground := Ground.data }, { on := 2, ground := Ground.chain }], guard := none }) rfl (fun K hK => ?_) AllReadyH.nil
        refine step_append_sl rfl (.tmp 21) (.tmp 24) rfl wide_P sty_P v2 ps rfl hS2.out ⟨g5, 0, none⟩ 1 1 [moreP ⟨u0, u1, u2, u3⟩] rfl rfl (fun j x hj => ?_) (by simp; omega) (by omega) ?_
        · rw [Addr.add_lit, cell_of_row _ _ _ _ _ _ hR5, ← hj]
          simp [flat, moreP]
        intro v6 w6 hS6 hg6 ho6
        have hb6 : Below w4.heap.size w4 w6 := grown_below hg6 hb hb.size (fun x e => hS2l.out x e)
        refine hK.out _ _ (hSS.out _ hb6) (fun hHeld6 => ?_)
        clear hK K
        try simp only [Act.put, List.setIfInBounds_toArray, List.set_cons_zero, List.set_cons_succ]
        obtain ⟨a6, c6, rfl, hR6⟩ := Rps.more hS6 (wf_of_rps hI4.out) hu.out
        rw [hps]
        rw [hps] at hR6
        refine wpAnyH_take (i := 7) (oi := { dst := some 8, op := Op.assign (Operand.tmp 25), type := 23, pos := "law.go:135", after := #[{ on := 6, ground := Ground.data }, { on := 6, ground := Ground.chain }, { on := 0, ground := Ground.phase }, { on := 1, ground := Ground.phase }, { on := 2, ground := Ground.phase }, { on := 3, ground := Ground.phase }, { on := 4, ground := Ground.phase }, { on := 5, ground := Ground.phase }, { on := 6, ground := Ground.phase }], guard := none }) (v := ?v4) rfl (by kernel_rfl) (by kernel_rfl) (by kernel_rfl) (fun _ _ _ h => h) (Or.inl ⟨by rfl, ?y4⟩) (by assumption) ?r4
        case y4 => (intro w hSw; (try dsimp only at hSw); (try (go_split_ands)); go_simp; try with_reducible rfl)
        try simp only [Act.put, List.setIfInBounds_toArray, List.set_cons_zero, List.set_cons_succ]
        refine wpAnyH_done (by kernel_rfl) ?_ _
        refine NoPanic.normal ?_
        clear hHeld6 hHeld5 hHeld2 hHeld0 hHeld hS6 hg6 ho6 hS2 hS2l hR5 hq5 hb hq0
        revert hR6
        revert hb6
        revert w6
        revert c6
        revert a6
        revert g5
        revert v2
        revert g0
        exact key.out
      ·
        go_simp
        have hR5 : (z1.alloc (.cells #[.int .i64 1048576, .int .u64 4294967296, .bool true, .bool true, .int .u64 u0, .int .u64 u1, .int .u64 u2, .int .i64 u3] 38)).heap[z1.heap.size]? = some (.cells #[.int .i64 1048576, .int .u64 4294967296, .bool true, .bool true, .int .u64 u0, .int .u64 u1, .int .u64 u2, .int .i64 u3] 38) := heap_alloc_new z1 _
        have hx0 : g0 < z1.heap.size := hS0.out.lt rfl
        replace hS0 := hide (hS0.out.below (below1 z1 (.cells #[.int .i64 1048576, .int .u64 4294967296, .bool true, .bool true, .int .u64 u0, .int .u64 u1, .int .u64 u2, .int .i64 u3] 38)))
        have hq5 : w4.heap.size ≤ z1.heap.size := hb.size
        replace hb := hb.later (below1 z1 (.cells #[.int .i64 1048576, .int .u64 4294967296, .bool true, .bool true, .int .u64 u0, .int .u64 u1, .int .u64 u2, .int .i64 u3] 38))
        refine hK.out _ _ (hSS.out _ hb) (fun hHeld5 => ?_)
        clear hK K
        try simp only [Act.put, List.setIfInBounds_toArray, List.set_cons_zero, List.set_cons_succ]
        generalize z1.alloc (.cells #[.int .i64 1048576, .int .u64 4294967296, .bool true, .bool true, .int .u64 u0, .int .u64 u1, .int .u64 u2, .int .i64 u3] 38) = z2 at *
        generalize z1.heap.size = g5 at *
        refine wpAnyH_ready (rs := [2]) (by kernel_rfl) (by simp) ?_
        refine AllReadyH.cons (o := { dst := some 21, op := Op.call { callee := Callee.builtin Builtin.append, args := #[Operand.tmp 19, Operand.tmp 20], argTypes := #[23, 23] }, type := 23, pos := "law.go:135", after := #[{ on := 0, ground := Ground.data }, { on := 1, ground := Ground.data }], guard := none }) rfl (fun K hK => ?_) AllReadyH.nil
        refine step_append_src rfl (.tmp 19) (.tmp 20) rfl g0 rfl hS0.out a n cap ps rfl hps (by omega) (hsrc.out _ hb) ?_
        intro v2 z3 hS2 hg2 ho2
        replace hS2 := hide hS2
        have hS2l : Hid (∀ x, v2.ownBlock = some x → w4.heap.size ≤ x) := fun x e => by
          rcases ho2 with e' | e'
          · rw [e'] at e; simp only [Option.some.injEq] at e; omega
          · rw [e'] at e; simp only [Option.some.injEq] at e; have := hb.size; omega
        replace hR5 := (hg2.block g5 (Array.getElem?_eq_some_iff.1 hR5).1 (by simp only [ne_eq, Option.some.injEq]; omega)).trans hR5
        replace hb := grown_below hg2 hb hb.size (fun x e => by simp only [Option.some.injEq] at e; omega)
        refine hK.out _ _ (hSS.out _ hb) (fun hHeld2 => ?_)
        clear hK K
        try simp only [Act.put, List.setIfInBounds_toArray, List.set_cons_zero, List.set_cons_succ]
        clear hS0 hg2 ho2
        refine wpAnyH_ready (rs := [6]) (by kernel_rfl) (by simp) ?_
        refine AllReadyH.cons (o := { dst := some 25, op := Op.call { callee := Callee.builtin Builtin.append, args := #[Operand.tmp 21, Operand.tmp 24], argTypes := #[23, 23] }, type := 23, pos := "law.go:135", after := #[{ on := 2, ground := Ground.data }, { on := 5, ground := Ground.data }, { on := 2, ground := Ground.chain }], guard := none }) rfl (fun K hK => ?_) AllReadyH.nil
        refine step_append_sl rfl (.tmp 21) (.tmp 24) rfl wide_P sty_P v2 ps rfl hS2.out ⟨g5, 0, none⟩ 1 1 [moreP ⟨u0, u1, u2, u3⟩] rfl rfl (fun j x hj => ?_) (by simp; omega) (by omega) ?_
        · rw [Addr.add_lit, cell_of_row _ _ _ _ _ _ hR5, ← hj]
          simp [flat, moreP]
        intro v6 w6 hS6 hg6 ho6
        have hb6 : Below w4.heap.size w4 w6 := grown_below hg6 hb hb.size (fun x e => hS2l.out x e)
        refine hK.out _ _ (hSS.out _ hb6) (fun hHeld6 => ?_)
        clear hK K
        try simp only [Act.put, List.setIfInBounds_toArray, List.set_cons_zero, List.set_cons_succ]
        obtain ⟨a6, c6, rfl, hR6⟩ := Rps.more hS6 (wf_of_rps hI4.out) hu.out
        rw [hps]
        rw [hps] at hR6
        refine wpAnyH_take (i := 7) (oi := { dst := some 8, op := Op.assign (Operand.tmp 25), type := 23, pos := "law.go:135", after := #[{ on := 6, ground := Ground.data }, { on := 6, ground := Ground.chain }, { on := 0, ground := Ground.phase }, { on := 1, ground := Ground.phase }, { on := 2, ground := Ground.phase }, { on := 3, ground := Ground.phase }, { on := 4, ground := Ground.phase }, { on := 5, ground := Ground.phase }, { on := 6, ground := Ground.phase }], guard := none }) (v := ?v5) rfl (by kernel_rfl) (by kernel_rfl) (by kernel_rfl) (fun _ _ _ h => h) (Or.inl ⟨by rfl, ?y5⟩) (by assumption) ?r5
        case y5 => (intro w hSw; (try dsimp only at hSw); (try (go_split_ands)); go_simp; try with_reducible rfl)
        try simp only [Act.put, List.setIfInBounds_toArray, List.set_cons_zero, List.set_cons_succ]
        refine wpAnyH_done (by kernel_rfl) ?_ _
        refine NoPanic.normal ?_
        exact key.out g0 v2 g5 a6 c6 w6 hb6 hR6
    ·
      go_simp
      have hR5 : (z0.alloc (.cells #[.int .i64 1048576, .int .u64 4294967296, .bool true, .bool true, .int .u64 u0, .int .u64 u1, .int .u64 u2, .int .i64 u3] 38)).heap[z0.heap.size]? = some (.cells #[.int .i64 1048576, .int .u64 4294967296, .bool true, .bool true, .int .u64 u0, .int .u64 u1, .int .u64 u2, .int .i64 u3] 38) := heap_alloc_new z0 _
      have hq5 : w4.heap.size ≤ z0.heap.size := hb.size
      replace hb := hb.later (below1 z0 (.cells #[.int .i64 1048576, .int .u64 4294967296, .bool true, .bool true, .int .u64 u0, .int .u64 u1, .int .u64 u2, .int .i64 u3] 38))
      refine hK.out _ _ (hSS.out _ hb) (fun hHeld5 => ?_)
      clear hK K
      try simp only [Act.put, List.setIfInBounds_toArray, List.set_cons_zero, List.set_cons_succ]
      generalize z0.alloc (.cells #[.int .i64 1048576, .int .u64 4294967296, .bool true, .bool true, .int .u64 u0, .int .u64 u1, .int .u64 u2, .int .i64 u3] 38) = z1 at *
      generalize z0.heap.size = g5 at *
      refine wpAnyH_ready (rs := [0]) (by kernel_rfl) (by simp) ?_
      refine AllReadyH.cons (o := { dst := some 19, op := Op.buildSlice 23 0 #[], type := 23, pos := "law.go:135", after := #[], guard := none }) rfl (fun K hK => ?_) AllReadyH.nil
      go_simp
      have hS0 : Hid (Sl (z1.alloc (.cells #[] 38)) (.slice (some ⟨z1.heap.size, 0, none⟩) 0 0) 38 8 fP []) := Sl.made0 _ _ _
      have hx5 : g5 < z1.heap.size := (Array.getElem?_eq_some_iff.1 hR5).1
      replace hR5 := heap_kept (below1 z1 (.cells #[] 38)) hR5
      have hq0 : w4.heap.size ≤ z1.heap.size := hb.size
      replace hb := hb.later (below1 z1 (.cells #[] 38))
      refine hK.out _ _ (hSS.out _ hb) (fun hHeld0 => ?_)
      clear hK K
      try simp only [Act.put, List.setIfInBounds_toArray, List.set_cons_zero, List.set_cons_succ]
      generalize z1.alloc (.cells #[] 38) = z2 at *
      generalize z1.heap.size = g0 at *
      refine wpAnyH_ready (rs := [2]) (by kernel_rfl) (by simp) ?_
      refine AllReadyH.cons (o := { dst := some 21, op := Op.call { callee := Callee.builtin Builtin.append, args := #[Operand.tmp 19, Operand.tmp 20], argTypes := #[23, 23] }, type := 23, pos := "law.go:135", after := #[{ on := 0, ground := Ground.data }, { on := 1, ground := Ground.data }], guard := none }) rfl (fun K hK => ?_) AllReadyH.nil
      refine step_append_src rfl (.tmp 19) (.tmp 20) rfl g0 rfl hS0.out a n cap ps rfl hps (by omega) (hsrc.out _ hb) ?_
      intro v2 z3 hS2 hg2 ho2
      replace hS2 := hide hS2
      have hS2l : Hid (∀ x, v2.ownBlock = some x → w4.heap.size ≤ x) := fun x e => by
        rcases ho2 with e' | e'
        · rw [e'] at e; simp only [Option.some.injEq] at e; omega
        · rw [e'] at e; simp only [Option.some.injEq] at e; have := hb.size; omega
      replace hR5 := (hg2.block g5 (Array.getElem?_eq_some_iff.1 hR5).1 (by simp only [ne_eq, Option.some.injEq]; omega)).trans hR5
      replace hb := grown_below hg2 hb hb.size (fun x e => by simp only [Option.some.injEq] at e; omega)
      refine hK.out _ _ (hSS.out _ hb) (fun hHeld2 => ?_)
      clear hK K
      try simp only [Act.put, List.setIfInBounds_toArray, List.set_cons_zero, List.set_cons_succ]
      clear hS0 hg2 ho2
      refine wpAnyH_ready (rs := [6]) (by kernel_rfl) (by simp) ?_
      refine AllReadyH.cons (o := { dst := some 25, op := Op.call { callee := Callee.builtin Builtin.append, args := #[Operand.tmp 21, Operand.tmp 24], argTypes := #[23, 23] }, type := 23, pos := "law.go:135", after := #[{ on := 2, ground := Ground.data }, { on := 5, ground := Ground.data }, { on := 2, ground := Ground.chain }], guard := none }) rfl (fun K hK => ?_) AllReadyH.nil
      refine step_append_sl rfl (.tmp 21) (.tmp 24) rfl wide_P sty_P v2 ps rfl hS2.out ⟨g5, 0, none⟩ 1 1 [moreP ⟨u0, u1, u2, u3⟩] rfl rfl (fun j x hj => ?_) (by simp; omega) (by omega) ?_
      · rw [Addr.add_lit, cell_of_row _ _ _ _ _ _ hR5, ← hj]
        simp [flat, moreP]
      intro v6 w6 hS6 hg6 ho6
      have hb6 : Below w4.heap.size w4 w6 := grown_below hg6 hb hb.size (fun x e => hS2l.out x e)
      refine hK.out _ _ (hSS.out _ hb6) (fun hHeld6 => ?_)
      clear hK K
      try simp only [Act.put, List.setIfInBounds_toArray, List.set_cons_zero, List.set_cons_succ]
      obtain ⟨a6, c6, rfl, hR6⟩ := Rps.more hS6 (wf_of_rps hI4.out) hu.out
      rw [hps]
      rw [hps] at hR6
      refine wpAnyH_take (i := 7) (oi := { dst := some 8, op := Op.assign (Operand.tmp 25), type := 23, pos := "law.go:135", after := #[{ on := 6, ground := Ground.data }, { on := 6, ground := Ground.chain }, { on := 0, ground := Ground.phase }, { on := 1, ground := Ground.phase }, { on := 2, ground := Ground.phase }, { on := 3, ground := Ground.phase }, { on := 4, ground := Ground.phase }, { on := 5, ground := Ground.phase }, { on := 6, ground := Ground.phase }], guard := none }) (v := ?v6) rfl (by kernel_rfl) (by kernel_rfl) (by kernel_rfl) (fun _ _ _ h => h) (Or.inl ⟨by rfl, ?y6⟩) (by assumption) ?r6
      case y6 => (intro w hSw; (try dsimp only at hSw); (try (go_split_ands)); go_simp; try with_reducible rfl)
      try simp only [Act.put, List.setIfInBounds_toArray, List.set_cons_zero, List.set_cons_succ]
      refine wpAnyH_done (by kernel_rfl) ?_ _
      refine NoPanic.normal ?_
      exact key.out g0 v2 g5 a6 c6 w6 hb6 hR6
  case kp =>
    refine hide ?_
    intro g0 v2 g5 a6 c6 w6 hb6 hR6
    have hSA6 := hide (hSA4.out.below hb6)
    have hG6 := hide (heap_kept hb6 hG1.out)
    have hU6 := hide (heap_kept hb6 hU4.out)
    have hB6 := hide (hB4.out.later hb6)
    clear hb6 hSA4 hG1 hU4 hB4 hSS hsrc
    replace hR6 := hide hR6
    have hml : (ps ++ [moreP ⟨u0, u1, u2, u3⟩]).length = n + 1 := by rw [List.length_append, hps]; rfl
    go_wp2_with fail
    refine (Select_any b a6 (n + 1) c6 (ps ++ [moreP ⟨u0, u1, u2, u3⟩]) w6 (by omega) hR6).mono ?_
    rintro e w7 ⟨ib, vb, rfl, hb7, hle3, hle4, hne2, hi7, hv7⟩
    have hSB7 : Hid (Sel w7 ib vb (n + 1) b (ps ++ [moreP ⟨u0, u1, u2, u3⟩])) := ⟨hml, hi7, hv7⟩
    have hSA7 := hide (hSA6.out.below hb7)
    have hG7 := hide (heap_kept hb7 hG6.out)
    have hU7 := hide (heap_kept hb7 hU6.out)
    have hB7 := hide (hB6.out.later hb7)
    clear hi7 hv7 hb7 hSA6 hG6 hU6 hB6
    have x0 : w7.cell? ⟨W0.heap.size, 0, none⟩ = some (.int .u64 u0) := (cell_of_row _ _ _ _ _ _ hU7.out).trans rfl
    have x1 : w7.cell? ⟨W0.heap.size, 1, none⟩ = some (.int .u64 u1) := (cell_of_row _ _ _ _ _ _ hU7.out).trans rfl
    have g10 : w7.cell? ⟨g1, 0, none⟩ = some (.int .u64 y0) := (cell_of_row _ _ _ _ _ _ hG7.out).trans rfl
    have g11 : w7.cell? ⟨g1, 1, none⟩ = some (.int .u64 y1) := (cell_of_row _ _ _ _ _ _ hG7.out).trans rfl
    have hl0 := block_lt_of_cell x0
    have hl1 := block_lt_of_cell g10
    by_cases hA : u0 < y0
    · generalize bestW b (ps ++ [moreP ⟨u0, u1, u2, u3⟩]) (n + 1) = Y2 at *
      obtain ⟨⟨q0, q1, q2, q3⟩, q4, q5⟩ := Y2
      have hBz := hide (hB7.out.later (below1 w7 (.cells (rolesRow ⟨q0, q1, q2, q3⟩ q4 (.slice (some ⟨ib, 0, none⟩) (n + 1) (n + 1)) (.slice (some ⟨vb, 0, none⟩) (n + 1) (n + 1))) 30)))
      clear hmore
      go_wp2
      go_ret
      exact ⟨rfl, hBz.out⟩
    by_cases hE : 4294967295 ≤ y1
    · generalize bestW b (ps ++ [moreP ⟨u0, u1, u2, u3⟩]) (n + 1) = Y2 at *
      obtain ⟨⟨q0, q1, q2, q3⟩, q4, q5⟩ := Y2
      have hBz := hide (hB7.out.later (below1 w7 (.cells (rolesRow ⟨q0, q1, q2, q3⟩ q4 (.slice (some ⟨ib, 0, none⟩) (n + 1) (n + 1)) (.slice (some ⟨vb, 0, none⟩) (n + 1) (n + 1))) 30)))
      clear hmore
      by_cases hC : u1 < 4294967295
      · by_cases hD : u0 = y0
        · subst hD
          go_wp2
          go_ret
          exact ⟨rfl, hBz.out⟩
        · have hDq : (u0 == y0) = false := by rw [beq_eq_false_iff_ne]; exact hD
          go_wp2
          go_ret
          exact ⟨rfl, hBz.out⟩
      · go_wp2
        go_ret
        exact ⟨rfl, hBz.out⟩
    have hY2 := hmore.out (by omega) (by omega)
    rw [hY2]
    clear hmore
    have hEA : Hid (∀ j, j < n → roleV b ⟨⟨y0, y1, y2, y3⟩, y4, y5⟩ j ((ps ++ [moreP ⟨u0, u1, u2, u3⟩]).getD j Rp.zero) = roleV b ⟨⟨y0, y1, y2, y3⟩, y4, y5⟩ j (ps.getD j Rp.zero) ∧ tellV b ⟨⟨y0, y1, y2, y3⟩, y4, y5⟩ ((ps ++ [moreP ⟨u0, u1, u2, u3⟩]).getD j Rp.zero) = tellV b ⟨⟨y0, y1, y2, y3⟩, y4, y5⟩ (ps.getD j Rp.zero)) := fun j hj => by rw [getD_app_lt _ _ _ _ (by omega)]; exact ⟨rfl, rfl⟩
    have hTwf : Hid (∀ j, j < n → (tellV b ⟨⟨y0, y1, y2, y3⟩, y4, y5⟩ (ps.getD j Rp.zero)).wf) := fun j hj => tellV_wf hbU hYwf.out (wf_of_rps hI4.out j (by omega))
    have hvn : ∀ w, (binOp .neq 26 (.agg (Vc.row ⟨y0, y1, y2, y3⟩)) (.agg (Vc.row ⟨y0, y1, y2, y3⟩))).run Try.prog w = .ok (.bool false) w := fun w => by rw [vec_neq _ _ hYwf.out hYwf.out]; simp
    have g12 : w7.cell? ⟨g1, 2, none⟩ = some (.int .u64 y2) := (cell_of_row _ _ _ _ _ _ hG7.out).trans rfl
    have g13 : w7.cell? ⟨g1, 3, none⟩ = some (.int .i64 y3) := (cell_of_row _ _ _ _ _ _ hG7.out).trans rfl
    have g14 : w7.cell? ⟨g1, 4, none⟩ = some (.int .i64 y4) := (cell_of_row _ _ _ _ _ _ hG7.out).trans rfl
    have hA8 := below1 w7 (.cells (rolesRow ⟨y0, y1, y2, y3⟩ y4 (.slice (some ⟨ib, 0, none⟩) (n + 1) (n + 1)) (.slice (some ⟨vb, 0, none⟩) (n + 1) (n + 1))) 30)
    have hG2 := hide (heap_alloc_new w7 (.cells (rolesRow ⟨y0, y1, y2, y3⟩ y4 (.slice (some ⟨ib, 0, none⟩) (n + 1) (n + 1)) (.slice (some ⟨vb, 0, none⟩) (n + 1) (n + 1))) 30))
    have hS8a := hide (hSA7.out.below hA8)
    have hS8b := hide (hSB7.out.below hA8)
    have hB8 := hide (hB7.out.later hA8)
    have hG8 := hide (heap_kept hA8 hG7.out)
    clear hA8 hSA7 hSB7 hB7 hG7 hU7
    by_cases hC : u1 < 4294967295
    · by_cases hD : u0 = y0
      · have hDq : (u0 == y0) = true := by rw [beq_iff_eq]; exact hD
        clear hD
        go_wp2_with fail
        clear hvn x0 x1 g10 g11 g12 g13 g14
        generalize w7.alloc (.cells (rolesRow ⟨y0, y1, y2, y3⟩ y4 (.slice (some ⟨ib, 0, none⟩) (n + 1) (n + 1)) (.slice (some ⟨vb, 0, none⟩) (n + 1) (n + 1))) 30) = w8 at *
        generalize w7.heap.size = g2 at *
        go_loopw [82] (fun i wr => ∃ j : Nat, j ≤ n ∧ i = .int .i64 j ∧ Hid (Below w8.heap.size w8 wr)) (fun i _ => n - (intOf i).toNat)
        case atStart => exact ⟨0, Nat.zero_le _, rfl, hide (Below.refl _ _)⟩
        case round =>
          obtain ⟨j, hj, rfl, hB⟩ := hrel
          by_cases hlt : j < n
          · have hra := (hS8a.out.below hB.out).role j hlt
            have hta := (hS8a.out.below hB.out).tell j hlt
            have hrb := (hS8b.out.below hB.out).role j (by omega)
            have htb := (hS8b.out.below hB.out).tell j (by omega)
            rw [hY2, (hEA.out j hlt).1] at hrb
            rw [hY2, (hEA.out j hlt).2] at htb
            have hw := hide (hTwf.out j hlt)
            rw [hYE.out] at hra hta
            generalize roleV b ⟨⟨y0, y1, y2, y3⟩, y4, y5⟩ j (ps.getD j Rp.zero) = ro at *
            generalize tellV b ⟨⟨y0, y1, y2, y3⟩, y4, y5⟩ (ps.getD j Rp.zero) = tv at *
            obtain ⟨t0, t1, t2, t3⟩ := tv
            obtain ⟨q0, q1, q2, q3⟩ := hta
            obtain ⟨r0, r1, r2, r3⟩ := htb
            dsimp only at *
            have hvn : ∀ w, (binOp .neq 26 (.agg (Vc.row ⟨t0, t1, t2, t3⟩)) (.agg (Vc.row ⟨t0, t1, t2, t3⟩))).run Try.prog w = .ok (.bool false) w := fun w => by rw [vec_neq _ _ hw.out hw.out]; simp
            have k1 := heap_kept hB.out hG8.out
            have k2 := heap_kept hB.out hG2.out
            have e5 : wr.cell? ⟨g1, 5, none⟩ = some (.slice (some ⟨ia, 0, none⟩) n n) := (cell_of_row _ _ _ _ _ _ k1).trans rfl
            have e6 : wr.cell? ⟨g1, 6, none⟩ = some (.slice (some ⟨va, 0, none⟩) n n) := (cell_of_row _ _ _ _ _ _ k1).trans rfl
            have f5 : wr.cell? ⟨g2, 5, none⟩ = some (.slice (some ⟨ib, 0, none⟩) (n + 1) (n + 1)) := (cell_of_row _ _ _ _ _ _ k2).trans rfl
            have f6 : wr.cell? ⟨g2, 6, none⟩ = some (.slice (some ⟨vb, 0, none⟩) (n + 1) (n + 1)) := (cell_of_row _ _ _ _ _ _ k2).trans rfl
            have hlt1 : (j : Int) < (n : Int) + 1 := by omega
            clear k1 k2 hw
            have hBn := hide (below_drewN hB.out 1)
            go_wp2_with fail
            refine wp_region_noPanic ?_
            refine wp_region_held_drew (S := fun W => W.cell? ⟨g1, 5, none⟩ = some (.slice (some ⟨ia, 0, none⟩) n n) ∧ W.cell? ⟨g1, 6, none⟩ = some (.slice (some ⟨va, 0, none⟩) n n) ∧ W.cell? ⟨g2, 5, none⟩ = some (.slice (some ⟨ib, 0, none⟩) (n + 1) (n + 1)) ∧ W.cell? ⟨g2, 6, none⟩ = some (.slice (some ⟨vb, 0, none⟩) (n + 1) (n + 1)) ∧ W.cell? ⟨ia, j, none⟩ = some (.int .i64 ro) ∧ W.cell? ⟨ib, j, none⟩ = some (.int .i64 ro) ∧ W.cell? ⟨va, j * 4, none⟩ = some (.int .u64 t0) ∧ W.cell? ⟨va, j * 4 + 1, none⟩ = some (.int .u64 t1) ∧ W.cell? ⟨va, j * 4 + 2, none⟩ = some (.int .u64 t2) ∧ W.cell? ⟨va, j * 4 + 3, none⟩ = some (.int .i64 t3) ∧ W.cell? ⟨vb, j * 4, none⟩ = some (.int .u64 t0) ∧ W.cell? ⟨vb, j * 4 + 1, none⟩ = some (.int .u64 t1) ∧ W.cell? ⟨vb, j * 4 + 2, none⟩ = some (.int .u64 t2) ∧ W.cell? ⟨vb, j * 4 + 3, none⟩ = some (.int .i64 t3)) (by kernel_rfl) ⟨e5, e6, f5, f6, hra, hrb, q0, q1, q2, q3, r0, r1, r2, r3⟩ (fun hHeld => ?_)
            refine wpAnyH_take (i := 0) (oi := { dst := some 85, op := Op.fieldAddr 30 (Operand.tmp 7) 2, type := 0, pos := "law.go:144", after := #[], guard := none }) (v := ?v7) rfl (by kernel_rfl) (by kernel_rfl) (by kernel_rfl) (fun _ _ _ h => h) (Or.inl ⟨by rfl, ?y7⟩) (by assumption) ?r7
            case y7 => (intro w hSw; (try dsimp only at hSw); (try (go_split_ands)); go_simp; try with_reducible rfl)
            try simp only [Act.put, List.setIfInBounds_toArray, List.set_cons_zero, List.set_cons_succ]
            refine wpAnyH_take (i := 1) (oi := { dst := some 86, op := Op.load 27 (Operand.tmp 85), type := 27, pos := "law.go:144", after := #[{ on := 0, ground := Ground.data }], guard := none }) (v := ?v8) rfl (by kernel_rfl) (by kernel_rfl) (by kernel_rfl) (fun _ _ _ h => h) (Or.inl ⟨by rfl, ?y8⟩) (by assumption) ?r8
            case y8 => (intro w hSw; (try dsimp only at hSw); (try (go_split_ands)); go_simp; try with_reducible rfl)
            try simp only [Act.put, List.setIfInBounds_toArray, List.set_cons_zero, List.set_cons_succ]
            refine wpAnyH_take (i := 2) (oi := { dst := some 87, op := Op.move (Operand.tmp 10), type := 3, pos := "law.go:144", after := #[], guard := none }) (v := ?v9) rfl (by kernel_rfl) (by kernel_rfl) (by kernel_rfl) (fun _ _ _ h => h) (Or.inl ⟨by rfl, ?y9⟩) (by assumption) ?r9
            case y9 => (intro w hSw; (try dsimp only at hSw); (try (go_split_ands)); go_simp; try with_reducible rfl)
            try simp only [Act.put, List.setIfInBounds_toArray, List.set_cons_zero, List.set_cons_succ]
            refine wpAnyH_take (i := 3) (oi := { dst := some 88, op := Op.indexAddr 27 (Operand.tmp 86) (Operand.tmp 87), type := 0, pos := "law.go:144", after := #[{ on := 1, ground := Ground.data }, { on := 2, ground := Ground.data }], guard := none }) (v := ?v10) rfl (by kernel_rfl) (by kernel_rfl) (by kernel_rfl) (fun _ _ _ h => h) (Or.inl ⟨by rfl, ?y10⟩) (by assumption) ?r10
            case y10 => (intro w hSw; (try dsimp only at hSw); (try (go_split_ands)); go_simp; try with_reducible rfl)
            try simp only [Act.put, List.setIfInBounds_toArray, List.set_cons_zero, List.set_cons_succ]
            refine wpAnyH_take (i := 4) (oi := { dst := some 89, op := Op.load 3 (Operand.tmp 88), type := 3, pos := "law.go:144", after := #[{ on := 3, ground := Ground.data }], guard := none }) (v := ?v11) rfl (by kernel_rfl) (by kernel_rfl) (by kernel_rfl) (fun _ _ _ h => h) (Or.inl ⟨by rfl, ?y11⟩) (by assumption) ?r11
            case y11 => (intro w hSw; (try dsimp only at hSw); (try (go_split_ands)); go_simp; try with_reducible rfl)
            try simp only [Act.put, List.setIfInBounds_toArray, List.set_cons_zero, List.set_cons_succ]
            refine wpAnyH_take (i := 5) (oi := { dst := some 90, op := Op.fieldAddr 30 (Operand.tmp 9) 2, type := 0, pos := "law.go:144", after := #[], guard := none }) (v := ?v12) rfl (by kernel_rfl) (by kernel_rfl) (by kernel_rfl) (fun _ _ _ h => h) (Or.inl ⟨by rfl, ?y12⟩) (by assumption) ?r12
            case y12 => (intro w hSw; (try dsimp only at hSw); (try (go_split_ands)); go_simp; try with_reducible rfl)
            try simp only [Act.put, List.setIfInBounds_toArray, List.set_cons_zero, List.set_cons_succ]
            refine wpAnyH_take (i := 6) (oi := { dst := some 91, op := Op.load 27 (Operand.tmp 90), type := 27, pos := "law.go:144", after := #[{ on := 5, ground := Ground.data }], guard := none }) (v := ?v13) rfl (by kernel_rfl) (by kernel_rfl) (by kernel_rfl) (fun _ _ _ h => h) (Or.inl ⟨by rfl, ?y13⟩) (by assumption) ?r13
            case y13 => (intro w hSw; (try dsimp only at hSw); (try (go_split_ands)); go_simp; try with_reducible rfl)
            try simp only [Act.put, List.setIfInBounds_toArray, List.set_cons_zero, List.set_cons_succ]
            refine wpAnyH_take (i := 7) (oi := { dst := some 92, op := Op.move (Operand.tmp 10), type := 3, pos := "law.go:144", after := #[], guard := none }) (v := ?v14) rfl (by kernel_rfl) (by kernel_rfl) (by kernel_rfl) (fun _ _ _ h => h) (Or.inl ⟨by rfl, ?y14⟩) (by assumption) ?r14
            case y14 => (intro w hSw; (try dsimp only at hSw); (try (go_split_ands)); go_simp; try with_reducible rfl)
            try simp only [Act.put, List.setIfInBounds_toArray, List.set_cons_zero, List.set_cons_succ]
            refine wpAnyH_take (i := 8) (oi := { dst := some 93, op := Op.indexAddr 27 (Operand.tmp 91) (Operand.tmp 92), type := 0, pos := "law.go:144", after := #[{ on := 6, ground := Ground.data }, { on := 7, ground := Ground.data }], guard := none }) (v := ?v15) rfl (by kernel_rfl) (by kernel_rfl) (by kernel_rfl) (fun _ _ _ h => h) (Or.inl ⟨by rfl, ?y15⟩) (by assumption) ?r15
            case y15 => (intro w hSw; (try dsimp only at hSw); (try (go_split_ands)); go_simp; try with_reducible rfl)
            try simp only [Act.put, List.setIfInBounds_toArray, List.set_cons_zero, List.set_cons_succ]
            refine wpAnyH_take (i := 9) (oi := { dst := some 94, op := Op.load 3 (Operand.tmp 93), type := 3, pos := "law.go:144", after := #[{ on := 8, ground := Ground.data }], guard := none }) (v := ?v16) rfl (by kernel_rfl) (by kernel_rfl) (by kernel_rfl) (fun _ _ _ h => h) (Or.inl ⟨by rfl, ?y16⟩) (by assumption) ?r16
            case y16 => (intro w hSw; (try dsimp only at hSw); (try (go_split_ands)); go_simp; try with_reducible rfl)
            try simp only [Act.put, List.setIfInBounds_toArray, List.set_cons_zero, List.set_cons_succ]
            refine wpAnyH_take (i := 10) (oi := { dst := some 95, op := Op.binOp BinOp.neq 3 (Operand.tmp 89) (Operand.tmp 94) 3, type := 4, pos := "law.go:144", after := #[{ on := 4, ground := Ground.data }, { on := 9, ground := Ground.data }], guard := none }) (v := ?v17) rfl (by kernel_rfl) (by kernel_rfl) (by kernel_rfl) (fun _ _ _ h => h) (Or.inl ⟨by rfl, ?y17⟩) (by assumption) ?r17
            case y17 => (intro w hSw; (try dsimp only at hSw); (try (go_split_ands)); go_simp; try with_reducible rfl)
            try simp only [Act.put, List.setIfInBounds_toArray, List.set_cons_zero, List.set_cons_succ]
            refine wpAnyH_take (i := 11) (oi := { dst := some 96, op := Op.move (Operand.tmp 95), type := 4, pos := "law.go:144", after := #[{ on := 10, ground := Ground.data }], guard := none }) (v := ?v18) rfl (by kernel_rfl) (by kernel_rfl) (by kernel_rfl) (fun _ _ _ h => h) (Or.inl ⟨by rfl, ?y18⟩) (by assumption) ?r18
            case y18 => (intro w hSw; (try dsimp only at hSw); (try (go_split_ands)); go_simp; try with_reducible rfl)
            try simp only [Act.put, List.setIfInBounds_toArray, List.set_cons_zero, List.set_cons_succ]
            refine wpAnyH_take (i := 12) (oi := { dst := some 97, op := Op.fieldAddr 30 (Operand.tmp 7) 3, type := 0, pos := "law.go:144", after := #[{ on := 11, ground := Ground.guard }], guard := some (11, false) }) (v := ?v19) rfl (by kernel_rfl) (by kernel_rfl) (by kernel_rfl) (fun _ _ _ h => h) (Or.inl ⟨by rfl, ?y19⟩) (by assumption) ?r19
            case y19 => (intro w hSw; (try dsimp only at hSw); (try (go_split_ands)); go_simp; try with_reducible rfl)
            try simp only [Act.put, List.setIfInBounds_toArray, List.set_cons_zero, List.set_cons_succ]
            refine wpAnyH_take (i := 13) (oi := { dst := some 98, op := Op.load 28 (Operand.tmp 97), type := 28, pos := "law.go:144", after := #[{ on := 12, ground := Ground.data }, { on := 11, ground := Ground.guard }], guard := some (11, false) }) (v := ?v20) rfl (by kernel_rfl) (by kernel_rfl) (by kernel_rfl) (fun _ _ _ h => h) (Or.inl ⟨by rfl, ?y20⟩) (by assumption) ?r20
            case y20 => (intro w hSw; (try dsimp only at hSw); (try (go_split_ands)); go_simp; try with_reducible rfl)
            try simp only [Act.put, List.setIfInBounds_toArray, List.set_cons_zero, List.set_cons_succ]
            refine wpAnyH_take (i := 14) (oi := { dst := some 99, op := Op.move (Operand.tmp 10), type := 3, pos := "law.go:144", after := #[{ on := 11, ground := Ground.guard }], guard := some (11, false) }) (v := ?v21) rfl (by kernel_rfl) (by kernel_rfl) (by kernel_rfl) (fun _ _ _ h => h) (Or.inl ⟨by rfl, ?y21⟩) (by assumption) ?r21
            case y21 => (intro w hSw; (try dsimp only at hSw); (try (go_split_ands)); go_simp; try with_reducible rfl)
            try simp only [Act.put, List.setIfInBounds_toArray, List.set_cons_zero, List.set_cons_succ]
            refine wpAnyH_take (i := 15) (oi := { dst := some 100, op := Op.indexAddr 28 (Operand.tmp 98) (Operand.tmp 99), type := 0, pos := "law.go:144", after := #[{ on := 13, ground := Ground.data }, { on := 14, ground := Ground.data }, { on := 11, ground := Ground.guard }], guard := some (11, false) }) (v := ?v22) rfl (by kernel_rfl) (by kernel_rfl) (by kernel_rfl) (fun _ _ _ h => h) (Or.inl ⟨by rfl, ?y22⟩) (by assumption) ?r22
            case y22 => (intro w hSw; (try dsimp only at hSw); (try (go_split_ands)); go_simp; try with_reducible rfl)
            try simp only [Act.put, List.setIfInBounds_toArray, List.set_cons_zero, List.set_cons_succ]
            refine wpAnyH_take (i := 16) (oi := { dst := some 101, op := Op.load 26 (Operand.tmp 100), type := 26, pos := "law.go:144", after := #[{ on := 15, ground := Ground.data }, { on := 11, ground := Ground.guard }], guard := some (11, false) }) (v := ?v23) rfl (by kernel_rfl) (by kernel_rfl) (by kernel_rfl) (fun _ _ _ h => h) (Or.inl ⟨by rfl, ?y23⟩) (by assumption) ?r23
            case y23 => (intro w hSw; (try dsimp only at hSw); (try (go_split_ands)); go_simp; try with_reducible rfl)
            try simp only [Act.put, List.setIfInBounds_toArray, List.set_cons_zero, List.set_cons_succ]
            refine wpAnyH_take (i := 17) (oi := { dst := some 102, op := Op.fieldAddr 30 (Operand.tmp 9) 3, type := 0, pos := "law.go:144", after := #[{ on := 11, ground := Ground.guard }], guard := some (11, false) }) (v := ?v24) rfl (by kernel_rfl) (by kernel_rfl) (by kernel_rfl) (fun _ _ _ h => h) (Or.inl ⟨by rfl, ?y24⟩) (by assumption) ?r24
            case y24 => (intro w hSw; (try dsimp only at hSw); (try (go_split_ands)); go_simp; try with_reducible rfl)
            try simp only [Act.put, List.setIfInBounds_toArray, List.set_cons_zero, List.set_cons_succ]
            refine wpAnyH_take (i := 18) (oi := { dst := some 103, op := Op.load 28 (Operand.tmp 102), type := 28, pos := "law.go:144", after := #[{ on := 17, ground := Ground.data }, { on := 11, ground := Ground.guard }], guard := some (11, false) }) (v := ?v25) rfl (by kernel_rfl) (by kernel_rfl) (by kernel_rfl) (fun _ _ _ h => h) (Or.inl ⟨by rfl, ?y25⟩) (by assumption) ?r25
            case y25 => (intro w hSw; (try dsimp only at hSw); (try (go_split_ands)); go_simp; try with_reducible rfl)
            try simp only [Act.put, List.setIfInBounds_toArray, List.set_cons_zero, List.set_cons_succ]
            refine wpAnyH_take (i := 19) (oi := { dst := some 104, op := Op.move (Operand.tmp 10), type := 3, pos := "law.go:144", after := #[{ on := 11, ground := Ground.guard }], guard := some (11, false) }) (v := ?v26) rfl (by kernel_rfl) (by kernel_rfl) (by kernel_rfl) (fun _ _ _ h => h) (Or.inl ⟨by rfl, ?y26⟩) (by assumption) ?r26
            case y26 => (intro w hSw; (try dsimp only at hSw); (try (go_split_ands)); go_simp; try with_reducible rfl)
            try simp only [Act.put, List.setIfInBounds_toArray, List.set_cons_zero, List.set_cons_succ]
            refine wpAnyH_take (i := 20) (oi := { dst := some 105, op := Op.indexAddr 28 (Operand.tmp 103) (Operand.tmp 104), type := 0, pos := "law.go:144", after := #[{ on := 18, ground := Ground.data }, { on := 19, ground := Ground.data }, { on := 11, ground := Ground.guard }], guard := some (11, false) }) (v := ?v27) rfl (by kernel_rfl) (by kernel_rfl) (by kernel_rfl) (fun _ _ _ h => h) (Or.inl ⟨by rfl, ?y27⟩) (by assumption) ?r27
            case y27 => (intro w hSw; (try dsimp only at hSw); (try (go_split_ands)); go_simp; try with_reducible rfl)
            try simp only [Act.put, List.setIfInBounds_toArray, List.set_cons_zero, List.set_cons_succ]
            refine wpAnyH_take (i := 21) (oi := { dst := some 106, op := Op.load 26 (Operand.tmp 105), type := 26, pos := "law.go:144", after := #[{ on := 20, ground := Ground.data }, { on := 11, ground := Ground.guard }], guard := some (11, false) }) (v := ?v28) rfl (by kernel_rfl) (by kernel_rfl) (by kernel_rfl) (fun _ _ _ h => h) (Or.inl ⟨by rfl, ?y28⟩) (by assumption) ?r28
            case y28 => (intro w hSw; (try dsimp only at hSw); (try (go_split_ands)); go_simp; try with_reducible rfl)
            try simp only [Act.put, List.setIfInBounds_toArray, List.set_cons_zero, List.set_cons_succ]
            refine wpAnyH_take (i := 22) (oi := { dst := some 107, op := Op.binOp BinOp.neq 26 (Operand.tmp 101) (Operand.tmp 106) 26, type := 4, pos := "law.go:144", after := #[{ on := 16, ground := Ground.data }, { on := 21, ground := Ground.data }, { on := 11, ground := Ground.guard }], guard := some (11, false) }) (v := ?v29) rfl (by kernel_rfl) (by kernel_rfl) (by kernel_rfl) (fun _ _ _ h => h) (Or.inl ⟨by rfl, ?y29⟩) (by assumption) ?r29
            case y29 => (intro w hSw; (try dsimp only at hSw); (try (go_split_ands)); go_simp; try with_reducible rfl)
            try simp only [Act.put, List.setIfInBounds_toArray, List.set_cons_zero, List.set_cons_succ]
            refine wpAnyH_take (i := 23) (oi := { dst := some 108, op := Op.pick (Operand.tmp 96) (Operand.const (Value.bool true)) (Operand.tmp 107), type := 4, pos := "law.go:144", after := #[{ on := 11, ground := Ground.data }, { on := 22, ground := Ground.data }], guard := none }) (v := ?v30) rfl (by kernel_rfl) (by kernel_rfl) (by kernel_rfl) (fun _ _ _ h => h) (Or.inl ⟨by rfl, ?y30⟩) (by assumption) ?r30
            case y30 => (intro w hSw; (try dsimp only at hSw); (try (go_split_ands)); go_simp; try with_reducible rfl)
            try simp only [Act.put, List.setIfInBounds_toArray, List.set_cons_zero, List.set_cons_succ]
            refine wpAnyH_done (by kernel_rfl) ?_ _
            refine NoPanic.normal ?_
            clear hHeld e5 e6 f5 f6 hra hrb q0 q1 q2 q3 r0 r1 r2 r3 hvn
            go_wp2
            go_round
            case rel => exact ⟨j + 1, by omega, by go_num, hBn⟩
            case measure => simp [intOf]; omega
          · obtain rfl : j = n := by omega
            go_wp2
            go_ret
            exact ⟨rfl, hB8.out.later hB.out⟩
      · have hDq : (u0 == y0) = false := by rw [beq_eq_false_iff_ne]; exact hD
        go_wp2_with fail
        clear hvn x0 x1 g10 g11 g12 g13 g14
        generalize w7.alloc (.cells (rolesRow ⟨y0, y1, y2, y3⟩ y4 (.slice (some ⟨ib, 0, none⟩) (n + 1) (n + 1)) (.slice (some ⟨vb, 0, none⟩) (n + 1) (n + 1))) 30) = w8 at *
        generalize w7.heap.size = g2 at *
        go_loopw [82] (fun i wr => ∃ j : Nat, j ≤ n ∧ i = .int .i64 j ∧ Hid (Below w8.heap.size w8 wr)) (fun i _ => n - (intOf i).toNat)
        case atStart => exact ⟨0, Nat.zero_le _, rfl, hide (Below.refl _ _)⟩
        case round =>
          obtain ⟨j, hj, rfl, hB⟩ := hrel
          by_cases hlt : j < n
          · have hra := (hS8a.out.below hB.out).role j hlt
            have hta := (hS8a.out.below hB.out).tell j hlt
            have hrb := (hS8b.out.below hB.out).role j (by omega)
            have htb := (hS8b.out.below hB.out).tell j (by omega)
            rw [hY2, (hEA.out j hlt).1] at hrb
            rw [hY2, (hEA.out j hlt).2] at htb
            have hw := hide (hTwf.out j hlt)
            rw [hYE.out] at hra hta
            generalize roleV b ⟨⟨y0, y1, y2, y3⟩, y4, y5⟩ j (ps.getD j Rp.zero) = ro at *
            generalize tellV b ⟨⟨y0, y1, y2, y3⟩, y4, y5⟩ (ps.getD j Rp.zero) = tv at *
            obtain ⟨t0, t1, t2, t3⟩ := tv
            obtain ⟨q0, q1, q2, q3⟩ := hta
            obtain ⟨r0, r1, r2, r3⟩ := htb
            dsimp only at *
            have hvn : ∀ w, (binOp .neq 26 (.agg (Vc.row ⟨t0, t1, t2, t3⟩)) (.agg (Vc.row ⟨t0, t1, t2, t3⟩))).run Try.prog w = .ok (.bool false) w := fun w => by rw [vec_neq _ _ hw.out hw.out]; simp
            have k1 := heap_kept hB.out hG8.out
            have k2 := heap_kept hB.out hG2.out
            have e5 : wr.cell? ⟨g1, 5, none⟩ = some (.slice (some ⟨ia, 0, none⟩) n n) := (cell_of_row _ _ _ _ _ _ k1).trans rfl
            have e6 : wr.cell? ⟨g1, 6, none⟩ = some (.slice (some ⟨va, 0, none⟩) n n) := (cell_of_row _ _ _ _ _ _ k1).trans rfl
            have f5 : wr.cell? ⟨g2, 5, none⟩ = some (.slice (some ⟨ib, 0, none⟩) (n + 1) (n + 1)) := (cell_of_row _ _ _ _ _ _ k2).trans rfl
            have f6 : wr.cell? ⟨g2, 6, none⟩ = some (.slice (some ⟨vb, 0, none⟩) (n + 1) (n + 1)) := (cell_of_row _ _ _ _ _ _ k2).trans rfl
            have hlt1 : (j : Int) < (n : Int) + 1 := by omega
            clear k1 k2 hw
            have hBn := hide (below_drewN hB.out 1)
            go_wp2_with fail
            refine wp_region_noPanic ?_
            refine wp_region_held_drew (S := fun W => W.cell? ⟨g1, 5, none⟩ = some (.slice (some ⟨ia, 0, none⟩) n n) ∧ W.cell? ⟨g1, 6, none⟩ = some (.slice (some ⟨va, 0, none⟩) n n) ∧ W.cell? ⟨g2, 5, none⟩ = some (.slice (some ⟨ib, 0, none⟩) (n + 1) (n + 1)) ∧ W.cell? ⟨g2, 6, none⟩ = some (.slice (some ⟨vb, 0, none⟩) (n + 1) (n + 1)) ∧ W.cell? ⟨ia, j, none⟩ = some (.int .i64 ro) ∧ W.cell? ⟨ib, j, none⟩ = some (.int .i64 ro) ∧ W.cell? ⟨va, j * 4, none⟩ = some (.int .u64 t0) ∧ W.cell? ⟨va, j * 4 + 1, none⟩ = some (.int .u64 t1) ∧ W.cell? ⟨va, j * 4 + 2, none⟩ = some (.int .u64 t2) ∧ W.cell? ⟨va, j * 4 + 3, none⟩ = some (.int .i64 t3) ∧ W.cell? ⟨vb, j * 4, none⟩ = some (.int .u64 t0) ∧ W.cell? ⟨vb, j * 4 + 1, none⟩ = some (.int .u64 t1) ∧ W.cell? ⟨vb, j * 4 + 2, none⟩ = some (.int .u64 t2) ∧ W.cell? ⟨vb, j * 4 + 3, none⟩ = some (.int .i64 t3)) (by kernel_rfl) ⟨e5, e6, f5, f6, hra, hrb, q0, q1, q2, q3, r0, r1, r2, r3⟩ (fun hHeld => ?_)
            refine wpAnyH_take (i := 0) (oi := { dst := some 85, op := Op.fieldAddr 30 (Operand.tmp 7) 2, type := 0, pos := "law.go:144", after := #[], guard := none }) (v := ?v31) rfl (by kernel_rfl) (by kernel_rfl) (by kernel_rfl) (fun _ _ _ h => h) (Or.inl ⟨by rfl, ?y31⟩) (by assumption) ?r31
            case y31 => (intro w hSw; (try dsimp only at hSw); (try (go_split_ands)); go_simp; try with_reducible rfl)
            try simp only [Act.put, List.setIfInBounds_toArray, List.set_cons_zero, List.set_cons_succ]
            refine wpAnyH_take (i := 1) (oi := { dst := some 86, op := Op.load 27 (Operand.tmp 85), type := 27, pos := "law.go:144", after := #[{ on := 0, ground := Ground.data }], guard := none }) (v := ?v32) rfl (by kernel_rfl) (by kernel_rfl) (by kernel_rfl) (fun _ _ _ h => h) (Or.inl ⟨by rfl, ?y32⟩) (by assumption) ?r32
            case y32 => (intro w hSw; (try dsimp only at hSw); (try (go_split_ands)); go_simp; try with_reducible rfl)
            try simp only [Act.put, List.setIfInBounds_toArray, List.set_cons_zero, List.set_cons_succ]
            refine wpAnyH_take (i := 2) (oi := { dst := some 87, op := Op.move (Operand.tmp 10), type := 3, pos := "law.go:144", after := #[], guard := none }) (v := ?v33) rfl (by kernel_rfl) (by kernel_rfl) (by kernel_rfl) (fun _ _ _ h => h) (Or.inl ⟨by rfl, ?y33⟩) (by assumption) ?r33
            case y33 => (intro w hSw; (try dsimp only at hSw); (try (go_split_ands)); go_simp; try with_reducible rfl)
            try simp only [Act.put, List.setIfInBounds_toArray, List.set_cons_zero, List.set_cons_succ]
            refine wpAnyH_take (i := 3) (oi := { dst := some 88, op := Op.indexAddr 27 (Operand.tmp 86) (Operand.tmp 87), type := 0, pos := "law.go:144", after := #[{ on := 1, ground := Ground.data }, { on := 2, ground := Ground.data }], guard := none }) (v := ?v34) rfl (by kernel_rfl) (by kernel_rfl) (by kernel_rfl) (fun _ _ _ h => h) (Or.inl ⟨by rfl, ?y34⟩) (by assumption) ?r34
            case y34 => (intro w hSw; (try dsimp only at hSw); (try (go_split_ands)); go_simp; try with_reducible rfl)
            try simp only [Act.put, List.setIfInBounds_toArray, List.set_cons_zero, List.set_cons_succ]
            refine wpAnyH_take (i := 4) (oi := { dst := some 89, op := Op.load 3 (Operand.tmp 88), type := 3, pos := "law.go:144", after := #[{ on := 3, ground := Ground.data }], guard := none }) (v := ?v35) rfl (by kernel_rfl) (by kernel_rfl) (by kernel_rfl) (fun _ _ _ h => h) (Or.inl ⟨by rfl, ?y35⟩) (by assumption) ?r35
            case y35 => (intro w hSw; (try dsimp only at hSw); (try (go_split_ands)); go_simp; try with_reducible rfl)
            try simp only [Act.put, List.setIfInBounds_toArray, List.set_cons_zero, List.set_cons_succ]
            refine wpAnyH_take (i := 5) (oi := { dst := some 90, op := Op.fieldAddr 30 (Operand.tmp 9) 2, type := 0, pos := "law.go:144", after := #[], guard := none }) (v := ?v36) rfl (by kernel_rfl) (by kernel_rfl) (by kernel_rfl) (fun _ _ _ h => h) (Or.inl ⟨by rfl, ?y36⟩) (by assumption) ?r36
            case y36 => (intro w hSw; (try dsimp only at hSw); (try (go_split_ands)); go_simp; try with_reducible rfl)
            try simp only [Act.put, List.setIfInBounds_toArray, List.set_cons_zero, List.set_cons_succ]
            refine wpAnyH_take (i := 6) (oi := { dst := some 91, op := Op.load 27 (Operand.tmp 90), type := 27, pos := "law.go:144", after := #[{ on := 5, ground := Ground.data }], guard := none }) (v := ?v37) rfl (by kernel_rfl) (by kernel_rfl) (by kernel_rfl) (fun _ _ _ h => h) (Or.inl ⟨by rfl, ?y37⟩) (by assumption) ?r37
            case y37 => (intro w hSw; (try dsimp only at hSw); (try (go_split_ands)); go_simp; try with_reducible rfl)
            try simp only [Act.put, List.setIfInBounds_toArray, List.set_cons_zero, List.set_cons_succ]
            refine wpAnyH_take (i := 7) (oi := { dst := some 92, op := Op.move (Operand.tmp 10), type := 3, pos := "law.go:144", after := #[], guard := none }) (v := ?v38) rfl (by kernel_rfl) (by kernel_rfl) (by kernel_rfl) (fun _ _ _ h => h) (Or.inl ⟨by rfl, ?y38⟩) (by assumption) ?r38
            case y38 => (intro w hSw; (try dsimp only at hSw); (try (go_split_ands)); go_simp; try with_reducible rfl)
            try simp only [Act.put, List.setIfInBounds_toArray, List.set_cons_zero, List.set_cons_succ]
            refine wpAnyH_take (i := 8) (oi := { dst := some 93, op := Op.indexAddr 27 (Operand.tmp 91) (Operand.tmp 92), type := 0, pos := "law.go:144", after := #[{ on := 6, ground := Ground.data }, { on := 7, ground := Ground.data }], guard := none }) (v := ?v39) rfl (by kernel_rfl) (by kernel_rfl) (by kernel_rfl) (fun _ _ _ h => h) (Or.inl ⟨by rfl, ?y39⟩) (by assumption) ?r39
            case y39 => (intro w hSw; (try dsimp only at hSw); (try (go_split_ands)); go_simp; try with_reducible rfl)
            try simp only [Act.put, List.setIfInBounds_toArray, List.set_cons_zero, List.set_cons_succ]
            refine wpAnyH_take (i := 9) (oi := { dst := some 94, op := Op.load 3 (Operand.tmp 93), type := 3, pos := "law.go:144", after := #[{ on := 8, ground := Ground.data }], guard := none }) (v := ?v40) rfl (by kernel_rfl) (by kernel_rfl) (by kernel_rfl) (fun _ _ _ h => h) (Or.inl ⟨by rfl, ?y40⟩) (by assumption) ?r40
            case y40 => (intro w hSw; (try dsimp only at hSw); (try (go_split_ands)); go_simp; try with_reducible rfl)
            try simp only [Act.put, List.setIfInBounds_toArray, List.set_cons_zero, List.set_cons_succ]
            refine wpAnyH_take (i := 10) (oi := { dst := some 95, op := Op.binOp BinOp.neq 3 (Operand.tmp 89) (Operand.tmp 94) 3, type := 4, pos := "law.go:144", after := #[{ on := 4, ground := Ground.data }, { on := 9, ground := Ground.data }], guard := none }) (v := ?v41) rfl (by kernel_rfl) (by kernel_rfl) (by kernel_rfl) (fun _ _ _ h => h) (Or.inl ⟨by rfl, ?y41⟩) (by assumption) ?r41
            case y41 => (intro w hSw; (try dsimp only at hSw); (try (go_split_ands)); go_simp; try with_reducible rfl)
            try simp only [Act.put, List.setIfInBounds_toArray, List.set_cons_zero, List.set_cons_succ]
            refine wpAnyH_take (i := 11) (oi := { dst := some 96, op := Op.move (Operand.tmp 95), type := 4, pos := "law.go:144", after := #[{ on := 10, ground := Ground.data }], guard := none }) (v := ?v42) rfl (by kernel_rfl) (by kernel_rfl) (by kernel_rfl) (fun _ _ _ h => h) (Or.inl ⟨by rfl, ?y42⟩) (by assumption) ?r42
            case y42 => (intro w hSw; (try dsimp only at hSw); (try (go_split_ands)); go_simp; try with_reducible rfl)
            try simp only [Act.put, List.setIfInBounds_toArray, List.set_cons_zero, List.set_cons_succ]
            refine wpAnyH_take (i := 12) (oi := { dst := some 97, op := Op.fieldAddr 30 (Operand.tmp 7) 3, type := 0, pos := "law.go:144", after := #[{ on := 11, ground := Ground.guard }], guard := some (11, false) }) (v := ?v43) rfl (by kernel_rfl) (by kernel_rfl) (by kernel_rfl) (fun _ _ _ h => h) (Or.inl ⟨by rfl, ?y43⟩) (by assumption) ?r43
            case y43 => (intro w hSw; (try dsimp only at hSw); (try (go_split_ands)); go_simp; try with_reducible rfl)
            try simp only [Act.put, List.setIfInBounds_toArray, List.set_cons_zero, List.set_cons_succ]
            refine wpAnyH_take (i := 13) (oi := { dst := some 98, op := Op.load 28 (Operand.tmp 97), type := 28, pos := "law.go:144", after := #[{ on := 12, ground := Ground.data }, { on := 11, ground := Ground.guard }], guard := some (11, false) }) (v := ?v44) rfl (by kernel_rfl) (by kernel_rfl) (by kernel_rfl) (fun _ _ _ h => h) (Or.inl ⟨by rfl, ?y44⟩) (by assumption) ?r44
            case y44 => (intro w hSw; (try dsimp only at hSw); (try (go_split_ands)); go_simp; try with_reducible rfl)
            try simp only [Act.put, List.setIfInBounds_toArray, List.set_cons_zero, List.set_cons_succ]
            refine wpAnyH_take (i := 14) (oi := { dst := some 99, op := Op.move (Operand.tmp 10), type := 3, pos := "law.go:144", after := #[{ on := 11, ground := Ground.guard }], guard := some (11, false) }) (v := ?v45) rfl (by kernel_rfl) (by kernel_rfl) (by kernel_rfl) (fun _ _ _ h => h) (Or.inl ⟨by rfl, ?y45⟩) (by assumption) ?r45
            case y45 => (intro w hSw; (try dsimp only at hSw); (try (go_split_ands)); go_simp; try with_reducible rfl)
            try simp only [Act.put, List.setIfInBounds_toArray, List.set_cons_zero, List.set_cons_succ]
            refine wpAnyH_take (i := 15) (oi := { dst := some 100, op := Op.indexAddr 28 (Operand.tmp 98) (Operand.tmp 99), type := 0, pos := "law.go:144", after := #[{ on := 13, ground := Ground.data }, { on := 14, ground := Ground.data }, { on := 11, ground := Ground.guard }], guard := some (11, false) }) (v := ?v46) rfl (by kernel_rfl) (by kernel_rfl) (by kernel_rfl) (fun _ _ _ h => h) (Or.inl ⟨by rfl, ?y46⟩) (by assumption) ?r46
            case y46 => (intro w hSw; (try dsimp only at hSw); (try (go_split_ands)); go_simp; try with_reducible rfl)
            try simp only [Act.put, List.setIfInBounds_toArray, List.set_cons_zero, List.set_cons_succ]
            refine wpAnyH_take (i := 16) (oi := { dst := some 101, op := Op.load 26 (Operand.tmp 100), type := 26, pos := "law.go:144", after := #[{ on := 15, ground := Ground.data }, { on := 11, ground := Ground.guard }], guard := some (11, false) }) (v := ?v47) rfl (by kernel_rfl) (by kernel_rfl) (by kernel_rfl) (fun _ _ _ h => h) (Or.inl ⟨by rfl, ?y47⟩) (by assumption) ?r47
            case y47 => (intro w hSw; (try dsimp only at hSw); (try (go_split_ands)); go_simp; try with_reducible rfl)
            try simp only [Act.put, List.setIfInBounds_toArray, List.set_cons_zero, List.set_cons_succ]
            refine wpAnyH_take (i := 17) (oi := { dst := some 102, op := Op.fieldAddr 30 (Operand.tmp 9) 3, type := 0, pos := "law.go:144", after := #[{ on := 11, ground := Ground.guard }], guard := some (11, false) }) (v := ?v48) rfl (by kernel_rfl) (by kernel_rfl) (by kernel_rfl) (fun _ _ _ h => h) (Or.inl ⟨by rfl, ?y48⟩) (by assumption) ?r48
            case y48 => (intro w hSw; (try dsimp only at hSw); (try (go_split_ands)); go_simp; try with_reducible rfl)
            try simp only [Act.put, List.setIfInBounds_toArray, List.set_cons_zero, List.set_cons_succ]
            refine wpAnyH_take (i := 18) (oi := { dst := some 103, op := Op.load 28 (Operand.tmp 102), type := 28, pos := "law.go:144", after := #[{ on := 17, ground := Ground.data }, { on := 11, ground := Ground.guard }], guard := some (11, false) }) (v := ?v49) rfl (by kernel_rfl) (by kernel_rfl) (by kernel_rfl) (fun _ _ _ h => h) (Or.inl ⟨by rfl, ?y49⟩) (by assumption) ?r49
            case y49 => (intro w hSw; (try dsimp only at hSw); (try (go_split_ands)); go_simp; try with_reducible rfl)
            try simp only [Act.put, List.setIfInBounds_toArray, List.set_cons_zero, List.set_cons_succ]
            refine wpAnyH_take (i := 19) (oi := { dst := some 104, op := Op.move (Operand.tmp 10), type := 3, pos := "law.go:144", after := #[{ on := 11, ground := Ground.guard }], guard := some (11, false) }) (v := ?v50) rfl (by kernel_rfl) (by kernel_rfl) (by kernel_rfl) (fun _ _ _ h => h) (Or.inl ⟨by rfl, ?y50⟩) (by assumption) ?r50
            case y50 => (intro w hSw; (try dsimp only at hSw); (try (go_split_ands)); go_simp; try with_reducible rfl)
            try simp only [Act.put, List.setIfInBounds_toArray, List.set_cons_zero, List.set_cons_succ]
            refine wpAnyH_take (i := 20) (oi := { dst := some 105, op := Op.indexAddr 28 (Operand.tmp 103) (Operand.tmp 104), type := 0, pos := "law.go:144", after := #[{ on := 18, ground := Ground.data }, { on := 19, ground := Ground.data }, { on := 11, ground := Ground.guard }], guard := some (11, false) }) (v := ?v51) rfl (by kernel_rfl) (by kernel_rfl) (by kernel_rfl) (fun _ _ _ h => h) (Or.inl ⟨by rfl, ?y51⟩) (by assumption) ?r51
            case y51 => (intro w hSw; (try dsimp only at hSw); (try (go_split_ands)); go_simp; try with_reducible rfl)
            try simp only [Act.put, List.setIfInBounds_toArray, List.set_cons_zero, List.set_cons_succ]
            refine wpAnyH_take (i := 21) (oi := { dst := some 106, op := Op.load 26 (Operand.tmp 105), type := 26, pos := "law.go:144", after := #[{ on := 20, ground := Ground.data }, { on := 11, ground := Ground.guard }], guard := some (11, false) }) (v := ?v52) rfl (by kernel_rfl) (by kernel_rfl) (by kernel_rfl) (fun _ _ _ h => h) (Or.inl ⟨by rfl, ?y52⟩) (by assumption) ?r52
            case y52 => (intro w hSw; (try dsimp only at hSw); (try (go_split_ands)); go_simp; try with_reducible rfl)
            try simp only [Act.put, List.setIfInBounds_toArray, List.set_cons_zero, List.set_cons_succ]
            refine wpAnyH_take (i := 22) (oi := { dst := some 107, op := Op.binOp BinOp.neq 26 (Operand.tmp 101) (Operand.tmp 106) 26, type := 4, pos := "law.go:144", after := #[{ on := 16, ground := Ground.data }, { on := 21, ground := Ground.data }, { on := 11, ground := Ground.guard }], guard := some (11, false) }) (v := ?v53) rfl (by kernel_rfl) (by kernel_rfl) (by kernel_rfl) (fun _ _ _ h => h) (Or.inl ⟨by rfl, ?y53⟩) (by assumption) ?r53
            case y53 => (intro w hSw; (try dsimp only at hSw); (try (go_split_ands)); go_simp; try with_reducible rfl)
            try simp only [Act.put, List.setIfInBounds_toArray, List.set_cons_zero, List.set_cons_succ]
            refine wpAnyH_take (i := 23) (oi := { dst := some 108, op := Op.pick (Operand.tmp 96) (Operand.const (Value.bool true)) (Operand.tmp 107), type := 4, pos := "law.go:144", after := #[{ on := 11, ground := Ground.data }, { on := 22, ground := Ground.data }], guard := none }) (v := ?v54) rfl (by kernel_rfl) (by kernel_rfl) (by kernel_rfl) (fun _ _ _ h => h) (Or.inl ⟨by rfl, ?y54⟩) (by assumption) ?r54
            case y54 => (intro w hSw; (try dsimp only at hSw); (try (go_split_ands)); go_simp; try with_reducible rfl)
            try simp only [Act.put, List.setIfInBounds_toArray, List.set_cons_zero, List.set_cons_succ]
            refine wpAnyH_done (by kernel_rfl) ?_ _
            refine NoPanic.normal ?_
            clear hHeld e5 e6 f5 f6 hra hrb q0 q1 q2 q3 r0 r1 r2 r3 hvn
            go_wp2
            go_round
            case rel => exact ⟨j + 1, by omega, by go_num, hBn⟩
            case measure => simp [intOf]; omega
          · obtain rfl : j = n := by omega
            go_wp2
            go_ret
            exact ⟨rfl, hB8.out.later hB.out⟩
    ·
      go_wp2_with fail
      clear hvn x0 x1 g10 g11 g12 g13 g14
      generalize w7.alloc (.cells (rolesRow ⟨y0, y1, y2, y3⟩ y4 (.slice (some ⟨ib, 0, none⟩) (n + 1) (n + 1)) (.slice (some ⟨vb, 0, none⟩) (n + 1) (n + 1))) 30) = w8 at *
      generalize w7.heap.size = g2 at *
      go_loopw [82] (fun i wr => ∃ j : Nat, j ≤ n ∧ i = .int .i64 j ∧ Hid (Below w8.heap.size w8 wr)) (fun i _ => n - (intOf i).toNat)
      case atStart => exact ⟨0, Nat.zero_le _, rfl, hide (Below.refl _ _)⟩
      case round =>
        obtain ⟨j, hj, rfl, hB⟩ := hrel
        by_cases hlt : j < n
        · have hra := (hS8a.out.below hB.out).role j hlt
          have hta := (hS8a.out.below hB.out).tell j hlt
          have hrb := (hS8b.out.below hB.out).role j (by omega)
          have htb := (hS8b.out.below hB.out).tell j (by omega)
          rw [hY2, (hEA.out j hlt).1] at hrb
          rw [hY2, (hEA.out j hlt).2] at htb
          have hw := hide (hTwf.out j hlt)
          rw [hYE.out] at hra hta
          generalize roleV b ⟨⟨y0, y1, y2, y3⟩, y4, y5⟩ j (ps.getD j Rp.zero) = ro at *
          generalize tellV b ⟨⟨y0, y1, y2, y3⟩, y4, y5⟩ (ps.getD j Rp.zero) = tv at *
          obtain ⟨t0, t1, t2, t3⟩ := tv
          obtain ⟨q0, q1, q2, q3⟩ := hta
          obtain ⟨r0, r1, r2, r3⟩ := htb
          dsimp only at *
          have hvn : ∀ w, (binOp .neq 26 (.agg (Vc.row ⟨t0, t1, t2, t3⟩)) (.agg (Vc.row ⟨t0, t1, t2, t3⟩))).run Try.prog w = .ok (.bool false) w := fun w => by rw [vec_neq _ _ hw.out hw.out]; simp
          have k1 := heap_kept hB.out hG8.out
          have k2 := heap_kept hB.out hG2.out
          have e5 : wr.cell? ⟨g1, 5, none⟩ = some (.slice (some ⟨ia, 0, none⟩) n n) := (cell_of_row _ _ _ _ _ _ k1).trans rfl
          have e6 : wr.cell? ⟨g1, 6, none⟩ = some (.slice (some ⟨va, 0, none⟩) n n) := (cell_of_row _ _ _ _ _ _ k1).trans rfl
          have f5 : wr.cell? ⟨g2, 5, none⟩ = some (.slice (some ⟨ib, 0, none⟩) (n + 1) (n + 1)) := (cell_of_row _ _ _ _ _ _ k2).trans rfl
          have f6 : wr.cell? ⟨g2, 6, none⟩ = some (.slice (some ⟨vb, 0, none⟩) (n + 1) (n + 1)) := (cell_of_row _ _ _ _ _ _ k2).trans rfl
          have hlt1 : (j : Int) < (n : Int) + 1 := by omega
          clear k1 k2 hw
          have hBn := hide (below_drewN hB.out 1)
          go_wp2_with fail
          refine wp_region_noPanic ?_
          refine wp_region_held_drew (S := fun W => W.cell? ⟨g1, 5, none⟩ = some (.slice (some ⟨ia, 0, none⟩) n n) ∧ W.cell? ⟨g1, 6, none⟩ = some (.slice (some ⟨va, 0, none⟩) n n) ∧ W.cell? ⟨g2, 5, none⟩ = some (.slice (some ⟨ib, 0, none⟩) (n + 1) (n + 1)) ∧ W.cell? ⟨g2, 6, none⟩ = some (.slice (some ⟨vb, 0, none⟩) (n + 1) (n + 1)) ∧ W.cell? ⟨ia, j, none⟩ = some (.int .i64 ro) ∧ W.cell? ⟨ib, j, none⟩ = some (.int .i64 ro) ∧ W.cell? ⟨va, j * 4, none⟩ = some (.int .u64 t0) ∧ W.cell? ⟨va, j * 4 + 1, none⟩ = some (.int .u64 t1) ∧ W.cell? ⟨va, j * 4 + 2, none⟩ = some (.int .u64 t2) ∧ W.cell? ⟨va, j * 4 + 3, none⟩ = some (.int .i64 t3) ∧ W.cell? ⟨vb, j * 4, none⟩ = some (.int .u64 t0) ∧ W.cell? ⟨vb, j * 4 + 1, none⟩ = some (.int .u64 t1) ∧ W.cell? ⟨vb, j * 4 + 2, none⟩ = some (.int .u64 t2) ∧ W.cell? ⟨vb, j * 4 + 3, none⟩ = some (.int .i64 t3)) (by kernel_rfl) ⟨e5, e6, f5, f6, hra, hrb, q0, q1, q2, q3, r0, r1, r2, r3⟩ (fun hHeld => ?_)
          refine wpAnyH_take (i := 0) (oi := { dst := some 85, op := Op.fieldAddr 30 (Operand.tmp 7) 2, type := 0, pos := "law.go:144", after := #[], guard := none }) (v := ?v55) rfl (by kernel_rfl) (by kernel_rfl) (by kernel_rfl) (fun _ _ _ h => h) (Or.inl ⟨by rfl, ?y55⟩) (by assumption) ?r55
          case y55 => (intro w hSw; (try dsimp only at hSw); (try (go_split_ands)); go_simp; try with_reducible rfl)
          try simp only [Act.put, List.setIfInBounds_toArray, List.set_cons_zero, List.set_cons_succ]
          refine wpAnyH_take (i := 1) (oi := { dst := some 86, op := Op.load 27 (Operand.tmp 85), type := 27, pos := "law.go:144", after := #[{ on := 0, ground := Ground.data }], guard := none }) (v := ?v56) rfl (by kernel_rfl) (by kernel_rfl) (by kernel_rfl) (fun _ _ _ h => h) (Or.inl ⟨by rfl, ?y56⟩) (by assumption) ?r56
          case y56 => (intro w hSw; (try dsimp only at hSw); (try (go_split_ands)); go_simp; try with_reducible rfl)
          try simp only [Act.put, List.setIfInBounds_toArray, List.set_cons_zero, List.set_cons_succ]
          refine wpAnyH_take (i := 2) (oi := { dst := some 87, op := Op.move (Operand.tmp 10), type := 3, pos := "law.go:144", after := #[], guard := none }) (v := ?v57) rfl (by kernel_rfl) (by kernel_rfl) (by kernel_rfl) (fun _ _ _ h => h) (Or.inl ⟨by rfl, ?y57⟩) (by assumption) ?r57
          case y57 => (intro w hSw; (try dsimp only at hSw); (try (go_split_ands)); go_simp; try with_reducible rfl)
          try simp only [Act.put, List.setIfInBounds_toArray, List.set_cons_zero, List.set_cons_succ]
          refine wpAnyH_take (i := 3) (oi := { dst := some 88, op := Op.indexAddr 27 (Operand.tmp 86) (Operand.tmp 87), type := 0, pos := "law.go:144", after := #[{ on := 1, ground := Ground.data }, { on := 2, ground := Ground.data }], guard := none }) (v := ?v58) rfl (by kernel_rfl) (by kernel_rfl) (by kernel_rfl) (fun _ _ _ h => h) (Or.inl ⟨by rfl, ?y58⟩) (by assumption) ?r58
          case y58 => (intro w hSw; (try dsimp only at hSw); (try (go_split_ands)); go_simp; try with_reducible rfl)
          try simp only [Act.put, List.setIfInBounds_toArray, List.set_cons_zero, List.set_cons_succ]
          refine wpAnyH_take (i := 4) (oi := { dst := some 89, op := Op.load 3 (Operand.tmp 88), type := 3, pos := "law.go:144", after := #[{ on := 3, ground := Ground.data }], guard := none }) (v := ?v59) rfl (by kernel_rfl) (by kernel_rfl) (by kernel_rfl) (fun _ _ _ h => h) (Or.inl ⟨by rfl, ?y59⟩) (by assumption) ?r59
          case y59 => (intro w hSw; (try dsimp only at hSw); (try (go_split_ands)); go_simp; try with_reducible rfl)
          try simp only [Act.put, List.setIfInBounds_toArray, List.set_cons_zero, List.set_cons_succ]
          refine wpAnyH_take (i := 5) (oi := { dst := some 90, op := Op.fieldAddr 30 (Operand.tmp 9) 2, type := 0, pos := "law.go:144", after := #[], guard := none }) (v := ?v60) rfl (by kernel_rfl) (by kernel_rfl) (by kernel_rfl) (fun _ _ _ h => h) (Or.inl ⟨by rfl, ?y60⟩) (by assumption) ?r60
          case y60 => (intro w hSw; (try dsimp only at hSw); (try (go_split_ands)); go_simp; try with_reducible rfl)
          try simp only [Act.put, List.setIfInBounds_toArray, List.set_cons_zero, List.set_cons_succ]
          refine wpAnyH_take (i := 6) (oi := { dst := some 91, op := Op.load 27 (Operand.tmp 90), type := 27, pos := "law.go:144", after := #[{ on := 5, ground := Ground.data }], guard := none }) (v := ?v61) rfl (by kernel_rfl) (by kernel_rfl) (by kernel_rfl) (fun _ _ _ h => h) (Or.inl ⟨by rfl, ?y61⟩) (by assumption) ?r61
          case y61 => (intro w hSw; (try dsimp only at hSw); (try (go_split_ands)); go_simp; try with_reducible rfl)
          try simp only [Act.put, List.setIfInBounds_toArray, List.set_cons_zero, List.set_cons_succ]
          refine wpAnyH_take (i := 7) (oi := { dst := some 92, op := Op.move (Operand.tmp 10), type := 3, pos := "law.go:144", after := #[], guard := none }) (v := ?v62) rfl (by kernel_rfl) (by kernel_rfl) (by kernel_rfl) (fun _ _ _ h => h) (Or.inl ⟨by rfl, ?y62⟩) (by assumption) ?r62
          case y62 => (intro w hSw; (try dsimp only at hSw); (try (go_split_ands)); go_simp; try with_reducible rfl)
          try simp only [Act.put, List.setIfInBounds_toArray, List.set_cons_zero, List.set_cons_succ]
          refine wpAnyH_take (i := 8) (oi := { dst := some 93, op := Op.indexAddr 27 (Operand.tmp 91) (Operand.tmp 92), type := 0, pos := "law.go:144", after := #[{ on := 6, ground := Ground.data }, { on := 7, ground := Ground.data }], guard := none }) (v := ?v63) rfl (by kernel_rfl) (by kernel_rfl) (by kernel_rfl) (fun _ _ _ h => h) (Or.inl ⟨by rfl, ?y63⟩) (by assumption) ?r63
          case y63 => (intro w hSw; (try dsimp only at hSw); (try (go_split_ands)); go_simp; try with_reducible rfl)
          try simp only [Act.put, List.setIfInBounds_toArray, List.set_cons_zero, List.set_cons_succ]
          refine wpAnyH_take (i := 9) (oi := { dst := some 94, op := Op.load 3 (Operand.tmp 93), type := 3, pos := "law.go:144", after := #[{ on := 8, ground := Ground.data }], guard := none }) (v := ?v64) rfl (by kernel_rfl) (by kernel_rfl) (by kernel_rfl) (fun _ _ _ h => h) (Or.inl ⟨by rfl, ?y64⟩) (by assumption) ?r64
          case y64 => (intro w hSw; (try dsimp only at hSw); (try (go_split_ands)); go_simp; try with_reducible rfl)
          try simp only [Act.put, List.setIfInBounds_toArray, List.set_cons_zero, List.set_cons_succ]
          refine wpAnyH_take (i := 10) (oi := { dst := some 95, op := Op.binOp BinOp.neq 3 (Operand.tmp 89) (Operand.tmp 94) 3, type := 4, pos := "law.go:144", after := #[{ on := 4, ground := Ground.data }, { on := 9, ground := Ground.data }], guard := none }) (v := ?v65) rfl (by kernel_rfl) (by kernel_rfl) (by kernel_rfl) (fun _ _ _ h => h) (Or.inl ⟨by rfl, ?y65⟩) (by assumption) ?r65
          case y65 => (intro w hSw; (try dsimp only at hSw); (try (go_split_ands)); go_simp; try with_reducible rfl)
          try simp only [Act.put, List.setIfInBounds_toArray, List.set_cons_zero, List.set_cons_succ]
          refine wpAnyH_take (i := 11) (oi := { dst := some 96, op := Op.move (Operand.tmp 95), type := 4, pos := "law.go:144", after := #[{ on := 10, ground := Ground.data }], guard := none }) (v := ?v66) rfl (by kernel_rfl) (by kernel_rfl) (by kernel_rfl) (fun _ _ _ h => h) (Or.inl ⟨by rfl, ?y66⟩) (by assumption) ?r66
          case y66 => (intro w hSw; (try dsimp only at hSw); (try (go_split_ands)); go_simp; try with_reducible rfl)
          try simp only [Act.put, List.setIfInBounds_toArray, List.set_cons_zero, List.set_cons_succ]
          refine wpAnyH_take (i := 12) (oi := { dst := some 97, op := Op.fieldAddr 30 (Operand.tmp 7) 3, type := 0, pos := "law.go:144", after := #[{ on := 11, ground := Ground.guard }], guard := some (11, false) }) (v := ?v67) rfl (by kernel_rfl) (by kernel_rfl) (by kernel_rfl) (fun _ _ _ h => h) (Or.inl ⟨by rfl, ?y67⟩) (by assumption) ?r67
          case y67 => (intro w hSw; (try dsimp only at hSw); (try (go_split_ands)); go_simp; try with_reducible rfl)
          try simp only [Act.put, List.setIfInBounds_toArray, List.set_cons_zero, List.set_cons_succ]
          refine wpAnyH_take (i := 13) (oi := { dst := some 98, op := Op.load 28 (Operand.tmp 97), type := 28, pos := "law.go:144", after := #[{ on := 12, ground := Ground.data }, { on := 11, ground := Ground.guard }], guard := some (11, false) }) (v := ?v68) rfl (by kernel_rfl) (by kernel_rfl) (by kernel_rfl) (fun _ _ _ h => h) (Or.inl ⟨by rfl, ?y68⟩) (by assumption) ?r68
          case y68 => (intro w hSw; (try dsimp only at hSw); (try (go_split_ands)); go_simp; try with_reducible rfl)
          try simp only [Act.put, List.setIfInBounds_toArray, List.set_cons_zero, List.set_cons_succ]
          refine wpAnyH_take (i := 14) (oi := { dst := some 99, op := Op.move (Operand.tmp 10), type := 3, pos := "law.go:144", after := #[{ on := 11, ground := Ground.guard }], guard := some (11, false) }) (v := ?v69) rfl (by kernel_rfl) (by kernel_rfl) (by kernel_rfl) (fun _ _ _ h => h) (Or.inl ⟨by rfl, ?y69⟩) (by assumption) ?r69
          case y69 => (intro w hSw; (try dsimp only at hSw); (try (go_split_ands)); go_simp; try with_reducible rfl)
          try simp only [Act.put, List.setIfInBounds_toArray, List.set_cons_zero, List.set_cons_succ]
          refine wpAnyH_take (i := 15) (oi := { dst := some 100, op := Op.indexAddr 28 (Operand.tmp 98) (Operand.tmp 99), type := 0, pos := "law.go:144", after := #[{ on := 13, ground := Ground.data }, { on := 14, ground := Ground.data }, { on := 11, ground := Ground.guard }], guard := some (11, false) }) (v := ?v70) rfl (by kernel_rfl) (by kernel_rfl) (by kernel_rfl) (fun _ _ _ h => h) (Or.inl ⟨by rfl, ?y70⟩) (by assumption) ?r70
          case y70 => (intro w hSw; (try dsimp only at hSw); (try (go_split_ands)); go_simp; try with_reducible rfl)
          try simp only [Act.put, List.setIfInBounds_toArray, List.set_cons_zero, List.set_cons_succ]
          refine wpAnyH_take (i := 16) (oi := { dst := some 101, op := Op.load 26 (Operand.tmp 100), type := 26, pos := "law.go:144", after := #[{ on := 15, ground := Ground.data }, { on := 11, ground := Ground.guard }], guard := some (11, false) }) (v := ?v71) rfl (by kernel_rfl) (by kernel_rfl) (by kernel_rfl) (fun _ _ _ h => h) (Or.inl ⟨by rfl, ?y71⟩) (by assumption) ?r71
          case y71 => (intro w hSw; (try dsimp only at hSw); (try (go_split_ands)); go_simp; try with_reducible rfl)
          try simp only [Act.put, List.setIfInBounds_toArray, List.set_cons_zero, List.set_cons_succ]
          refine wpAnyH_take (i := 17) (oi := { dst := some 102, op := Op.fieldAddr 30 (Operand.tmp 9) 3, type := 0, pos := "law.go:144", after := #[{ on := 11, ground := Ground.guard }], guard := some (11, false) }) (v := ?v72) rfl (by kernel_rfl) (by kernel_rfl) (by kernel_rfl) (fun _ _ _ h => h) (Or.inl ⟨by rfl, ?y72⟩) (by assumption) ?r72
          case y72 => (intro w hSw; (try dsimp only at hSw); (try (go_split_ands)); go_simp; try with_reducible rfl)
          try simp only [Act.put, List.setIfInBounds_toArray, List.set_cons_zero, List.set_cons_succ]
          refine wpAnyH_take (i := 18) (oi := { dst := some 103, op := Op.load 28 (Operand.tmp 102), type := 28, pos := "law.go:144", after := #[{ on := 17, ground := Ground.data }, { on := 11, ground := Ground.guard }], guard := some (11, false) }) (v := ?v73) rfl (by kernel_rfl) (by kernel_rfl) (by kernel_rfl) (fun _ _ _ h => h) (Or.inl ⟨by rfl, ?y73⟩) (by assumption) ?r73
          case y73 => (intro w hSw; (try dsimp only at hSw); (try (go_split_ands)); go_simp; try with_reducible rfl)
          try simp only [Act.put, List.setIfInBounds_toArray, List.set_cons_zero, List.set_cons_succ]
          refine wpAnyH_take (i := 19) (oi := { dst := some 104, op := Op.move (Operand.tmp 10), type := 3, pos := "law.go:144", after := #[{ on := 11, ground := Ground.guard }], guard := some (11, false) }) (v := ?v74) rfl (by kernel_rfl) (by kernel_rfl) (by kernel_rfl) (fun _ _ _ h => h) (Or.inl ⟨by rfl, ?y74⟩) (by assumption) ?r74
          case y74 => (intro w hSw; (try dsimp only at hSw); (try (go_split_ands)); go_simp; try with_reducible rfl)
          try simp only [Act.put, List.setIfInBounds_toArray, List.set_cons_zero, List.set_cons_succ]
          refine wpAnyH_take (i := 20) (oi := { dst := some 105, op := Op.indexAddr 28 (Operand.tmp 103) (Operand.tmp 104), type := 0, pos := "law.go:144", after := #[{ on := 18, ground := Ground.data }, { on := 19, ground := Ground.data }, { on := 11, ground := Ground.guard }], guard := some (11, false) }) (v := ?v75) rfl (by kernel_rfl) (by kernel_rfl) (by kernel_rfl) (fun _ _ _ h => h) (Or.inl ⟨by rfl, ?y75⟩) (by assumption) ?r75
          case y75 => (intro w hSw; (try dsimp only at hSw); (try (go_split_ands)); go_simp; try with_reducible rfl)
          try simp only [Act.put, List.setIfInBounds_toArray, List.set_cons_zero, List.set_cons_succ]
          refine wpAnyH_take (i := 21) (oi := { dst := some 106, op := Op.load 26 (Operand.tmp 105), type := 26, pos := "law.go:144", after := #[{ on := 20, ground := Ground.data }, { on := 11, ground := Ground.guard }], guard := some (11, false) }) (v := ?v76) rfl (by kernel_rfl) (by kernel_rfl) (by kernel_rfl) (fun _ _ _ h => h) (Or.inl ⟨by rfl, ?y76⟩) (by assumption) ?r76
          case y76 => (intro w hSw; (try dsimp only at hSw); (try (go_split_ands)); go_simp; try with_reducible rfl)
          try simp only [Act.put, List.setIfInBounds_toArray, List.set_cons_zero, List.set_cons_succ]
          refine wpAnyH_take (i := 22) (oi := { dst := some 107, op := Op.binOp BinOp.neq 26 (Operand.tmp 101) (Operand.tmp 106) 26, type := 4, pos := "law.go:144", after := #[{ on := 16, ground := Ground.data }, { on := 21, ground := Ground.data }, { on := 11, ground := Ground.guard }], guard := some (11, false) }) (v := ?v77) rfl (by kernel_rfl) (by kernel_rfl) (by kernel_rfl) (fun _ _ _ h => h) (Or.inl ⟨by rfl, ?y77⟩) (by assumption) ?r77
          case y77 => (intro w hSw; (try dsimp only at hSw); (try (go_split_ands)); go_simp; try with_reducible rfl)
          try simp only [Act.put, List.setIfInBounds_toArray, List.set_cons_zero, List.set_cons_succ]
          refine wpAnyH_take (i := 23) (oi := { dst := some 108, op := Op.pick (Operand.tmp 96) (Operand.const (Value.bool true)) (Operand.tmp 107), type := 4, pos := "law.go:144", after := #[{ on := 11, ground := Ground.data }, { on := 22, ground := Ground.data }], guard := none }) (v := ?v78) rfl (by kernel_rfl) (by kernel_rfl) (by kernel_rfl) (fun _ _ _ h => h) (Or.inl ⟨by rfl, ?y78⟩) (by assumption) ?r78
          case y78 => (intro w hSw; (try dsimp only at hSw); (try (go_split_ands)); go_simp; try with_reducible rfl)
          try simp only [Act.put, List.setIfInBounds_toArray, List.set_cons_zero, List.set_cons_succ]
          refine wpAnyH_done (by kernel_rfl) ?_ _
          refine NoPanic.normal ?_
          clear hHeld e5 e6 f5 f6 hra hrb q0 q1 q2 q3 r0 r1 r2 r3 hvn
          go_wp2
          go_round
          case rel => exact ⟨j + 1, by omega, by go_num, hBn⟩
          case measure => simp [intOf]; omega
        · obtain rfl : j = n := by omega
          go_wp2
          go_ret
          exact ⟨rfl, hB8.out.later hB.out⟩
end Go.Proofs.Ytaepjiakehkeoaa
