/-
  The document's own Select (bargateref09): Before, Far, its first loop. Conditions: those that each theorem names.
-/
import Derived.Test.YtaepjiakehkeoaaRoleA
namespace Go.Proofs.Ytaepjiakehkeoaa
open Go.RowKit
set_option linter.unusedVariables false
set_option maxRecDepth 20000

theorem cmp_cases (a b : Vc) :
    (cmpN a b = -1 ∧ cmpN b a = 1 ∧ (a.root < b.root ∨ a.root = b.root ∧ a.cost < b.cost ∨ a.root = b.root ∧ a.cost = b.cost ∧ a.bridge < b.bridge ∨ a.root = b.root ∧ a.cost = b.cost ∧ a.bridge = b.bridge ∧ a.port < b.port)) ∨
    (cmpN a b = 1 ∧ cmpN b a = -1 ∧ (b.root < a.root ∨ a.root = b.root ∧ b.cost < a.cost ∨ a.root = b.root ∧ a.cost = b.cost ∧ b.bridge < a.bridge ∨ a.root = b.root ∧ a.cost = b.cost ∧ a.bridge = b.bridge ∧ b.port < a.port)) ∨
    (cmpN a b = 0 ∧ cmpN b a = 0 ∧ a.root = b.root ∧ a.cost = b.cost ∧ a.bridge = b.bridge ∧ a.port = b.port) := by
  unfold cmpN
  simp only [orL, ordN]
  rcases Int.lt_trichotomy a.root b.root with h | h | h
  · left; simp [h, show ¬ b.root < a.root by omega]
  · rcases Int.lt_trichotomy a.cost b.cost with h1 | h1 | h1
    · left; simp [h, h1, show ¬ b.cost < a.cost by omega]
    · rcases Int.lt_trichotomy a.bridge b.bridge with h2 | h2 | h2
      · left; simp [h, h1, h2, show ¬ b.bridge < a.bridge by omega]
      · rcases Int.lt_trichotomy a.port b.port with h3 | h3 | h3
        · left; simp [h, h1, h2, h3, show ¬ b.port < a.port by omega]
        · right; right; simp [h, h1, h2, h3]
        · right; left; simp [h, h1, h2, h3, show ¬ a.port < b.port by omega]
      · right; left; simp [h, h1, h2, show ¬ a.bridge < b.bridge by omega]
    · right; left; simp [h, h1, show ¬ a.cost < b.cost by omega]
  · right; left; simp [h, show ¬ a.root < b.root by omega]
theorem bet_iff (a b : Vc) : betB a b = true ↔ (a.root < b.root ∨ a.root = b.root ∧ a.cost < b.cost ∨ a.root = b.root ∧ a.cost = b.cost ∧ a.bridge < b.bridge ∨ a.root = b.root ∧ a.cost = b.cost ∧ a.bridge = b.bridge ∧ a.port < b.port) := by
  unfold betB
  rw [decide_eq_true_eq]
  rcases cmp_cases a b with ⟨h, _, h1⟩ | ⟨h, _, h1⟩ | ⟨h, _, h1⟩ <;> rw [h] <;> simp <;> omega
theorem Far_any (a b : Int) (w : World) (ha : U64 a) (hb : U64 b) : Calls Try.prog 46 #[.int .u64 a, .int .u64 b] w fun r w' => r = .returned (.int .u64 (overN a b)) ∧ w' = w := by
  obtain ⟨ha0, ha1⟩ := ha
  obtain ⟨hb0, hb1⟩ := hb
  unfold overN
  go_enter Try.func46, Try.ntmps46
  by_cases h1 : a > 4294967295
  · rw [if_pos h1]
    go_wp2
    go_ret
    exact ⟨rfl, rfl⟩
  rw [if_neg h1]
  by_cases h2 : b > 4294967295
  · rw [if_pos (by omega)]
    go_wp2
    go_ret
    exact ⟨rfl, rfl⟩
  by_cases h3 : b > 4294967295 - a
  · rw [if_pos h3]
    go_wp2
    go_ret
    exact ⟨rfl, rfl⟩
  · rw [if_neg h3]
    go_wp2
    go_ret
    exact ⟨rfl, rfl⟩
theorem bne_no {a b : Int} (h : a = b) : (a != b) = false := by rw [bne, (beq_iff_eq (a := a)).2 h]; rfl
theorem bne_yes {a b : Int} (h : a ≠ b) : (a != b) = true := by rw [bne, (beq_eq_false_iff_ne (a := a)).2 h]; rfl
theorem Before_any (a b : Vc) (w : World) : Calls Try.prog 47 #[.agg a.row, .agg b.row] w fun r w' => r = .returned (.bool (betB a b)) ∧ Below w.heap.size w w' := by
  have hI := hide (bet_iff a b)
  generalize betB a b = x at *
  obtain ⟨a0, a1, a2, a3⟩ := a
  obtain ⟨b0, b1, b2, b3⟩ := b
  have hb0 : Hid (Below w.heap.size w ((w.alloc (.cells (Vc.row ⟨a0, a1, a2, a3⟩) 26)).alloc (.cells (Vc.row ⟨b0, b1, b2, b3⟩) 26))) := (below1 _ _).later (below1 _ _)
  have fin : ∀ y : Bool, (y = true ↔ x = true) → y = x := fun y h => by cases y <;> cases x <;> simp_all
  go_enter Try.func47, Try.ntmps47
  by_cases h0 : a0 = b0
  rotate_left
  · have q0 := bne_yes h0
    go_wp2
    go_ret
    exact ⟨ret_bool (fin _ (by rw [hI.out, decide_eq_true_eq]; omega)), hb0.out⟩
  have q0 := bne_no h0
  have h0' := hide h0
  clear h0
  by_cases h1 : a1 = b1
  rotate_left
  · have q1 := bne_yes h1
    go_wp2
    go_ret
    exact ⟨ret_bool (fin _ (by have h0 := h0'.out; rw [hI.out, decide_eq_true_eq]; omega)), hb0.out⟩
  have q1 := bne_no h1
  have h1' := hide h1
  clear h1
  by_cases h2 : a2 = b2
  rotate_left
  · have q2 := bne_yes h2
    go_wp2
    go_ret
    exact ⟨ret_bool (fin _ (by have h0 := h0'.out; have h1 := h1'.out; rw [hI.out, decide_eq_true_eq]; omega)), hb0.out⟩
  have q2 := bne_no h2
  have h2' := hide h2
  clear h2
  go_wp2
  go_ret
  exact ⟨ret_bool (fin _ (by have h0 := h0'.out; have h1 := h1'.out; have h2 := h2'.out; rw [hI.out, decide_eq_true_eq]; omega)), hb0.out⟩
--CUT
def bvY (y : Wy) : Vc := if y.place < 0 then Vc.zero else y.v
theorem bestW_neg (b : Int) (ps : List Rp) (k : Nat) (h : (bestW b ps k).place < 0) : bestW b ps k = ⟨⟨b, 0, b, 0⟩, -1, 0⟩ := by
  rcases bestW_is b ps k with e | ⟨i, h0, e, _⟩
  · exact e
  · rw [e] at h; simp [wayOf] at h; omega
theorem befB_own {v : Vc} {b : Int} {i : Nat} {id : Int} (h : v.root < b) : befB ⟨v, i, id⟩ ⟨⟨b, 0, b, 0⟩, -1, 0⟩ = true := by
  unfold befB
  rcases cmp_cases v ⟨b, 0, b, 0⟩ with ⟨e, _⟩ | ⟨e, _, e1⟩ | ⟨e, _, e1⟩
  · simp [e]
  · dsimp only at e1; omega
  · dsimp only at e1; omega
theorem cmp_zero (a b : Vc) : cmpN a b = 0 ↔ a = b := by
  obtain ⟨a0, a1, a2, a3⟩ := a
  obtain ⟨b0, b1, b2, b3⟩ := b
  rcases cmp_cases ⟨a0, a1, a2, a3⟩ ⟨b0, b1, b2, b3⟩ with ⟨e, _, e1⟩ | ⟨e, _, e1⟩ | ⟨e, _, e1⟩
  all_goals (rw [e]; simp only [Vc.mk.injEq]; dsimp only at e1)
  · constructor
    · intro h; omega
    · rintro ⟨rfl, rfl, rfl, rfl⟩; omega
  · constructor
    · intro h; omega
    · rintro ⟨rfl, rfl, rfl, rfl⟩; omega
  · simp; omega
theorem bestW_id (b : Int) (ps : List Rp) (k r : Nat) (h : (bestW b ps k).place = r) : (bestW b ps k).id = (ps.getD r Rp.zero).id ∧ r < k := by
  rcases bestW_is b ps k with e | ⟨i, h0, e, _⟩
  · rw [e] at h; simp at h
  · rw [e] at h ⊢
    simp [wayOf] at h
    obtain rfl : i = r := by omega
    exact ⟨rfl, h0⟩

theorem results_four {P : Program} {fn : Func} {p a b c : Tmp} {ty : TypeId} (h : fn.results = #[.cell p ty, .tmp a, .tmp b, .tmp c]) (tmps : Array Value) (w : World) (g : Nat) (t : TypeId) (cs : Array Value) (fr : Nat × Nat) (d : TypeDesc)
    (hp : tmps.getD p undef = .pointer (some ⟨g, 0, none⟩)) (hg : w.heap[g]? = some (.cells cs t fr))
    (hu : P.underlying ty = some d) (hd : (match d with | .struct _ | .array _ _ => true | _ => false) = true) (hi : (P.info? ty).map (·.size) = some cs.size) :
    (results fn tmps).run P w = .ok (.tuple #[.agg cs, tmps.getD a undef, tmps.getD b undef, tmps.getD c undef]) w := by
  have hp' : tmps[p]?.getD undef = .pointer (some ⟨g, 0, none⟩) := by simpa using hp
  simp [results, h, hp', asAddr, run_loadVar_row w g t ty cs fr d hg hu hd hi]
theorem unhR9 {p : Prop} (h : Hid p) : p := h.out
theorem take_push {α : Type} (l : List α) (d : α) (j : Nat) (h : j < l.length) : l.take j ++ [l.getD j d] = l.take (j + 1) := by
  rw [List.take_add_one, List.getElem?_eq_getElem h, List.getD_eq_getElem?_getD, List.getElem?_eq_getElem h]
  rfl
/-- What the second loop has made so far. -/
structure L2 (w wr : World) (q : Nat) (v : Vc) (vr vt : Value) (lr : List Int) (lt : List Vc) : Prop where
  bel : Below w.heap.size w wr
  res : wr.heap[w.heap.size]? = some (.cells (Vc.row Vc.zero) 26)
  best : wr.heap[q]? = some (.cells v.row 26)
  sr : Sl wr vr 3 1 fI lr
  st : Sl wr vt 26 4 fV lt
  wr_ : ∀ x, vr.ownBlock = some x → w.heap.size < x ∧ x ≠ q
  wt : ∀ x, vt.ownBlock = some x → w.heap.size < x ∧ x ≠ q
  ap : ∀ x, vr.ownBlock = some x → vt.ownBlock ≠ some x
theorem L2.lt {w wr : World} {q : Nat} {v : Vc} {vr vt : Value} {lr : List Int} {lt : List Vc} (h : L2 w wr q v vr vt lr lt) : w.heap.size < wr.heap.size ∧ q < wr.heap.size := ⟨(Array.getElem?_eq_some_iff.1 h.res).1, (Array.getElem?_eq_some_iff.1 h.best).1⟩
theorem L2.below {w wr w' : World} {q : Nat} {v : Vc} {vr vt : Value} {lr : List Int} {lt : List Vc} (h : L2 w wr q v vr vt lr lt) (hb : Below wr.heap.size wr w') : L2 w w' q v vr vt lr lt :=
  ⟨h.bel.later hb, heap_kept hb h.res, heap_kept hb h.best, h.sr.below hb, h.st.below hb, h.wr_, h.wt, h.ap⟩
theorem L2.tell {w wr w' : World} {q : Nat} {v : Vc} {vr vt v' : Value} {lr : List Int} {lt lt' : List Vc} (h : L2 w wr q v vr vt lr lt) (hs : Sl w' v' 26 4 fV lt') (hg : wr.grownBy w' vt.ownBlock) (ho : v'.ownBlock = vt.ownBlock ∨ v'.ownBlock = some wr.heap.size) : L2 w w' q v vr v' lr lt' := by
  obtain ⟨l1, l2⟩ := h.lt
  refine ⟨grown_below hg h.bel h.bel.size (fun x e => Nat.le_of_lt (h.wt x e).1), (hg.block _ l1 (fun e => by have := (h.wt _ e.symm).1; omega)).trans h.res, (hg.block _ l2 (fun e => (h.wt _ e.symm).2 rfl)).trans h.best, h.sr.blk fun x e => hg.block x (h.sr.lt e) (fun e' => h.ap x e e'.symm), hs, h.wr_, fun x e => ?_, fun x e e' => ?_⟩
  · rcases ho with e1 | e1
    · rw [e1] at e; exact h.wt x e
    · rw [e1] at e; simp only [Option.some.injEq] at e; omega
  · rcases ho with e1 | e1
    · rw [e1] at e'; exact h.ap x e e'
    · rw [e1] at e'; simp only [Option.some.injEq] at e'; have := h.sr.lt e; omega
theorem L2.role {w wr w' : World} {q : Nat} {v : Vc} {vr vt v' : Value} {lr lr' : List Int} {lt : List Vc} (h : L2 w wr q v vr vt lr lt) (hs : Sl w' v' 3 1 fI lr') (hg : wr.grownBy w' vr.ownBlock) (ho : v'.ownBlock = vr.ownBlock ∨ v'.ownBlock = some wr.heap.size) : L2 w w' q v v' vt lr' lt := by
  obtain ⟨l1, l2⟩ := h.lt
  refine ⟨grown_below hg h.bel h.bel.size (fun x e => Nat.le_of_lt (h.wr_ x e).1), (hg.block _ l1 (fun e => by have := (h.wr_ _ e.symm).1; omega)).trans h.res, (hg.block _ l2 (fun e => (h.wr_ _ e.symm).2 rfl)).trans h.best, hs, h.st.blk fun x e => hg.block x (h.st.lt e) (fun e' => h.ap x e'.symm e), fun x e => ?_, h.wt, fun x e e' => ?_⟩
  · rcases ho with e1 | e1
    · rw [e1] at e; exact h.wr_ x e
    · rw [e1] at e; simp only [Option.some.injEq] at e; omega
  · rcases ho with e1 | e1
    · rw [e1] at e; exact h.ap x e e'
    · rw [e1] at e; simp only [Option.some.injEq] at e; have := h.st.lt e'; omega
theorem sty_I : Sty Try.prog 27 3 1 8 := by
  obtain ⟨i, h1, h2, h3, h4⟩ := info_parts Try.infoI
  exact ⟨Try.underlying27, ⟨i, _, h1, h2, h3, h4, rfl⟩, by omega⟩
theorem sty_V : Sty Try.prog 28 26 4 32 := by
  obtain ⟨i, h1, h2, h3, h4⟩ := info_parts Try.infoV
  exact ⟨Try.underlying28, ⟨i, _, h1, h2, h3, h4, rfl⟩, by omega⟩

theorem rpSizeR (p : Rp) : (Try.prog.info? 91).map (·.size) = some p.row.size := by kernel_rfl
set_option maxHeartbeats 8000000 in
theorem RSel_any (b : Int) (a : Option Addr) (n cap : Nat) (ps : List Rp) (w : World) (hbU : U64 b) (hn : n ≤ 60) (hI : Hid (Rps w a n ps)) :
    Calls Try.prog 20 #[.int .u64 b, .slice a n cap] w fun e w' => ∃ vr vt, e = .returned (.tuple #[.agg (bestW b ps n).v.row, .int .i64 (bestW b ps n).place, vr, vt]) ∧ Sl w' vr 3 1 fI (rolesL b ps) ∧ Sl w' vt 26 4 fV (tellsL b ps) ∧ Below w.heap.size w w' := by
  have hps := hI.out.1
  go_enter Try.func20, Try.ntmps20
  go_wp2_with fail
  have hR0 := hide (heap_alloc2_oldB w (.cells (Vc.row Vc.zero) 26) (.cells (Vc.row Vc.zero) 26))
  have hQ0 := hide (heap_alloc2_newB w (.cells (Vc.row Vc.zero) 26) (.cells (Vc.row Vc.zero) 26))
  have hB0 : Hid (Below w.heap.size w ((w.alloc (.cells (Vc.row Vc.zero) 26)).alloc (.cells (Vc.row Vc.zero) 26))) := (below1 _ _).later (below1 _ _)
  generalize hq : w.heap.size + 1 = q at *
  have hqw : w.heap.size < q := by omega
  replace hq := hide hq
  go_loopw [10, 8] (fun i r wr => ∃ j : Nat, j ≤ n ∧ i = .int .i64 j ∧ r = .int .i64 (bestW b ps j).place ∧ Hid (Below w.heap.size w wr) ∧ Hid (wr.heap[w.heap.size]? = some (.cells (Vc.row Vc.zero) 26)) ∧ Hid (wr.heap[q]? = some (.cells (bvY (bestW b ps j)).row 26))) (fun i _ _ => n - (intOf i).toNat)
  case atStart => exact ⟨0, Nat.zero_le _, rfl, rfl, hB0, hR0, hQ0⟩
  case round =>
    obtain ⟨j, hj, rfl, rfl, hB, hZ, hQ⟩ := hrel
    clear hB0 hR0 hQ0
    by_cases hlt : j < n
    · obtain ⟨bb, off, rfl, hP, hwf⟩ := (hI.out.below hB.out).2 j hlt
      have hS : Hid (bestW b ps (j + 1) = stepW b (bestW b ps j) j (ps.getD j Rp.zero)) := rfl
      have hneg := hide (bestW_neg b ps j)
      have hidp : Hid (∀ r : Nat, (bestW b ps j).place = r → wr.cell? ⟨bb, off + r * 8, none⟩ = some (.int .i64 (bestW b ps j).id) ∧ r < n) := fun r hr => by
        obtain ⟨e1, e2⟩ := bestW_id b ps j r hr
        obtain ⟨b', off', e, hP', _⟩ := (hI.out.below hB.out).2 r (by omega)
        simp only [Option.some.injEq, Addr.mk.injEq, and_true] at e
        obtain ⟨rfl, rfl⟩ := e
        rw [e1]
        exact ⟨hP'.c0, by omega⟩
      have hYwf : Hid ((bestW b ps j).v.wf) := bestW_wf b ps j hbU (fun i hi => by obtain ⟨_, _, _, _, h⟩ := hI.out.2 i (by omega); exact h)
      generalize hVE : bestW b ps (j + 1) = V at *
      replace hVE := hide hVE
      generalize bestW b ps j = Y at *
      generalize ps.getD j Rp.zero = p at *
      have hbl := block_lt_of_cell hP.c0
      obtain ⟨id, cost, up, has, ⟨a0, a1, a2, a3⟩⟩ := p
      replace hwf := hide hwf
      obtain ⟨c0, c1, c2, c3, c4, c5, c6, c7⟩ := hP
      dsimp only at *
      have hA := below1 wr (.cells (Rp.row ⟨id, cost, up, has, ⟨a0, a1, a2, a3⟩⟩) 91)
      have hZ1 := hide (heap_kept hA hZ.out)
      have hQ1 := hide (heap_kept hA hQ.out)
      have hB1 := hide (hB.out.later hA)
      cases up
      ·
        have hV : Hid (V = Y) := hS.out
        clear hA
        go_wp2
        go_round
        case rel => exact ⟨j + 1, by omega, by go_num, by rw [hVE.out, hV.out], hB1, hZ1, by rw [hVE.out, hV.out]; exact hQ1⟩
        case measure => simp [intOf]; omega
      cases has
      ·
        have hV : Hid (V = Y) := hS.out
        clear hA
        go_wp2
        go_round
        case rel => exact ⟨j + 1, by omega, by go_num, by rw [hVE.out, hV.out], hB1, hZ1, by rw [hVE.out, hV.out]; exact hQ1⟩
        case measure => simp [intOf]; omega
      have hS1 : Hid (V = if leadB ⟨⟨a0, overN a1 cost, a2, a3⟩, j, id⟩ b = true ∧ befB ⟨⟨a0, overN a1 cost, a2, a3⟩, j, id⟩ Y = true then ⟨⟨a0, overN a1 cost, a2, a3⟩, j, id⟩ else Y) := hS.out
      have hL : Hid (leadB ⟨⟨a0, overN a1 cost, a2, a3⟩, j, id⟩ b = (decide (a0 < b) && !decide (a2 = b))) := rfl
      by_cases hbr : a2 = b
      · have hbq : (a2 == b) = true := by rw [beq_iff_eq]; exact hbr
        have hLF : Hid (leadB ⟨⟨a0, overN a1 cost, a2, a3⟩, j, id⟩ b = false) := by rw [hL.out]; simp [hbr, Hid]
        clear hbr
        have hV : Hid (V = Y) := hS1.out.trans (if_neg (by rw [hLF.out]; simp))
        clear hA
        go_wp2
        go_round
        case rel => exact ⟨j + 1, by omega, by go_num, by rw [hVE.out, hV.out], hB1, hZ1, by rw [hVE.out, hV.out]; exact hQ1⟩
        case measure => simp [intOf]; omega
      have hbq : (a2 == b) = false := by rw [beq_eq_false_iff_ne]; exact hbr
      by_cases hge : b ≤ a0
      · have hLF : Hid (leadB ⟨⟨a0, overN a1 cost, a2, a3⟩, j, id⟩ b = false) := by rw [hL.out, decide_eq_false (show ¬ a0 < b by omega)]; rfl
        have hV : Hid (V = Y) := hS1.out.trans (if_neg (by rw [hLF.out]; simp))
        clear hA
        go_wp2
        go_round
        case rel => exact ⟨j + 1, by omega, by go_num, by rw [hVE.out, hV.out], hB1, hZ1, by rw [hVE.out, hV.out]; exact hQ1⟩
        case measure => simp [intOf]; omega
      have hLT : Hid (leadB ⟨⟨a0, overN a1 cost, a2, a3⟩, j, id⟩ b = true) := by rw [hL.out, decide_eq_true (show a0 < b by omega), decide_eq_false hbr]; rfl
      have hFar := hide (fun w => Far_any a1 cost w hwf.out.told.cost hwf.out.cost)
      have hov : Hid (U64 (overN a1 cost)) := overN_u64 hwf.out.told.cost hwf.out.cost
      rw [hLT.out] at hS1
      generalize overN a1 cost = ov at *
      have hsz1 := World.size_alloc wr (.cells (Rp.row ⟨id, cost, true, true, ⟨a0, a1, a2, a3⟩⟩) 91)
      have hPk := RpAt.of_heap (heap_alloc_new wr (.cells (Rp.row ⟨id, cost, true, true, ⟨a0, a1, a2, a3⟩⟩) 91))
      go_wp2_with fail
      refine (hFar.out _).mono ?_
      rintro e w3 ⟨rfl, rfl⟩

      go_wp2_with fail
      have hA4 : Below wr.heap.size wr ((wr.alloc (.cells (Rp.row ⟨id, cost, true, true, ⟨a0, a1, a2, a3⟩⟩) 91)).alloc (.cells (Vc.row ⟨a0, ov, a2, a3⟩) 26)) := (below1 _ _).later (below1 _ _)
      have hW4 := heap_alloc2_newB wr (.cells (Rp.row ⟨id, cost, true, true, ⟨a0, a1, a2, a3⟩⟩) 91) (.cells (Vc.row ⟨a0, ov, a2, a3⟩) 26)
      have hP4 := heap_alloc2_oldB wr (.cells (Rp.row ⟨id, cost, true, true, ⟨a0, a1, a2, a3⟩⟩) 91) (.cells (Vc.row ⟨a0, ov, a2, a3⟩) 26)
      have hZ4 := hide (heap_kept hA4 hZ.out)
      have hQ4 := hide (heap_kept hA4 hQ.out)
      have hB4 := hide (hB.out.later hA4)
      have hid4 : Hid (∀ r : Nat, Y.place = r → ((wr.alloc (.cells (Rp.row ⟨id, cost, true, true, ⟨a0, a1, a2, a3⟩⟩) 91)).alloc (.cells (Vc.row ⟨a0, ov, a2, a3⟩) 26)).cell? ⟨bb, off + r * 8, none⟩ = some (.int .i64 Y.id) ∧ r < n) := fun r hr => by
        obtain ⟨e1, e2⟩ := hidp.out r hr
        exact ⟨(hA4.cell (p := ⟨bb, off + r * 8, none⟩) (block_lt_of_cell e1)).trans e1, e2⟩
      have hql : q < wr.heap.size := (Array.getElem?_eq_some_iff.1 hQ.out).1
      clear hidp hA hA4 hZ1 hQ1 hB1 hZ hQ hB c0 c1 c2 c3 c4 c5 c6 c7 hsz1 hPk hFar hS hL hLT hbl
      generalize (wr.alloc (.cells (Rp.row ⟨id, cost, true, true, ⟨a0, a1, a2, a3⟩⟩) 91)).alloc (.cells (Vc.row ⟨a0, ov, a2, a3⟩) 26) = w4 at *
      generalize hwb : wr.heap.size + 1 = wb at *
      generalize hpkE : wr.heap.size = pk at *
      have hbl : bb < w4.heap.size ∨ True := .inr trivial
      have k0 : w4.cell? ⟨wb, 0, none⟩ = some (.int .u64 a0) := (cell_of_row _ _ _ _ _ _ hW4).trans rfl
      have k1 : w4.cell? ⟨wb, 1, none⟩ = some (.int .u64 ov) := (cell_of_row _ _ _ _ _ _ hW4).trans rfl
      have k2 : w4.cell? ⟨wb, 2, none⟩ = some (.int .u64 a2) := (cell_of_row _ _ _ _ _ _ hW4).trans rfl
      have k3 : w4.cell? ⟨wb, 3, none⟩ = some (.int .i64 a3) := (cell_of_row _ _ _ _ _ _ hW4).trans rfl
      have m0 : w4.cell? ⟨pk, 0, none⟩ = some (.int .i64 id) := (cell_of_row _ _ _ _ _ _ hP4).trans rfl
      replace hW4 := hide hW4
      replace hP4 := hide hP4
      by_cases hpl : Y.place < 0
      · have hYo := hneg.out hpl
        have hV : Hid (V = ⟨⟨a0, ov, a2, a3⟩, j, id⟩) := hS1.out.trans (if_pos ⟨trivial, by rw [hYo]; exact befB_own (by dsimp only; omega)⟩)
        replace hYo := hide hYo
        clear hS1 hneg hid4
        refine wp_region_noPanic ?_
        refine wp_region_held_drew (S := fun W => W.cell? ⟨wb, 0, none⟩ = some (.int .u64 a0)) (by kernel_rfl) k0 (fun hHeld => ?_)
        refine wpAnyH_take (i := 0) (oi := { dst := some 59, op := Op.move (Operand.tmp 8), type := 3, pos := "ref.go:49", after := #[], guard := none }) (v := ?v1) rfl (by kernel_rfl) (by kernel_rfl) (by kernel_rfl) (fun _ _ _ h => h) (Or.inl ⟨by rfl, ?y1⟩) (by assumption) ?r1
        case y1 => (intro w hSw; (try dsimp only at hSw); (try (go_split_ands)); go_simp; try with_reducible rfl)
        try simp only [Act.put, List.setIfInBounds_toArray, List.set_cons_zero, List.set_cons_succ]
        refine wpAnyH_take (i := 1) (oi := { dst := some 60, op := Op.binOp BinOp.lss 3 (Operand.tmp 59) (Operand.const (Value.int IntKind.i64 0)) 3, type := 4, pos := "ref.go:49", after := #[{ on := 0, ground := Ground.data }], guard := none }) (v := ?v2) rfl (by kernel_rfl) (by kernel_rfl) (by kernel_rfl) (fun _ _ _ h => h) (Or.inl ⟨by rfl, ?y2⟩) (by assumption) ?r2
        case y2 => (intro w hSw; (try dsimp only at hSw); (try (go_split_ands)); go_simp; try with_reducible rfl)
        try simp only [Act.put, List.setIfInBounds_toArray, List.set_cons_zero, List.set_cons_succ]
        refine wpAnyH_take (i := 2) (oi := { dst := some 61, op := Op.move (Operand.tmp 60), type := 4, pos := "ref.go:49", after := #[{ on := 1, ground := Ground.data }], guard := none }) (v := ?v3) rfl (by kernel_rfl) (by kernel_rfl) (by kernel_rfl) (fun _ _ _ h => h) (Or.inl ⟨by rfl, ?y3⟩) (by assumption) ?r3
        case y3 => (intro w hSw; (try dsimp only at hSw); (try (go_split_ands)); go_simp; try with_reducible rfl)
        try simp only [Act.put, List.setIfInBounds_toArray, List.set_cons_zero, List.set_cons_succ]
        refine wpAnyH_take (i := 3) (oi := { dst := some 62, op := Op.load 26 (Operand.tmp 12), type := 26, pos := "ref.go:49", after := #[{ on := 2, ground := Ground.guard }], guard := some (2, false) }) (v := undef) rfl (by kernel_rfl) (by kernel_rfl) (by kernel_rfl) (fun _ _ _ h => h) (Or.inr ⟨by rfl, rfl⟩) (by assumption) ?_
        try simp only [Act.put, List.setIfInBounds_toArray, List.set_cons_zero, List.set_cons_succ]
        refine wpAnyH_take (i := 4) (oi := { dst := some 63, op := Op.load 26 (Operand.tmp 9), type := 26, pos := "ref.go:49", after := #[{ on := 2, ground := Ground.guard }], guard := some (2, false) }) (v := undef) rfl (by kernel_rfl) (by kernel_rfl) (by kernel_rfl) (fun _ _ _ h => h) (Or.inr ⟨by rfl, rfl⟩) (by assumption) ?_
        try simp only [Act.put, List.setIfInBounds_toArray, List.set_cons_zero, List.set_cons_succ]
        refine wpAnyH_take (i := 5) (oi := { dst := some 64, op := Op.call { callee := Callee.value (Operand.func 47), args := #[Operand.tmp 62, Operand.tmp 63], argTypes := #[26, 26] }, type := 4, pos := "ref.go:49", after := #[{ on := 3, ground := Ground.data }, { on := 4, ground := Ground.data }, { on := 2, ground := Ground.chain }, { on := 2, ground := Ground.guard }], guard := some (2, false) }) (v := undef) rfl (by kernel_rfl) (by kernel_rfl) (by kernel_rfl) (fun _ _ _ h => h) (Or.inr ⟨by rfl, rfl⟩) (by assumption) ?_
        try simp only [Act.put, List.setIfInBounds_toArray, List.set_cons_zero, List.set_cons_succ]
        refine wpAnyH_take (i := 6) (oi := { dst := some 65, op := Op.pick (Operand.tmp 61) (Operand.const (Value.bool true)) (Operand.tmp 64), type := 4, pos := "ref.go:49", after := #[{ on := 2, ground := Ground.data }, { on := 5, ground := Ground.data }], guard := none }) (v := ?v4) rfl (by kernel_rfl) (by kernel_rfl) (by kernel_rfl) (fun _ _ _ h => h) (Or.inl ⟨by rfl, ?y4⟩) (by assumption) ?r4
        case y4 => (intro w hSw; (try dsimp only at hSw); (try (go_split_ands)); go_simp; try with_reducible rfl)
        try simp only [Act.put, List.setIfInBounds_toArray, List.set_cons_zero, List.set_cons_succ]
        refine wpAnyH_take (i := 7) (oi := { dst := some 66, op := Op.move (Operand.tmp 65), type := 4, pos := "ref.go:49", after := #[{ on := 6, ground := Ground.data }, { on := 5, ground := Ground.chain }], guard := none }) (v := ?v5) rfl (by kernel_rfl) (by kernel_rfl) (by kernel_rfl) (fun _ _ _ h => h) (Or.inl ⟨by rfl, ?y5⟩) (by assumption) ?r5
        case y5 => (intro w hSw; (try dsimp only at hSw); (try (go_split_ands)); go_simp; try with_reducible rfl)
        try simp only [Act.put, List.setIfInBounds_toArray, List.set_cons_zero, List.set_cons_succ]
        refine wpAnyH_take (i := 8) (oi := { dst := some 67, op := Op.load 26 (Operand.tmp 12), type := 26, pos := "ref.go:49", after := #[{ on := 7, ground := Ground.guard }], guard := some (7, false) }) (v := undef) rfl (by kernel_rfl) (by kernel_rfl) (by kernel_rfl) (fun _ _ _ h => h) (Or.inr ⟨by rfl, rfl⟩) (by assumption) ?_
        try simp only [Act.put, List.setIfInBounds_toArray, List.set_cons_zero, List.set_cons_succ]
        refine wpAnyH_take (i := 9) (oi := { dst := some 68, op := Op.load 26 (Operand.tmp 9), type := 26, pos := "ref.go:49", after := #[{ on := 7, ground := Ground.guard }], guard := some (7, false) }) (v := undef) rfl (by kernel_rfl) (by kernel_rfl) (by kernel_rfl) (fun _ _ _ h => h) (Or.inr ⟨by rfl, rfl⟩) (by assumption) ?_
        try simp only [Act.put, List.setIfInBounds_toArray, List.set_cons_zero, List.set_cons_succ]
        refine wpAnyH_take (i := 10) (oi := { dst := some 69, op := Op.binOp BinOp.eql 26 (Operand.tmp 67) (Operand.tmp 68) 26, type := 4, pos := "ref.go:49", after := #[{ on := 8, ground := Ground.data }, { on := 9, ground := Ground.data }, { on := 7, ground := Ground.guard }], guard := some (7, false) }) (v := undef) rfl (by kernel_rfl) (by kernel_rfl) (by kernel_rfl) (fun _ _ _ h => h) (Or.inr ⟨by rfl, rfl⟩) (by assumption) ?_
        try simp only [Act.put, List.setIfInBounds_toArray, List.set_cons_zero, List.set_cons_succ]
        refine wpAnyH_take (i := 11) (oi := { dst := some 70, op := Op.move (Operand.tmp 69), type := 4, pos := "ref.go:49", after := #[{ on := 10, ground := Ground.data }, { on := 7, ground := Ground.chain }, { on := 7, ground := Ground.guard }], guard := some (7, false) }) (v := undef) rfl (by kernel_rfl) (by kernel_rfl) (by kernel_rfl) (fun _ _ _ h => h) (Or.inr ⟨by rfl, rfl⟩) (by assumption) ?_
        try simp only [Act.put, List.setIfInBounds_toArray, List.set_cons_zero, List.set_cons_succ]
        refine wpAnyH_take (i := 12) (oi := { dst := some 71, op := Op.fieldAddr 91 (Operand.tmp 11) 0, type := 0, pos := "ref.go:49", after := #[{ on := 11, ground := Ground.guard }], guard := some (11, true) }) (v := undef) rfl (by kernel_rfl) (by kernel_rfl) (by kernel_rfl) (fun _ _ _ h => h) (Or.inr ⟨by rfl, rfl⟩) (by assumption) ?_
        try simp only [Act.put, List.setIfInBounds_toArray, List.set_cons_zero, List.set_cons_succ]
        refine wpAnyH_take (i := 13) (oi := { dst := some 72, op := Op.load 3 (Operand.tmp 71), type := 3, pos := "ref.go:49", after := #[{ on := 12, ground := Ground.data }, { on := 11, ground := Ground.guard }], guard := some (11, true) }) (v := undef) rfl (by kernel_rfl) (by kernel_rfl) (by kernel_rfl) (fun _ _ _ h => h) (Or.inr ⟨by rfl, rfl⟩) (by assumption) ?_
        try simp only [Act.put, List.setIfInBounds_toArray, List.set_cons_zero, List.set_cons_succ]
        refine wpAnyH_take (i := 14) (oi := { dst := some 73, op := Op.move (Operand.tmp 1), type := 34, pos := "ref.go:49", after := #[{ on := 11, ground := Ground.guard }], guard := some (11, true) }) (v := undef) rfl (by kernel_rfl) (by kernel_rfl) (by kernel_rfl) (fun _ _ _ h => h) (Or.inr ⟨by rfl, rfl⟩) (by assumption) ?_
        try simp only [Act.put, List.setIfInBounds_toArray, List.set_cons_zero, List.set_cons_succ]
        refine wpAnyH_take (i := 15) (oi := { dst := some 74, op := Op.move (Operand.tmp 8), type := 3, pos := "ref.go:49", after := #[{ on := 11, ground := Ground.guard }], guard := some (11, true) }) (v := undef) rfl (by kernel_rfl) (by kernel_rfl) (by kernel_rfl) (fun _ _ _ h => h) (Or.inr ⟨by rfl, rfl⟩) (by assumption) ?_
        try simp only [Act.put, List.setIfInBounds_toArray, List.set_cons_zero, List.set_cons_succ]
        refine wpAnyH_take (i := 16) (oi := { dst := some 75, op := Op.indexAddr 34 (Operand.tmp 73) (Operand.tmp 74), type := 0, pos := "ref.go:49", after := #[{ on := 14, ground := Ground.data }, { on := 15, ground := Ground.data }, { on := 11, ground := Ground.guard }], guard := some (11, true) }) (v := undef) rfl (by kernel_rfl) (by kernel_rfl) (by kernel_rfl) (fun _ _ _ h => h) (Or.inr ⟨by rfl, rfl⟩) (by assumption) ?_
        try simp only [Act.put, List.setIfInBounds_toArray, List.set_cons_zero, List.set_cons_succ]
        refine wpAnyH_take (i := 17) (oi := { dst := some 76, op := Op.fieldAddr 91 (Operand.tmp 75) 0, type := 0, pos := "ref.go:49", after := #[{ on := 16, ground := Ground.data }, { on := 11, ground := Ground.guard }], guard := some (11, true) }) (v := undef) rfl (by kernel_rfl) (by kernel_rfl) (by kernel_rfl) (fun _ _ _ h => h) (Or.inr ⟨by rfl, rfl⟩) (by assumption) ?_
        try simp only [Act.put, List.setIfInBounds_toArray, List.set_cons_zero, List.set_cons_succ]
        refine wpAnyH_take (i := 18) (oi := { dst := some 77, op := Op.load 3 (Operand.tmp 76), type := 3, pos := "ref.go:49", after := #[{ on := 17, ground := Ground.data }, { on := 11, ground := Ground.guard }], guard := some (11, true) }) (v := undef) rfl (by kernel_rfl) (by kernel_rfl) (by kernel_rfl) (fun _ _ _ h => h) (Or.inr ⟨by rfl, rfl⟩) (by assumption) ?_
        try simp only [Act.put, List.setIfInBounds_toArray, List.set_cons_zero, List.set_cons_succ]
        refine wpAnyH_take (i := 19) (oi := { dst := some 78, op := Op.binOp BinOp.lss 3 (Operand.tmp 72) (Operand.tmp 77) 3, type := 4, pos := "ref.go:49", after := #[{ on := 13, ground := Ground.data }, { on := 18, ground := Ground.data }, { on := 11, ground := Ground.guard }], guard := some (11, true) }) (v := undef) rfl (by kernel_rfl) (by kernel_rfl) (by kernel_rfl) (fun _ _ _ h => h) (Or.inr ⟨by rfl, rfl⟩) (by assumption) ?_
        try simp only [Act.put, List.setIfInBounds_toArray, List.set_cons_zero, List.set_cons_succ]
        refine wpAnyH_take (i := 20) (oi := { dst := some 79, op := Op.pick (Operand.tmp 70) (Operand.tmp 78) (Operand.const (Value.bool false)), type := 4, pos := "ref.go:49", after := #[{ on := 11, ground := Ground.data }, { on := 19, ground := Ground.data }, { on := 7, ground := Ground.guard }], guard := some (7, false) }) (v := undef) rfl (by kernel_rfl) (by kernel_rfl) (by kernel_rfl) (fun _ _ _ h => h) (Or.inr ⟨by rfl, rfl⟩) (by assumption) ?_
        try simp only [Act.put, List.setIfInBounds_toArray, List.set_cons_zero, List.set_cons_succ]
        refine wpAnyH_take (i := 21) (oi := { dst := some 80, op := Op.pick (Operand.tmp 66) (Operand.const (Value.bool true)) (Operand.tmp 79), type := 4, pos := "ref.go:49", after := #[{ on := 7, ground := Ground.data }, { on := 20, ground := Ground.data }], guard := none }) (v := ?v6) rfl (by kernel_rfl) (by kernel_rfl) (by kernel_rfl) (fun _ _ _ h => h) (Or.inl ⟨by rfl, ?y6⟩) (by assumption) ?r6
        case y6 => (intro w hSw; (try dsimp only at hSw); (try (go_split_ands)); go_simp; try with_reducible rfl)
        try simp only [Act.put, List.setIfInBounds_toArray, List.set_cons_zero, List.set_cons_succ]
        refine wpAnyH_done (by kernel_rfl) ?_ _
        refine NoPanic.normal ?_
        clear hHeld
        have hW5 : Hid (w4.drew.heap[wb]? = some (.cells (Vc.row ⟨a0, ov, a2, a3⟩) 26)) := hW4.out
        have hQ5 : Hid (w4.drew.heap[q]? = some (.cells (bvY Y).row 26)) := hQ4.out
        have hZ5 : Hid (w4.drew.heap[w.heap.size]? = some (.cells (Vc.row Vc.zero) 26)) := hZ4.out
        have hB5 : Hid (Below w.heap.size w w4.drew) := below_drewN hB4.out 1
        have l0 : w4.drew.cell? ⟨wb, 0, none⟩ = some (.int .u64 a0) := k0
        have l1 : w4.drew.cell? ⟨wb, 1, none⟩ = some (.int .u64 ov) := k1
        have l2 : w4.drew.cell? ⟨wb, 2, none⟩ = some (.int .u64 a2) := k2
        have l3 : w4.drew.cell? ⟨wb, 3, none⟩ = some (.int .i64 a3) := k3
        clear hW4 hQ4 hZ4 hB4 k0 k1 k2 k3 m0 hP4
        generalize w4.drew = w5 at *
        have hQ6 := hide (setRow_heap w5 q _ (Vc.row ⟨a0, ov, a2, a3⟩) 26 _ hQ5.out)
        have hZ6 := hide ((Go.setRow_other w5 q w.heap.size (Vc.row ⟨a0, ov, a2, a3⟩) (by omega)).trans hZ5.out)
        have hB6 := hide (below_setRow hB5.out (Nat.le_of_lt hqw) (Vc.row ⟨a0, ov, a2, a3⟩))
        go_wp2_with fail
        refine wp_region_noPanic ?_
        refine wp_region_held_drew (S := fun W => W.cell? ⟨wb, 0, none⟩ = some (.int .u64 a0) ∧ W.cell? ⟨wb, 1, none⟩ = some (.int .u64 ov) ∧ W.cell? ⟨wb, 2, none⟩ = some (.int .u64 a2) ∧ W.cell? ⟨wb, 3, none⟩ = some (.int .i64 a3)) (by kernel_rfl) ⟨l0, l1, l2, l3⟩ (fun hHeld => ?_)
        refine wpAnyH_take (i := 0) (oi := { dst := some 81, op := Op.move (Operand.tmp 10), type := 3, pos := "ref.go:50", after := #[], guard := none }) (v := ?v7) rfl (by kernel_rfl) (by kernel_rfl) (by kernel_rfl) (fun _ _ _ h => h) (Or.inl ⟨by rfl, ?y7⟩) (by assumption) ?r7
        case y7 => (intro w hSw; (try dsimp only at hSw); (try (go_split_ands)); go_simp; try with_reducible rfl)
        try simp only [Act.put, List.setIfInBounds_toArray, List.set_cons_zero, List.set_cons_succ]
        refine wpAnyH_take (i := 1) (oi := { dst := some 82, op := Op.load 26 (Operand.tmp 12), type := 26, pos := "ref.go:50", after := #[{ on := 2, ground := Ground.gcOnly Departure.lateStores }], guard := none }) (v := ?v8) rfl (by kernel_rfl) (by kernel_rfl) (by kernel_rfl) (fun _ _ _ h => h) (Or.inl ⟨by rfl, ?y8⟩) (by assumption) ?r8
        case y8 => (intro w hSw; (try dsimp only at hSw); (try (go_split_ands)); go_simp; try with_reducible rfl)
        try simp only [Act.put, List.setIfInBounds_toArray, List.set_cons_zero, List.set_cons_succ]
        refine wpAnyH_take (i := 2) (oi := { dst := some 8, op := Op.assign (Operand.tmp 81), type := 3, pos := "ref.go:50", after := #[{ on := 0, ground := Ground.data }, { on := 0, ground := Ground.phase }, { on := 1, ground := Ground.textOnly Departure.lateStores }], guard := none }) (v := ?v9) rfl (by kernel_rfl) (by kernel_rfl) (by kernel_rfl) (fun _ _ _ h => h) (Or.inl ⟨by rfl, ?y9⟩) (by assumption) ?r9
        case y9 => (intro w hSw; (try dsimp only at hSw); (try (go_split_ands)); go_simp; try with_reducible rfl)
        try simp only [Act.put, List.setIfInBounds_toArray, List.set_cons_zero, List.set_cons_succ]
        refine wpAnyH_ready (rs := [3]) (by kernel_rfl) (by simp) ?_
        refine AllReadyH.cons (o := { dst := none, op := Op.store 26 (Operand.tmp 9) (Operand.tmp 82), type := 0, pos := "ref.go:50", after := #[{ on := 1, ground := Ground.data }, { on := 2, ground := Ground.chain }, { on := 0, ground := Ground.phase }, { on := 1, ground := Ground.phase }, { on := 2, ground := Ground.phase }], guard := none }) rfl (fun K hK => ?_) AllReadyH.nil
        refine step_store_row rfl 26 (.tmp 9) (.tmp 82) rfl q (Vc.row ⟨a0, ov, a2, a3⟩) rfl rfl 26 _ hQ5.out (vecSize Vc.zero) rfl (Vc.row_all _) ?_
        have hbo : ∀ k, k ≠ q → (w5.drew.setRow q (Vc.row ⟨a0, ov, a2, a3⟩)).heap[k]? = w5.heap[k]? := fun k hk => Go.setRow_other w5.drew q k _ hk
        have hwbq : wb ≠ q := by omega
        refine hK.out _ _ ⟨(World.cell?_of_block (a := ⟨wb, 0, none⟩) (hbo wb hwbq)).trans l0, (World.cell?_of_block (a := ⟨wb, 1, none⟩) (hbo wb hwbq)).trans l1, (World.cell?_of_block (a := ⟨wb, 2, none⟩) (hbo wb hwbq)).trans l2, (World.cell?_of_block (a := ⟨wb, 3, none⟩) (hbo wb hwbq)).trans l3⟩ (fun hHeld3 => ?_)
        clear hK K
        try simp only [Act.put]
        refine wpAnyH_done (by kernel_rfl) ?_ _
        refine NoPanic.normal ?_
        have hQ7 : Hid ((w5.drew.setRow q (Vc.row ⟨a0, ov, a2, a3⟩)).heap[q]? = some (.cells (Vc.row ⟨a0, ov, a2, a3⟩) 26)) := setRow_heap w5.drew q _ _ 26 _ hQ5.out
        have hZ7 : Hid ((w5.drew.setRow q (Vc.row ⟨a0, ov, a2, a3⟩)).heap[w.heap.size]? = some (.cells (Vc.row Vc.zero) 26)) := (hbo w.heap.size (by omega)).trans hZ5.out
        have hB7 : Hid (Below w.heap.size w (w5.drew.setRow q (Vc.row ⟨a0, ov, a2, a3⟩))) := below_setRow (below_drewN hB5.out 1) (Nat.le_of_lt hqw) (Vc.row ⟨a0, ov, a2, a3⟩)
        have hbvV : Hid (bvY V = ⟨a0, ov, a2, a3⟩) := by rw [hV.out]; exact if_neg (by simp)
        generalize w5.drew.setRow q (Vc.row ⟨a0, ov, a2, a3⟩) = w7 at *
        clear hHeld hHeld3 l0 l1 l2 l3 hbo hQ5 hZ5 hB5 hQ6 hZ6 hB6
        go_wp2
        go_round
        case rel => exact ⟨j + 1, by omega, by go_num, by rw [hVE.out, hV.out], hB7, hZ7, by rw [hVE.out, hbvV.out]; exact hQ7⟩
        case measure => simp [intOf]; omega
      obtain ⟨r, hr⟩ := Int.eq_ofNat_of_zero_le (show 0 ≤ Y.place by omega)
      obtain ⟨mr, hrn⟩ := hid4.out r hr
      have hbv : bvY Y = Y.v := if_neg hpl
      rw [hbv] at hQ4
      have hBef := hide (fun w => Before_any ⟨a0, ov, a2, a3⟩ Y.v w)
      have hfE : Hid (befB ⟨⟨a0, ov, a2, a3⟩, j, id⟩ Y = (decide (cmpN ⟨a0, ov, a2, a3⟩ Y.v < 0) || (decide (cmpN ⟨a0, ov, a2, a3⟩ Y.v = 0) && decide (id < Y.id)))) := rfl
      have hbE : Hid (betB ⟨a0, ov, a2, a3⟩ Y.v = decide (cmpN ⟨a0, ov, a2, a3⟩ Y.v < 0)) := rfl
      have hwwf : Hid ((⟨a0, ov, a2, a3⟩ : Vc).wf) := ⟨hwf.out.told.root, hov.out, hwf.out.told.bridge, hwf.out.told.port⟩
      have hEq : ∀ w, (binOp .eql 26 (.agg (Vc.row ⟨a0, ov, a2, a3⟩)) (.agg Y.v.row)).run Try.prog w = .ok (.bool (decide ((⟨a0, ov, a2, a3⟩ : Vc) = Y.v))) w := fun w => vec_eql _ _ hwwf.out hYwf.out w
      have hcz := hide (cmp_zero ⟨a0, ov, a2, a3⟩ Y.v)
      rw [hr]
      obtain ⟨⟨y0, y1, y2, y3⟩, y4, y5⟩ := Y
      dsimp only at *
      subst hr
      have n0 : w4.cell? ⟨q, 0, none⟩ = some (.int .u64 y0) := (cell_of_row _ _ _ _ _ _ hQ4.out).trans rfl
      have n1 : w4.cell? ⟨q, 1, none⟩ = some (.int .u64 y1) := (cell_of_row _ _ _ _ _ _ hQ4.out).trans rfl
      have n2 : w4.cell? ⟨q, 2, none⟩ = some (.int .u64 y2) := (cell_of_row _ _ _ _ _ _ hQ4.out).trans rfl
      have n3 : w4.cell? ⟨q, 3, none⟩ = some (.int .i64 y3) := (cell_of_row _ _ _ _ _ _ hQ4.out).trans rfl
      have hSS : Hid (∀ W : World, Below w4.heap.size w4 W → W.cell? ⟨wb, 0, none⟩ = some (.int .u64 a0) ∧ W.cell? ⟨wb, 1, none⟩ = some (.int .u64 ov) ∧ W.cell? ⟨wb, 2, none⟩ = some (.int .u64 a2) ∧ W.cell? ⟨wb, 3, none⟩ = some (.int .i64 a3) ∧ W.cell? ⟨q, 0, none⟩ = some (.int .u64 y0) ∧ W.cell? ⟨q, 1, none⟩ = some (.int .u64 y1) ∧ W.cell? ⟨q, 2, none⟩ = some (.int .u64 y2) ∧ W.cell? ⟨q, 3, none⟩ = some (.int .i64 y3) ∧ W.cell? ⟨pk, 0, none⟩ = some (.int .i64 id) ∧ W.cell? ⟨bb, off + r * 8, none⟩ = some (.int .i64 y5)) := fun W hW => by
        have e1 := heap_kept hW hW4.out
        have e2 := heap_kept hW hQ4.out
        exact ⟨(cell_of_row _ _ _ _ _ _ e1).trans rfl, (cell_of_row _ _ _ _ _ _ e1).trans rfl, (cell_of_row _ _ _ _ _ _ e1).trans rfl, (cell_of_row _ _ _ _ _ _ e1).trans rfl, (cell_of_row _ _ _ _ _ _ e2).trans rfl, (cell_of_row _ _ _ _ _ _ e2).trans rfl, (cell_of_row _ _ _ _ _ _ e2).trans rfl, (cell_of_row _ _ _ _ _ _ e2).trans rfl, (cell_of_row _ _ _ _ _ _ (heap_kept hW hP4.out)).trans rfl, (hW.cell (p := ⟨bb, off + r * 8, none⟩) (block_lt_of_cell mr)).trans mr⟩
      generalize betB ⟨a0, ov, a2, a3⟩ ⟨y0, y1, y2, y3⟩ = bt at *
      have hr0 : ¬ ((r : Int) < 0) := by omega
      refine wp_region_noPanic ?_
      refine wp_region_held_drew (S := fun W => W.cell? ⟨wb, 0, none⟩ = some (.int .u64 a0) ∧ W.cell? ⟨wb, 1, none⟩ = some (.int .u64 ov) ∧ W.cell? ⟨wb, 2, none⟩ = some (.int .u64 a2) ∧ W.cell? ⟨wb, 3, none⟩ = some (.int .i64 a3) ∧ W.cell? ⟨q, 0, none⟩ = some (.int .u64 y0) ∧ W.cell? ⟨q, 1, none⟩ = some (.int .u64 y1) ∧ W.cell? ⟨q, 2, none⟩ = some (.int .u64 y2) ∧ W.cell? ⟨q, 3, none⟩ = some (.int .i64 y3) ∧ W.cell? ⟨pk, 0, none⟩ = some (.int .i64 id) ∧ W.cell? ⟨bb, off + r * 8, none⟩ = some (.int .i64 y5)) (by kernel_rfl) (hSS.out _ (below_drewN (Below.refl _ _) 1)) (fun hHeld => ?_)
      refine wpAnyH_take (i := 0) (oi := { dst := some 59, op := Op.move (Operand.tmp 8), type := 3, pos := "ref.go:49", after := #[], guard := none }) (v := ?v10) rfl (by kernel_rfl) (by kernel_rfl) (by kernel_rfl) (fun _ _ _ h => h) (Or.inl ⟨by rfl, ?y10⟩) (by assumption) ?r10
      case y10 => (intro w hSw; (try dsimp only at hSw); (try (go_split_ands)); go_simp; try with_reducible rfl)
      try simp only [Act.put, List.setIfInBounds_toArray, List.set_cons_zero, List.set_cons_succ]
      refine wpAnyH_take (i := 1) (oi := { dst := some 60, op := Op.binOp BinOp.lss 3 (Operand.tmp 59) (Operand.const (Value.int IntKind.i64 0)) 3, type := 4, pos := "ref.go:49", after := #[{ on := 0, ground := Ground.data }], guard := none }) (v := ?v11) rfl (by kernel_rfl) (by kernel_rfl) (by kernel_rfl) (fun _ _ _ h => h) (Or.inl ⟨by rfl, ?y11⟩) (by assumption) ?r11
      case y11 => (intro w hSw; (try dsimp only at hSw); (try (go_split_ands)); go_simp; try with_reducible rfl)
      try simp only [Act.put, List.setIfInBounds_toArray, List.set_cons_zero, List.set_cons_succ]
      refine wpAnyH_take (i := 2) (oi := { dst := some 61, op := Op.move (Operand.tmp 60), type := 4, pos := "ref.go:49", after := #[{ on := 1, ground := Ground.data }], guard := none }) (v := ?v12) rfl (by kernel_rfl) (by kernel_rfl) (by kernel_rfl) (fun _ _ _ h => h) (Or.inl ⟨by rfl, ?y12⟩) (by assumption) ?r12
      case y12 => (intro w hSw; (try dsimp only at hSw); (try (go_split_ands)); go_simp; try with_reducible rfl)
      try simp only [Act.put, List.setIfInBounds_toArray, List.set_cons_zero, List.set_cons_succ]
      refine wpAnyH_take (i := 3) (oi := { dst := some 62, op := Op.load 26 (Operand.tmp 12), type := 26, pos := "ref.go:49", after := #[{ on := 2, ground := Ground.guard }], guard := some (2, false) }) (v := ?v13) rfl (by kernel_rfl) (by kernel_rfl) (by kernel_rfl) (fun _ _ _ h => h) (Or.inl ⟨by rfl, ?y13⟩) (by assumption) ?r13
      case y13 => (intro w hSw; (try dsimp only at hSw); (try (go_split_ands)); go_simp; try with_reducible rfl)
      try simp only [Act.put, List.setIfInBounds_toArray, List.set_cons_zero, List.set_cons_succ]
      refine wpAnyH_take (i := 4) (oi := { dst := some 63, op := Op.load 26 (Operand.tmp 9), type := 26, pos := "ref.go:49", after := #[{ on := 2, ground := Ground.guard }], guard := some (2, false) }) (v := ?v14) rfl (by kernel_rfl) (by kernel_rfl) (by kernel_rfl) (fun _ _ _ h => h) (Or.inl ⟨by rfl, ?y14⟩) (by assumption) ?r14
      case y14 => (intro w hSw; (try dsimp only at hSw); (try (go_split_ands)); go_simp; try with_reducible rfl)
      try simp only [Act.put, List.setIfInBounds_toArray, List.set_cons_zero, List.set_cons_succ]
      refine wpAnyH_ready (rs := [5]) (by kernel_rfl) (by simp) ?_
      refine AllReadyH.cons (o := { dst := some 64, op := Op.call { callee := Callee.value (Operand.func 47), args := #[Operand.tmp 62, Operand.tmp 63], argTypes := #[26, 26] }, type := 4, pos := "ref.go:49", after := #[{ on := 3, ground := Ground.data }, { on := 4, ground := Ground.data }, { on := 2, ground := Ground.chain }, { on := 2, ground := Ground.guard }], guard := some (2, false) }) rfl (fun K hK => ?_) AllReadyH.nil
      go_simp
      refine (hBef.out _).mono ?_
      rintro e w5 ⟨rfl, hb5'⟩
      have hb5 : Below w4.heap.size w4 w5 := (below_drewN (Below.refl _ _) 1).later hb5'
      go_wp2_with fail
      refine hK.out _ _ ?_ (fun hHeld5 => ?_)
      · exact hSS.out _ hb5
      clear hK K
      try simp only [Act.put, List.setIfInBounds_toArray, List.set_cons_zero, List.set_cons_succ]
      have hW5 := hide (heap_kept hb5 hW4.out)
      have hQ5 := hide (heap_kept hb5 hQ4.out)
      have hZ5 := hide (heap_kept hb5 hZ4.out)
      have hB5 := hide (hB4.out.later hb5)
      have l0 : w5.cell? ⟨wb, 0, none⟩ = some (.int .u64 a0) := (cell_of_row _ _ _ _ _ _ hW5.out).trans rfl
      have l1 : w5.cell? ⟨wb, 1, none⟩ = some (.int .u64 ov) := (cell_of_row _ _ _ _ _ _ hW5.out).trans rfl
      have l2 : w5.cell? ⟨wb, 2, none⟩ = some (.int .u64 a2) := (cell_of_row _ _ _ _ _ _ hW5.out).trans rfl
      have l3 : w5.cell? ⟨wb, 3, none⟩ = some (.int .i64 a3) := (cell_of_row _ _ _ _ _ _ hW5.out).trans rfl
      cases bt
      rotate_left
      · have hlt0 : cmpN ⟨a0, ov, a2, a3⟩ ⟨y0, y1, y2, y3⟩ < 0 := of_decide_eq_true hbE.out.symm
        have hV : Hid (V = ⟨⟨a0, ov, a2, a3⟩, j, id⟩) := hS1.out.trans (if_pos ⟨trivial, by rw [hfE.out]; simp [hlt0]⟩)
        refine wpAnyH_take (i := 6) (oi := { dst := some 65, op := Op.pick (Operand.tmp 61) (Operand.const (Value.bool true)) (Operand.tmp 64), type := 4, pos := "ref.go:49", after := #[{ on := 2, ground := Ground.data }, { on := 5, ground := Ground.data }], guard := none }) (v := ?v15) rfl (by kernel_rfl) (by kernel_rfl) (by kernel_rfl) (fun _ _ _ h => h) (Or.inl ⟨by rfl, ?y15⟩) (by assumption) ?r15
        case y15 => (intro w hSw; (try dsimp only at hSw); (try (go_split_ands)); go_simp; try with_reducible rfl)
        try simp only [Act.put, List.setIfInBounds_toArray, List.set_cons_zero, List.set_cons_succ]
        refine wpAnyH_take (i := 7) (oi := { dst := some 66, op := Op.move (Operand.tmp 65), type := 4, pos := "ref.go:49", after := #[{ on := 6, ground := Ground.data }, { on := 5, ground := Ground.chain }], guard := none }) (v := ?v16) rfl (by kernel_rfl) (by kernel_rfl) (by kernel_rfl) (fun _ _ _ h => h) (Or.inl ⟨by rfl, ?y16⟩) (by assumption) ?r16
        case y16 => (intro w hSw; (try dsimp only at hSw); (try (go_split_ands)); go_simp; try with_reducible rfl)
        try simp only [Act.put, List.setIfInBounds_toArray, List.set_cons_zero, List.set_cons_succ]
        refine wpAnyH_take (i := 8) (oi := { dst := some 67, op := Op.load 26 (Operand.tmp 12), type := 26, pos := "ref.go:49", after := #[{ on := 7, ground := Ground.guard }], guard := some (7, false) }) (v := undef) rfl (by kernel_rfl) (by kernel_rfl) (by kernel_rfl) (fun _ _ _ h => h) (Or.inr ⟨by rfl, rfl⟩) (by assumption) ?_
        try simp only [Act.put, List.setIfInBounds_toArray, List.set_cons_zero, List.set_cons_succ]
        refine wpAnyH_take (i := 9) (oi := { dst := some 68, op := Op.load 26 (Operand.tmp 9), type := 26, pos := "ref.go:49", after := #[{ on := 7, ground := Ground.guard }], guard := some (7, false) }) (v := undef) rfl (by kernel_rfl) (by kernel_rfl) (by kernel_rfl) (fun _ _ _ h => h) (Or.inr ⟨by rfl, rfl⟩) (by assumption) ?_
        try simp only [Act.put, List.setIfInBounds_toArray, List.set_cons_zero, List.set_cons_succ]
        refine wpAnyH_take (i := 10) (oi := { dst := some 69, op := Op.binOp BinOp.eql 26 (Operand.tmp 67) (Operand.tmp 68) 26, type := 4, pos := "ref.go:49", after := #[{ on := 8, ground := Ground.data }, { on := 9, ground := Ground.data }, { on := 7, ground := Ground.guard }], guard := some (7, false) }) (v := undef) rfl (by kernel_rfl) (by kernel_rfl) (by kernel_rfl) (fun _ _ _ h => h) (Or.inr ⟨by rfl, rfl⟩) (by assumption) ?_
        try simp only [Act.put, List.setIfInBounds_toArray, List.set_cons_zero, List.set_cons_succ]
        refine wpAnyH_take (i := 11) (oi := { dst := some 70, op := Op.move (Operand.tmp 69), type := 4, pos := "ref.go:49", after := #[{ on := 10, ground := Ground.data }, { on := 7, ground := Ground.chain }, { on := 7, ground := Ground.guard }], guard := some (7, false) }) (v := undef) rfl (by kernel_rfl) (by kernel_rfl) (by kernel_rfl) (fun _ _ _ h => h) (Or.inr ⟨by rfl, rfl⟩) (by assumption) ?_
        try simp only [Act.put, List.setIfInBounds_toArray, List.set_cons_zero, List.set_cons_succ]
        refine wpAnyH_take (i := 12) (oi := { dst := some 71, op := Op.fieldAddr 91 (Operand.tmp 11) 0, type := 0, pos := "ref.go:49", after := #[{ on := 11, ground := Ground.guard }], guard := some (11, true) }) (v := undef) rfl (by kernel_rfl) (by kernel_rfl) (by kernel_rfl) (fun _ _ _ h => h) (Or.inr ⟨by rfl, rfl⟩) (by assumption) ?_
        try simp only [Act.put, List.setIfInBounds_toArray, List.set_cons_zero, List.set_cons_succ]
        refine wpAnyH_take (i := 13) (oi := { dst := some 72, op := Op.load 3 (Operand.tmp 71), type := 3, pos := "ref.go:49", after := #[{ on := 12, ground := Ground.data }, { on := 11, ground := Ground.guard }], guard := some (11, true) }) (v := undef) rfl (by kernel_rfl) (by kernel_rfl) (by kernel_rfl) (fun _ _ _ h => h) (Or.inr ⟨by rfl, rfl⟩) (by assumption) ?_
        try simp only [Act.put, List.setIfInBounds_toArray, List.set_cons_zero, List.set_cons_succ]
        refine wpAnyH_take (i := 14) (oi := { dst := some 73, op := Op.move (Operand.tmp 1), type := 34, pos := "ref.go:49", after := #[{ on := 11, ground := Ground.guard }], guard := some (11, true) }) (v := undef) rfl (by kernel_rfl) (by kernel_rfl) (by kernel_rfl) (fun _ _ _ h => h) (Or.inr ⟨by rfl, rfl⟩) (by assumption) ?_
        try simp only [Act.put, List.setIfInBounds_toArray, List.set_cons_zero, List.set_cons_succ]
        refine wpAnyH_take (i := 15) (oi := { dst := some 74, op := Op.move (Operand.tmp 8), type := 3, pos := "ref.go:49", after := #[{ on := 11, ground := Ground.guard }], guard := some (11, true) }) (v := undef) rfl (by kernel_rfl) (by kernel_rfl) (by kernel_rfl) (fun _ _ _ h => h) (Or.inr ⟨by rfl, rfl⟩) (by assumption) ?_
        try simp only [Act.put, List.setIfInBounds_toArray, List.set_cons_zero, List.set_cons_succ]
        refine wpAnyH_take (i := 16) (oi := { dst := some 75, op := Op.indexAddr 34 (Operand.tmp 73) (Operand.tmp 74), type := 0, pos := "ref.go:49", after := #[{ on := 14, ground := Ground.data }, { on := 15, ground := Ground.data }, { on := 11, ground := Ground.guard }], guard := some (11, true) }) (v := undef) rfl (by kernel_rfl) (by kernel_rfl) (by kernel_rfl) (fun _ _ _ h => h) (Or.inr ⟨by rfl, rfl⟩) (by assumption) ?_
        try simp only [Act.put, List.setIfInBounds_toArray, List.set_cons_zero, List.set_cons_succ]
        refine wpAnyH_take (i := 17) (oi := { dst := some 76, op := Op.fieldAddr 91 (Operand.tmp 75) 0, type := 0, pos := "ref.go:49", after := #[{ on := 16, ground := Ground.data }, { on := 11, ground := Ground.guard }], guard := some (11, true) }) (v := undef) rfl (by kernel_rfl) (by kernel_rfl) (by kernel_rfl) (fun _ _ _ h => h) (Or.inr ⟨by rfl, rfl⟩) (by assumption) ?_
        try simp only [Act.put, List.setIfInBounds_toArray, List.set_cons_zero, List.set_cons_succ]
        refine wpAnyH_take (i := 18) (oi := { dst := some 77, op := Op.load 3 (Operand.tmp 76), type := 3, pos := "ref.go:49", after := #[{ on := 17, ground := Ground.data }, { on := 11, ground := Ground.guard }], guard := some (11, true) }) (v := undef) rfl (by kernel_rfl) (by kernel_rfl) (by kernel_rfl) (fun _ _ _ h => h) (Or.inr ⟨by rfl, rfl⟩) (by assumption) ?_
        try simp only [Act.put, List.setIfInBounds_toArray, List.set_cons_zero, List.set_cons_succ]
        refine wpAnyH_take (i := 19) (oi := { dst := some 78, op := Op.binOp BinOp.lss 3 (Operand.tmp 72) (Operand.tmp 77) 3, type := 4, pos := "ref.go:49", after := #[{ on := 13, ground := Ground.data }, { on := 18, ground := Ground.data }, { on := 11, ground := Ground.guard }], guard := some (11, true) }) (v := undef) rfl (by kernel_rfl) (by kernel_rfl) (by kernel_rfl) (fun _ _ _ h => h) (Or.inr ⟨by rfl, rfl⟩) (by assumption) ?_
        try simp only [Act.put, List.setIfInBounds_toArray, List.set_cons_zero, List.set_cons_succ]
        refine wpAnyH_take (i := 20) (oi := { dst := some 79, op := Op.pick (Operand.tmp 70) (Operand.tmp 78) (Operand.const (Value.bool false)), type := 4, pos := "ref.go:49", after := #[{ on := 11, ground := Ground.data }, { on := 19, ground := Ground.data }, { on := 7, ground := Ground.guard }], guard := some (7, false) }) (v := undef) rfl (by kernel_rfl) (by kernel_rfl) (by kernel_rfl) (fun _ _ _ h => h) (Or.inr ⟨by rfl, rfl⟩) (by assumption) ?_
        try simp only [Act.put, List.setIfInBounds_toArray, List.set_cons_zero, List.set_cons_succ]
        refine wpAnyH_take (i := 21) (oi := { dst := some 80, op := Op.pick (Operand.tmp 66) (Operand.const (Value.bool true)) (Operand.tmp 79), type := 4, pos := "ref.go:49", after := #[{ on := 7, ground := Ground.data }, { on := 20, ground := Ground.data }], guard := none }) (v := ?v17) rfl (by kernel_rfl) (by kernel_rfl) (by kernel_rfl) (fun _ _ _ h => h) (Or.inl ⟨by rfl, ?y17⟩) (by assumption) ?r17
        case y17 => (intro w hSw; (try dsimp only at hSw); (try (go_split_ands)); go_simp; try with_reducible rfl)
        try simp only [Act.put, List.setIfInBounds_toArray, List.set_cons_zero, List.set_cons_succ]
        refine wpAnyH_done (by kernel_rfl) ?_ _
        refine NoPanic.normal ?_
        clear hHeld hHeld5 hSS hEq hb5 hb5' hlt0
        have hQ6 := hide (setRow_heap w5 q _ (Vc.row ⟨a0, ov, a2, a3⟩) 26 _ hQ5.out)
        have hZ6 := hide ((Go.setRow_other w5 q w.heap.size (Vc.row ⟨a0, ov, a2, a3⟩) (by omega)).trans hZ5.out)
        have hB6 := hide (below_setRow hB5.out (Nat.le_of_lt hqw) (Vc.row ⟨a0, ov, a2, a3⟩))
        go_wp2_with fail
        refine wp_region_noPanic ?_
        refine wp_region_held_drew (S := fun W => W.cell? ⟨wb, 0, none⟩ = some (.int .u64 a0) ∧ W.cell? ⟨wb, 1, none⟩ = some (.int .u64 ov) ∧ W.cell? ⟨wb, 2, none⟩ = some (.int .u64 a2) ∧ W.cell? ⟨wb, 3, none⟩ = some (.int .i64 a3)) (by kernel_rfl) ⟨l0, l1, l2, l3⟩ (fun hHeld => ?_)
        refine wpAnyH_take (i := 0) (oi := { dst := some 81, op := Op.move (Operand.tmp 10), type := 3, pos := "ref.go:50", after := #[], guard := none }) (v := ?v18) rfl (by kernel_rfl) (by kernel_rfl) (by kernel_rfl) (fun _ _ _ h => h) (Or.inl ⟨by rfl, ?y18⟩) (by assumption) ?r18
        case y18 => (intro w hSw; (try dsimp only at hSw); (try (go_split_ands)); go_simp; try with_reducible rfl)
        try simp only [Act.put, List.setIfInBounds_toArray, List.set_cons_zero, List.set_cons_succ]
        refine wpAnyH_take (i := 1) (oi := { dst := some 82, op := Op.load 26 (Operand.tmp 12), type := 26, pos := "ref.go:50", after := #[{ on := 2, ground := Ground.gcOnly Departure.lateStores }], guard := none }) (v := ?v19) rfl (by kernel_rfl) (by kernel_rfl) (by kernel_rfl) (fun _ _ _ h => h) (Or.inl ⟨by rfl, ?y19⟩) (by assumption) ?r19
        case y19 => (intro w hSw; (try dsimp only at hSw); (try (go_split_ands)); go_simp; try with_reducible rfl)
        try simp only [Act.put, List.setIfInBounds_toArray, List.set_cons_zero, List.set_cons_succ]
        refine wpAnyH_take (i := 2) (oi := { dst := some 8, op := Op.assign (Operand.tmp 81), type := 3, pos := "ref.go:50", after := #[{ on := 0, ground := Ground.data }, { on := 0, ground := Ground.phase }, { on := 1, ground := Ground.textOnly Departure.lateStores }], guard := none }) (v := ?v20) rfl (by kernel_rfl) (by kernel_rfl) (by kernel_rfl) (fun _ _ _ h => h) (Or.inl ⟨by rfl, ?y20⟩) (by assumption) ?r20
        case y20 => (intro w hSw; (try dsimp only at hSw); (try (go_split_ands)); go_simp; try with_reducible rfl)
        try simp only [Act.put, List.setIfInBounds_toArray, List.set_cons_zero, List.set_cons_succ]
        refine wpAnyH_ready (rs := [3]) (by kernel_rfl) (by simp) ?_
        refine AllReadyH.cons (o := { dst := none, op := Op.store 26 (Operand.tmp 9) (Operand.tmp 82), type := 0, pos := "ref.go:50", after := #[{ on := 1, ground := Ground.data }, { on := 2, ground := Ground.chain }, { on := 0, ground := Ground.phase }, { on := 1, ground := Ground.phase }, { on := 2, ground := Ground.phase }], guard := none }) rfl (fun K hK => ?_) AllReadyH.nil
        refine step_store_row rfl 26 (.tmp 9) (.tmp 82) rfl q (Vc.row ⟨a0, ov, a2, a3⟩) rfl rfl 26 _ hQ5.out (vecSize Vc.zero) rfl (Vc.row_all _) ?_
        have hbo : ∀ k, k ≠ q → (w5.drew.setRow q (Vc.row ⟨a0, ov, a2, a3⟩)).heap[k]? = w5.heap[k]? := fun k hk => Go.setRow_other w5.drew q k _ hk
        have hwbq : wb ≠ q := by omega
        refine hK.out _ _ ⟨(World.cell?_of_block (a := ⟨wb, 0, none⟩) (hbo wb hwbq)).trans l0, (World.cell?_of_block (a := ⟨wb, 1, none⟩) (hbo wb hwbq)).trans l1, (World.cell?_of_block (a := ⟨wb, 2, none⟩) (hbo wb hwbq)).trans l2, (World.cell?_of_block (a := ⟨wb, 3, none⟩) (hbo wb hwbq)).trans l3⟩ (fun hHeld3 => ?_)
        clear hK K
        try simp only [Act.put]
        refine wpAnyH_done (by kernel_rfl) ?_ _
        refine NoPanic.normal ?_
        have hQ7 : Hid ((w5.drew.setRow q (Vc.row ⟨a0, ov, a2, a3⟩)).heap[q]? = some (.cells (Vc.row ⟨a0, ov, a2, a3⟩) 26)) := setRow_heap w5.drew q _ _ 26 _ hQ5.out
        have hZ7 : Hid ((w5.drew.setRow q (Vc.row ⟨a0, ov, a2, a3⟩)).heap[w.heap.size]? = some (.cells (Vc.row Vc.zero) 26)) := (hbo w.heap.size (by omega)).trans hZ5.out
        have hB7 : Hid (Below w.heap.size w (w5.drew.setRow q (Vc.row ⟨a0, ov, a2, a3⟩))) := below_setRow (below_drewN hB5.out 1) (Nat.le_of_lt hqw) (Vc.row ⟨a0, ov, a2, a3⟩)
        have hbvV : Hid (bvY V = ⟨a0, ov, a2, a3⟩) := by rw [hV.out]; exact if_neg (by simp)
        generalize w5.drew.setRow q (Vc.row ⟨a0, ov, a2, a3⟩) = w7 at *
        clear hHeld hHeld3 l0 l1 l2 l3 hbo hQ5 hZ5 hB5 hQ6 hZ6 hB6
        go_wp2
        go_round
        case rel => exact ⟨j + 1, by omega, by go_num, by rw [hVE.out, hV.out], hB7, hZ7, by rw [hVE.out, hbvV.out]; exact hQ7⟩
        case measure => simp [intOf]; omega
      have hge0 : ¬ cmpN ⟨a0, ov, a2, a3⟩ ⟨y0, y1, y2, y3⟩ < 0 := of_decide_eq_false hbE.out.symm
      refine wpAnyH_take (i := 6) (oi := { dst := some 65, op := Op.pick (Operand.tmp 61) (Operand.const (Value.bool true)) (Operand.tmp 64), type := 4, pos := "ref.go:49", after := #[{ on := 2, ground := Ground.data }, { on := 5, ground := Ground.data }], guard := none }) (v := ?v21) rfl (by kernel_rfl) (by kernel_rfl) (by kernel_rfl) (fun _ _ _ h => h) (Or.inl ⟨by rfl, ?y21⟩) (by assumption) ?r21
      case y21 => (intro w hSw; (try dsimp only at hSw); (try (go_split_ands)); go_simp; try with_reducible rfl)
      try simp only [Act.put, List.setIfInBounds_toArray, List.set_cons_zero, List.set_cons_succ]
      refine wpAnyH_take (i := 7) (oi := { dst := some 66, op := Op.move (Operand.tmp 65), type := 4, pos := "ref.go:49", after := #[{ on := 6, ground := Ground.data }, { on := 5, ground := Ground.chain }], guard := none }) (v := ?v22) rfl (by kernel_rfl) (by kernel_rfl) (by kernel_rfl) (fun _ _ _ h => h) (Or.inl ⟨by rfl, ?y22⟩) (by assumption) ?r22
      case y22 => (intro w hSw; (try dsimp only at hSw); (try (go_split_ands)); go_simp; try with_reducible rfl)
      try simp only [Act.put, List.setIfInBounds_toArray, List.set_cons_zero, List.set_cons_succ]
      refine wpAnyH_take (i := 8) (oi := { dst := some 67, op := Op.load 26 (Operand.tmp 12), type := 26, pos := "ref.go:49", after := #[{ on := 7, ground := Ground.guard }], guard := some (7, false) }) (v := ?v23) rfl (by kernel_rfl) (by kernel_rfl) (by kernel_rfl) (fun _ _ _ h => h) (Or.inl ⟨by rfl, ?y23⟩) (by assumption) ?r23
      case y23 => (intro w hSw; (try dsimp only at hSw); (try (go_split_ands)); go_simp; try with_reducible rfl)
      try simp only [Act.put, List.setIfInBounds_toArray, List.set_cons_zero, List.set_cons_succ]
      refine wpAnyH_take (i := 9) (oi := { dst := some 68, op := Op.load 26 (Operand.tmp 9), type := 26, pos := "ref.go:49", after := #[{ on := 7, ground := Ground.guard }], guard := some (7, false) }) (v := ?v24) rfl (by kernel_rfl) (by kernel_rfl) (by kernel_rfl) (fun _ _ _ h => h) (Or.inl ⟨by rfl, ?y24⟩) (by assumption) ?r24
      case y24 => (intro w hSw; (try dsimp only at hSw); (try (go_split_ands)); go_simp; try with_reducible rfl)
      try simp only [Act.put, List.setIfInBounds_toArray, List.set_cons_zero, List.set_cons_succ]
      by_cases heq : (⟨a0, ov, a2, a3⟩ : Vc) = ⟨y0, y1, y2, y3⟩
      rotate_left
      · have hEq2 := hEq
        rw [decide_eq_false heq] at hEq2
        have hcn : cmpN ⟨a0, ov, a2, a3⟩ ⟨y0, y1, y2, y3⟩ ≠ 0 := fun e => heq (hcz.out.1 e)
        have hV : Hid (V = ⟨⟨y0, y1, y2, y3⟩, r, y5⟩) := hS1.out.trans (if_neg (by rw [hfE.out]; simp [hge0, hcn]))
        clear hEq heq
        refine wpAnyH_take (i := 10) (oi := { dst := some 69, op := Op.binOp BinOp.eql 26 (Operand.tmp 67) (Operand.tmp 68) 26, type := 4, pos := "ref.go:49", after := #[{ on := 8, ground := Ground.data }, { on := 9, ground := Ground.data }, { on := 7, ground := Ground.guard }], guard := some (7, false) }) (v := ?v25) rfl (by kernel_rfl) (by kernel_rfl) (by kernel_rfl) (fun _ _ _ h => h) (Or.inl ⟨by rfl, ?y25⟩) (by assumption) ?r25
        case y25 => (intro w hSw; (try dsimp only at hSw); (try (go_split_ands)); go_simp; try with_reducible rfl)
        try simp only [Act.put, List.setIfInBounds_toArray, List.set_cons_zero, List.set_cons_succ]
        refine wpAnyH_take (i := 11) (oi := { dst := some 70, op := Op.move (Operand.tmp 69), type := 4, pos := "ref.go:49", after := #[{ on := 10, ground := Ground.data }, { on := 7, ground := Ground.chain }, { on := 7, ground := Ground.guard }], guard := some (7, false) }) (v := ?v26) rfl (by kernel_rfl) (by kernel_rfl) (by kernel_rfl) (fun _ _ _ h => h) (Or.inl ⟨by rfl, ?y26⟩) (by assumption) ?r26
        case y26 => (intro w hSw; (try dsimp only at hSw); (try (go_split_ands)); go_simp; try with_reducible rfl)
        try simp only [Act.put, List.setIfInBounds_toArray, List.set_cons_zero, List.set_cons_succ]
        refine wpAnyH_take (i := 12) (oi := { dst := some 71, op := Op.fieldAddr 91 (Operand.tmp 11) 0, type := 0, pos := "ref.go:49", after := #[{ on := 11, ground := Ground.guard }], guard := some (11, true) }) (v := undef) rfl (by kernel_rfl) (by kernel_rfl) (by kernel_rfl) (fun _ _ _ h => h) (Or.inr ⟨by rfl, rfl⟩) (by assumption) ?_
        try simp only [Act.put, List.setIfInBounds_toArray, List.set_cons_zero, List.set_cons_succ]
        refine wpAnyH_take (i := 13) (oi := { dst := some 72, op := Op.load 3 (Operand.tmp 71), type := 3, pos := "ref.go:49", after := #[{ on := 12, ground := Ground.data }, { on := 11, ground := Ground.guard }], guard := some (11, true) }) (v := undef) rfl (by kernel_rfl) (by kernel_rfl) (by kernel_rfl) (fun _ _ _ h => h) (Or.inr ⟨by rfl, rfl⟩) (by assumption) ?_
        try simp only [Act.put, List.setIfInBounds_toArray, List.set_cons_zero, List.set_cons_succ]
        refine wpAnyH_take (i := 14) (oi := { dst := some 73, op := Op.move (Operand.tmp 1), type := 34, pos := "ref.go:49", after := #[{ on := 11, ground := Ground.guard }], guard := some (11, true) }) (v := undef) rfl (by kernel_rfl) (by kernel_rfl) (by kernel_rfl) (fun _ _ _ h => h) (Or.inr ⟨by rfl, rfl⟩) (by assumption) ?_
        try simp only [Act.put, List.setIfInBounds_toArray, List.set_cons_zero, List.set_cons_succ]
        refine wpAnyH_take (i := 15) (oi := { dst := some 74, op := Op.move (Operand.tmp 8), type := 3, pos := "ref.go:49", after := #[{ on := 11, ground := Ground.guard }], guard := some (11, true) }) (v := undef) rfl (by kernel_rfl) (by kernel_rfl) (by kernel_rfl) (fun _ _ _ h => h) (Or.inr ⟨by rfl, rfl⟩) (by assumption) ?_
        try simp only [Act.put, List.setIfInBounds_toArray, List.set_cons_zero, List.set_cons_succ]
        refine wpAnyH_take (i := 16) (oi := { dst := some 75, op := Op.indexAddr 34 (Operand.tmp 73) (Operand.tmp 74), type := 0, pos := "ref.go:49", after := #[{ on := 14, ground := Ground.data }, { on := 15, ground := Ground.data }, { on := 11, ground := Ground.guard }], guard := some (11, true) }) (v := undef) rfl (by kernel_rfl) (by kernel_rfl) (by kernel_rfl) (fun _ _ _ h => h) (Or.inr ⟨by rfl, rfl⟩) (by assumption) ?_
        try simp only [Act.put, List.setIfInBounds_toArray, List.set_cons_zero, List.set_cons_succ]
        refine wpAnyH_take (i := 17) (oi := { dst := some 76, op := Op.fieldAddr 91 (Operand.tmp 75) 0, type := 0, pos := "ref.go:49", after := #[{ on := 16, ground := Ground.data }, { on := 11, ground := Ground.guard }], guard := some (11, true) }) (v := undef) rfl (by kernel_rfl) (by kernel_rfl) (by kernel_rfl) (fun _ _ _ h => h) (Or.inr ⟨by rfl, rfl⟩) (by assumption) ?_
        try simp only [Act.put, List.setIfInBounds_toArray, List.set_cons_zero, List.set_cons_succ]
        refine wpAnyH_take (i := 18) (oi := { dst := some 77, op := Op.load 3 (Operand.tmp 76), type := 3, pos := "ref.go:49", after := #[{ on := 17, ground := Ground.data }, { on := 11, ground := Ground.guard }], guard := some (11, true) }) (v := undef) rfl (by kernel_rfl) (by kernel_rfl) (by kernel_rfl) (fun _ _ _ h => h) (Or.inr ⟨by rfl, rfl⟩) (by assumption) ?_
        try simp only [Act.put, List.setIfInBounds_toArray, List.set_cons_zero, List.set_cons_succ]
        refine wpAnyH_take (i := 19) (oi := { dst := some 78, op := Op.binOp BinOp.lss 3 (Operand.tmp 72) (Operand.tmp 77) 3, type := 4, pos := "ref.go:49", after := #[{ on := 13, ground := Ground.data }, { on := 18, ground := Ground.data }, { on := 11, ground := Ground.guard }], guard := some (11, true) }) (v := undef) rfl (by kernel_rfl) (by kernel_rfl) (by kernel_rfl) (fun _ _ _ h => h) (Or.inr ⟨by rfl, rfl⟩) (by assumption) ?_
        try simp only [Act.put, List.setIfInBounds_toArray, List.set_cons_zero, List.set_cons_succ]
        refine wpAnyH_take (i := 20) (oi := { dst := some 79, op := Op.pick (Operand.tmp 70) (Operand.tmp 78) (Operand.const (Value.bool false)), type := 4, pos := "ref.go:49", after := #[{ on := 11, ground := Ground.data }, { on := 19, ground := Ground.data }, { on := 7, ground := Ground.guard }], guard := some (7, false) }) (v := ?v27) rfl (by kernel_rfl) (by kernel_rfl) (by kernel_rfl) (fun _ _ _ h => h) (Or.inl ⟨by rfl, ?y27⟩) (by assumption) ?r27
        case y27 => (intro w hSw; (try dsimp only at hSw); (try (go_split_ands)); go_simp; try with_reducible rfl)
        try simp only [Act.put, List.setIfInBounds_toArray, List.set_cons_zero, List.set_cons_succ]
        refine wpAnyH_take (i := 21) (oi := { dst := some 80, op := Op.pick (Operand.tmp 66) (Operand.const (Value.bool true)) (Operand.tmp 79), type := 4, pos := "ref.go:49", after := #[{ on := 7, ground := Ground.data }, { on := 20, ground := Ground.data }], guard := none }) (v := ?v28) rfl (by kernel_rfl) (by kernel_rfl) (by kernel_rfl) (fun _ _ _ h => h) (Or.inl ⟨by rfl, ?y28⟩) (by assumption) ?r28
        case y28 => (intro w hSw; (try dsimp only at hSw); (try (go_split_ands)); go_simp; try with_reducible rfl)
        try simp only [Act.put, List.setIfInBounds_toArray, List.set_cons_zero, List.set_cons_succ]
        refine wpAnyH_done (by kernel_rfl) ?_ _
        refine NoPanic.normal ?_
        clear hHeld hHeld5 hSS hEq2 hb5 hb5' hge0 hcn
        have hbvV : Hid (bvY V = ⟨y0, y1, y2, y3⟩) := by rw [hV.out]; exact if_neg (by simp)
        clear l0 l1 l2 l3
        go_wp2
        go_round
        case rel => exact ⟨j + 1, by omega, by go_num, by rw [hVE.out, hV.out], hB5, hZ5, by rw [hVE.out, hbvV.out]; exact hQ5⟩
        case measure => simp [intOf]; omega
      have hEq2 := hEq
      rw [decide_eq_true heq] at hEq2
      have hcz0 : cmpN ⟨a0, ov, a2, a3⟩ ⟨y0, y1, y2, y3⟩ = 0 := hcz.out.2 heq
      clear hEq heq
      have hrl : (r : Int) < (n : Int) := by omega
      refine wpAnyH_take (i := 10) (oi := { dst := some 69, op := Op.binOp BinOp.eql 26 (Operand.tmp 67) (Operand.tmp 68) 26, type := 4, pos := "ref.go:49", after := #[{ on := 8, ground := Ground.data }, { on := 9, ground := Ground.data }, { on := 7, ground := Ground.guard }], guard := some (7, false) }) (v := ?v29) rfl (by kernel_rfl) (by kernel_rfl) (by kernel_rfl) (fun _ _ _ h => h) (Or.inl ⟨by rfl, ?y29⟩) (by assumption) ?r29
      case y29 => (intro w hSw; (try dsimp only at hSw); (try (go_split_ands)); go_simp; try with_reducible rfl)
      try simp only [Act.put, List.setIfInBounds_toArray, List.set_cons_zero, List.set_cons_succ]
      refine wpAnyH_take (i := 11) (oi := { dst := some 70, op := Op.move (Operand.tmp 69), type := 4, pos := "ref.go:49", after := #[{ on := 10, ground := Ground.data }, { on := 7, ground := Ground.chain }, { on := 7, ground := Ground.guard }], guard := some (7, false) }) (v := ?v30) rfl (by kernel_rfl) (by kernel_rfl) (by kernel_rfl) (fun _ _ _ h => h) (Or.inl ⟨by rfl, ?y30⟩) (by assumption) ?r30
      case y30 => (intro w hSw; (try dsimp only at hSw); (try (go_split_ands)); go_simp; try with_reducible rfl)
      try simp only [Act.put, List.setIfInBounds_toArray, List.set_cons_zero, List.set_cons_succ]
      refine wpAnyH_take (i := 12) (oi := { dst := some 71, op := Op.fieldAddr 91 (Operand.tmp 11) 0, type := 0, pos := "ref.go:49", after := #[{ on := 11, ground := Ground.guard }], guard := some (11, true) }) (v := ?v31) rfl (by kernel_rfl) (by kernel_rfl) (by kernel_rfl) (fun _ _ _ h => h) (Or.inl ⟨by rfl, ?y31⟩) (by assumption) ?r31
      case y31 => (intro w hSw; (try dsimp only at hSw); (try (go_split_ands)); go_simp; try with_reducible rfl)
      try simp only [Act.put, List.setIfInBounds_toArray, List.set_cons_zero, List.set_cons_succ]
      refine wpAnyH_take (i := 13) (oi := { dst := some 72, op := Op.load 3 (Operand.tmp 71), type := 3, pos := "ref.go:49", after := #[{ on := 12, ground := Ground.data }, { on := 11, ground := Ground.guard }], guard := some (11, true) }) (v := ?v32) rfl (by kernel_rfl) (by kernel_rfl) (by kernel_rfl) (fun _ _ _ h => h) (Or.inl ⟨by rfl, ?y32⟩) (by assumption) ?r32
      case y32 => (intro w hSw; (try dsimp only at hSw); (try (go_split_ands)); go_simp; try with_reducible rfl)
      try simp only [Act.put, List.setIfInBounds_toArray, List.set_cons_zero, List.set_cons_succ]
      refine wpAnyH_take (i := 14) (oi := { dst := some 73, op := Op.move (Operand.tmp 1), type := 34, pos := "ref.go:49", after := #[{ on := 11, ground := Ground.guard }], guard := some (11, true) }) (v := ?v33) rfl (by kernel_rfl) (by kernel_rfl) (by kernel_rfl) (fun _ _ _ h => h) (Or.inl ⟨by rfl, ?y33⟩) (by assumption) ?r33
      case y33 => (intro w hSw; (try dsimp only at hSw); (try (go_split_ands)); go_simp; try with_reducible rfl)
      try simp only [Act.put, List.setIfInBounds_toArray, List.set_cons_zero, List.set_cons_succ]
      refine wpAnyH_take (i := 15) (oi := { dst := some 74, op := Op.move (Operand.tmp 8), type := 3, pos := "ref.go:49", after := #[{ on := 11, ground := Ground.guard }], guard := some (11, true) }) (v := ?v34) rfl (by kernel_rfl) (by kernel_rfl) (by kernel_rfl) (fun _ _ _ h => h) (Or.inl ⟨by rfl, ?y34⟩) (by assumption) ?r34
      case y34 => (intro w hSw; (try dsimp only at hSw); (try (go_split_ands)); go_simp; try with_reducible rfl)
      try simp only [Act.put, List.setIfInBounds_toArray, List.set_cons_zero, List.set_cons_succ]
      refine wpAnyH_take (i := 16) (oi := { dst := some 75, op := Op.indexAddr 34 (Operand.tmp 73) (Operand.tmp 74), type := 0, pos := "ref.go:49", after := #[{ on := 14, ground := Ground.data }, { on := 15, ground := Ground.data }, { on := 11, ground := Ground.guard }], guard := some (11, true) }) (v := ?v35) rfl (by kernel_rfl) (by kernel_rfl) (by kernel_rfl) (fun _ _ _ h => h) (Or.inl ⟨by rfl, ?y35⟩) (by assumption) ?r35
      case y35 => (intro w hSw; (try dsimp only at hSw); (try (go_split_ands)); go_simp; try with_reducible rfl)
      try simp only [Act.put, List.setIfInBounds_toArray, List.set_cons_zero, List.set_cons_succ]
      refine wpAnyH_take (i := 17) (oi := { dst := some 76, op := Op.fieldAddr 91 (Operand.tmp 75) 0, type := 0, pos := "ref.go:49", after := #[{ on := 16, ground := Ground.data }, { on := 11, ground := Ground.guard }], guard := some (11, true) }) (v := ?v36) rfl (by kernel_rfl) (by kernel_rfl) (by kernel_rfl) (fun _ _ _ h => h) (Or.inl ⟨by rfl, ?y36⟩) (by assumption) ?r36
      case y36 => (intro w hSw; (try dsimp only at hSw); (try (go_split_ands)); go_simp; try with_reducible rfl)
      try simp only [Act.put, List.setIfInBounds_toArray, List.set_cons_zero, List.set_cons_succ]
      refine wpAnyH_take (i := 18) (oi := { dst := some 77, op := Op.load 3 (Operand.tmp 76), type := 3, pos := "ref.go:49", after := #[{ on := 17, ground := Ground.data }, { on := 11, ground := Ground.guard }], guard := some (11, true) }) (v := ?v37) rfl (by kernel_rfl) (by kernel_rfl) (by kernel_rfl) (fun _ _ _ h => h) (Or.inl ⟨by rfl, ?y37⟩) (by assumption) ?r37
      case y37 => (intro w hSw; (try dsimp only at hSw); (try (go_split_ands)); go_simp; try with_reducible rfl)
      try simp only [Act.put, List.setIfInBounds_toArray, List.set_cons_zero, List.set_cons_succ]
      refine wpAnyH_take (i := 19) (oi := { dst := some 78, op := Op.binOp BinOp.lss 3 (Operand.tmp 72) (Operand.tmp 77) 3, type := 4, pos := "ref.go:49", after := #[{ on := 13, ground := Ground.data }, { on := 18, ground := Ground.data }, { on := 11, ground := Ground.guard }], guard := some (11, true) }) (v := ?v38) rfl (by kernel_rfl) (by kernel_rfl) (by kernel_rfl) (fun _ _ _ h => h) (Or.inl ⟨by rfl, ?y38⟩) (by assumption) ?r38
      case y38 => (intro w hSw; (try dsimp only at hSw); (try (go_split_ands)); go_simp; try with_reducible rfl)
      try simp only [Act.put, List.setIfInBounds_toArray, List.set_cons_zero, List.set_cons_succ]
      refine wpAnyH_take (i := 20) (oi := { dst := some 79, op := Op.pick (Operand.tmp 70) (Operand.tmp 78) (Operand.const (Value.bool false)), type := 4, pos := "ref.go:49", after := #[{ on := 11, ground := Ground.data }, { on := 19, ground := Ground.data }, { on := 7, ground := Ground.guard }], guard := some (7, false) }) (v := ?v39) rfl (by kernel_rfl) (by kernel_rfl) (by kernel_rfl) (fun _ _ _ h => h) (Or.inl ⟨by rfl, ?y39⟩) (by assumption) ?r39
      case y39 => (intro w hSw; (try dsimp only at hSw); (try (go_split_ands)); go_simp; try with_reducible rfl)
      try simp only [Act.put, List.setIfInBounds_toArray, List.set_cons_zero, List.set_cons_succ]
      refine wpAnyH_take (i := 21) (oi := { dst := some 80, op := Op.pick (Operand.tmp 66) (Operand.const (Value.bool true)) (Operand.tmp 79), type := 4, pos := "ref.go:49", after := #[{ on := 7, ground := Ground.data }, { on := 20, ground := Ground.data }], guard := none }) (v := ?v40) rfl (by kernel_rfl) (by kernel_rfl) (by kernel_rfl) (fun _ _ _ h => h) (Or.inl ⟨by rfl, ?y40⟩) (by assumption) ?r40
      case y40 => (intro w hSw; (try dsimp only at hSw); (try (go_split_ands)); go_simp; try with_reducible rfl)
      try simp only [Act.put, List.setIfInBounds_toArray, List.set_cons_zero, List.set_cons_succ]
      refine wpAnyH_done (by kernel_rfl) ?_ _
      refine NoPanic.normal ?_
      by_cases hil : id < y5
      · have hV : Hid (V = ⟨⟨a0, ov, a2, a3⟩, j, id⟩) := hS1.out.trans (if_pos ⟨trivial, by rw [hfE.out]; simp [hcz0, hil]⟩)
        clear hHeld hHeld5 hSS hEq2 hb5 hb5' hge0 hcz0
        have hQ6 := hide (setRow_heap w5 q _ (Vc.row ⟨a0, ov, a2, a3⟩) 26 _ hQ5.out)
        have hZ6 := hide ((Go.setRow_other w5 q w.heap.size (Vc.row ⟨a0, ov, a2, a3⟩) (by omega)).trans hZ5.out)
        have hB6 := hide (below_setRow hB5.out (Nat.le_of_lt hqw) (Vc.row ⟨a0, ov, a2, a3⟩))
        go_wp2_with fail
        refine wp_region_noPanic ?_
        refine wp_region_held_drew (S := fun W => W.cell? ⟨wb, 0, none⟩ = some (.int .u64 a0) ∧ W.cell? ⟨wb, 1, none⟩ = some (.int .u64 ov) ∧ W.cell? ⟨wb, 2, none⟩ = some (.int .u64 a2) ∧ W.cell? ⟨wb, 3, none⟩ = some (.int .i64 a3)) (by kernel_rfl) ⟨l0, l1, l2, l3⟩ (fun hHeld => ?_)
        refine wpAnyH_take (i := 0) (oi := { dst := some 81, op := Op.move (Operand.tmp 10), type := 3, pos := "ref.go:50", after := #[], guard := none }) (v := ?v41) rfl (by kernel_rfl) (by kernel_rfl) (by kernel_rfl) (fun _ _ _ h => h) (Or.inl ⟨by rfl, ?y41⟩) (by assumption) ?r41
        case y41 => (intro w hSw; (try dsimp only at hSw); (try (go_split_ands)); go_simp; try with_reducible rfl)
        try simp only [Act.put, List.setIfInBounds_toArray, List.set_cons_zero, List.set_cons_succ]
        refine wpAnyH_take (i := 1) (oi := { dst := some 82, op := Op.load 26 (Operand.tmp 12), type := 26, pos := "ref.go:50", after := #[{ on := 2, ground := Ground.gcOnly Departure.lateStores }], guard := none }) (v := ?v42) rfl (by kernel_rfl) (by kernel_rfl) (by kernel_rfl) (fun _ _ _ h => h) (Or.inl ⟨by rfl, ?y42⟩) (by assumption) ?r42
        case y42 => (intro w hSw; (try dsimp only at hSw); (try (go_split_ands)); go_simp; try with_reducible rfl)
        try simp only [Act.put, List.setIfInBounds_toArray, List.set_cons_zero, List.set_cons_succ]
        refine wpAnyH_take (i := 2) (oi := { dst := some 8, op := Op.assign (Operand.tmp 81), type := 3, pos := "ref.go:50", after := #[{ on := 0, ground := Ground.data }, { on := 0, ground := Ground.phase }, { on := 1, ground := Ground.textOnly Departure.lateStores }], guard := none }) (v := ?v43) rfl (by kernel_rfl) (by kernel_rfl) (by kernel_rfl) (fun _ _ _ h => h) (Or.inl ⟨by rfl, ?y43⟩) (by assumption) ?r43
        case y43 => (intro w hSw; (try dsimp only at hSw); (try (go_split_ands)); go_simp; try with_reducible rfl)
        try simp only [Act.put, List.setIfInBounds_toArray, List.set_cons_zero, List.set_cons_succ]
        refine wpAnyH_ready (rs := [3]) (by kernel_rfl) (by simp) ?_
        refine AllReadyH.cons (o := { dst := none, op := Op.store 26 (Operand.tmp 9) (Operand.tmp 82), type := 0, pos := "ref.go:50", after := #[{ on := 1, ground := Ground.data }, { on := 2, ground := Ground.chain }, { on := 0, ground := Ground.phase }, { on := 1, ground := Ground.phase }, { on := 2, ground := Ground.phase }], guard := none }) rfl (fun K hK => ?_) AllReadyH.nil
        refine step_store_row rfl 26 (.tmp 9) (.tmp 82) rfl q (Vc.row ⟨a0, ov, a2, a3⟩) rfl rfl 26 _ hQ5.out (vecSize Vc.zero) rfl (Vc.row_all _) ?_
        have hbo : ∀ k, k ≠ q → (w5.drew.setRow q (Vc.row ⟨a0, ov, a2, a3⟩)).heap[k]? = w5.heap[k]? := fun k hk => Go.setRow_other w5.drew q k _ hk
        have hwbq : wb ≠ q := by omega
        refine hK.out _ _ ⟨(World.cell?_of_block (a := ⟨wb, 0, none⟩) (hbo wb hwbq)).trans l0, (World.cell?_of_block (a := ⟨wb, 1, none⟩) (hbo wb hwbq)).trans l1, (World.cell?_of_block (a := ⟨wb, 2, none⟩) (hbo wb hwbq)).trans l2, (World.cell?_of_block (a := ⟨wb, 3, none⟩) (hbo wb hwbq)).trans l3⟩ (fun hHeld3 => ?_)
        clear hK K
        try simp only [Act.put]
        refine wpAnyH_done (by kernel_rfl) ?_ _
        refine NoPanic.normal ?_
        have hQ7 : Hid ((w5.drew.setRow q (Vc.row ⟨a0, ov, a2, a3⟩)).heap[q]? = some (.cells (Vc.row ⟨a0, ov, a2, a3⟩) 26)) := setRow_heap w5.drew q _ _ 26 _ hQ5.out
        have hZ7 : Hid ((w5.drew.setRow q (Vc.row ⟨a0, ov, a2, a3⟩)).heap[w.heap.size]? = some (.cells (Vc.row Vc.zero) 26)) := (hbo w.heap.size (by omega)).trans hZ5.out
        have hB7 : Hid (Below w.heap.size w (w5.drew.setRow q (Vc.row ⟨a0, ov, a2, a3⟩))) := below_setRow (below_drewN hB5.out 1) (Nat.le_of_lt hqw) (Vc.row ⟨a0, ov, a2, a3⟩)
        have hbvV : Hid (bvY V = ⟨a0, ov, a2, a3⟩) := by rw [hV.out]; exact if_neg (by simp)
        generalize w5.drew.setRow q (Vc.row ⟨a0, ov, a2, a3⟩) = w7 at *
        clear hHeld hHeld3 l0 l1 l2 l3 hbo hQ5 hZ5 hB5 hQ6 hZ6 hB6
        go_wp2
        go_round
        case rel => exact ⟨j + 1, by omega, by go_num, by rw [hVE.out, hV.out], hB7, hZ7, by rw [hVE.out, hbvV.out]; exact hQ7⟩
        case measure => simp [intOf]; omega
      · have hV : Hid (V = ⟨⟨y0, y1, y2, y3⟩, r, y5⟩) := hS1.out.trans (if_neg (by rw [hfE.out]; simp [hge0, hil]))
        clear hHeld hHeld5 hSS hEq2 hb5 hb5' hge0 hcz0
        have hbvV : Hid (bvY V = ⟨y0, y1, y2, y3⟩) := by rw [hV.out]; exact if_neg (by simp)
        clear l0 l1 l2 l3
        go_wp2
        go_round
        case rel => exact ⟨j + 1, by omega, by go_num, by rw [hVE.out, hV.out], hB5, hZ5, by rw [hVE.out, hbvV.out]; exact hQ5⟩
        case measure => simp [intOf]; omega
    · obtain rfl : n = j := by omega
      have hY1 := hide (bestW_neg b ps n)
      generalize hYE : bestW b ps n = Y at *
      replace hYE := hide hYE
      obtain ⟨⟨y0, y1, y2, y3⟩, y4, y5⟩ := Y
      dsimp only at *
      by_cases hpl : y4 < 0
      · have hYo := hY1.out hpl
        have hQ2 := hide (setRow_heap wr q _ (Vc.row ⟨b, 0, b, 0⟩) 26 _ hQ.out)
        have hZ2 := hide ((Go.setRow_other wr q w.heap.size (Vc.row ⟨b, 0, b, 0⟩) (by omega)).trans hZ.out)
        have hB2 := hide (below_setRow hB.out (Nat.le_of_lt hqw) (Vc.row ⟨b, 0, b, 0⟩))
        have hQr := hQ.out
        go_wp2_with ((with_reducible change wpList _ _ _ _ _ _); refine wpList_store_row rfl 26 (.tmp 9) (.tmp 87) rfl q (Vc.row ⟨b, 0, b, 0⟩) rfl rfl 26 _ hQr (vecSize Vc.zero) rfl (Vc.row_all _) ?_)
        have hYv : (⟨y0, y1, y2, y3⟩ : Vc) = ⟨b, 0, b, 0⟩ := congrArg Wy.v hYo
        clear hQr
        replace hYo := hide hYo
        replace hQ2 : Hid ((wr.setRow q (Vc.row ⟨b, 0, b, 0⟩)).heap[q]? = some (.cells (Vc.row ⟨y0, y1, y2, y3⟩) 26)) := by rw [hYv]; exact hQ2
        replace hYv := hide hYv
        have hL0 : Hid (L2 w (wr.setRow q (Vc.row ⟨b, 0, b, 0⟩)) q ⟨y0, y1, y2, y3⟩ (.slice none 0 0) (.slice none 0 0) ((rolesL b ps).take 0) ((tellsL b ps).take 0)) := ⟨hB2.out, hZ2.out, hQ2.out, by rw [List.take_zero]; exact Sl.nil _ _ _ _, by rw [List.take_zero]; exact Sl.nil _ _ _ _, fun x e => by simp [Value.ownBlock] at e, fun x e => by simp [Value.ownBlock] at e, fun x e => by simp [Value.ownBlock] at e⟩
        have hI2 := hide (hI.out.below hB2.out)
        clear hB2 hZ2 hQ2 hB hZ hQ
        generalize wr.setRow q (Vc.row ⟨b, 0, b, 0⟩) = wx at *
        go_loopw [15, 13, 14] (fun i vr vt wr => ∃ j : Nat, j ≤ n ∧ i = .int .i64 j ∧ Hid (L2 w wr q ⟨y0, y1, y2, y3⟩ vr vt ((rolesL b ps).take j) ((tellsL b ps).take j))) (fun i _ _ _ => n - (intOf i).toNat)
        case atStart => exact ⟨0, Nat.zero_le _, rfl, hL0⟩
        case round =>
          obtain ⟨j, hj, rfl, hL⟩ := hrel
          clear hL0
          by_cases hlt : j < n
          · obtain ⟨bb, off, rfl, hP, hwf⟩ := (hI.out.below hL.out.bel).2 j hlt
            have hTk : Hid ((tellsL b ps).take j ++ [tellV b ⟨⟨y0, y1, y2, y3⟩, y4, y5⟩ (ps.getD j Rp.zero)] = (tellsL b ps).take (j + 1)) := by
              have h1 := tellsL_at b ps j (by omega)
              rw [hps, hYE.out] at h1
              rw [← h1]; exact take_push _ _ _ (by rw [tellsL_len]; omega)
            have hRk : Hid ((rolesL b ps).take j ++ [roleN (ps.getD j Rp.zero) (decide ((j : Int) = y4)) (tellV b ⟨⟨y0, y1, y2, y3⟩, y4, y5⟩ (ps.getD j Rp.zero))] = (rolesL b ps).take (j + 1)) := by
              have h1 := rolesL_at b ps j (by omega)
              rw [hps, hYE.out] at h1
              have h2 : (rolesL b ps).getD j 0 = roleN (ps.getD j Rp.zero) (decide ((j : Int) = y4)) (tellV b ⟨⟨y0, y1, y2, y3⟩, y4, y5⟩ (ps.getD j Rp.zero)) := h1
              rw [← h2]; exact take_push _ _ _ (by rw [rolesL_len]; omega)
            have hll : ((tellsL b ps).take j).length ≤ 60 ∧ ((rolesL b ps).take j).length ≤ 60 := by simp only [List.length_take]; omega
            generalize hR1 : (rolesL b ps).take (j + 1) = lr1 at *
            generalize hT1 : (tellsL b ps).take (j + 1) = lt1 at *
            generalize (rolesL b ps).take j = lr at *
            generalize (tellsL b ps).take j = lt at *
            replace hR1 := hide hR1
            replace hT1 := hide hT1
            generalize ps.getD j Rp.zero = p at *
            obtain ⟨id, cost, up, has, ⟨a0, a1, a2, a3⟩⟩ := p
            have htv : tellV b ⟨⟨y0, y1, y2, y3⟩, y4, y5⟩ ⟨id, cost, up, has, ⟨a0, a1, a2, a3⟩⟩ = ⟨y0, y1, b, id⟩ := rfl
            rw [htv] at hTk hRk
            obtain ⟨c0, c1, c2, c3, c4, c5, c6, c7⟩ := hP
            obtain ⟨hl1, hl2⟩ := hll
            dsimp only at *
            have n0 : wr.cell? ⟨q, 0, none⟩ = some (.int .u64 y0) := (cell_of_row _ _ _ _ _ _ hL.out.best).trans rfl
            have n1 : wr.cell? ⟨q, 1, none⟩ = some (.int .u64 y1) := (cell_of_row _ _ _ _ _ _ hL.out.best).trans rfl
            have hql := hL.out.lt.2
            have hbA : Hid (Below wr.heap.size wr (((wr.alloc (.cells (Rp.row ⟨id, cost, up, has, ⟨a0, a1, a2, a3⟩⟩) 91)).alloc (.cells (Vc.row ⟨y0, y1, b, id⟩) 26)).alloc (.cells (Vc.row ⟨y0, y1, b, id⟩) 26))) := ((below1 _ _).later (below1 _ _)).later (below1 _ _)
            have hPk : Hid ((((wr.alloc (.cells (Rp.row ⟨id, cost, up, has, ⟨a0, a1, a2, a3⟩⟩) 91)).alloc (.cells (Vc.row ⟨y0, y1, b, id⟩) 26)).alloc (.cells (Vc.row ⟨y0, y1, b, id⟩) 26)).heap[wr.heap.size]? = some (.cells (Rp.row ⟨id, cost, up, has, ⟨a0, a1, a2, a3⟩⟩) 91)) := heap_kept (below1 _ _) (heap_alloc2_oldB wr (.cells (Rp.row ⟨id, cost, up, has, ⟨a0, a1, a2, a3⟩⟩) 91) (.cells (Vc.row ⟨y0, y1, b, id⟩) 26))
            have hTkk : Hid ((((wr.alloc (.cells (Rp.row ⟨id, cost, up, has, ⟨a0, a1, a2, a3⟩⟩) 91)).alloc (.cells (Vc.row ⟨y0, y1, b, id⟩) 26)).alloc (.cells (Vc.row ⟨y0, y1, b, id⟩) 26)).heap[wr.heap.size + 1]? = some (.cells (Vc.row ⟨y0, y1, b, id⟩) 26)) := heap_kept (below1 _ _) (heap_alloc2_newB wr (.cells (Rp.row ⟨id, cost, up, has, ⟨a0, a1, a2, a3⟩⟩) 91) (.cells (Vc.row ⟨y0, y1, b, id⟩) 26))
            have hSk : Hid ((((wr.alloc (.cells (Rp.row ⟨id, cost, up, has, ⟨a0, a1, a2, a3⟩⟩) 91)).alloc (.cells (Vc.row ⟨y0, y1, b, id⟩) 26)).alloc (.cells (Vc.row ⟨y0, y1, b, id⟩) 26)).heap[wr.heap.size + 2]? = some (.cells (Vc.row ⟨y0, y1, b, id⟩) 26)) := by
              have := heap_alloc_new ((wr.alloc (.cells (Rp.row ⟨id, cost, up, has, ⟨a0, a1, a2, a3⟩⟩) 91)).alloc (.cells (Vc.row ⟨y0, y1, b, id⟩) 26)) (.cells (Vc.row ⟨y0, y1, b, id⟩) 26)
              rw [World.size_alloc, World.size_alloc] at this
              exact this
            have hsz : Hid ((((wr.alloc (.cells (Rp.row ⟨id, cost, up, has, ⟨a0, a1, a2, a3⟩⟩) 91)).alloc (.cells (Vc.row ⟨y0, y1, b, id⟩) 26)).alloc (.cells (Vc.row ⟨y0, y1, b, id⟩) 26)).heap.size = wr.heap.size + 3) := by show _ = _; rw [World.size_alloc, World.size_alloc, World.size_alloc]
            go_wp2_with (at_builtin; refine unhR9 ?_)
            have hL3 := hide (hL.out.below hbA.out)
            have hvl : Hid (∀ x, u14.ownBlock = some x → x < wr.heap.size) := fun x e => hL.out.st.lt e
            clear hL hbA c0 c1 c2 c3 c4 c5 c6 c7 n0 n1
            generalize ((wr.alloc (.cells (Rp.row ⟨id, cost, up, has, ⟨a0, a1, a2, a3⟩⟩) 91)).alloc (.cells (Vc.row ⟨y0, y1, b, id⟩) 26)).alloc (.cells (Vc.row ⟨y0, y1, b, id⟩) 26) = w3 at *
            refine hide ?_
            refine wpList_append_sl rfl (.tmp 106) (.tmp 108) rfl wide_V sty_V u14 lt rfl hL3.out.st ⟨wr.heap.size + 2, 0, none⟩ 1 1 [⟨y0, y1, b, id⟩] rfl rfl (fun x u hx => ?_) (by simp; omega) (by omega) ?_
            · rw [Addr.add_lit, cell_of_row _ _ _ _ _ _ hSk.out, ← hx]
              simp [flat]
            intro v4 w4 hS4 hg4 ho4
            rw [hTk.out] at hS4
            have hL4 := hide (hL3.out.tell hS4 hg4 ho4)
            have hP4 := RpAt.of_heap ((hg4.block wr.heap.size (by rw [hsz.out]; omega) (fun e => by have := hvl.out _ e.symm; omega)).trans hPk.out)
            have hT4 := (hg4.block (wr.heap.size + 1) (by rw [hsz.out]; omega) (fun e => by have := hvl.out _ e.symm; omega)).trans hTkk.out
            have hT4c : Hid (∀ W : World, W.heap[wr.heap.size + 1]? = some (.cells (Vc.row ⟨y0, y1, b, id⟩) 26) → W.cell? ⟨wr.heap.size + 1, 0, none⟩ = some (.int .u64 y0) ∧ W.cell? ⟨wr.heap.size + 1, 1, none⟩ = some (.int .u64 y1) ∧ W.cell? ⟨wr.heap.size + 1, 2, none⟩ = some (.int .u64 b) ∧ W.cell? ⟨wr.heap.size + 1, 3, none⟩ = some (.int .i64 id)) := fun W h => ⟨(cell_of_row _ _ _ _ _ _ h).trans rfl, (cell_of_row _ _ _ _ _ _ h).trans rfl, (cell_of_row _ _ _ _ _ _ h).trans rfl, (cell_of_row _ _ _ _ _ _ h).trans rfl⟩
            obtain ⟨s0, s1, s2, s3⟩ := hT4c.out _ hT4
            have hPw := hide hP4
            obtain ⟨c0, c1, c2, c3, c4, c5, c6, c7⟩ := hP4
            simp only [Nat.zero_add] at c0 c1 c2 c3 c4 c5 c6 c7
            obtain ⟨av, cv, rfl⟩ := hS4.shape
            clear hS4 hg4 ho4 hL3 hPk hTkk hSk hsz hvl hT4 hTk hl1
            generalize lt1.length = ltn at *
            have hBe := hide (fun w => Before_any ⟨a0, a1, a2, a3⟩ ⟨y0, y1, b, id⟩ w)
            have hrN : Hid (roleN ⟨id, cost, up, has, ⟨a0, a1, a2, a3⟩⟩ (decide ((j : Int) = y4)) ⟨y0, y1, b, id⟩ = if up = false then 0 else if decide ((j : Int) = y4) = true then 1 else if has = false ∨ betB ⟨a0, a1, a2, a3⟩ ⟨y0, y1, b, id⟩ = false then 2 else if a2 = b then 4 else 3) := rfl
            generalize roleN ⟨id, cost, up, has, ⟨a0, a1, a2, a3⟩⟩ (decide ((j : Int) = y4)) ⟨y0, y1, b, id⟩ = RO at *
            generalize betB ⟨a0, a1, a2, a3⟩ ⟨y0, y1, b, id⟩ = bt at *
            cases has
            ·
              by_cases hie : (j : Int) = y4
              · have hieq : ((j : Int) == y4) = true := by rw [beq_iff_eq]; exact hie
                have hied : decide ((j : Int) = y4) = true := decide_eq_true hie
                rw [hied] at hrN
                clear hie hied
                cases up
                ·
                  have hRO : Hid (RO = 0) := by show _ = _; rw [hrN.out]; simp
                  rw [hRO.out] at hRk
                  go_wp2_with (at_builtin; refine unhR9 ?_)
                  refine hide ?_
                  have hbI := below1 w4 (.cells #[.int .i64 0] 3)
                  refine wpList_append_sl rfl (.tmp 129) (.tmp 131) rfl wide_I sty_I u13 lr rfl (hL4.out.below hbI).sr ⟨w4.heap.size, 0, none⟩ 1 1 [0] rfl rfl (fun x u hx => ?_) (by simp; omega) (by omega) ?_
                  · rw [Addr.add_lit, cell_of_row _ _ _ _ _ _ (heap_alloc_new w4 (.cells #[.int .i64 0] 3)), ← hx]
                    simp [flat]
                  intro v7 w7 hS7 hg7 ho7
                  rw [hRk.out] at hS7
                  have hL7 := hide ((hL4.out.below hbI).role hS7 hg7 ho7)
                  obtain ⟨av7, cv7, rfl⟩ := hS7.shape
                  clear hS7 hg7 ho7 hbI
                  generalize lr1.length = lrn at *
                  go_wp2
                  go_round
                  case rel => exact ⟨j + 1, by omega, by go_num, by rw [hR1.out, hT1.out]; exact hL7⟩
                  case measure => simp [intOf]; omega
                ·
                  have hRO : Hid (RO = 1) := by show _ = _; rw [hrN.out]; simp
                  rw [hRO.out] at hRk
                  go_wp2_with (at_builtin; refine unhR9 ?_)
                  refine hide ?_
                  have hbI := below1 w4 (.cells #[.int .i64 1] 3)
                  refine wpList_append_sl rfl (.tmp 129) (.tmp 131) rfl wide_I sty_I u13 lr rfl (hL4.out.below hbI).sr ⟨w4.heap.size, 0, none⟩ 1 1 [1] rfl rfl (fun x u hx => ?_) (by simp; omega) (by omega) ?_
                  · rw [Addr.add_lit, cell_of_row _ _ _ _ _ _ (heap_alloc_new w4 (.cells #[.int .i64 1] 3)), ← hx]
                    simp [flat]
                  intro v7 w7 hS7 hg7 ho7
                  rw [hRk.out] at hS7
                  have hL7 := hide ((hL4.out.below hbI).role hS7 hg7 ho7)
                  obtain ⟨av7, cv7, rfl⟩ := hS7.shape
                  clear hS7 hg7 ho7 hbI
                  generalize lr1.length = lrn at *
                  go_wp2
                  go_round
                  case rel => exact ⟨j + 1, by omega, by go_num, by rw [hR1.out, hT1.out]; exact hL7⟩
                  case measure => simp [intOf]; omega
              · have hieq : ((j : Int) == y4) = false := by rw [beq_eq_false_iff_ne]; exact hie
                have hied : decide ((j : Int) = y4) = false := decide_eq_false hie
                rw [hied] at hrN
                clear hie hied
                cases up
                ·
                  have hRO : Hid (RO = 0) := by show _ = _; rw [hrN.out]; simp
                  rw [hRO.out] at hRk
                  go_wp2_with (at_builtin; refine unhR9 ?_)
                  refine hide ?_
                  have hbI := below1 w4 (.cells #[.int .i64 0] 3)
                  refine wpList_append_sl rfl (.tmp 129) (.tmp 131) rfl wide_I sty_I u13 lr rfl (hL4.out.below hbI).sr ⟨w4.heap.size, 0, none⟩ 1 1 [0] rfl rfl (fun x u hx => ?_) (by simp; omega) (by omega) ?_
                  · rw [Addr.add_lit, cell_of_row _ _ _ _ _ _ (heap_alloc_new w4 (.cells #[.int .i64 0] 3)), ← hx]
                    simp [flat]
                  intro v7 w7 hS7 hg7 ho7
                  rw [hRk.out] at hS7
                  have hL7 := hide ((hL4.out.below hbI).role hS7 hg7 ho7)
                  obtain ⟨av7, cv7, rfl⟩ := hS7.shape
                  clear hS7 hg7 ho7 hbI
                  generalize lr1.length = lrn at *
                  go_wp2
                  go_round
                  case rel => exact ⟨j + 1, by omega, by go_num, by rw [hR1.out, hT1.out]; exact hL7⟩
                  case measure => simp [intOf]; omega
                ·
                  have hRO : Hid (RO = 2) := by show _ = _; rw [hrN.out]; simp
                  rw [hRO.out] at hRk
                  go_wp2_with (at_builtin; refine unhR9 ?_)
                  refine hide ?_
                  have hbI := below1 w4 (.cells #[.int .i64 2] 3)
                  refine wpList_append_sl rfl (.tmp 129) (.tmp 131) rfl wide_I sty_I u13 lr rfl (hL4.out.below hbI).sr ⟨w4.heap.size, 0, none⟩ 1 1 [2] rfl rfl (fun x u hx => ?_) (by simp; omega) (by omega) ?_
                  · rw [Addr.add_lit, cell_of_row _ _ _ _ _ _ (heap_alloc_new w4 (.cells #[.int .i64 2] 3)), ← hx]
                    simp [flat]
                  intro v7 w7 hS7 hg7 ho7
                  rw [hRk.out] at hS7
                  have hL7 := hide ((hL4.out.below hbI).role hS7 hg7 ho7)
                  obtain ⟨av7, cv7, rfl⟩ := hS7.shape
                  clear hS7 hg7 ho7 hbI
                  generalize lr1.length = lrn at *
                  go_wp2
                  go_round
                  case rel => exact ⟨j + 1, by omega, by go_num, by rw [hR1.out, hT1.out]; exact hL7⟩
                  case measure => simp [intOf]; omega
            go_wp2_with fail
            refine (hBe.out _).mono ?_
            rintro e w5 ⟨rfl, hb5⟩
            have hL5 := hide (hL4.out.below hb5)
            have hP5 := hPw.out.below hb5
            have d2 := hP5.c2
            have d6 := hP5.c6
            simp only [Nat.zero_add] at d2 d6
            clear hP5 c0 c1 c2 c3 c4 c5 c6 c7 s0 s1 s2 s3 hL4 hBe hb5
            cases bt
            ·
              by_cases hie : (j : Int) = y4
              · have hieq : ((j : Int) == y4) = true := by rw [beq_iff_eq]; exact hie
                have hied : decide ((j : Int) = y4) = true := decide_eq_true hie
                rw [hied] at hrN
                clear hie hied
                cases up
                ·
                  have hRO : Hid (RO = 0) := by show _ = _; rw [hrN.out]; simp
                  rw [hRO.out] at hRk
                  go_wp2_with (at_builtin; refine unhR9 ?_)
                  refine hide ?_
                  have hbI := below1 w5 (.cells #[.int .i64 0] 3)
                  refine wpList_append_sl rfl (.tmp 129) (.tmp 131) rfl wide_I sty_I u13 lr rfl (hL5.out.below hbI).sr ⟨w5.heap.size, 0, none⟩ 1 1 [0] rfl rfl (fun x u hx => ?_) (by simp; omega) (by omega) ?_
                  · rw [Addr.add_lit, cell_of_row _ _ _ _ _ _ (heap_alloc_new w5 (.cells #[.int .i64 0] 3)), ← hx]
                    simp [flat]
                  intro v7 w7 hS7 hg7 ho7
                  rw [hRk.out] at hS7
                  have hL7 := hide ((hL5.out.below hbI).role hS7 hg7 ho7)
                  obtain ⟨av7, cv7, rfl⟩ := hS7.shape
                  clear hS7 hg7 ho7 hbI
                  generalize lr1.length = lrn at *
                  go_wp2
                  go_round
                  case rel => exact ⟨j + 1, by omega, by go_num, by rw [hR1.out, hT1.out]; exact hL7⟩
                  case measure => simp [intOf]; omega
                ·
                  have hRO : Hid (RO = 1) := by show _ = _; rw [hrN.out]; simp
                  rw [hRO.out] at hRk
                  go_wp2_with (at_builtin; refine unhR9 ?_)
                  refine hide ?_
                  have hbI := below1 w5 (.cells #[.int .i64 1] 3)
                  refine wpList_append_sl rfl (.tmp 129) (.tmp 131) rfl wide_I sty_I u13 lr rfl (hL5.out.below hbI).sr ⟨w5.heap.size, 0, none⟩ 1 1 [1] rfl rfl (fun x u hx => ?_) (by simp; omega) (by omega) ?_
                  · rw [Addr.add_lit, cell_of_row _ _ _ _ _ _ (heap_alloc_new w5 (.cells #[.int .i64 1] 3)), ← hx]
                    simp [flat]
                  intro v7 w7 hS7 hg7 ho7
                  rw [hRk.out] at hS7
                  have hL7 := hide ((hL5.out.below hbI).role hS7 hg7 ho7)
                  obtain ⟨av7, cv7, rfl⟩ := hS7.shape
                  clear hS7 hg7 ho7 hbI
                  generalize lr1.length = lrn at *
                  go_wp2
                  go_round
                  case rel => exact ⟨j + 1, by omega, by go_num, by rw [hR1.out, hT1.out]; exact hL7⟩
                  case measure => simp [intOf]; omega
              · have hieq : ((j : Int) == y4) = false := by rw [beq_eq_false_iff_ne]; exact hie
                have hied : decide ((j : Int) = y4) = false := decide_eq_false hie
                rw [hied] at hrN
                clear hie hied
                cases up
                ·
                  have hRO : Hid (RO = 0) := by show _ = _; rw [hrN.out]; simp
                  rw [hRO.out] at hRk
                  go_wp2_with (at_builtin; refine unhR9 ?_)
                  refine hide ?_
                  have hbI := below1 w5 (.cells #[.int .i64 0] 3)
                  refine wpList_append_sl rfl (.tmp 129) (.tmp 131) rfl wide_I sty_I u13 lr rfl (hL5.out.below hbI).sr ⟨w5.heap.size, 0, none⟩ 1 1 [0] rfl rfl (fun x u hx => ?_) (by simp; omega) (by omega) ?_
                  · rw [Addr.add_lit, cell_of_row _ _ _ _ _ _ (heap_alloc_new w5 (.cells #[.int .i64 0] 3)), ← hx]
                    simp [flat]
                  intro v7 w7 hS7 hg7 ho7
                  rw [hRk.out] at hS7
                  have hL7 := hide ((hL5.out.below hbI).role hS7 hg7 ho7)
                  obtain ⟨av7, cv7, rfl⟩ := hS7.shape
                  clear hS7 hg7 ho7 hbI
                  generalize lr1.length = lrn at *
                  go_wp2
                  go_round
                  case rel => exact ⟨j + 1, by omega, by go_num, by rw [hR1.out, hT1.out]; exact hL7⟩
                  case measure => simp [intOf]; omega
                ·
                  have hRO : Hid (RO = 2) := by show _ = _; rw [hrN.out]; simp
                  rw [hRO.out] at hRk
                  go_wp2_with (at_builtin; refine unhR9 ?_)
                  refine hide ?_
                  have hbI := below1 w5 (.cells #[.int .i64 2] 3)
                  refine wpList_append_sl rfl (.tmp 129) (.tmp 131) rfl wide_I sty_I u13 lr rfl (hL5.out.below hbI).sr ⟨w5.heap.size, 0, none⟩ 1 1 [2] rfl rfl (fun x u hx => ?_) (by simp; omega) (by omega) ?_
                  · rw [Addr.add_lit, cell_of_row _ _ _ _ _ _ (heap_alloc_new w5 (.cells #[.int .i64 2] 3)), ← hx]
                    simp [flat]
                  intro v7 w7 hS7 hg7 ho7
                  rw [hRk.out] at hS7
                  have hL7 := hide ((hL5.out.below hbI).role hS7 hg7 ho7)
                  obtain ⟨av7, cv7, rfl⟩ := hS7.shape
                  clear hS7 hg7 ho7 hbI
                  generalize lr1.length = lrn at *
                  go_wp2
                  go_round
                  case rel => exact ⟨j + 1, by omega, by go_num, by rw [hR1.out, hT1.out]; exact hL7⟩
                  case measure => simp [intOf]; omega
            by_cases hbr : a2 = b
            · have hbq : (a2 == b) = true := by rw [beq_iff_eq]; exact hbr
              by_cases hie : (j : Int) = y4
              · have hieq : ((j : Int) == y4) = true := by rw [beq_iff_eq]; exact hie
                have hied : decide ((j : Int) = y4) = true := decide_eq_true hie
                rw [hied] at hrN
                clear hie hied
                cases up
                ·
                  have hRO : Hid (RO = 0) := by show _ = _; rw [hrN.out]; simp
                  rw [hRO.out] at hRk
                  go_wp2_with (at_builtin; refine unhR9 ?_)
                  refine hide ?_
                  have hbI := below1 w5 (.cells #[.int .i64 0] 3)
                  refine wpList_append_sl rfl (.tmp 129) (.tmp 131) rfl wide_I sty_I u13 lr rfl (hL5.out.below hbI).sr ⟨w5.heap.size, 0, none⟩ 1 1 [0] rfl rfl (fun x u hx => ?_) (by simp; omega) (by omega) ?_
                  · rw [Addr.add_lit, cell_of_row _ _ _ _ _ _ (heap_alloc_new w5 (.cells #[.int .i64 0] 3)), ← hx]
                    simp [flat]
                  intro v7 w7 hS7 hg7 ho7
                  rw [hRk.out] at hS7
                  have hL7 := hide ((hL5.out.below hbI).role hS7 hg7 ho7)
                  obtain ⟨av7, cv7, rfl⟩ := hS7.shape
                  clear hS7 hg7 ho7 hbI
                  generalize lr1.length = lrn at *
                  go_wp2
                  go_round
                  case rel => exact ⟨j + 1, by omega, by go_num, by rw [hR1.out, hT1.out]; exact hL7⟩
                  case measure => simp [intOf]; omega
                ·
                  have hRO : Hid (RO = 1) := by show _ = _; rw [hrN.out]; simp
                  rw [hRO.out] at hRk
                  go_wp2_with (at_builtin; refine unhR9 ?_)
                  refine hide ?_
                  have hbI := below1 w5 (.cells #[.int .i64 1] 3)
                  refine wpList_append_sl rfl (.tmp 129) (.tmp 131) rfl wide_I sty_I u13 lr rfl (hL5.out.below hbI).sr ⟨w5.heap.size, 0, none⟩ 1 1 [1] rfl rfl (fun x u hx => ?_) (by simp; omega) (by omega) ?_
                  · rw [Addr.add_lit, cell_of_row _ _ _ _ _ _ (heap_alloc_new w5 (.cells #[.int .i64 1] 3)), ← hx]
                    simp [flat]
                  intro v7 w7 hS7 hg7 ho7
                  rw [hRk.out] at hS7
                  have hL7 := hide ((hL5.out.below hbI).role hS7 hg7 ho7)
                  obtain ⟨av7, cv7, rfl⟩ := hS7.shape
                  clear hS7 hg7 ho7 hbI
                  generalize lr1.length = lrn at *
                  go_wp2
                  go_round
                  case rel => exact ⟨j + 1, by omega, by go_num, by rw [hR1.out, hT1.out]; exact hL7⟩
                  case measure => simp [intOf]; omega
              · have hieq : ((j : Int) == y4) = false := by rw [beq_eq_false_iff_ne]; exact hie
                have hied : decide ((j : Int) = y4) = false := decide_eq_false hie
                rw [hied] at hrN
                clear hie hied
                cases up
                ·
                  have hRO : Hid (RO = 0) := by show _ = _; rw [hrN.out]; simp
                  rw [hRO.out] at hRk
                  go_wp2_with (at_builtin; refine unhR9 ?_)
                  refine hide ?_
                  have hbI := below1 w5 (.cells #[.int .i64 0] 3)
                  refine wpList_append_sl rfl (.tmp 129) (.tmp 131) rfl wide_I sty_I u13 lr rfl (hL5.out.below hbI).sr ⟨w5.heap.size, 0, none⟩ 1 1 [0] rfl rfl (fun x u hx => ?_) (by simp; omega) (by omega) ?_
                  · rw [Addr.add_lit, cell_of_row _ _ _ _ _ _ (heap_alloc_new w5 (.cells #[.int .i64 0] 3)), ← hx]
                    simp [flat]
                  intro v7 w7 hS7 hg7 ho7
                  rw [hRk.out] at hS7
                  have hL7 := hide ((hL5.out.below hbI).role hS7 hg7 ho7)
                  obtain ⟨av7, cv7, rfl⟩ := hS7.shape
                  clear hS7 hg7 ho7 hbI
                  generalize lr1.length = lrn at *
                  go_wp2
                  go_round
                  case rel => exact ⟨j + 1, by omega, by go_num, by rw [hR1.out, hT1.out]; exact hL7⟩
                  case measure => simp [intOf]; omega
                ·
                  have hRO : Hid (RO = 4) := by show _ = _; rw [hrN.out]; simp [hbr]
                  rw [hRO.out] at hRk
                  go_wp2_with (at_builtin; refine unhR9 ?_)
                  refine hide ?_
                  have hbI := below1 w5 (.cells #[.int .i64 4] 3)
                  refine wpList_append_sl rfl (.tmp 129) (.tmp 131) rfl wide_I sty_I u13 lr rfl (hL5.out.below hbI).sr ⟨w5.heap.size, 0, none⟩ 1 1 [4] rfl rfl (fun x u hx => ?_) (by simp; omega) (by omega) ?_
                  · rw [Addr.add_lit, cell_of_row _ _ _ _ _ _ (heap_alloc_new w5 (.cells #[.int .i64 4] 3)), ← hx]
                    simp [flat]
                  intro v7 w7 hS7 hg7 ho7
                  rw [hRk.out] at hS7
                  have hL7 := hide ((hL5.out.below hbI).role hS7 hg7 ho7)
                  obtain ⟨av7, cv7, rfl⟩ := hS7.shape
                  clear hS7 hg7 ho7 hbI
                  generalize lr1.length = lrn at *
                  go_wp2
                  go_round
                  case rel => exact ⟨j + 1, by omega, by go_num, by rw [hR1.out, hT1.out]; exact hL7⟩
                  case measure => simp [intOf]; omega
            · have hbq : (a2 == b) = false := by rw [beq_eq_false_iff_ne]; exact hbr
              by_cases hie : (j : Int) = y4
              · have hieq : ((j : Int) == y4) = true := by rw [beq_iff_eq]; exact hie
                have hied : decide ((j : Int) = y4) = true := decide_eq_true hie
                rw [hied] at hrN
                clear hie hied
                cases up
                ·
                  have hRO : Hid (RO = 0) := by show _ = _; rw [hrN.out]; simp
                  rw [hRO.out] at hRk
                  go_wp2_with (at_builtin; refine unhR9 ?_)
                  refine hide ?_
                  have hbI := below1 w5 (.cells #[.int .i64 0] 3)
                  refine wpList_append_sl rfl (.tmp 129) (.tmp 131) rfl wide_I sty_I u13 lr rfl (hL5.out.below hbI).sr ⟨w5.heap.size, 0, none⟩ 1 1 [0] rfl rfl (fun x u hx => ?_) (by simp; omega) (by omega) ?_
                  · rw [Addr.add_lit, cell_of_row _ _ _ _ _ _ (heap_alloc_new w5 (.cells #[.int .i64 0] 3)), ← hx]
                    simp [flat]
                  intro v7 w7 hS7 hg7 ho7
                  rw [hRk.out] at hS7
                  have hL7 := hide ((hL5.out.below hbI).role hS7 hg7 ho7)
                  obtain ⟨av7, cv7, rfl⟩ := hS7.shape
                  clear hS7 hg7 ho7 hbI
                  generalize lr1.length = lrn at *
                  go_wp2
                  go_round
                  case rel => exact ⟨j + 1, by omega, by go_num, by rw [hR1.out, hT1.out]; exact hL7⟩
                  case measure => simp [intOf]; omega
                ·
                  have hRO : Hid (RO = 1) := by show _ = _; rw [hrN.out]; simp
                  rw [hRO.out] at hRk
                  go_wp2_with (at_builtin; refine unhR9 ?_)
                  refine hide ?_
                  have hbI := below1 w5 (.cells #[.int .i64 1] 3)
                  refine wpList_append_sl rfl (.tmp 129) (.tmp 131) rfl wide_I sty_I u13 lr rfl (hL5.out.below hbI).sr ⟨w5.heap.size, 0, none⟩ 1 1 [1] rfl rfl (fun x u hx => ?_) (by simp; omega) (by omega) ?_
                  · rw [Addr.add_lit, cell_of_row _ _ _ _ _ _ (heap_alloc_new w5 (.cells #[.int .i64 1] 3)), ← hx]
                    simp [flat]
                  intro v7 w7 hS7 hg7 ho7
                  rw [hRk.out] at hS7
                  have hL7 := hide ((hL5.out.below hbI).role hS7 hg7 ho7)
                  obtain ⟨av7, cv7, rfl⟩ := hS7.shape
                  clear hS7 hg7 ho7 hbI
                  generalize lr1.length = lrn at *
                  go_wp2
                  go_round
                  case rel => exact ⟨j + 1, by omega, by go_num, by rw [hR1.out, hT1.out]; exact hL7⟩
                  case measure => simp [intOf]; omega
              · have hieq : ((j : Int) == y4) = false := by rw [beq_eq_false_iff_ne]; exact hie
                have hied : decide ((j : Int) = y4) = false := decide_eq_false hie
                rw [hied] at hrN
                clear hie hied
                cases up
                ·
                  have hRO : Hid (RO = 0) := by show _ = _; rw [hrN.out]; simp
                  rw [hRO.out] at hRk
                  go_wp2_with (at_builtin; refine unhR9 ?_)
                  refine hide ?_
                  have hbI := below1 w5 (.cells #[.int .i64 0] 3)
                  refine wpList_append_sl rfl (.tmp 129) (.tmp 131) rfl wide_I sty_I u13 lr rfl (hL5.out.below hbI).sr ⟨w5.heap.size, 0, none⟩ 1 1 [0] rfl rfl (fun x u hx => ?_) (by simp; omega) (by omega) ?_
                  · rw [Addr.add_lit, cell_of_row _ _ _ _ _ _ (heap_alloc_new w5 (.cells #[.int .i64 0] 3)), ← hx]
                    simp [flat]
                  intro v7 w7 hS7 hg7 ho7
                  rw [hRk.out] at hS7
                  have hL7 := hide ((hL5.out.below hbI).role hS7 hg7 ho7)
                  obtain ⟨av7, cv7, rfl⟩ := hS7.shape
                  clear hS7 hg7 ho7 hbI
                  generalize lr1.length = lrn at *
                  go_wp2
                  go_round
                  case rel => exact ⟨j + 1, by omega, by go_num, by rw [hR1.out, hT1.out]; exact hL7⟩
                  case measure => simp [intOf]; omega
                ·
                  have hRO : Hid (RO = 3) := by show _ = _; rw [hrN.out]; simp [hbr]
                  rw [hRO.out] at hRk
                  go_wp2_with (at_builtin; refine unhR9 ?_)
                  refine hide ?_
                  have hbI := below1 w5 (.cells #[.int .i64 3] 3)
                  refine wpList_append_sl rfl (.tmp 129) (.tmp 131) rfl wide_I sty_I u13 lr rfl (hL5.out.below hbI).sr ⟨w5.heap.size, 0, none⟩ 1 1 [3] rfl rfl (fun x u hx => ?_) (by simp; omega) (by omega) ?_
                  · rw [Addr.add_lit, cell_of_row _ _ _ _ _ _ (heap_alloc_new w5 (.cells #[.int .i64 3] 3)), ← hx]
                    simp [flat]
                  intro v7 w7 hS7 hg7 ho7
                  rw [hRk.out] at hS7
                  have hL7 := hide ((hL5.out.below hbI).role hS7 hg7 ho7)
                  obtain ⟨av7, cv7, rfl⟩ := hS7.shape
                  clear hS7 hg7 ho7 hbI
                  generalize lr1.length = lrn at *
                  go_wp2
                  go_round
                  case rel => exact ⟨j + 1, by omega, by go_num, by rw [hR1.out, hT1.out]; exact hL7⟩
                  case measure => simp [intOf]; omega
          · obtain rfl : j = n := by omega
            have hz := hL.out.res
            have hy := hL.out.best
            have hBr := hide (below_setRow hL.out.bel (Nat.le_refl _) (Vc.row ⟨y0, y1, y2, y3⟩))
            have hzr := hide (setRow_heap wr w.heap.size _ (Vc.row ⟨y0, y1, y2, y3⟩) 26 _ hz)
            have hsr := hide (hL.out.sr.blk fun x e => Go.setRow_other wr w.heap.size x (Vc.row ⟨y0, y1, y2, y3⟩) (by have := (hL.out.wr_ x e).1; omega))
            have hst := hide (hL.out.st.blk fun x e => Go.setRow_other wr w.heap.size x (Vc.row ⟨y0, y1, y2, y3⟩) (by have := (hL.out.wt x e).1; omega))
            clear hL
            go_wp2_with (first | ((with_reducible change wpList _ _ _ _ _ _); refine wpList_load_row rfl 26 (.tmp 9) rfl q rfl 26 _ _ _ hy Try.underlying26 rfl (vecSize Vc.zero) ?_) | ((with_reducible change wpList _ _ _ _ _ _); refine wpList_store_row rfl 26 (.tmp 4) (.tmp 133) rfl w.heap.size (Vc.row ⟨y0, y1, y2, y3⟩) rfl rfl 26 _ hz (vecSize Vc.zero) rfl (Vc.row_all _) ?_))
            refine bodyPost_ret (results_four rfl _ _ w.heap.size 26 _ _ _ rfl hzr.out Try.underlying26 rfl (vecSize Vc.zero)) rfl ⟨u13, u14, ?_, ?_, ?_, hBr.out⟩
            · rw [hYE.out]; rfl
            · have h1 := hsr.out; rw [List.take_of_length_le (by rw [rolesL_len]; omega)] at h1; exact h1
            · have h1 := hst.out; rw [List.take_of_length_le (by rw [tellsL_len]; omega)] at h1; exact h1
      · have hB2 := hB
        have hZ2 := hZ
        have hQ2 : Hid (wr.heap[q]? = some (.cells (Vc.row ⟨y0, y1, y2, y3⟩) 26)) := by
          have h1 := hQ.out
          rw [show bvY ⟨⟨y0, y1, y2, y3⟩, y4, y5⟩ = ⟨y0, y1, y2, y3⟩ from if_neg hpl] at h1
          exact h1
        go_wp2_with fail
        have hL0 : Hid (L2 w wr q ⟨y0, y1, y2, y3⟩ (.slice none 0 0) (.slice none 0 0) ((rolesL b ps).take 0) ((tellsL b ps).take 0)) := ⟨hB2.out, hZ2.out, hQ2.out, by rw [List.take_zero]; exact Sl.nil _ _ _ _, by rw [List.take_zero]; exact Sl.nil _ _ _ _, fun x e => by simp [Value.ownBlock] at e, fun x e => by simp [Value.ownBlock] at e, fun x e => by simp [Value.ownBlock] at e⟩
        have hI2 := hide (hI.out.below hB2.out)
        clear hB2 hZ2 hQ2 hB hZ hQ
        skip
        go_loopw [15, 13, 14] (fun i vr vt wr => ∃ j : Nat, j ≤ n ∧ i = .int .i64 j ∧ Hid (L2 w wr q ⟨y0, y1, y2, y3⟩ vr vt ((rolesL b ps).take j) ((tellsL b ps).take j))) (fun i _ _ _ => n - (intOf i).toNat)
        case atStart => exact ⟨0, Nat.zero_le _, rfl, hL0⟩
        case round =>
          obtain ⟨j, hj, rfl, hL⟩ := hrel
          clear hL0
          by_cases hlt : j < n
          · obtain ⟨bb, off, rfl, hP, hwf⟩ := (hI.out.below hL.out.bel).2 j hlt
            have hTk : Hid ((tellsL b ps).take j ++ [tellV b ⟨⟨y0, y1, y2, y3⟩, y4, y5⟩ (ps.getD j Rp.zero)] = (tellsL b ps).take (j + 1)) := by
              have h1 := tellsL_at b ps j (by omega)
              rw [hps, hYE.out] at h1
              rw [← h1]; exact take_push _ _ _ (by rw [tellsL_len]; omega)
            have hRk : Hid ((rolesL b ps).take j ++ [roleN (ps.getD j Rp.zero) (decide ((j : Int) = y4)) (tellV b ⟨⟨y0, y1, y2, y3⟩, y4, y5⟩ (ps.getD j Rp.zero))] = (rolesL b ps).take (j + 1)) := by
              have h1 := rolesL_at b ps j (by omega)
              rw [hps, hYE.out] at h1
              have h2 : (rolesL b ps).getD j 0 = roleN (ps.getD j Rp.zero) (decide ((j : Int) = y4)) (tellV b ⟨⟨y0, y1, y2, y3⟩, y4, y5⟩ (ps.getD j Rp.zero)) := h1
              rw [← h2]; exact take_push _ _ _ (by rw [rolesL_len]; omega)
            have hll : ((tellsL b ps).take j).length ≤ 60 ∧ ((rolesL b ps).take j).length ≤ 60 := by simp only [List.length_take]; omega
            generalize hR1 : (rolesL b ps).take (j + 1) = lr1 at *
            generalize hT1 : (tellsL b ps).take (j + 1) = lt1 at *
            generalize (rolesL b ps).take j = lr at *
            generalize (tellsL b ps).take j = lt at *
            replace hR1 := hide hR1
            replace hT1 := hide hT1
            generalize ps.getD j Rp.zero = p at *
            obtain ⟨id, cost, up, has, ⟨a0, a1, a2, a3⟩⟩ := p
            have htv : tellV b ⟨⟨y0, y1, y2, y3⟩, y4, y5⟩ ⟨id, cost, up, has, ⟨a0, a1, a2, a3⟩⟩ = ⟨y0, y1, b, id⟩ := rfl
            rw [htv] at hTk hRk
            obtain ⟨c0, c1, c2, c3, c4, c5, c6, c7⟩ := hP
            obtain ⟨hl1, hl2⟩ := hll
            dsimp only at *
            have n0 : wr.cell? ⟨q, 0, none⟩ = some (.int .u64 y0) := (cell_of_row _ _ _ _ _ _ hL.out.best).trans rfl
            have n1 : wr.cell? ⟨q, 1, none⟩ = some (.int .u64 y1) := (cell_of_row _ _ _ _ _ _ hL.out.best).trans rfl
            have hql := hL.out.lt.2
            have hbA : Hid (Below wr.heap.size wr (((wr.alloc (.cells (Rp.row ⟨id, cost, up, has, ⟨a0, a1, a2, a3⟩⟩) 91)).alloc (.cells (Vc.row ⟨y0, y1, b, id⟩) 26)).alloc (.cells (Vc.row ⟨y0, y1, b, id⟩) 26))) := ((below1 _ _).later (below1 _ _)).later (below1 _ _)
            have hPk : Hid ((((wr.alloc (.cells (Rp.row ⟨id, cost, up, has, ⟨a0, a1, a2, a3⟩⟩) 91)).alloc (.cells (Vc.row ⟨y0, y1, b, id⟩) 26)).alloc (.cells (Vc.row ⟨y0, y1, b, id⟩) 26)).heap[wr.heap.size]? = some (.cells (Rp.row ⟨id, cost, up, has, ⟨a0, a1, a2, a3⟩⟩) 91)) := heap_kept (below1 _ _) (heap_alloc2_oldB wr (.cells (Rp.row ⟨id, cost, up, has, ⟨a0, a1, a2, a3⟩⟩) 91) (.cells (Vc.row ⟨y0, y1, b, id⟩) 26))
            have hTkk : Hid ((((wr.alloc (.cells (Rp.row ⟨id, cost, up, has, ⟨a0, a1, a2, a3⟩⟩) 91)).alloc (.cells (Vc.row ⟨y0, y1, b, id⟩) 26)).alloc (.cells (Vc.row ⟨y0, y1, b, id⟩) 26)).heap[wr.heap.size + 1]? = some (.cells (Vc.row ⟨y0, y1, b, id⟩) 26)) := heap_kept (below1 _ _) (heap_alloc2_newB wr (.cells (Rp.row ⟨id, cost, up, has, ⟨a0, a1, a2, a3⟩⟩) 91) (.cells (Vc.row ⟨y0, y1, b, id⟩) 26))
            have hSk : Hid ((((wr.alloc (.cells (Rp.row ⟨id, cost, up, has, ⟨a0, a1, a2, a3⟩⟩) 91)).alloc (.cells (Vc.row ⟨y0, y1, b, id⟩) 26)).alloc (.cells (Vc.row ⟨y0, y1, b, id⟩) 26)).heap[wr.heap.size + 2]? = some (.cells (Vc.row ⟨y0, y1, b, id⟩) 26)) := by
              have := heap_alloc_new ((wr.alloc (.cells (Rp.row ⟨id, cost, up, has, ⟨a0, a1, a2, a3⟩⟩) 91)).alloc (.cells (Vc.row ⟨y0, y1, b, id⟩) 26)) (.cells (Vc.row ⟨y0, y1, b, id⟩) 26)
              rw [World.size_alloc, World.size_alloc] at this
              exact this
            have hsz : Hid ((((wr.alloc (.cells (Rp.row ⟨id, cost, up, has, ⟨a0, a1, a2, a3⟩⟩) 91)).alloc (.cells (Vc.row ⟨y0, y1, b, id⟩) 26)).alloc (.cells (Vc.row ⟨y0, y1, b, id⟩) 26)).heap.size = wr.heap.size + 3) := by show _ = _; rw [World.size_alloc, World.size_alloc, World.size_alloc]
            go_wp2_with (at_builtin; refine unhR9 ?_)
            have hL3 := hide (hL.out.below hbA.out)
            have hvl : Hid (∀ x, u14.ownBlock = some x → x < wr.heap.size) := fun x e => hL.out.st.lt e
            clear hL hbA c0 c1 c2 c3 c4 c5 c6 c7 n0 n1
            generalize ((wr.alloc (.cells (Rp.row ⟨id, cost, up, has, ⟨a0, a1, a2, a3⟩⟩) 91)).alloc (.cells (Vc.row ⟨y0, y1, b, id⟩) 26)).alloc (.cells (Vc.row ⟨y0, y1, b, id⟩) 26) = w3 at *
            refine hide ?_
            refine wpList_append_sl rfl (.tmp 106) (.tmp 108) rfl wide_V sty_V u14 lt rfl hL3.out.st ⟨wr.heap.size + 2, 0, none⟩ 1 1 [⟨y0, y1, b, id⟩] rfl rfl (fun x u hx => ?_) (by simp; omega) (by omega) ?_
            · rw [Addr.add_lit, cell_of_row _ _ _ _ _ _ hSk.out, ← hx]
              simp [flat]
            intro v4 w4 hS4 hg4 ho4
            rw [hTk.out] at hS4
            have hL4 := hide (hL3.out.tell hS4 hg4 ho4)
            have hP4 := RpAt.of_heap ((hg4.block wr.heap.size (by rw [hsz.out]; omega) (fun e => by have := hvl.out _ e.symm; omega)).trans hPk.out)
            have hT4 := (hg4.block (wr.heap.size + 1) (by rw [hsz.out]; omega) (fun e => by have := hvl.out _ e.symm; omega)).trans hTkk.out
            have hT4c : Hid (∀ W : World, W.heap[wr.heap.size + 1]? = some (.cells (Vc.row ⟨y0, y1, b, id⟩) 26) → W.cell? ⟨wr.heap.size + 1, 0, none⟩ = some (.int .u64 y0) ∧ W.cell? ⟨wr.heap.size + 1, 1, none⟩ = some (.int .u64 y1) ∧ W.cell? ⟨wr.heap.size + 1, 2, none⟩ = some (.int .u64 b) ∧ W.cell? ⟨wr.heap.size + 1, 3, none⟩ = some (.int .i64 id)) := fun W h => ⟨(cell_of_row _ _ _ _ _ _ h).trans rfl, (cell_of_row _ _ _ _ _ _ h).trans rfl, (cell_of_row _ _ _ _ _ _ h).trans rfl, (cell_of_row _ _ _ _ _ _ h).trans rfl⟩
            obtain ⟨s0, s1, s2, s3⟩ := hT4c.out _ hT4
            have hPw := hide hP4
            obtain ⟨c0, c1, c2, c3, c4, c5, c6, c7⟩ := hP4
            simp only [Nat.zero_add] at c0 c1 c2 c3 c4 c5 c6 c7
            obtain ⟨av, cv, rfl⟩ := hS4.shape
            clear hS4 hg4 ho4 hL3 hPk hTkk hSk hsz hvl hT4 hTk hl1
            generalize lt1.length = ltn at *
            have hBe := hide (fun w => Before_any ⟨a0, a1, a2, a3⟩ ⟨y0, y1, b, id⟩ w)
            have hrN : Hid (roleN ⟨id, cost, up, has, ⟨a0, a1, a2, a3⟩⟩ (decide ((j : Int) = y4)) ⟨y0, y1, b, id⟩ = if up = false then 0 else if decide ((j : Int) = y4) = true then 1 else if has = false ∨ betB ⟨a0, a1, a2, a3⟩ ⟨y0, y1, b, id⟩ = false then 2 else if a2 = b then 4 else 3) := rfl
            generalize roleN ⟨id, cost, up, has, ⟨a0, a1, a2, a3⟩⟩ (decide ((j : Int) = y4)) ⟨y0, y1, b, id⟩ = RO at *
            generalize betB ⟨a0, a1, a2, a3⟩ ⟨y0, y1, b, id⟩ = bt at *
            cases has
            ·
              by_cases hie : (j : Int) = y4
              · have hieq : ((j : Int) == y4) = true := by rw [beq_iff_eq]; exact hie
                have hied : decide ((j : Int) = y4) = true := decide_eq_true hie
                rw [hied] at hrN
                clear hie hied
                cases up
                ·
                  have hRO : Hid (RO = 0) := by show _ = _; rw [hrN.out]; simp
                  rw [hRO.out] at hRk
                  go_wp2_with (at_builtin; refine unhR9 ?_)
                  refine hide ?_
                  have hbI := below1 w4 (.cells #[.int .i64 0] 3)
                  refine wpList_append_sl rfl (.tmp 129) (.tmp 131) rfl wide_I sty_I u13 lr rfl (hL4.out.below hbI).sr ⟨w4.heap.size, 0, none⟩ 1 1 [0] rfl rfl (fun x u hx => ?_) (by simp; omega) (by omega) ?_
                  · rw [Addr.add_lit, cell_of_row _ _ _ _ _ _ (heap_alloc_new w4 (.cells #[.int .i64 0] 3)), ← hx]
                    simp [flat]
                  intro v7 w7 hS7 hg7 ho7
                  rw [hRk.out] at hS7
                  have hL7 := hide ((hL4.out.below hbI).role hS7 hg7 ho7)
                  obtain ⟨av7, cv7, rfl⟩ := hS7.shape
                  clear hS7 hg7 ho7 hbI
                  generalize lr1.length = lrn at *
                  go_wp2
                  go_round
                  case rel => exact ⟨j + 1, by omega, by go_num, by rw [hR1.out, hT1.out]; exact hL7⟩
                  case measure => simp [intOf]; omega
                ·
                  have hRO : Hid (RO = 1) := by show _ = _; rw [hrN.out]; simp
                  rw [hRO.out] at hRk
                  go_wp2_with (at_builtin; refine unhR9 ?_)
                  refine hide ?_
                  have hbI := below1 w4 (.cells #[.int .i64 1] 3)
                  refine wpList_append_sl rfl (.tmp 129) (.tmp 131) rfl wide_I sty_I u13 lr rfl (hL4.out.below hbI).sr ⟨w4.heap.size, 0, none⟩ 1 1 [1] rfl rfl (fun x u hx => ?_) (by simp; omega) (by omega) ?_
                  · rw [Addr.add_lit, cell_of_row _ _ _ _ _ _ (heap_alloc_new w4 (.cells #[.int .i64 1] 3)), ← hx]
                    simp [flat]
                  intro v7 w7 hS7 hg7 ho7
                  rw [hRk.out] at hS7
                  have hL7 := hide ((hL4.out.below hbI).role hS7 hg7 ho7)
                  obtain ⟨av7, cv7, rfl⟩ := hS7.shape
                  clear hS7 hg7 ho7 hbI
                  generalize lr1.length = lrn at *
                  go_wp2
                  go_round
                  case rel => exact ⟨j + 1, by omega, by go_num, by rw [hR1.out, hT1.out]; exact hL7⟩
                  case measure => simp [intOf]; omega
              · have hieq : ((j : Int) == y4) = false := by rw [beq_eq_false_iff_ne]; exact hie
                have hied : decide ((j : Int) = y4) = false := decide_eq_false hie
                rw [hied] at hrN
                clear hie hied
                cases up
                ·
                  have hRO : Hid (RO = 0) := by show _ = _; rw [hrN.out]; simp
                  rw [hRO.out] at hRk
                  go_wp2_with (at_builtin; refine unhR9 ?_)
                  refine hide ?_
                  have hbI := below1 w4 (.cells #[.int .i64 0] 3)
                  refine wpList_append_sl rfl (.tmp 129) (.tmp 131) rfl wide_I sty_I u13 lr rfl (hL4.out.below hbI).sr ⟨w4.heap.size, 0, none⟩ 1 1 [0] rfl rfl (fun x u hx => ?_) (by simp; omega) (by omega) ?_
                  · rw [Addr.add_lit, cell_of_row _ _ _ _ _ _ (heap_alloc_new w4 (.cells #[.int .i64 0] 3)), ← hx]
                    simp [flat]
                  intro v7 w7 hS7 hg7 ho7
                  rw [hRk.out] at hS7
                  have hL7 := hide ((hL4.out.below hbI).role hS7 hg7 ho7)
                  obtain ⟨av7, cv7, rfl⟩ := hS7.shape
                  clear hS7 hg7 ho7 hbI
                  generalize lr1.length = lrn at *
                  go_wp2
                  go_round
                  case rel => exact ⟨j + 1, by omega, by go_num, by rw [hR1.out, hT1.out]; exact hL7⟩
                  case measure => simp [intOf]; omega
                ·
                  have hRO : Hid (RO = 2) := by show _ = _; rw [hrN.out]; simp
                  rw [hRO.out] at hRk
                  go_wp2_with (at_builtin; refine unhR9 ?_)
                  refine hide ?_
                  have hbI := below1 w4 (.cells #[.int .i64 2] 3)
                  refine wpList_append_sl rfl (.tmp 129) (.tmp 131) rfl wide_I sty_I u13 lr rfl (hL4.out.below hbI).sr ⟨w4.heap.size, 0, none⟩ 1 1 [2] rfl rfl (fun x u hx => ?_) (by simp; omega) (by omega) ?_
                  · rw [Addr.add_lit, cell_of_row _ _ _ _ _ _ (heap_alloc_new w4 (.cells #[.int .i64 2] 3)), ← hx]
                    simp [flat]
                  intro v7 w7 hS7 hg7 ho7
                  rw [hRk.out] at hS7
                  have hL7 := hide ((hL4.out.below hbI).role hS7 hg7 ho7)
                  obtain ⟨av7, cv7, rfl⟩ := hS7.shape
                  clear hS7 hg7 ho7 hbI
                  generalize lr1.length = lrn at *
                  go_wp2
                  go_round
                  case rel => exact ⟨j + 1, by omega, by go_num, by rw [hR1.out, hT1.out]; exact hL7⟩
                  case measure => simp [intOf]; omega
            go_wp2_with fail
            refine (hBe.out _).mono ?_
            rintro e w5 ⟨rfl, hb5⟩
            have hL5 := hide (hL4.out.below hb5)
            have hP5 := hPw.out.below hb5
            have d2 := hP5.c2
            have d6 := hP5.c6
            simp only [Nat.zero_add] at d2 d6
            clear hP5 c0 c1 c2 c3 c4 c5 c6 c7 s0 s1 s2 s3 hL4 hBe hb5
            cases bt
            ·
              by_cases hie : (j : Int) = y4
              · have hieq : ((j : Int) == y4) = true := by rw [beq_iff_eq]; exact hie
                have hied : decide ((j : Int) = y4) = true := decide_eq_true hie
                rw [hied] at hrN
                clear hie hied
                cases up
                ·
                  have hRO : Hid (RO = 0) := by show _ = _; rw [hrN.out]; simp
                  rw [hRO.out] at hRk
                  go_wp2_with (at_builtin; refine unhR9 ?_)
                  refine hide ?_
                  have hbI := below1 w5 (.cells #[.int .i64 0] 3)
                  refine wpList_append_sl rfl (.tmp 129) (.tmp 131) rfl wide_I sty_I u13 lr rfl (hL5.out.below hbI).sr ⟨w5.heap.size, 0, none⟩ 1 1 [0] rfl rfl (fun x u hx => ?_) (by simp; omega) (by omega) ?_
                  · rw [Addr.add_lit, cell_of_row _ _ _ _ _ _ (heap_alloc_new w5 (.cells #[.int .i64 0] 3)), ← hx]
                    simp [flat]
                  intro v7 w7 hS7 hg7 ho7
                  rw [hRk.out] at hS7
                  have hL7 := hide ((hL5.out.below hbI).role hS7 hg7 ho7)
                  obtain ⟨av7, cv7, rfl⟩ := hS7.shape
                  clear hS7 hg7 ho7 hbI
                  generalize lr1.length = lrn at *
                  go_wp2
                  go_round
                  case rel => exact ⟨j + 1, by omega, by go_num, by rw [hR1.out, hT1.out]; exact hL7⟩
                  case measure => simp [intOf]; omega
                ·
                  have hRO : Hid (RO = 1) := by show _ = _; rw [hrN.out]; simp
                  rw [hRO.out] at hRk
                  go_wp2_with (at_builtin; refine unhR9 ?_)
                  refine hide ?_
                  have hbI := below1 w5 (.cells #[.int .i64 1] 3)
                  refine wpList_append_sl rfl (.tmp 129) (.tmp 131) rfl wide_I sty_I u13 lr rfl (hL5.out.below hbI).sr ⟨w5.heap.size, 0, none⟩ 1 1 [1] rfl rfl (fun x u hx => ?_) (by simp; omega) (by omega) ?_
                  · rw [Addr.add_lit, cell_of_row _ _ _ _ _ _ (heap_alloc_new w5 (.cells #[.int .i64 1] 3)), ← hx]
                    simp [flat]
                  intro v7 w7 hS7 hg7 ho7
                  rw [hRk.out] at hS7
                  have hL7 := hide ((hL5.out.below hbI).role hS7 hg7 ho7)
                  obtain ⟨av7, cv7, rfl⟩ := hS7.shape
                  clear hS7 hg7 ho7 hbI
                  generalize lr1.length = lrn at *
                  go_wp2
                  go_round
                  case rel => exact ⟨j + 1, by omega, by go_num, by rw [hR1.out, hT1.out]; exact hL7⟩
                  case measure => simp [intOf]; omega
              · have hieq : ((j : Int) == y4) = false := by rw [beq_eq_false_iff_ne]; exact hie
                have hied : decide ((j : Int) = y4) = false := decide_eq_false hie
                rw [hied] at hrN
                clear hie hied
                cases up
                ·
                  have hRO : Hid (RO = 0) := by show _ = _; rw [hrN.out]; simp
                  rw [hRO.out] at hRk
                  go_wp2_with (at_builtin; refine unhR9 ?_)
                  refine hide ?_
                  have hbI := below1 w5 (.cells #[.int .i64 0] 3)
                  refine wpList_append_sl rfl (.tmp 129) (.tmp 131) rfl wide_I sty_I u13 lr rfl (hL5.out.below hbI).sr ⟨w5.heap.size, 0, none⟩ 1 1 [0] rfl rfl (fun x u hx => ?_) (by simp; omega) (by omega) ?_
                  · rw [Addr.add_lit, cell_of_row _ _ _ _ _ _ (heap_alloc_new w5 (.cells #[.int .i64 0] 3)), ← hx]
                    simp [flat]
                  intro v7 w7 hS7 hg7 ho7
                  rw [hRk.out] at hS7
                  have hL7 := hide ((hL5.out.below hbI).role hS7 hg7 ho7)
                  obtain ⟨av7, cv7, rfl⟩ := hS7.shape
                  clear hS7 hg7 ho7 hbI
                  generalize lr1.length = lrn at *
                  go_wp2
                  go_round
                  case rel => exact ⟨j + 1, by omega, by go_num, by rw [hR1.out, hT1.out]; exact hL7⟩
                  case measure => simp [intOf]; omega
                ·
                  have hRO : Hid (RO = 2) := by show _ = _; rw [hrN.out]; simp
                  rw [hRO.out] at hRk
                  go_wp2_with (at_builtin; refine unhR9 ?_)
                  refine hide ?_
                  have hbI := below1 w5 (.cells #[.int .i64 2] 3)
                  refine wpList_append_sl rfl (.tmp 129) (.tmp 131) rfl wide_I sty_I u13 lr rfl (hL5.out.below hbI).sr ⟨w5.heap.size, 0, none⟩ 1 1 [2] rfl rfl (fun x u hx => ?_) (by simp; omega) (by omega) ?_
                  · rw [Addr.add_lit, cell_of_row _ _ _ _ _ _ (heap_alloc_new w5 (.cells #[.int .i64 2] 3)), ← hx]
                    simp [flat]
                  intro v7 w7 hS7 hg7 ho7
                  rw [hRk.out] at hS7
                  have hL7 := hide ((hL5.out.below hbI).role hS7 hg7 ho7)
                  obtain ⟨av7, cv7, rfl⟩ := hS7.shape
                  clear hS7 hg7 ho7 hbI
                  generalize lr1.length = lrn at *
                  go_wp2
                  go_round
                  case rel => exact ⟨j + 1, by omega, by go_num, by rw [hR1.out, hT1.out]; exact hL7⟩
                  case measure => simp [intOf]; omega
            by_cases hbr : a2 = b
            · have hbq : (a2 == b) = true := by rw [beq_iff_eq]; exact hbr
              by_cases hie : (j : Int) = y4
              · have hieq : ((j : Int) == y4) = true := by rw [beq_iff_eq]; exact hie
                have hied : decide ((j : Int) = y4) = true := decide_eq_true hie
                rw [hied] at hrN
                clear hie hied
                cases up
                ·
                  have hRO : Hid (RO = 0) := by show _ = _; rw [hrN.out]; simp
                  rw [hRO.out] at hRk
                  go_wp2_with (at_builtin; refine unhR9 ?_)
                  refine hide ?_
                  have hbI := below1 w5 (.cells #[.int .i64 0] 3)
                  refine wpList_append_sl rfl (.tmp 129) (.tmp 131) rfl wide_I sty_I u13 lr rfl (hL5.out.below hbI).sr ⟨w5.heap.size, 0, none⟩ 1 1 [0] rfl rfl (fun x u hx => ?_) (by simp; omega) (by omega) ?_
                  · rw [Addr.add_lit, cell_of_row _ _ _ _ _ _ (heap_alloc_new w5 (.cells #[.int .i64 0] 3)), ← hx]
                    simp [flat]
                  intro v7 w7 hS7 hg7 ho7
                  rw [hRk.out] at hS7
                  have hL7 := hide ((hL5.out.below hbI).role hS7 hg7 ho7)
                  obtain ⟨av7, cv7, rfl⟩ := hS7.shape
                  clear hS7 hg7 ho7 hbI
                  generalize lr1.length = lrn at *
                  go_wp2
                  go_round
                  case rel => exact ⟨j + 1, by omega, by go_num, by rw [hR1.out, hT1.out]; exact hL7⟩
                  case measure => simp [intOf]; omega
                ·
                  have hRO : Hid (RO = 1) := by show _ = _; rw [hrN.out]; simp
                  rw [hRO.out] at hRk
                  go_wp2_with (at_builtin; refine unhR9 ?_)
                  refine hide ?_
                  have hbI := below1 w5 (.cells #[.int .i64 1] 3)
                  refine wpList_append_sl rfl (.tmp 129) (.tmp 131) rfl wide_I sty_I u13 lr rfl (hL5.out.below hbI).sr ⟨w5.heap.size, 0, none⟩ 1 1 [1] rfl rfl (fun x u hx => ?_) (by simp; omega) (by omega) ?_
                  · rw [Addr.add_lit, cell_of_row _ _ _ _ _ _ (heap_alloc_new w5 (.cells #[.int .i64 1] 3)), ← hx]
                    simp [flat]
                  intro v7 w7 hS7 hg7 ho7
                  rw [hRk.out] at hS7
                  have hL7 := hide ((hL5.out.below hbI).role hS7 hg7 ho7)
                  obtain ⟨av7, cv7, rfl⟩ := hS7.shape
                  clear hS7 hg7 ho7 hbI
                  generalize lr1.length = lrn at *
                  go_wp2
                  go_round
                  case rel => exact ⟨j + 1, by omega, by go_num, by rw [hR1.out, hT1.out]; exact hL7⟩
                  case measure => simp [intOf]; omega
              · have hieq : ((j : Int) == y4) = false := by rw [beq_eq_false_iff_ne]; exact hie
                have hied : decide ((j : Int) = y4) = false := decide_eq_false hie
                rw [hied] at hrN
                clear hie hied
                cases up
                ·
                  have hRO : Hid (RO = 0) := by show _ = _; rw [hrN.out]; simp
                  rw [hRO.out] at hRk
                  go_wp2_with (at_builtin; refine unhR9 ?_)
                  refine hide ?_
                  have hbI := below1 w5 (.cells #[.int .i64 0] 3)
                  refine wpList_append_sl rfl (.tmp 129) (.tmp 131) rfl wide_I sty_I u13 lr rfl (hL5.out.below hbI).sr ⟨w5.heap.size, 0, none⟩ 1 1 [0] rfl rfl (fun x u hx => ?_) (by simp; omega) (by omega) ?_
                  · rw [Addr.add_lit, cell_of_row _ _ _ _ _ _ (heap_alloc_new w5 (.cells #[.int .i64 0] 3)), ← hx]
                    simp [flat]
                  intro v7 w7 hS7 hg7 ho7
                  rw [hRk.out] at hS7
                  have hL7 := hide ((hL5.out.below hbI).role hS7 hg7 ho7)
                  obtain ⟨av7, cv7, rfl⟩ := hS7.shape
                  clear hS7 hg7 ho7 hbI
                  generalize lr1.length = lrn at *
                  go_wp2
                  go_round
                  case rel => exact ⟨j + 1, by omega, by go_num, by rw [hR1.out, hT1.out]; exact hL7⟩
                  case measure => simp [intOf]; omega
                ·
                  have hRO : Hid (RO = 4) := by show _ = _; rw [hrN.out]; simp [hbr]
                  rw [hRO.out] at hRk
                  go_wp2_with (at_builtin; refine unhR9 ?_)
                  refine hide ?_
                  have hbI := below1 w5 (.cells #[.int .i64 4] 3)
                  refine wpList_append_sl rfl (.tmp 129) (.tmp 131) rfl wide_I sty_I u13 lr rfl (hL5.out.below hbI).sr ⟨w5.heap.size, 0, none⟩ 1 1 [4] rfl rfl (fun x u hx => ?_) (by simp; omega) (by omega) ?_
                  · rw [Addr.add_lit, cell_of_row _ _ _ _ _ _ (heap_alloc_new w5 (.cells #[.int .i64 4] 3)), ← hx]
                    simp [flat]
                  intro v7 w7 hS7 hg7 ho7
                  rw [hRk.out] at hS7
                  have hL7 := hide ((hL5.out.below hbI).role hS7 hg7 ho7)
                  obtain ⟨av7, cv7, rfl⟩ := hS7.shape
                  clear hS7 hg7 ho7 hbI
                  generalize lr1.length = lrn at *
                  go_wp2
                  go_round
                  case rel => exact ⟨j + 1, by omega, by go_num, by rw [hR1.out, hT1.out]; exact hL7⟩
                  case measure => simp [intOf]; omega
            · have hbq : (a2 == b) = false := by rw [beq_eq_false_iff_ne]; exact hbr
              by_cases hie : (j : Int) = y4
              · have hieq : ((j : Int) == y4) = true := by rw [beq_iff_eq]; exact hie
                have hied : decide ((j : Int) = y4) = true := decide_eq_true hie
                rw [hied] at hrN
                clear hie hied
                cases up
                ·
                  have hRO : Hid (RO = 0) := by show _ = _; rw [hrN.out]; simp
                  rw [hRO.out] at hRk
                  go_wp2_with (at_builtin; refine unhR9 ?_)
                  refine hide ?_
                  have hbI := below1 w5 (.cells #[.int .i64 0] 3)
                  refine wpList_append_sl rfl (.tmp 129) (.tmp 131) rfl wide_I sty_I u13 lr rfl (hL5.out.below hbI).sr ⟨w5.heap.size, 0, none⟩ 1 1 [0] rfl rfl (fun x u hx => ?_) (by simp; omega) (by omega) ?_
                  · rw [Addr.add_lit, cell_of_row _ _ _ _ _ _ (heap_alloc_new w5 (.cells #[.int .i64 0] 3)), ← hx]
                    simp [flat]
                  intro v7 w7 hS7 hg7 ho7
                  rw [hRk.out] at hS7
                  have hL7 := hide ((hL5.out.below hbI).role hS7 hg7 ho7)
                  obtain ⟨av7, cv7, rfl⟩ := hS7.shape
                  clear hS7 hg7 ho7 hbI
                  generalize lr1.length = lrn at *
                  go_wp2
                  go_round
                  case rel => exact ⟨j + 1, by omega, by go_num, by rw [hR1.out, hT1.out]; exact hL7⟩
                  case measure => simp [intOf]; omega
                ·
                  have hRO : Hid (RO = 1) := by show _ = _; rw [hrN.out]; simp
                  rw [hRO.out] at hRk
                  go_wp2_with (at_builtin; refine unhR9 ?_)
                  refine hide ?_
                  have hbI := below1 w5 (.cells #[.int .i64 1] 3)
                  refine wpList_append_sl rfl (.tmp 129) (.tmp 131) rfl wide_I sty_I u13 lr rfl (hL5.out.below hbI).sr ⟨w5.heap.size, 0, none⟩ 1 1 [1] rfl rfl (fun x u hx => ?_) (by simp; omega) (by omega) ?_
                  · rw [Addr.add_lit, cell_of_row _ _ _ _ _ _ (heap_alloc_new w5 (.cells #[.int .i64 1] 3)), ← hx]
                    simp [flat]
                  intro v7 w7 hS7 hg7 ho7
                  rw [hRk.out] at hS7
                  have hL7 := hide ((hL5.out.below hbI).role hS7 hg7 ho7)
                  obtain ⟨av7, cv7, rfl⟩ := hS7.shape
                  clear hS7 hg7 ho7 hbI
                  generalize lr1.length = lrn at *
                  go_wp2
                  go_round
                  case rel => exact ⟨j + 1, by omega, by go_num, by rw [hR1.out, hT1.out]; exact hL7⟩
                  case measure => simp [intOf]; omega
              · have hieq : ((j : Int) == y4) = false := by rw [beq_eq_false_iff_ne]; exact hie
                have hied : decide ((j : Int) = y4) = false := decide_eq_false hie
                rw [hied] at hrN
                clear hie hied
                cases up
                ·
                  have hRO : Hid (RO = 0) := by show _ = _; rw [hrN.out]; simp
                  rw [hRO.out] at hRk
                  go_wp2_with (at_builtin; refine unhR9 ?_)
                  refine hide ?_
                  have hbI := below1 w5 (.cells #[.int .i64 0] 3)
                  refine wpList_append_sl rfl (.tmp 129) (.tmp 131) rfl wide_I sty_I u13 lr rfl (hL5.out.below hbI).sr ⟨w5.heap.size, 0, none⟩ 1 1 [0] rfl rfl (fun x u hx => ?_) (by simp; omega) (by omega) ?_
                  · rw [Addr.add_lit, cell_of_row _ _ _ _ _ _ (heap_alloc_new w5 (.cells #[.int .i64 0] 3)), ← hx]
                    simp [flat]
                  intro v7 w7 hS7 hg7 ho7
                  rw [hRk.out] at hS7
                  have hL7 := hide ((hL5.out.below hbI).role hS7 hg7 ho7)
                  obtain ⟨av7, cv7, rfl⟩ := hS7.shape
                  clear hS7 hg7 ho7 hbI
                  generalize lr1.length = lrn at *
                  go_wp2
                  go_round
                  case rel => exact ⟨j + 1, by omega, by go_num, by rw [hR1.out, hT1.out]; exact hL7⟩
                  case measure => simp [intOf]; omega
                ·
                  have hRO : Hid (RO = 3) := by show _ = _; rw [hrN.out]; simp [hbr]
                  rw [hRO.out] at hRk
                  go_wp2_with (at_builtin; refine unhR9 ?_)
                  refine hide ?_
                  have hbI := below1 w5 (.cells #[.int .i64 3] 3)
                  refine wpList_append_sl rfl (.tmp 129) (.tmp 131) rfl wide_I sty_I u13 lr rfl (hL5.out.below hbI).sr ⟨w5.heap.size, 0, none⟩ 1 1 [3] rfl rfl (fun x u hx => ?_) (by simp; omega) (by omega) ?_
                  · rw [Addr.add_lit, cell_of_row _ _ _ _ _ _ (heap_alloc_new w5 (.cells #[.int .i64 3] 3)), ← hx]
                    simp [flat]
                  intro v7 w7 hS7 hg7 ho7
                  rw [hRk.out] at hS7
                  have hL7 := hide ((hL5.out.below hbI).role hS7 hg7 ho7)
                  obtain ⟨av7, cv7, rfl⟩ := hS7.shape
                  clear hS7 hg7 ho7 hbI
                  generalize lr1.length = lrn at *
                  go_wp2
                  go_round
                  case rel => exact ⟨j + 1, by omega, by go_num, by rw [hR1.out, hT1.out]; exact hL7⟩
                  case measure => simp [intOf]; omega
          · obtain rfl : j = n := by omega
            have hz := hL.out.res
            have hy := hL.out.best
            have hBr := hide (below_setRow hL.out.bel (Nat.le_refl _) (Vc.row ⟨y0, y1, y2, y3⟩))
            have hzr := hide (setRow_heap wr w.heap.size _ (Vc.row ⟨y0, y1, y2, y3⟩) 26 _ hz)
            have hsr := hide (hL.out.sr.blk fun x e => Go.setRow_other wr w.heap.size x (Vc.row ⟨y0, y1, y2, y3⟩) (by have := (hL.out.wr_ x e).1; omega))
            have hst := hide (hL.out.st.blk fun x e => Go.setRow_other wr w.heap.size x (Vc.row ⟨y0, y1, y2, y3⟩) (by have := (hL.out.wt x e).1; omega))
            clear hL
            go_wp2_with (first | ((with_reducible change wpList _ _ _ _ _ _); refine wpList_load_row rfl 26 (.tmp 9) rfl q rfl 26 _ _ _ hy Try.underlying26 rfl (vecSize Vc.zero) ?_) | ((with_reducible change wpList _ _ _ _ _ _); refine wpList_store_row rfl 26 (.tmp 4) (.tmp 133) rfl w.heap.size (Vc.row ⟨y0, y1, y2, y3⟩) rfl rfl 26 _ hz (vecSize Vc.zero) rfl (Vc.row_all _) ?_))
            refine bodyPost_ret (results_four rfl _ _ w.heap.size 26 _ _ _ rfl hzr.out Try.underlying26 rfl (vecSize Vc.zero)) rfl ⟨u13, u14, ?_, ?_, ?_, hBr.out⟩
            · rw [hYE.out]; rfl
            · have h1 := hsr.out; rw [List.take_of_length_le (by rw [rolesL_len]; omega)] at h1; exact h1
            · have h1 := hst.out; rw [List.take_of_length_le (by rw [tellsL_len]; omega)] at h1; exact h1
end Go.Proofs.Ytaepjiakehkeoaa
