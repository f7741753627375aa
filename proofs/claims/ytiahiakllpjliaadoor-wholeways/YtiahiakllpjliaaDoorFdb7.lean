import Derived.Test.YtiahiakllpjliaaDoorFdb5
import Derived.BigQuiet
import Derived.Deep.QuietTactic
/-
  Contracts of fdb's New and Learn. Conditions: those that each theorem names.
-/
namespace Go.Proofs.YtiahiakllpjliaaDoor
open Go.RowKit Go.Maps
set_option linter.unusedVariables false
set_option maxRecDepth 20000

theorem Tryd.infoFe : (Tryd.prog.info? 123).map (fun i => (i.zero, i.size, i.bytes)) = some (some (.agg (fFe Fe.zero).toArray), 9, 32) := by kernel_rfl
theorem sty_Fe : Sty Tryd.prog 86 123 9 32 := by
  obtain ⟨i, h1, h2, h3, h4⟩ := info_parts Tryd.infoFe
  exact ⟨Tryd.underlying86, ⟨i, _, h1, h2, h3, h4, rfl⟩, by omega⟩
theorem FNew_any (m a : Int) (w : World) : Calls Tryd.prog 13 #[.int .i64 m, .int .i64 a] w fun r w' => r = .returned (.pointer (some ⟨w.heap.size, 0, none⟩)) ∧ Ft w' w.heap.size (.slice none 0 0) (min (max m 0) 1024) (max a 0) 0 [] ∧ Below w.heap.size w w' := by
  obtain ⟨M, hM⟩ : ∃ M : Int, M = max m 0 := ⟨_, rfl⟩
  obtain ⟨R, hR⟩ : ∃ R : Int, R = min M 1024 := ⟨_, rfl⟩
  obtain ⟨A, hA⟩ : ∃ A : Int, A = max a 0 := ⟨_, rfl⟩
  have hmx : ∀ (ts : Array TypeId) (t : TypeId) (w : World), (Builtin.max_ ts t #[.int .i64 m, .int .i64 0]).run Tryd.prog w = .ok (.int .i64 M) w := fun ts t w => by rw [hM, Go.Lib.run_max_ints]
  have hmn : ∀ (ts : Array TypeId) (t : TypeId) (w : World), (Builtin.min_ ts t #[.int .i64 M, .int .i64 1024]).run Tryd.prog w = .ok (.int .i64 R) w := fun ts t w => by rw [hR, Go.Lib.run_min_ints]
  have hma : ∀ (ts : Array TypeId) (t : TypeId) (w : World), (Builtin.max_ ts t #[.int .i64 a, .int .i64 0]).run Tryd.prog w = .ok (.int .i64 A) w := fun ts t w => by rw [hA, Go.Lib.run_max_ints]
  rw [← hM, ← hR, ← hA]
  have hb := hide (below1 w (.cells #[.int .i64 R, .int .i64 A, .slice none 0 0, .int .i64 0] 88))
  have hF : Hid (Ft (w.alloc (.cells #[.int .i64 R, .int .i64 A, .slice none 0 0, .int .i64 0] 88)) w.heap.size (.slice none 0 0) R A 0 []) := ⟨heap_alloc_new w _, Sl.nil _ _ _ _, by simp [Value.ownBlock]⟩
  clear hM hR hA
  go_enter Tryd.func13, Tryd.ntmps13
  go_wp2
  go_ret
  exact ⟨rfl, hF.out, hb.out⟩
theorem odd8 (x : Int) (h : 0 ≤ x ∧ x ≤ 255) : bits .and .u8 x 1 = x % 2 := by
  obtain ⟨h0, h1⟩ := h
  obtain ⟨n, rfl⟩ := Int.eq_ofNat_of_zero_le h0
  have hn : n < 256 := by omega
  exact (show ∀ n : Nat, n < 256 → bits .and .u8 (n : Int) 1 = (n : Int) % 2 by decide +kernel) n hn
def grpB (m : M6) : Bool := m.a % 2 == 1
theorem Group6_any (m : M6) (w : World) (h : m.wf) :
    Calls Tryd.prog 20 #[.agg m.row] w fun r w' => r = .returned (.bool (grpB m)) ∧ Below w.heap.size w w' := by
  obtain ⟨a, b, c, d, e, f⟩ := m
  have ho := odd8 a h.1
  have hb := hide (below1 w (.cells #[.int .u8 a, .int .u8 b, .int .u8 c, .int .u8 d, .int .u8 e, .int .u8 f] 23))
  unfold grpB
  dsimp only [M6.row]
  clear h
  go_enter Tryd.func20, Tryd.ntmps20
  go_wp2
  go_ret
  exact ⟨rfl, hb.out⟩
section
variable {w : World} {t : Nat} {v : Value} {room age lost : Int} {l : List Fe}
theorem Learn_group (m : M6) (hm : m.wf) (hg : grpB m = true) (t : Nat) (vid port now : Int) (w : World) :
    Calls Tryd.prog 43 #[.pointer (some ⟨t, 0, none⟩), .int .i64 vid, .agg m.row, .int .i64 port, .int .i64 now] w fun r w' => r = .returned (.int .i64 4) ∧ Below w.heap.size w w' := by
  have hG := hide (fun w => Group6_any m w hm)
  rw [hg] at hG
  have hb := hide (below1 w (.cells m.row 23))
  have hr := hide (heap_alloc_new w (.cells m.row 23))
  generalize hR : m.row = R at *
  have hsz : (Tryd.prog.info? 23).map (·.size) = some R.size := by rw [← hR]; exact m6Size m
  clear hR
  go_enter Tryd.func43, Tryd.ntmps43
  go_wp2_with (first | ((with_reducible change wpList _ _ _ _ _ _); refine wpList_load_row rfl 23 (.tmp 7) rfl w.heap.size rfl 23 _ _ _ hr.out Tryd.underlying23 rfl hsz ?_) | (go_at_call 20; refine (hG.out _).mono ?_; rintro e w' ⟨rfl, hb2⟩))
  go_ret
  exact ⟨rfl, hb.out.later hb2⟩
end
end Go.Proofs.YtiahiakllpjliaaDoor

/-
  Contract of fdb's Learn. Conditions: those that each theorem names.
-/
namespace Go.Proofs.YtiahiakllpjliaaDoor
open Go.RowKit Go.Maps
set_option linter.unusedVariables false
set_option maxRecDepth 20000

/-- What stands ahead of the station's own entry, when it is heard. -/
def aheadL (age now vid : Int) (m : M6) (l : List Fe) : List Fe := kept (isB vid m) (kept (oldB age now) l)
theorem Ch.foot_of {w w' : World} {t : Nat} {v v' : Value} (h : Ch (Ft.foot t v') w w') (ho : v'.ownBlock = v.ownBlock) : Ch (Ft.foot t v) w w' := h.mono fun k hk => by
  rcases hk with e | e
  · exact .inl e
  · exact .inr (by rw [← ho]; exact e)
section
variable {w : World} {t : Nat} {v : Value} {room age lost : Int} {l : List Fe}
set_option maxHeartbeats 8000000 in
theorem Learn_any (h : Ft w t v room age lost l) (hl : Fes l) (vid : Int) (m : M6) (port now : Int) (hm : m.wf) (hg : grpB m = false) (hn : timeOk now) (hlo : 0 ≤ lost ∧ lost ≤ 4611686018427387904) :
    Calls Tryd.prog 43 #[.pointer (some ⟨t, 0, none⟩), .int .i64 vid, .agg m.row, .int .i64 port, .int .i64 now] w fun r w' => ∃ e v', r = .returned (.int .i64 e) ∧ Ch (Ft.foot t v) w w' ∧ (∀ b, v'.ownBlock = some b → v.ownBlock = some b ∨ w.heap.size ≤ b) ∧
      ((room ≤ (aheadL age now vid m l).length ∧ e = 20 ∧ Ft w' t v' room age (lost + 1) (aheadL age now vid m l)) ∨ ((aheadL age now vid m l).length < room ∧ e = 0 ∧ Ft w' t v' room age lost (aheadL age now vid m l ++ [⟨vid, m, port, now⟩]))) := by
  have hG := hide (fun w => Group6_any m w hm)
  rw [hg] at hG
  have hb := hide (below1 w (.cells m.row 23))
  have hr := hide (heap_alloc_new w (.cells m.row 23))
  have hh := hide h
  have hlt := hide h.ltk
  clear h
  go_enter Tryd.func43, Tryd.ntmps43
  go_wp2_with (first | ((with_reducible change wpList _ _ _ _ _ _); refine wpList_load_row rfl 23 (.tmp 7) rfl w.heap.size rfl 23 _ _ _ hr.out Tryd.underlying23 rfl (m6Size _) ?_) | (go_at_call 20; refine (hG.out _).mono ?_; rintro e w' ⟨rfl, hb2⟩))
  have hB2 := hide (hb.out.later hb2)
  have hr2 := hide (heap_kept hb2 hr.out)
  have hF2 := hh.out.below hB2.out
  refine (Sweep_any hF2 hl now hn).mono ?_
  rintro _ w3 ⟨rfl, v3, hF3, ho3, hC3⟩
  have hC3' : Hid (Ch (Ft.foot t v) w w3) := (Ch.of_below hB2.out).trans hC3
  have hmb : Hid (∀ k, Ft.foot t v k → k ≠ w.heap.size) := fun k hk e => by have := hlt.out k hk; omega
  have hr3 := hide ((hC3.block w.heap.size (Array.getElem?_eq_some_iff.1 hr2.out).1 (fun e => hmb.out _ e rfl)).trans hr2.out)
  have hl3 : Fes (kept (oldB age now) l) := hl.filter _
  replace hF3 := hide hF3
  replace ho3 := hide ho3
  clear hG hb hr hb2 hr2 hF2 hC3
  go_wp2_with ((with_reducible change wpList _ _ _ _ _ _); refine wpList_load_row rfl 23 (.tmp 7) rfl w.heap.size rfl 23 _ _ _ hr3.out Tryd.underlying23 rfl (m6Size _) ?_)
  refine (mkIs_any vid m w3 hm).mono ?_
  rintro _ w4 ⟨caps, rfl, hb4, hCl⟩
  have hF4 := hF3.out.below hb4
  have hr4 := hide (heap_kept hb4 hr3.out)
  have hfo := hide (forget_any hF4 hl3.1 (fun e he => (hl3.2 e he).2) hCl go_is (fun k hk => hF3.out.ltk k hk))
  have hC4 : Hid (Ch (Ft.foot t v) w w4) := hC3'.out.trans (Ch.of_below hb4)
  clear hF3 hr3 hCl hC3' hF4 hb4
  go_wp2_with fail
  refine hfo.out.mono ?_
  rintro _ w5 ⟨rfl, v5, hF5, ho5, hC5⟩
  have ho : Hid (v5.ownBlock = v.ownBlock) := ho5.trans ho3.out
  have hC5' : Hid (Ch (Ft.foot t v) w w5) := hC4.out.trans (hC5.foot_of ho3.out)
  have hr5 := hide ((hC5.block w.heap.size (Array.getElem?_eq_some_iff.1 hr4.out).1 (fun e => hmb.out _ (by rcases e with e | e; exact .inl e; exact .inr (by rw [← ho3.out]; exact e)) rfl)).trans hr4.out)
  have hl5 : Hid (Fes (aheadL age now vid m l)) := hl3.filter _
  replace hF5 : Hid (Ft w5 t v5 room age lost (aheadL age now vid m l)) := hF5
  clear hfo hC4 hr4 hC5 ho5 ho3 hl hl3 hh
  obtain ⟨av, capv, hv5⟩ := hF5.out.sl.shape
  subst hv5
  have c0 := hF5.out.c0
  have c2 := hF5.out.c2
  have hn5 := hl5.out.1
  generalize hLL : aheadL age now vid m l = LL at *
  replace hLL := hide hLL
  generalize hnn : LL.length = n at *
  replace hnn := hide hnn
  obtain ⟨lo1, lo2⟩ := hlo
  by_cases hfull : room ≤ (n : Int)
  · have hfull' : decide (room ≤ (n : Int)) = true := decide_eq_true hfull
    have hF6 := hide (hF5.out.below (below_drewN (Below.refl w5.heap.size w5) 1))
    go_wp2_with fail
    go_quiet (fail)
    have hFq := hF5.out.below (below_drewN (Below.refl w5.heap.size w5) nq)
    have c3 := hFq.c3
    have z3 := hFq.fz 3
    have hFz : Hid (Ft ((w5.drewN nq).setCell ⟨t, 3, none⟩ (.int .i64 (lost + 1))) t (.slice av n capv) room age (lost + 1) LL) :=
      ⟨by rw [heap_setCell_same _ _ _ _ _ _ hFq.row]; simp, hFq.sl.blk fun b e => heap_setCell_other _ ⟨t, 3, none⟩ b _ (fun e' => hFq.ne (by rw [e]; exact congrArg some e')), hFq.ne⟩
    have hCz : Hid (Ch (Ft.foot t v) w ((w5.drewN nq).setCell ⟨t, 3, none⟩ (.int .i64 (lost + 1)))) := (hC5'.out.trans (Ch.of_below (below_drewN (Below.refl w5.heap.size w5) nq))).trans ⟨rfl, rfl, rfl, by simp [World.setCell], fun k _ hk => heap_setCell_other _ ⟨t, 3, none⟩ k _ (fun e => hk (.inl e))⟩
    clear hF5 hF6 hFq hC5' hr5 c0 c2
    go_wp2
    go_ret
    exact ⟨_, _, rfl, hCz.out, fun b e => .inl (by rw [← ho.out]; exact e), by rw [hLL.out]; exact .inl ⟨by rw [hnn.out]; exact hfull, rfl, hFz.out⟩⟩
  · have hfull' : decide (room ≤ (n : Int)) = false := decide_eq_false hfull
    go_wp2_with fail
    go_quiet (fail)
    have hFq := hide (hF5.out.below (below_drewN (Below.refl w5.heap.size w5) nq))
    have hrq : Hid ((w5.drewN nq).heap[w.heap.size]? = some (.cells m.row 23 (0, 0))) := hr5.out
    have hCq : Hid (Ch (Ft.foot t v) w (w5.drewN nq)) := hC5'.out.trans (Ch.of_below (below_drewN (Below.refl w5.heap.size w5) nq))
    clear hF5 hC5' hr5 c0 c2
    generalize w5.drewN nq = w6 at *
    clear w5
    go_wp2_with fail
    have c2 := hFq.out.c2
    refine wp_region_noPanic ?_
    refine wp_region_held_drew (S := fun W => W.heap[w.heap.size]? = some (.cells m.row 23 (0, 0))) (by kernel_rfl) hrq.out (fun hHeld => ?_)
    refine wpAnyH_take (i := 0) (oi := { dst := some 38, op := Op.move (Operand.tmp 0), type := 32, pos := "fdb.go:50", after := #[], guard := none }) (v := ?v1) rfl (by kernel_rfl) (by kernel_rfl) (by kernel_rfl) (fun _ _ _ h => h) (Or.inl ⟨by rfl, ?y1⟩) (by assumption) ?r1
    case y1 => (intro w hSw; (try dsimp only at hSw); (try (go_split_ands)); go_simp; try with_reducible rfl)
    try simp only [Act.put, List.setIfInBounds_toArray, List.set_cons_zero, List.set_cons_succ]
    refine wpAnyH_take (i := 1) (oi := { dst := some 39, op := Op.move (Operand.tmp 0), type := 32, pos := "fdb.go:50", after := #[], guard := none }) (v := ?v2) rfl (by kernel_rfl) (by kernel_rfl) (by kernel_rfl) (fun _ _ _ h => h) (Or.inl ⟨by rfl, ?y2⟩) (by assumption) ?r2
    case y2 => (intro w hSw; (try dsimp only at hSw); (try (go_split_ands)); go_simp; try with_reducible rfl)
    try simp only [Act.put, List.setIfInBounds_toArray, List.set_cons_zero, List.set_cons_succ]
    refine wpAnyH_take (i := 2) (oi := { dst := some 40, op := Op.nilCheck (Operand.tmp 39), type := 0, pos := "fdb.go:50", after := #[{ on := 1, ground := Ground.data }], guard := none }) (v := ?v3) rfl (by kernel_rfl) (by kernel_rfl) (by kernel_rfl) (fun _ _ _ h => h) (Or.inl ⟨by rfl, ?y3⟩) (by assumption) ?r3
    case y3 => (intro w hSw; (try dsimp only at hSw); (try (go_split_ands)); go_simp; try with_reducible rfl)
    try simp only [Act.put, List.setIfInBounds_toArray, List.set_cons_zero, List.set_cons_succ]
    refine wpAnyH_take (i := 3) (oi := { dst := some 41, op := Op.fieldAddr 88 (Operand.tmp 40) 2, type := 0, pos := "fdb.go:50", after := #[{ on := 2, ground := Ground.data }], guard := none }) (v := ?v4) rfl (by kernel_rfl) (by kernel_rfl) (by kernel_rfl) (fun _ _ _ h => h) (Or.inl ⟨by rfl, ?y4⟩) (by assumption) ?r4
    case y4 => (intro w hSw; (try dsimp only at hSw); (try (go_split_ands)); go_simp; try with_reducible rfl)
    try simp only [Act.put, List.setIfInBounds_toArray, List.set_cons_zero, List.set_cons_succ]
    refine wpAnyH_take (i := 5) (oi := { dst := some 43, op := Op.move (Operand.tmp 1), type := 3, pos := "fdb.go:50", after := #[], guard := none }) (v := ?v5) rfl (by kernel_rfl) (by kernel_rfl) (by kernel_rfl) (fun _ _ _ h => h) (Or.inl ⟨by rfl, ?y5⟩) (by assumption) ?r5
    case y5 => (intro w hSw; (try dsimp only at hSw); (try (go_split_ands)); go_simp; try with_reducible rfl)
    try simp only [Act.put, List.setIfInBounds_toArray, List.set_cons_zero, List.set_cons_succ]
    refine wpAnyH_take (i := 6) (oi := { dst := some 44, op := Op.load 23 (Operand.tmp 7), type := 23, pos := "fdb.go:50", after := #[], guard := none }) (v := _) rfl (by kernel_rfl) (by kernel_rfl) (by kernel_rfl) (fun _ _ _ h => h) (yieldsIf_load_row (by rfl) 23 (.tmp 7) rfl w.heap.size rfl 23 _ (0, 0) _ (fun W hW => hW) Tryd.underlying23 rfl (m6Size _)) (by assumption) ?_
    try simp only [Act.put, List.setIfInBounds_toArray, List.set_cons_zero, List.set_cons_succ]
    refine wpAnyH_take (i := 7) (oi := { dst := some 45, op := Op.move (Operand.tmp 3), type := 3, pos := "fdb.go:50", after := #[], guard := none }) (v := ?v6) rfl (by kernel_rfl) (by kernel_rfl) (by kernel_rfl) (fun _ _ _ h => h) (Or.inl ⟨by rfl, ?y6⟩) (by assumption) ?r6
    case y6 => (intro w hSw; (try dsimp only at hSw); (try (go_split_ands)); go_simp; try with_reducible rfl)
    try simp only [Act.put, List.setIfInBounds_toArray, List.set_cons_zero, List.set_cons_succ]
    refine wpAnyH_take (i := 8) (oi := { dst := some 46, op := Op.move (Operand.tmp 4), type := 2, pos := "fdb.go:50", after := #[], guard := none }) (v := ?v7) rfl (by kernel_rfl) (by kernel_rfl) (by kernel_rfl) (fun _ _ _ h => h) (Or.inl ⟨by rfl, ?y7⟩) (by assumption) ?r7
    case y7 => (intro w hSw; (try dsimp only at hSw); (try (go_split_ands)); go_simp; try with_reducible rfl)
    try simp only [Act.put, List.setIfInBounds_toArray, List.set_cons_zero, List.set_cons_succ]
    refine wpAnyH_take (i := 9) (oi := { dst := some 47, op := Op.build 123 #[(0, Operand.tmp 43), (1, Operand.tmp 44), (2, Operand.tmp 45), (3, Operand.tmp 46)], type := 123, pos := "fdb.go:50", after := #[{ on := 5, ground := Ground.data }, { on := 6, ground := Ground.data }, { on := 7, ground := Ground.data }, { on := 8, ground := Ground.data }], guard := none }) (v := ?v8) rfl (by kernel_rfl) (by kernel_rfl) (by kernel_rfl) (fun _ _ _ h => h) (Or.inl ⟨by rfl, ?y8⟩) (by assumption) ?r8
    case y8 => (intro w hSw; (try dsimp only at hSw); (try (go_split_ands)); go_simp; try with_reducible rfl)
    try simp only [Act.put, List.setIfInBounds_toArray, List.set_cons_zero, List.set_cons_succ]
    have htw : t ≠ w.heap.size := hmb.out t (.inl rfl)
    have htl := hFq.out.lt
    have hwl : w.heap.size < w6.heap.size := (Array.getElem?_eq_some_iff.1 hrq.out).1
    refine (fun (key2 : Hid (?T2 : Prop)) => ?main2) ?kp2
    case main2 =>
      have hb7 : Below w6.heap.size w6 (w6.alloc (.cells #[.int .i64 vid, .int .u8 m.a, .int .u8 m.b, .int .u8 m.c, .int .u8 m.d, .int .u8 m.e, .int .u8 m.f, .int .i64 port, .int .i64 now] 123)).drew := by
        have h := below1 w6 (.cells #[.int .i64 vid, .int .u8 m.a, .int .u8 m.b, .int .u8 m.c, .int .u8 m.d, .int .u8 m.e, .int .u8 m.f, .int .i64 port, .int .i64 now] 123)
        exact ⟨h.os, h.tape, h.output, h.size, h.block⟩
      have hr7 : (w6.alloc (.cells #[.int .i64 vid, .int .u8 m.a, .int .u8 m.b, .int .u8 m.c, .int .u8 m.d, .int .u8 m.e, .int .u8 m.f, .int .i64 port, .int .i64 now] 123)).drew.heap[w6.heap.size]? = some (.cells (fFe ⟨vid, m, port, now⟩).toArray 123 (0, 0)) := heap_alloc_new w6 _
      have hs7 : (w6.alloc (.cells #[.int .i64 vid, .int .u8 m.a, .int .u8 m.b, .int .u8 m.c, .int .u8 m.d, .int .u8 m.e, .int .u8 m.f, .int .i64 port, .int .i64 now] 123)).drew.heap.size = w6.heap.size + 1 := World.size_alloc w6 _
      have c2d : w6.drew.cell? ⟨t, 2, none⟩ = some (.slice av n capv) := c2
      refine wpAnyH_ready (rs := [4, 10]) (by kernel_rfl) (by simp) ?_
      refine AllReadyH.cons (o := { dst := some 42, op := Op.load 86 (Operand.tmp 41), type := 86, pos := "fdb.go:50", after := #[{ on := 3, ground := Ground.data }], guard := none }) rfl (fun K hK => ?_) (AllReadyH.cons (o := { dst := some 48, op := Op.buildSlice 86 1 #[(0, Operand.tmp 47)], type := 86, pos := "fdb.go:50", after := #[{ on := 9, ground := Ground.data }], guard := none }) rfl (fun K hK => ?_) AllReadyH.nil)
      · go_simp
        refine hK.out _ _ hrq.out (fun hHeld4 => ?_)
        clear hK K
        try simp only [Act.put, List.setIfInBounds_toArray, List.set_cons_zero, List.set_cons_succ]
        refine wpAnyH_ready (rs := [10]) (by kernel_rfl) (by simp) ?_
        refine AllReadyH.cons (o := { dst := some 48, op := Op.buildSlice 86 1 #[(0, Operand.tmp 47)], type := 86, pos := "fdb.go:50", after := #[{ on := 9, ground := Ground.data }], guard := none }) rfl (fun K hK => ?_) AllReadyH.nil
        go_simp
        refine hK.out _ _ ((hb7.block _ hwl).trans hrq.out) (fun hHeld10 => ?_)
        clear hK K
        try simp only [Act.put, List.setIfInBounds_toArray, List.set_cons_zero, List.set_cons_succ]
        clear hHeld10 hHeld4
        revert hs7
        revert hr7
        revert hb7
        generalize (w6.alloc (.cells #[.int .i64 vid, .int .u8 m.a, .int .u8 m.b, .int .u8 m.c, .int .u8 m.d, .int .u8 m.e, .int .u8 m.f, .int .i64 port, .int .i64 now] 123)).drew = w7
        revert w7
        exact key2.out
      · go_simp
        refine hK.out _ _ ((hb7.block _ hwl).trans hrq.out) (fun hHeld10 => ?_)
        clear hK K
        try simp only [Act.put, List.setIfInBounds_toArray, List.set_cons_zero, List.set_cons_succ]
        have c2e : (w6.alloc (.cells #[.int .i64 vid, .int .u8 m.a, .int .u8 m.b, .int .u8 m.c, .int .u8 m.d, .int .u8 m.e, .int .u8 m.f, .int .i64 port, .int .i64 now] 123)).drew.cell? ⟨t, 2, none⟩ = some (.slice av n capv) := (cell_later (hb7.block t htl) 2).trans c2
        refine wpAnyH_ready (rs := [4]) (by kernel_rfl) (by simp) ?_
        refine AllReadyH.cons (o := { dst := some 42, op := Op.load 86 (Operand.tmp 41), type := 86, pos := "fdb.go:50", after := #[{ on := 3, ground := Ground.data }], guard := none }) rfl (fun K hK => ?_) AllReadyH.nil
        go_simp
        refine hK.out _ _ ((hb7.block _ hwl).trans hrq.out) (fun hHeld4 => ?_)
        clear hK K
        try simp only [Act.put, List.setIfInBounds_toArray, List.set_cons_zero, List.set_cons_succ]
        clear hHeld10 hHeld4 c2e
        revert hs7
        revert hr7
        revert hb7
        generalize (w6.alloc (.cells #[.int .i64 vid, .int .u8 m.a, .int .u8 m.b, .int .u8 m.c, .int .u8 m.d, .int .u8 m.e, .int .u8 m.f, .int .i64 port, .int .i64 now] 123)).drew = w7
        revert w7
        exact key2.out
    refine hide ?_
    intro w7 hb7 hr7 hs7
    have hF7 := hide (hFq.out.below hb7)
    have hC7 : Hid (Ch (Ft.foot t v) w w7) := hCq.out.trans (Ch.of_below hb7)
    refine wpAnyH_ready (rs := [11]) (by kernel_rfl) (by simp) ?_
    refine AllReadyH.cons (o := { dst := some 49, op := Op.call { callee := Callee.builtin Builtin.append, args := #[Operand.tmp 42, Operand.tmp 48], argTypes := #[86, 86] }, type := 86, pos := "fdb.go:50", after := #[{ on := 4, ground := Ground.data }, { on := 10, ground := Ground.data }], guard := none }) rfl (fun K hK => ?_) AllReadyH.nil
    refine step_append_sl rfl (.tmp 42) (.tmp 48) rfl wide_Fe sty_Fe (.slice av n capv) LL rfl hF7.out.sl ⟨w6.heap.size, 0, none⟩ 1 1 [⟨vid, m, port, now⟩] rfl rfl (fun x u hx => ?_) (by have h1 := hnn.out; have : ([⟨vid, m, port, now⟩] : List Fe).length = 1 := rfl; omega) (by omega) ?_
    · rw [Addr.add_lit, cell_of_row _ _ _ _ _ _ hr7, ← hx]
      simp [flat]
    intro v' w9 hS9 hg9 ho9
    have hk9 : ∀ k, k < w6.heap.size → (Value.slice av n capv).ownBlock ≠ some k → w9.heap[k]? = w6.heap[k]? := fun k hk hne => (hg9.block k (by rw [hs7]; omega) (fun e => hne e.symm)).trans (hb7.block k hk)
    have hvt : (Value.slice av n capv).ownBlock ≠ some t := hFq.out.ne
    have hvw : (Value.slice av n capv).ownBlock ≠ some w.heap.size := fun e => hmb.out w.heap.size (.inr (by rw [← ho.out]; exact e)) rfl
    have d2 : w9.cell? ⟨t, 2, none⟩ = some (.slice av n capv) := (cell_later (hk9 t htl hvt) 2).trans c2
    refine hK.out _ _ ((hk9 _ hwl hvw).trans hrq.out) (fun hHeld11 => ?_)
    clear hK K
    try simp only [Act.put, List.setIfInBounds_toArray, List.set_cons_zero, List.set_cons_succ]
    refine wpAnyH_take (i := 12) (oi := { dst := some 50, op := Op.nilCheck (Operand.tmp 38), type := 0, pos := "fdb.go:50", after := #[{ on := 0, ground := Ground.data }, { on := 0, ground := Ground.phase }, { on := 1, ground := Ground.phase }, { on := 2, ground := Ground.phase }, { on := 3, ground := Ground.phase }, { on := 4, ground := Ground.phase }, { on := 5, ground := Ground.phase }, { on := 6, ground := Ground.phase }, { on := 7, ground := Ground.phase }, { on := 8, ground := Ground.phase }, { on := 9, ground := Ground.phase }, { on := 10, ground := Ground.phase }, { on := 11, ground := Ground.phase }], guard := none }) (v := ?v9) rfl (by kernel_rfl) (by kernel_rfl) (by kernel_rfl) (fun _ _ _ h => h) (Or.inl ⟨by rfl, ?y9⟩) (by assumption) ?r9
    case y9 => (intro w hSw; (try dsimp only at hSw); (try (go_split_ands)); go_simp; try with_reducible rfl)
    try simp only [Act.put, List.setIfInBounds_toArray, List.set_cons_zero, List.set_cons_succ]
    refine wpAnyH_take (i := 13) (oi := { dst := some 51, op := Op.fieldAddr 88 (Operand.tmp 50) 2, type := 0, pos := "fdb.go:50", after := #[{ on := 12, ground := Ground.data }, { on := 0, ground := Ground.phase }, { on := 1, ground := Ground.phase }, { on := 2, ground := Ground.phase }, { on := 3, ground := Ground.phase }, { on := 4, ground := Ground.phase }, { on := 5, ground := Ground.phase }, { on := 6, ground := Ground.phase }, { on := 7, ground := Ground.phase }, { on := 8, ground := Ground.phase }, { on := 9, ground := Ground.phase }, { on := 10, ground := Ground.phase }, { on := 11, ground := Ground.phase }], guard := none }) (v := ?v10) rfl (by kernel_rfl) (by kernel_rfl) (by kernel_rfl) (fun _ _ _ h => h) (Or.inl ⟨by rfl, ?y10⟩) (by assumption) ?r10
    case y10 => (intro w hSw; (try dsimp only at hSw); (try (go_split_ands)); go_simp; try with_reducible rfl)
    try simp only [Act.put, List.setIfInBounds_toArray, List.set_cons_zero, List.set_cons_succ]
    have hrow9 := (hk9 t htl hvt).trans hFq.out.row
    have z2 : w9.frozen? ⟨t, 2, none⟩ = false := by simp [World.frozen?, hrow9]
    have hnt : v'.ownBlock ≠ some t := fun e => by
      rcases ho9 with e1 | e1
      · rw [e1] at e; exact hvt e
      · rw [e1, hs7] at e; simp at e; omega
    have hFz : Hid (Ft (w9.setCell ⟨t, 2, none⟩ v') t v' room age lost (LL ++ [⟨vid, m, port, now⟩])) :=
      ⟨by rw [heap_setCell_same _ _ _ _ _ _ hrow9]; simp, hS9.blk fun b e => heap_setCell_other w9 ⟨t, 2, none⟩ b _ (fun e' => hnt (by rw [e]; exact congrArg some e')), hnt⟩
    have hCz : Hid (Ch (Ft.foot t v) w (w9.setCell ⟨t, 2, none⟩ v')) := (hC7.out.trans ⟨hg9.os, hg9.tape, hg9.output, hg9.size, fun k hk hf => hg9.block k hk (fun e => hf (.inr (by rw [← ho.out]; exact e.symm)))⟩).trans ⟨rfl, rfl, rfl, by simp [World.setCell], fun k _ hk => heap_setCell_other w9 ⟨t, 2, none⟩ k _ (fun e => hk (.inl e))⟩
    have hfo : Hid (∀ b, v'.ownBlock = some b → v.ownBlock = some b ∨ w.heap.size ≤ b) := fun b e => by
      rcases ho9 with e1 | e1
      · exact .inl (by rw [← ho.out, ← e1]; exact e)
      · rw [e1, hs7] at e; simp at e; exact .inr (by omega)
    obtain ⟨av', cv', hv'⟩ := hS9.shape
    have hlen1 : (LL ++ [(⟨vid, m, port, now⟩ : Fe)]).length = LL.length + 1 := by simp
    rw [hlen1] at hv'
    subst hv'
    refine wpAnyH_ready (rs := [14]) (by kernel_rfl) (by simp) ?_
    refine AllReadyH.cons (o := { dst := none, op := Op.store 86 (Operand.tmp 51) (Operand.tmp 49), type := 0, pos := "fdb.go:50", after := #[{ on := 13, ground := Ground.data }, { on := 11, ground := Ground.data }, { on := 11, ground := Ground.chain }, { on := 0, ground := Ground.phase }, { on := 1, ground := Ground.phase }, { on := 2, ground := Ground.phase }, { on := 3, ground := Ground.phase }, { on := 4, ground := Ground.phase }, { on := 5, ground := Ground.phase }, { on := 6, ground := Ground.phase }, { on := 7, ground := Ground.phase }, { on := 8, ground := Ground.phase }, { on := 9, ground := Ground.phase }, { on := 10, ground := Ground.phase }, { on := 11, ground := Ground.phase }], guard := none }) rfl (fun K hK => ?_) AllReadyH.nil
    go_simp
    refine hK.out _ _ ((heap_setCell_other w9 ⟨t, 2, none⟩ w.heap.size _ (Ne.symm htw)).trans ((hk9 _ hwl hvw).trans hrq.out)) (fun hHeld14 => ?_)
    clear hK K
    try simp only [Act.put]
    refine wpAnyH_done (by kernel_rfl) ?_ _
    refine NoPanic.normal ?_
    clear hHeld14 hHeld11 hS9 hg9 ho9 hk9 d2 z2 hrow9 hnt hF7 hC7 hr7 hb7 hs7 hFq hrq hCq c2
    have hLn : Hid (((LL.length : Nat) : Int) < room) := by rw [hnn.out]; show _ < _; omega
    generalize w9.setCell ⟨t, 2, none⟩ (.slice av' (LL.length + 1) cv') = wz at *
    go_wp2
    go_ret
    exact ⟨_, _, rfl, hCz.out, hfo.out, by rw [hLL.out]; exact .inr ⟨hLn.out, rfl, hFz.out⟩⟩
end
end Go.Proofs.YtiahiakllpjliaaDoor
