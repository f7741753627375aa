/-
  Contracts of a port's functions: All, Waits, List. Conditions: those that each theorem names.
-/
import Derived.Test.YtjfjohbibkidhaaRing4
import Derived.Lib.LazyBuf
namespace Go.Proofs.Ytjfjohbibkidhaa
open Go.RowKit
set_option linter.unusedVariables false

/-- All of another row come behind it. -/
theorem Qe.appendQ {w : World} {v u : Value} {l ms : List Int} (h : Qe w v l) (hu : Qe w u ms) (ty : TypeId) (hs : l.length + ms.length ≤ 1000000) :
    ∃ v' w', (Builtin.append_ #[27, 27] ty #[v, u]).run Try.prog w = .ok v' w' ∧ Qe w' v' (l ++ ms) ∧ w.grownBy w' v.ownBlock ∧ (v'.ownBlock = v.ownBlock ∨ v'.ownBlock = some w.heap.size) := by
  obtain ⟨i, hi, hz0, hz1, hz2⟩ := info_parts Try.infoI64
  by_cases hn : u = .slice none 0 0
  · subst hn
    have hms : ms = [] := by
      rcases hu with ⟨_, h0⟩ | ⟨b, off, cap, cur, h0, _⟩
      · exact h0
      · simp at h0
    subst hms
    refine ⟨v, w, ?_, by rw [List.append_nil]; exact h, ⟨rfl, rfl, rfl, Nat.le_refl _, fun _ _ _ => rfl⟩, .inl rfl⟩
    rcases h with ⟨rfl, rfl⟩ | ⟨b, off, cap, cur, rfl, h1, h2, h3⟩
    · simp [Builtin.append_, run_underlying Try.underlying27, sizeOf, typeInfo, hi, Builtin.lenOf, Builtin.firstCells]
    · simp [Builtin.append_, run_underlying Try.underlying27, sizeOf, typeInfo, hi, Builtin.lenOf, Builtin.firstCells, h2, storeCells]
  · rcases hu with ⟨h0, _⟩ | ⟨b, off, cap, cur, rfl, h1⟩
    · exact absurd h0 hn
    · have hq : Qe w (.slice (some ⟨b, off, none⟩) ms.length cap) ms := .inr ⟨b, off, cap, cur, rfl, h1⟩
      exact h.append ⟨b, off, none⟩ cap ms ty (fun j hj => by
        obtain ⟨_, b', off', e, hc⟩ := hq.cellsAt j hj
        cases e
        rw [Addr.add_lit]
        exact hc) hs
theorem wpList_append_qq {w : World} {ops : Array Oper} {rest : List Oper} {o : Oper} {a : Act} {Q : Exit → Act → World → Prop} (hgd : o.guard = none) (s x : Operand)
    (ho : o.op = .call { callee := .builtin .append, args := #[s, x], argTypes := #[27, 27] })
    (v u : Value) (l ms : List Int) (hs : a.eval s = v) (hq : Qe w v l) (hx : a.eval x = u) (hu : Qe w u ms) (hsz : l.length + ms.length ≤ 1000000)
    (h : ∀ v' w', Qe w' v' (l ++ ms) → w.grownBy w' v.ownBlock → (v'.ownBlock = v.ownBlock ∨ v'.ownBlock = some w.heap.size) → wpList Try.prog ops Q rest (a.put o.dst v') w') :
    wpList Try.prog ops Q (o :: rest) a w := by
  refine wpList_plain hgd fun K hK => ?_
  obtain ⟨v', w', hr, h2, h3, h4⟩ := hq.appendQ hu o.type hsz
  unfold Oper.wp execOp
  simp only [ho, resolve, invoke, builtin, Sem.run_bind, Sem.run_pure, Result.andThen_ok, List.map_toArray, List.map_cons, List.map_nil, hs, hx, hr]
  exact hK _ _ (h v' w' h2 h3 h4)
def allN (rs : List Rw) : Nat → Nat
  | 0 => 0
  | j + 1 => allN rs j + (rs.getD j Rw.none).l.length
theorem All_any {w : World} {B g : Nat} {rs : List Rw} (h : Pt w B g rs) (hf : ∀ k, k < 8 → (rs.getD k Rw.none).l.length ≤ 1000000) :
    Calls Try.prog 35 #[.pointer (some ⟨g, 0, none⟩)] w fun e w' => e = .returned (.int .i64 (allN rs 8)) ∧ w' = w := by
  have hP := hide h
  have hF := hide hf
  clear h hf
  go_enter Try.func35, Try.ntmps35
  go_wp2
  go_loop [3, 5] (fun x i => ∃ j : Nat, j ≤ 8 ∧ i = .int .i64 j ∧ x = .int .i64 (allN rs j) ∧ Hid (allN rs j ≤ j * 1000000)) (fun _ i => 8 - (intOf i).toNat)
  case atStart => exact ⟨0, Nat.zero_le _, rfl, rfl, hide (by simp [allN])⟩
  case round =>
    obtain ⟨j, hj, rfl, rfl, hA⟩ := hrel
    by_cases hlt : j < 8
    · obtain ⟨a, cap, hv⟩ := (hP.out.row j hlt).shape
      have hc := hP.out.cellV j hlt
      rw [hv] at hc
      clear hv
      have hfj := hF.out j hlt
      have hS : Hid (allN rs (j + 1) = allN rs j + (rs.getD j Rw.none).l.length) := rfl
      have hA' := hA.out
      generalize (rs.getD j Rw.none).l.length = n at *
      generalize hX1 : allN rs (j + 1) = X1 at *
      replace hX1 := hide hX1
      generalize allN rs j = X at *
      go_wp2
      go_round
      case rel => exact ⟨j + 1, by omega, by go_num, by rw [hX1.out, hS.out]; go_num, by rw [hX1.out, hS.out]; exact hide (by omega)⟩
      case measure => simp [intOf]; omega
    · obtain rfl : j = 8 := by omega
      go_wp2
      go_ret
      exact ⟨rfl, rfl⟩
theorem wrap_i64_62r (n : Int) (h0 : 0 ≤ n) (h : n < 2 ^ 62) : IntKind.i64.wrap n = n := by
  have : (2 : Int) ^ 62 = 4611686018427387904 := by decide
  simp only [IntKind.wrap, IntKind.signed, IntKind.bits]
  go_num
def wtN (rs : List Rw) : Nat → Nat
  | 0 => 0
  | j + 1 => wtN rs j + if (rs.getD j Rw.none).l = [] then 0 else 2 ^ j
theorem wtN_lt (rs : List Rw) : ∀ j, wtN rs j < 2 ^ j
  | 0 => by simp [wtN]
  | j + 1 => by
    have := wtN_lt rs j
    rw [wtN, Nat.pow_succ]
    split <;> omega
theorem bits_or_two (a j : Nat) (hj : j < 8) (ha : a < 2 ^ j) : bits .or .i64 (a : Int) ((2 ^ j : Nat) : Int) = (((a + 2 ^ j : Nat)) : Int) := by
  have h1 : (2 : Nat) ^ j ≤ 2 ^ 8 := Nat.pow_le_pow_right (by decide) (by omega)
  have h2 : (2 : Nat) ^ 8 = 256 := by decide
  have h3 : (2 : Nat) ^ 62 = 4611686018427387904 := by decide
  rw [(bits_nat .i64 62 (by decide) wrap_i64_62r a (2 ^ j) (by omega) (by omega)).2, Nat.or_comm, nat_join j _ _ (Nat.mod_self _) ha, Nat.add_comm]
theorem Waits_any {w : World} {B g : Nat} {rs : List Rw} (h : Pt w B g rs) :
    Calls Try.prog 24 #[.pointer (some ⟨g, 0, none⟩)] w fun e w' => e = .returned (.int .i64 (wtN rs 8)) ∧ w' = w := by
  have hP := hide h
  clear h
  go_enter Try.func24, Try.ntmps24
  go_wp2
  go_loop [3, 5] (fun x i => ∃ j : Nat, j ≤ 8 ∧ i = .int .i64 j ∧ x = .int .i64 (wtN rs j)) (fun _ i => 8 - (intOf i).toNat)
  case atStart => exact ⟨0, Nat.zero_le _, rfl, rfl⟩
  case round =>
    obtain ⟨j, hj, rfl, rfl⟩ := hrel
    by_cases hlt : j < 8
    · obtain ⟨a, cap, hv⟩ := (hP.out.row j hlt).shape
      have hc := hP.out.cellV j hlt
      rw [hv] at hc
      clear hv
      have hS : Hid (wtN rs (j + 1) = wtN rs j + if (rs.getD j Rw.none).l = [] then 0 else 2 ^ j) := rfl
      have hB := wtN_lt rs j
      have hor := bits_or_two (wtN rs j) j hlt hB
      cases hl : (rs.getD j Rw.none).l with
      | nil =>
        rw [hl] at hc hS
        rw [if_pos rfl] at hS
        generalize hX1 : wtN rs (j + 1) = X1 at *
        replace hX1 := hide hX1
        generalize wtN rs j = X at *
        clear hor hB hl
        go_wp2
        go_round
        case rel => exact ⟨j + 1, by omega, by go_num, by rw [hX1.out, hS.out, Nat.add_zero]⟩
        case measure => simp [intOf]; omega
      | cons x r =>
        rw [hl] at hc hS
        rw [if_neg (by simp)] at hS
        have hn : 0 < (x :: r).length := by simp
        generalize (x :: r).length = n at *
        generalize hX1 : wtN rs (j + 1) = X1 at *
        replace hX1 := hide hX1
        generalize wtN rs j = X at *
        clear hl
        have hS' := hS.out
        clear hS
        rcases (show j = 0 ∨ j = 1 ∨ j = 2 ∨ j = 3 ∨ j = 4 ∨ j = 5 ∨ j = 6 ∨ j = 7 by omega) with rfl | rfl | rfl | rfl | rfl | rfl | rfl | rfl
        · have ho : bits .or .i64 (X : Int) 1 = (X : Int) + 1 := by
            have e : ((2 ^ 0 : Nat) : Int) = 1 := by decide
            rw [e] at hor
            rw [hor]
            have e2 : (2 : Nat) ^ 0 = 1 := by decide
            rw [e2]
            omega
          have hX : (X1 : Int) = (X : Int) + 1 := by
            have e2 : (2 : Nat) ^ 0 = 1 := by decide
            rw [e2] at hS'
            omega
          clear hor hS' hB
          replace hX := hide hX
          go_wp2
          go_round
          case rel => exact ⟨1, by omega, by go_num, by rw [hX1.out, hX.out]⟩
          case measure => simp [intOf]
        · have ho : bits .or .i64 (X : Int) 2 = (X : Int) + 2 := by
            have e : ((2 ^ 1 : Nat) : Int) = 2 := by decide
            rw [e] at hor
            rw [hor]
            have e2 : (2 : Nat) ^ 1 = 2 := by decide
            rw [e2]
            omega
          have hX : (X1 : Int) = (X : Int) + 2 := by
            have e2 : (2 : Nat) ^ 1 = 2 := by decide
            rw [e2] at hS'
            omega
          clear hor hS' hB
          replace hX := hide hX
          go_wp2
          go_round
          case rel => exact ⟨2, by omega, by go_num, by rw [hX1.out, hX.out]⟩
          case measure => simp [intOf]
        · have ho : bits .or .i64 (X : Int) 4 = (X : Int) + 4 := by
            have e : ((2 ^ 2 : Nat) : Int) = 4 := by decide
            rw [e] at hor
            rw [hor]
            have e2 : (2 : Nat) ^ 2 = 4 := by decide
            rw [e2]
            omega
          have hX : (X1 : Int) = (X : Int) + 4 := by
            have e2 : (2 : Nat) ^ 2 = 4 := by decide
            rw [e2] at hS'
            omega
          clear hor hS' hB
          replace hX := hide hX
          go_wp2
          go_round
          case rel => exact ⟨3, by omega, by go_num, by rw [hX1.out, hX.out]⟩
          case measure => simp [intOf]
        · have ho : bits .or .i64 (X : Int) 8 = (X : Int) + 8 := by
            have e : ((2 ^ 3 : Nat) : Int) = 8 := by decide
            rw [e] at hor
            rw [hor]
            have e2 : (2 : Nat) ^ 3 = 8 := by decide
            rw [e2]
            omega
          have hX : (X1 : Int) = (X : Int) + 8 := by
            have e2 : (2 : Nat) ^ 3 = 8 := by decide
            rw [e2] at hS'
            omega
          clear hor hS' hB
          replace hX := hide hX
          go_wp2
          go_round
          case rel => exact ⟨4, by omega, by go_num, by rw [hX1.out, hX.out]⟩
          case measure => simp [intOf]
        · have ho : bits .or .i64 (X : Int) 16 = (X : Int) + 16 := by
            have e : ((2 ^ 4 : Nat) : Int) = 16 := by decide
            rw [e] at hor
            rw [hor]
            have e2 : (2 : Nat) ^ 4 = 16 := by decide
            rw [e2]
            omega
          have hX : (X1 : Int) = (X : Int) + 16 := by
            have e2 : (2 : Nat) ^ 4 = 16 := by decide
            rw [e2] at hS'
            omega
          clear hor hS' hB
          replace hX := hide hX
          go_wp2
          go_round
          case rel => exact ⟨5, by omega, by go_num, by rw [hX1.out, hX.out]⟩
          case measure => simp [intOf]
        · have ho : bits .or .i64 (X : Int) 32 = (X : Int) + 32 := by
            have e : ((2 ^ 5 : Nat) : Int) = 32 := by decide
            rw [e] at hor
            rw [hor]
            have e2 : (2 : Nat) ^ 5 = 32 := by decide
            rw [e2]
            omega
          have hX : (X1 : Int) = (X : Int) + 32 := by
            have e2 : (2 : Nat) ^ 5 = 32 := by decide
            rw [e2] at hS'
            omega
          clear hor hS' hB
          replace hX := hide hX
          go_wp2
          go_round
          case rel => exact ⟨6, by omega, by go_num, by rw [hX1.out, hX.out]⟩
          case measure => simp [intOf]
        · have ho : bits .or .i64 (X : Int) 64 = (X : Int) + 64 := by
            have e : ((2 ^ 6 : Nat) : Int) = 64 := by decide
            rw [e] at hor
            rw [hor]
            have e2 : (2 : Nat) ^ 6 = 64 := by decide
            rw [e2]
            omega
          have hX : (X1 : Int) = (X : Int) + 64 := by
            have e2 : (2 : Nat) ^ 6 = 64 := by decide
            rw [e2] at hS'
            omega
          clear hor hS' hB
          replace hX := hide hX
          go_wp2
          go_round
          case rel => exact ⟨7, by omega, by go_num, by rw [hX1.out, hX.out]⟩
          case measure => simp [intOf]
        · have ho : bits .or .i64 (X : Int) 128 = (X : Int) + 128 := by
            have e : ((2 ^ 7 : Nat) : Int) = 128 := by decide
            rw [e] at hor
            rw [hor]
            have e2 : (2 : Nat) ^ 7 = 128 := by decide
            rw [e2]
            omega
          have hX : (X1 : Int) = (X : Int) + 128 := by
            have e2 : (2 : Nat) ^ 7 = 128 := by decide
            rw [e2] at hS'
            omega
          clear hor hS' hB
          replace hX := hide hX
          go_wp2
          go_round
          case rel => exact ⟨8, by omega, by go_num, by rw [hX1.out, hX.out]⟩
          case measure => simp [intOf]
    · obtain rfl : j = 8 := by omega
      go_wp2
      go_ret
      exact ⟨rfl, rfl⟩
theorem Clone_any {w : World} {a : Option Addr} {n cap : Nat} {l : List Int} (h : Qe w (.slice a n cap) l) (hl : l.length ≤ 100000) :
    Calls Try.prog 41 #[.slice a n cap] w fun e w' => ∃ v, e = .returned v ∧ Qe w' v l ∧ Below w.heap.size w w' := by
  go_enter Try.func41, Try.ntmps41
  have hQ := hide h
  rcases h with ⟨h0, rfl⟩ | ⟨b, off, cap', cur, h0, h1⟩
  · simp only [Value.slice.injEq] at h0
    obtain ⟨rfl, rfl, rfl⟩ := h0
    have hnil : ∀ w, (binOp .eql 27 (.slice none 0 0) (.slice none 0 0)).run Try.prog w = .ok (.bool true) w := fun w => run_eql_slice_nil w 27 3 none 0 0 Try.underlying27
    go_wp2
    go_ret
    exact ⟨_, rfl, Qe.nil _, Below.refl _ _⟩
  · simp only [Value.slice.injEq] at h0
    obtain ⟨rfl, rfl, rfl⟩ := h0
    have hnil : ∀ w, (binOp .eql 27 (.slice (some ⟨b, off, none⟩) l.length cap) (.slice none 0 0)).run Try.prog w = .ok (.bool false) w := fun w => run_eql_slice_nil w 27 3 _ _ _ Try.underlying27
    have hE : Hid (Qe (w.alloc (.cells #[] 3)) (.slice (some ⟨w.heap.size, 0, none⟩) 0 0) []) := .inr ⟨w.heap.size, 0, 0, #[], rfl, heap_alloc_new w _, by simp, by simp [maxLen], by simp, by simp [iv]⟩
    have hU := hide (hQ.out.below (below1 w (.cells #[] 3)))
    clear h1
    generalize hn : l.length = n at *
    replace hn := hide hn
    go_wp2_with (at_builtin; refine wpList_append_qq rfl (.tmp 5) (.tmp 6) rfl _ _ [] l rfl hE.out rfl hU.out (by rw [hn.out]; simp; omega) ?_)
    intro v' w1 hq1 hgr hl
    obtain ⟨a', cap', rfl⟩ := hq1.shape
    replace hq1 := hide hq1
    have hb : Hid (Below w.heap.size w w1) := (below1 w (.cells #[] 3)).trans ⟨hgr.os, hgr.tape, hgr.output, hgr.size, fun k hk => hgr.block k (by rw [World.size_alloc]; omega) (by simp [Value.ownBlock]; omega)⟩
    clear hgr hl hE hU hQ
    go_wp2
    go_ret
    exact ⟨_, rfl, hq1.out, hb.out⟩
theorem List_range (p : Option Addr) (c : Int) (w : World) (hc : c < 0 ∨ 8 ≤ c) : Calls Try.prog 23 #[.pointer p, .int .i64 c] w fun e w' => e = .returned (.slice none 0 0) ∧ w' = w := by
  have hH := hide (has_no c w hc)
  go_enter Try.func23, Try.ntmps23
  go_wp2_with fail
  refine hH.out.mono ?_
  rintro e w' ⟨rfl, rfl⟩
  go_wp2
  go_ret
  exact ⟨rfl, rfl⟩
theorem List_any {w : World} {B g : Nat} {rs : List Rw} (h : Pt w B g rs) (k : Nat) (hk : k < 8) (hl : (rs.getD k Rw.none).l.length ≤ 100000) :
    Calls Try.prog 23 #[.pointer (some ⟨g, 0, none⟩), .int .i64 k] w fun e w' => ∃ v, e = .returned v ∧ Qe w' v (rs.getD k Rw.none).l ∧ Below w.heap.size w w' := by
  have hH := hide (has_yes k w hk)
  obtain ⟨a, cap, hv⟩ := (h.row k hk).shape
  have hc := h.cellV k hk
  have hq := h.row k hk
  rw [hv] at hc hq
  have hC := hide (Clone_any hq hl)
  clear hv h hq hl
  generalize hn : (rs.getD k Rw.none).l.length = n at *
  clear hn
  generalize (rs.getD k Rw.none).l = L at *
  go_enter Try.func23, Try.ntmps23
  go_wp2_with fail
  refine hH.out.mono ?_
  rintro e w' ⟨rfl, rfl⟩
  go_wp2_with fail
  refine hC.out.mono ?_
  rintro e w2 ⟨v, rfl, hq2, hb2⟩
  obtain ⟨a', cap', rfl⟩ := hq2.shape
  replace hq2 := hide hq2
  replace hb2 := hide hb2
  go_wp2
  go_ret
  exact ⟨_, rfl, hq2.out, hb2.out⟩
end Go.Proofs.Ytjfjohbibkidhaa
