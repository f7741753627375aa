/-
  The statement MacPads, walked. Condition: the table lies as the program's text lays it ('Tab').
-/
import Derived.Test.YtiimppbfigikfaaDoorMacF
import Derived.Test.YtiimppbfigikfaaDoorFlat
namespace Go.Proofs.YtiimppbfigikfaaDoor
open Go.RowKit
set_option linter.unusedVariables false

theorem step_make_full {P : Program} (w : World) {ops : Array Oper} {o : Oper} {a : Act} {K : Act → World → Prop} {Q : Exit → Act → World → Prop} {E : Prop}
    (hw : Region.wanted o (yielded ops a.tmps) = true) (l c : Operand) (t : TypeId) (hop : o.op = Op.makeSlice t l c)
    (base : Nat) (e : TypeId) (i : TypeInfo) (z : Value) (size : Nat) (h1 : P.underlying t = some (.slice e)) (h2 : P.info? e = some i) (h3 : i.zero = some z) (h4 : i.size = size)
    (kl kc : IntKind) (L C : Int) (n : Nat) (hl : a.eval l = .int kl L) (hc : a.eval c = .int kc C) (hL : L = (n : Int)) (hC : C = (n : Int)) (b2 : i.bytes * n ≤ 281474976710656) (b3 : n ≤ maxLen) (b4 : base ≤ w.heap.size)
    (hK : ∀ w', w'.ownsRow base e size (.slice (some ⟨w.heap.size, 0, none⟩) n n) n (madeCells z.cells (n * size)).toList → w.grownBy w' none → K (a.put o.dst (.slice (some ⟨w.heap.size, 0, none⟩) n n)) w') :
    if Region.wanted o (yielded ops a.tmps) = true then Oper.wp P o a w K Q else E := by
  rw [if_pos hw]
  obtain ⟨w', hrun, r1, r2⟩ := run_make_full (P := P) w base t e i z size h1 h2 h3 h4 kl kc n b2 b3 b4
  subst hL
  subst hC
  unfold Oper.wp
  simp only [execOp, hop, hl, hc, Sem.run_bind, Sem.run_pure, Result.andThen_ok, hrun]
  exact hK w' r1 r2
/-- A header of a tag, or of none. -/
@[reducible] def padH (tg : Bool) : Hd := ⟨0, 0, 0, 0, 0, 0, 2, 0, 0, 0, 0, 0, tg, 0, false, 0, 2048, false⟩
theorem padH_bytes (tg : Bool) : (padH tg).bytes := ⟨by intro z hz; simp [Hd.dst] at hz; omega, by intro z hz; simp [Hd.src] at hz; omega⟩
theorem padH_check (tg : Bool) (n : Nat) (h : n ≤ 1500) : checkE (padH tg) (List.replicate n 0 : List Int).length = 0 := by
  rw [checkE, if_neg (by simp; omega), if_neg (by cases tg <;> decide), if_neg]
  cases tg <;> simp [typeFitsB]
theorem padH_len (tg : Bool) (n : Nat) : (buildL (padH tg) (List.replicate n 0)).length = max (18 + n + (if tg then 4 else 0)) 64 := by
  unfold buildL
  rw [sealL_length, pad60_length, bodyL_length, tagL_len]
  simp
  omega

set_option maxRecDepth 20000 in
theorem Pads_in (tg : Bool) (n : Nat) (w : World) (hT : Tab w) (hn : n ≤ 1500) :
    Calls Tryd.prog 9 #[.bool tg, .int .i64 n] w fun e w' => e = .returned (.bool true) ∧ Below w.heap.size w w' := by
  have hF := hide (fun w hT => frames_any w hT)
  have HT := hide hT
  have hLen := hide (padH_len tg n)
  have hE := hide (padH_check tg n hn)
  obtain ⟨i0, hi, hz0, hz1, hz2⟩ := info_parts Tryd.infoU8
  have n1 : (n : Int) ≤ 1500 := by omega
  clear hT
  go_enter Tryd.func9, Tryd.ntmps9
  go_wp2_with fail
  refine (hF.out _ HT.out).mono ?_
  rintro e w1 ⟨rfl, hb1⟩
  clear hF
  go_wp2_with ((with_reducible change wpList _ _ _ _ _ _); refine wpList_store_fresh rfl 27 _ _ rfl (padH tg).row Hd.zero.row rfl rfl 27 (hdSize _) rfl (Hd.row_all _) ?_; intro w2 hH2 hb2)
  have hW2 := hide (hb1.later hb2)
  clear hb1 hb2
  refine wp_region_noPanic ?_
  refine wp_region_held_drew (S := fun W => Below w2.heap.size w2 W) (by kernel_rfl) (below_drewN (Below.refl _ _) 1) (fun hHeld => ?_)
  refine wpAnyH_take (i := 1) (oi := { dst := some 22, op := Op.move (Operand.tmp 1), type := 3, pos := "law.go:155", after := #[], guard := none }) (v := ?v1) rfl (by kernel_rfl) (by kernel_rfl) (by kernel_rfl) (fun _ _ _ h => h) (Or.inl ⟨by rfl, ?y1⟩) (by assumption) ?r1
  case y1 => (intro w hSw; (try dsimp only at hSw); (try (go_split_ands)); go_simp; try with_reducible rfl)
  try simp only [Act.put, List.setIfInBounds_toArray, List.set_cons_zero, List.set_cons_succ]
  refine wpAnyH_take (i := 0) (oi := { dst := some 21, op := Op.load 27 (Operand.tmp 5), type := 27, pos := "law.go:155", after := #[], guard := none }) (v := _) rfl (by kernel_rfl) (by kernel_rfl) (by kernel_rfl) (fun _ _ _ h => h) (yieldsIf_load_row rfl 27 _ rfl w1.heap.size rfl 27 _ _ _ (fun W h => heap_kept h hH2) Tryd.underlying27 rfl (hdSize _)) (by assumption) ?_
  try simp only [Act.put, List.setIfInBounds_toArray, List.set_cons_zero, List.set_cons_succ]
  refine wpAnyH_ready (rs := [2]) (by kernel_rfl) (by simp) ?_
  refine AllReadyH.cons (o := { dst := some 23, op := Op.makeSlice 22 (Operand.tmp 22) (Operand.tmp 22), type := 22, pos := "law.go:155", after := #[{ on := 1, ground := Ground.data }, { on := 1, ground := Ground.data }], guard := none }) rfl (fun K hK => ?_) AllReadyH.nil
  refine step_make_full _ rfl _ _ 22 rfl w2.heap.size 5 i0 (.int .u8 0) 1 Tryd.underlying22 hi hz0 hz1 _ _ _ _ n rfl rfl rfl rfl (by rw [hz2]; omega) (by unfold maxLen; omega) (Nat.le_refl _) ?_
  intro w3 hown hgrow
  have hd2 : Below w2.heap.size w2 w2.drew := below_drewN (Below.refl _ _) 1
  have hb3 : Below w2.heap.size w2 w3 := hd2.grown hgrow (Nat.le_refl _) (fun _ e => by cases e)
  have hZ : Bs w3 (.slice (some ⟨w2.heap.size, 0, none⟩) n n) (List.replicate n 0) := by
    have := Bs.own (l := List.replicate n 0) (by
      rw [List.length_replicate, List.map_replicate, ← toList_madeCells_one]
      simpa [Value.cells] using hown) (zero_byte _)
    rwa [List.length_replicate] at this
  clear hown hgrow hd2
  refine hK.out _ _ hb3 (fun hHeld2 => ?_)
  clear hK K
  try simp only [Act.put, List.setIfInBounds_toArray, List.set_cons_zero, List.set_cons_succ]
  refine wpAnyH_ready (rs := [3]) (by kernel_rfl) (by simp) ?_
  refine AllReadyH.cons (o := { dst := some 24, op := Op.call { callee := Callee.value (Operand.func 22), args := #[Operand.tmp 21, Operand.tmp 23], argTypes := #[27, 22] }, type := 36, pos := "law.go:155", after := #[{ on := 0, ground := Ground.data }, { on := 2, ground := Ground.data }], guard := none }) rfl (fun K hK => ?_) AllReadyH.nil
  go_simp
  have hB := Build_ok (padH tg) w3 (padH_bytes tg) (HT.out.later (hW2.out.later hb3)) hZ hE.out
  refine hB.mono ?_
  rintro e w4 ⟨g, m, rfl, hm, _, _, hb4⟩
  rw [hLen.out] at hm
  have Hm := hide hm
  clear hm hB
  go_wp2_with fail
  refine hK.out _ _ ?_ (fun hHeld3 => ?_)
  · exact hb3.later hb4
  clear hK K
  try simp only [Act.put, List.setIfInBounds_toArray, List.set_cons_zero, List.set_cons_succ]
  refine wpAnyH_take (i := 4) (oi := { dst := some 20, op := Op.move (Operand.tmp 24), type := 36, pos := "law.go:155", after := #[{ on := 3, ground := Ground.data }], guard := none }) (v := ?v2) rfl (by kernel_rfl) (by kernel_rfl) (by kernel_rfl) (fun _ _ _ h => h) (Or.inl ⟨by rfl, ?y2⟩) (by assumption) ?r2
  case y2 => (intro w hSw; (try dsimp only at hSw); (try (go_split_ands)); go_simp; try with_reducible rfl)
  try simp only [Act.put, List.setIfInBounds_toArray, List.set_cons_zero, List.set_cons_succ]
  refine wpAnyH_take (i := 5) (oi := { dst := some 25, op := Op.extract (Operand.tmp 20) 0, type := 22, pos := "law.go:155", after := #[{ on := 4, ground := Ground.data }], guard := none }) (v := ?v3) rfl (by kernel_rfl) (by kernel_rfl) (by kernel_rfl) (fun _ _ _ h => h) (Or.inl ⟨by rfl, ?y3⟩) (by assumption) ?r3
  case y3 => (intro w hSw; (try dsimp only at hSw); (try (go_split_ands)); go_simp; try with_reducible rfl)
  try simp only [Act.put, List.setIfInBounds_toArray, List.set_cons_zero, List.set_cons_succ]
  refine wpAnyH_take (i := 6) (oi := { dst := some 26, op := Op.extract (Operand.tmp 20) 1, type := 28, pos := "law.go:155", after := #[{ on := 4, ground := Ground.data }, { on := 7, ground := Ground.gcOnly Departure.lateStores }], guard := none }) (v := ?v4) rfl (by kernel_rfl) (by kernel_rfl) (by kernel_rfl) (fun _ _ _ h => h) (Or.inl ⟨by rfl, ?y4⟩) (by assumption) ?r4
  case y4 => (intro w hSw; (try dsimp only at hSw); (try (go_split_ands)); go_simp; try with_reducible rfl)
  try simp only [Act.put, List.setIfInBounds_toArray, List.set_cons_zero, List.set_cons_succ]
  refine wpAnyH_take (i := 7) (oi := { dst := some 6, op := Op.assign (Operand.tmp 25), type := 22, pos := "law.go:155", after := #[{ on := 5, ground := Ground.data }, { on := 3, ground := Ground.chain }, { on := 0, ground := Ground.phase }, { on := 1, ground := Ground.phase }, { on := 2, ground := Ground.phase }, { on := 3, ground := Ground.phase }, { on := 4, ground := Ground.phase }, { on := 5, ground := Ground.phase }, { on := 6, ground := Ground.textOnly Departure.lateStores }], guard := none }) (v := ?v5) rfl (by kernel_rfl) (by kernel_rfl) (by kernel_rfl) (fun _ _ _ h => h) (Or.inl ⟨by rfl, ?y5⟩) (by assumption) ?r5
  case y5 => (intro w hSw; (try dsimp only at hSw); (try (go_split_ands)); go_simp; try with_reducible rfl)
  try simp only [Act.put, List.setIfInBounds_toArray, List.set_cons_zero, List.set_cons_succ]
  refine wpAnyH_take (i := 8) (oi := { dst := some 7, op := Op.assign (Operand.tmp 26), type := 28, pos := "law.go:155", after := #[{ on := 6, ground := Ground.data }, { on := 7, ground := Ground.chain }, { on := 0, ground := Ground.phase }, { on := 1, ground := Ground.phase }, { on := 2, ground := Ground.phase }, { on := 3, ground := Ground.phase }, { on := 4, ground := Ground.phase }, { on := 5, ground := Ground.phase }, { on := 6, ground := Ground.phase }, { on := 7, ground := Ground.phase }], guard := none }) (v := ?v6) rfl (by kernel_rfl) (by kernel_rfl) (by kernel_rfl) (fun _ _ _ h => h) (Or.inl ⟨by rfl, ?y6⟩) (by assumption) ?r6
  case y6 => (intro w hSw; (try dsimp only at hSw); (try (go_split_ands)); go_simp; try with_reducible rfl)
  try simp only [Act.put, List.setIfInBounds_toArray, List.set_cons_zero, List.set_cons_succ]
  refine wpAnyH_done (by kernel_rfl) ?_ _
  refine NoPanic.normal ?_
  have hfin := hide (hW2.out.later (hb3.later hb4))
  cases tg
  all_goals
    go_wp2
  all_goals
    go_ret
    refine ⟨ret_bool ?_, hfin.out⟩
    have h1 := Hm.out
    simp at h1
    go_light
    clear hH2 hHeld hHeld2
    simp
    omega
theorem Pads_walk (tg : Bool) (n : Int) (w : World) (hT : Tab w) :
    Calls Tryd.prog 9 #[.bool tg, .int .i64 n] w fun e w' => e = .returned (.bool true) ∧ Below w.heap.size w w' := by
  by_cases h0 : n < 0
  · have hF := hide (frames_any w hT)
    go_enter Tryd.func9, Tryd.ntmps9
    go_wp2_with fail
    refine hF.out.mono ?_
    rintro e w1 ⟨rfl, hb1⟩
    go_wp2
    go_ret
    exact ⟨rfl, hb1⟩
  · by_cases h1 : 1500 < n
    · have hF := hide (frames_any w hT)
      go_enter Tryd.func9, Tryd.ntmps9
      go_wp2_with fail
      refine hF.out.mono ?_
      rintro e w1 ⟨rfl, hb1⟩
      go_wp2
      go_ret
      exact ⟨rfl, hb1⟩
    · obtain ⟨n, rfl⟩ := Int.eq_ofNat_of_zero_le (show 0 ≤ n by omega)
      exact Pads_in tg n w hT (by omega)
end Go.Proofs.YtiimppbfigikfaaDoor
