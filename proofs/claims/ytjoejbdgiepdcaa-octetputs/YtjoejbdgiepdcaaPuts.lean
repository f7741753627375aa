/-
  The walk of the statement OctetPuts: whatever the number, the size and the bytes around, it answers true and writes nothing that was there.
-/
import Derived.Test.YtjoejbdgiepdcaaGets
import Derived.Deep.RegionHeld3
import Derived.Outline
namespace Go.Proofs.Ytjoejbdgiepdcaa
open Go.RowKit
set_option linter.unusedVariables false
set_option linter.unusedSimpArgs false

/-- What holds with more kept holds with less. -/
theorem wpAnyH_mono {P : Program} {ops : Array Oper} {Q : Exit → Act → World → Prop} {md : Region.Mode} {S S' : World → Prop} (h : ∀ w, S' w → S w) : ∀ (fuel : Nat) (listed : Array Bool) (a : Act) (w : World), wpAnyH P md ops Q S' fuel listed a w → wpAnyH P md ops Q S fuel listed a w
  | 0, _, _, _, hw => hw
  | fuel + 1, _, _, _, hw => ⟨hw.1, fun i hi => wpOp_mono (fun a' w' h' => ⟨h _ h'.1, wpAnyH_mono h fuel _ a' w' h'.2⟩) (hw.2 i hi)⟩

theorem Bs.place {w : World} {a : Option Addr} {len cap : Nat} {l : List Int} (h : Bs w (.slice a len cap) l) (hl : l.length = len) (h0 : 0 < len) :
    ∃ b off, a = some ⟨b, off, none⟩ ∧ ∀ i, i < len → w.cell? ⟨b, off + i, none⟩ = some (.int .u8 (l.getD i 0)) := by
  rcases h.cases with ⟨rfl, _⟩ | ⟨b, off, cap', e, _, _, _, hc⟩
  · simp at hl; omega
  · simp only [Value.slice.injEq] at e
    exact ⟨b, off, e.1, by rw [← hl]; exact hc⟩
theorem len3 (l d : List Int) : ([l, d, l].flatten).length = l.length + (d.length + l.length) := by simp
/-- The number between what stands around is had back. -/
theorem puts_back (l : List Int) (n : Int) (k : Nat) (h0 : 0 ≤ n) (hn : n < 256 ^ k) : num (([l, digs n k, l].flatten.drop l.length).take k) = n := by
  have e : ([l, digs n k, l].flatten.drop l.length).take k = digs n k := by
    simp only [List.flatten_cons, List.flatten_nil, List.append_nil]
    rw [List.drop_left]
    have := digs_length n k
    rw [List.take_append_of_le_length (by omega), List.take_of_length_le (by omega)]
  rw [e, num_digs n k h0 hn]

set_option maxRecDepth 100000 in
set_option maxHeartbeats 4000000 in
theorem Puts_walk {v : Value} {l : List Int} {w : World} (hv : Bs w v l) (n k : Int) (h0 : 0 ≤ n) (hn : n < 18446744073709551616) (hk1 : -9223372036854775808 ≤ k) (hk2 : k ≤ 9223372036854775807) (hm : l.length ≤ maxLen) :
    Calls Try.prog 3 #[.int .u64 n, .int .i64 k, v] w fun e w' => e = .returned (.bool true) ∧ Below w.heap.size w w' := by
  have HV := hide hv
  obtain ⟨_, ad, cap, rfl, _⟩ := hv
  unfold maxLen at hm
  by_cases h2 : 200 < l.length
  · go_enter Try.func3, Try.ntmps3
    go_wp2_with fail
    refine (lays_any w).mono ?_
    rintro e w1 ⟨rfl, hb1⟩
    go_wp2
    go_ret
    exact ⟨rfl, hb1⟩
  · by_cases hr : k < 1 ∨ 8 < k
    · rcases (show k < 1 ∨ (1 ≤ k ∧ 8 < k) from by omega) with hc | ⟨hc, hc'⟩
      all_goals
        have HR := hide hr
        clear hr
        go_enter Try.func3, Try.ntmps3
        go_wp2_with fail
        refine (lays_any w).mono ?_
        rintro e w1 ⟨rfl, hb1⟩
        go_wp2_with fail
        refine (Put_range _ _ _ HR.out).mono ?_
        rintro e w1' ⟨rfl, rfl⟩
        go_wp2
        go_ret
        exact ⟨rfl, hb1⟩
    · obtain ⟨k, rfl⟩ := Int.eq_ofNat_of_zero_le (show 0 ≤ k by omega)
      have h1 : 1 ≤ k := by omega
      have h8 : k ≤ 8 := by omega
      clear hr
      generalize hlen : l.length = len at *
      have HL := hide hlen
      clear hlen
      by_cases hf : n < 256 ^ k
      · have hfb : (n / 256 ^ k == 0) = true := by rw [beq_iff_eq]; exact (div_zero_iff n k h0).2 hf
        have HF := hide hf
        clear hf
        go_enter Try.func3, Try.ntmps3
        go_wp2_with fail
        refine (lays_any w).mono ?_
        rintro e w1 ⟨rfl, hb1⟩
        have hv1 := HV.out.below hb1
        go_wp2_with fail
        refine (Put_fits n k _ h0 h1 h8 HF.out).mono ?_
        rintro e w2 ⟨rfl, hB2, hb2⟩
        have hW2 := hb1.trans (hb2.mono hb1.size)
        have hv2 := hv1.below hb2
        generalize hg : w1.heap.size = g at *
        clear hg hb1 hb2 hv1
        go_wp2_with fail
        refine (Digits_any n k _ h0 hn h1 h8).mono ?_
        rintro e w3 ⟨rfl, hB3, hb3⟩
        have hD3 := hB2.below hb3
        have hv3 := hv2.below hb3
        have hW3 := hW2.trans (hb3.mono hW2.size)
        generalize hg : w2.heap.size = g2 at *
        clear hg hW2 hv2 hB2 hb3
        obtain ⟨S, hS⟩ : ∃ S, S = bstr (digs n k) := ⟨_, rfl⟩
        have q1 : (convert 23 9 (.slice (some ⟨g, 0, none⟩) k k)).run Try.prog w3 = .ok (.string S) w3 := by rw [hS]; exact conv_str 23 9 5 Try.underlying23 Try.underlying5 Try.underlying9 hD3
        have q2 : (convert 23 9 (.slice (some ⟨g2, 0, none⟩) k k)).run Try.prog w3 = .ok (.string S) w3 := by rw [hS]; exact conv_str 23 9 5 Try.underlying23 Try.underlying5 Try.underlying9 hB3
        have hself : (S.toList != S.toList) = false := by simp
        obtain ⟨S2, hS2⟩ : ∃ S2, S2 = bstr (digs n k) := ⟨_, rfl⟩
        have hself2 : (S2.toList == S.toList) = true := by rw [hS, hS2]; simp
        have HS2 := hide hS2
        clear hS2
        have HS := hide hS
        have HD := hide hD3
        have HV3 := hide hv3
        have HW := hide hW3
        clear hS hD3 hv3 hW3 hB3
        go_wp2_with fail
        have hjb := BBs.lit (w := w3) [.slice ad len cap, .slice (some ⟨g, 0, none⟩) k k, .slice ad len cap] [l, digs n k, l] rfl (by simp [maxLen]) (fun i hi => match i, hi with
          | 0, _ => HV3.out
          | 1, _ => HD.out
          | 2, _ => HV3.out)
        have hflat := len3 l (digs n k)
        rw [HL.out, digs_length] at hflat
        have HFL := hide hflat
        clear hflat
        refine (Join_any hjb (by simp) (by rw [HFL.out]; omega)).mono ?_
        rintro e w4 ⟨rfl, hJ4, hb4⟩
        simp only [World.size_alloc] at hJ4 ⊢
        have hb4' : Below w3.heap.size w3 w4 := ((Below.refl _ _).alloc (Nat.le_refl _) _).trans (hb4.mono (by simp))
        have HD4 := hide (HD.out.below hb4')
        have HW4 := hide (HW.out.trans (hb4'.mono HW.out.size))
        rw [HFL.out] at hJ4 ⊢
        have HJ4 := hide hJ4
        clear hjb hb4 hb4' HV3 HD HW q1 q2 hJ4
        go_wp2_with fail
        refine (Get_ok HJ4.out _ _ (by omega) (by omega) (by omega) (by rw [HFL.out]; omega) (by rw [HFL.out]; omega)).mono ?_
        rintro e w4' ⟨rfl, rfl⟩
        have hback := puts_back l n k h0 HF.out
        rw [HL.out] at hback
        rw [Int.toNat_natCast, Int.toNat_natCast, hback]
        clear hback
        go_wp2_with fail
        obtain ⟨z, hz⟩ : ∃ z, z = (digs n k).getD (k - 1) 0 := ⟨_, rfl⟩
        have hT1 : Hid (∀ W, Below w4'.heap.size w4' W → Calls Try.prog 13 #[(.slice (some ⟨g, 0, none⟩) k k)] W fun e W' => e = .returned (.slice (some ⟨W.heap.size, 0, none⟩) k k) ∧ Bs W' (.slice (some ⟨W.heap.size, 0, none⟩) k k) (digs n k).reverse ∧ Below w4'.heap.size w4' W' ∧ Below W.heap.size W W') := fun W hW => by
          have := Turn_any (HD4.out.below hW) (by rw [digs_length]; omega)
          rw [digs_length] at this
          refine this.mono ?_
          rintro e W' ⟨rfl, h1, h2⟩
          exact ⟨rfl, h1, hW.trans (h2.mono hW.size), h2⟩
        have hT2 : Hid (∀ W v, Bs W v (digs n k).reverse → Below w4'.heap.size w4' W → Calls Try.prog 13 #[v] W fun e W' => e = .returned (.slice (some ⟨W.heap.size, 0, none⟩) k k) ∧ Bs W' (.slice (some ⟨W.heap.size, 0, none⟩) k k) (digs n k) ∧ Below w4'.heap.size w4' W') := fun W v hv hW => by
          have := Turn_any hv (by rw [List.length_reverse, digs_length]; omega)
          rw [List.length_reverse, digs_length, List.reverse_reverse] at this
          refine this.mono ?_
          rintro e W' ⟨rfl, h1, h2⟩
          exact ⟨rfl, h1, hW.trans (h2.mono hW.size)⟩
        have hrev : Hid ((digs n k).reverse.getD 0 0 = z) := by
          show _ = z
          rw [hz, List.getD_eq_getElem?_getD, List.getD_eq_getElem?_getD, List.getElem?_reverse (by rw [digs_length]; omega), digs_length]
          simp
        have keepS : Hid (∀ W, Below w4'.heap.size w4' W → (Below w4'.heap.size w4' W ∧ (convert 23 9 (.slice (some ⟨g, 0, none⟩) k k)).run Try.prog W = .ok (.string S) W ∧ W.cell? ⟨g, k - 1, none⟩ = some (.int .u8 z))) := fun W hW => by
          refine ⟨hW, by rw [HS.out]; exact conv_str 23 9 5 Try.underlying23 Try.underlying5 Try.underlying9 (HD4.out.below hW), ?_⟩
          rw [hz]
          obtain ⟨b, off, e, hc⟩ := Bs.place (HD4.out.below hW) (digs_length n k) (by omega)
          cases e
          have := hc (k - 1) (by omega)
          rwa [Nat.zero_add] at this
        have hd0 : Hid (Below w4'.heap.size w4' w4'.drew) := (Below.refl _ _).drew
        clear hz
        refine wp_region_noPanic ?_
        refine wp_region_held_drew (S := (fun W => Below w4'.heap.size w4' W ∧ (convert 23 9 (.slice (some ⟨g, 0, none⟩) k k)).run Try.prog W = .ok (.string S) W ∧ W.cell? ⟨g, k - 1, none⟩ = some (.int .u8 z))) (by kernel_rfl) ?_ (fun hHeld => ?_)
        · exact keepS.out _ hd0.out
        refine wpAnyH_take (i := 0) (oi := { dst := some 75, op := Op.move (Operand.tmp 13), type := 25, pos := "law.go:44", after := #[], guard := none }) (v := ?v0) rfl (by kernel_rfl) (by kernel_rfl) (by kernel_rfl) (fun _ _ _ h => h) (Or.inl ⟨by rfl, ?y0⟩) (by assumption) ?r0
        case y0 => (intro w hSw; (try dsimp only at hSw); go_simp; try with_reducible rfl)
        try simp only [Act.put, List.setIfInBounds_toArray, List.set_cons_zero, List.set_cons_succ]
        refine wpAnyH_take (i := 1) (oi := { dst := some 76, op := Op.binOp BinOp.eql 25 (Operand.tmp 75) (Operand.const (Value.int IntKind.i64 0)) 25, type := 4, pos := "law.go:44", after := #[{ on := 0, ground := Ground.data }], guard := none }) (v := ?v1) rfl (by kernel_rfl) (by kernel_rfl) (by kernel_rfl) (fun _ _ _ h => h) (Or.inl ⟨by rfl, ?y1⟩) (by assumption) ?r1
        case y1 => (intro w hSw; (try dsimp only at hSw); go_simp; try with_reducible rfl)
        try simp only [Act.put, List.setIfInBounds_toArray, List.set_cons_zero, List.set_cons_succ]
        refine wpAnyH_take (i := 2) (oi := { dst := some 77, op := Op.move (Operand.tmp 76), type := 4, pos := "law.go:44", after := #[{ on := 1, ground := Ground.data }], guard := none }) (v := ?v2) rfl (by kernel_rfl) (by kernel_rfl) (by kernel_rfl) (fun _ _ _ h => h) (Or.inl ⟨by rfl, ?y2⟩) (by assumption) ?r2
        case y2 => (intro w hSw; (try dsimp only at hSw); go_simp; try with_reducible rfl)
        try simp only [Act.put, List.setIfInBounds_toArray, List.set_cons_zero, List.set_cons_succ]
        refine wpAnyH_take (i := 3) (oi := { dst := some 78, op := Op.move (Operand.tmp 12), type := 22, pos := "law.go:44", after := #[{ on := 2, ground := Ground.guard }], guard := some (2, true) }) (v := ?v3) rfl (by kernel_rfl) (by kernel_rfl) (by kernel_rfl) (fun _ _ _ h => h) (Or.inl ⟨by rfl, ?y3⟩) (by assumption) ?r3
        case y3 => (intro w hSw; (try dsimp only at hSw); go_simp; try with_reducible rfl)
        try simp only [Act.put, List.setIfInBounds_toArray, List.set_cons_zero, List.set_cons_succ]
        refine wpAnyH_take (i := 4) (oi := { dst := some 79, op := Op.move (Operand.tmp 0), type := 22, pos := "law.go:44", after := #[{ on := 2, ground := Ground.guard }], guard := some (2, true) }) (v := ?v4) rfl (by kernel_rfl) (by kernel_rfl) (by kernel_rfl) (fun _ _ _ h => h) (Or.inl ⟨by rfl, ?y4⟩) (by assumption) ?r4
        case y4 => (intro w hSw; (try dsimp only at hSw); go_simp; try with_reducible rfl)
        try simp only [Act.put, List.setIfInBounds_toArray, List.set_cons_zero, List.set_cons_succ]
        refine wpAnyH_take (i := 5) (oi := { dst := some 80, op := Op.binOp BinOp.eql 22 (Operand.tmp 78) (Operand.tmp 79) 22, type := 4, pos := "law.go:44", after := #[{ on := 3, ground := Ground.data }, { on := 4, ground := Ground.data }, { on := 2, ground := Ground.guard }], guard := some (2, true) }) (v := ?v5) rfl (by kernel_rfl) (by kernel_rfl) (by kernel_rfl) (fun _ _ _ h => h) (Or.inl ⟨by rfl, ?y5⟩) (by assumption) ?r5
        case y5 => (intro w hSw; (try dsimp only at hSw); go_simp; try with_reducible rfl)
        try simp only [Act.put, List.setIfInBounds_toArray, List.set_cons_zero, List.set_cons_succ]
        refine wpAnyH_take (i := 6) (oi := { dst := some 81, op := Op.pick (Operand.tmp 77) (Operand.tmp 80) (Operand.const (Value.bool false)), type := 4, pos := "law.go:44", after := #[{ on := 2, ground := Ground.data }, { on := 5, ground := Ground.data }], guard := none }) (v := ?v6) rfl (by kernel_rfl) (by kernel_rfl) (by kernel_rfl) (fun _ _ _ h => h) (Or.inl ⟨by rfl, ?y6⟩) (by assumption) ?r6
        case y6 => (intro w hSw; (try dsimp only at hSw); go_simp; try with_reducible rfl)
        try simp only [Act.put, List.setIfInBounds_toArray, List.set_cons_zero, List.set_cons_succ]
        refine wpAnyH_take (i := 7) (oi := { dst := some 82, op := Op.move (Operand.tmp 81), type := 4, pos := "law.go:44", after := #[{ on := 6, ground := Ground.data }, { on := 2, ground := Ground.chain }], guard := none }) (v := ?v7) rfl (by kernel_rfl) (by kernel_rfl) (by kernel_rfl) (fun _ _ _ h => h) (Or.inl ⟨by rfl, ?y7⟩) (by assumption) ?r7
        case y7 => (intro w hSw; (try dsimp only at hSw); go_simp; try with_reducible rfl)
        try simp only [Act.put, List.setIfInBounds_toArray, List.set_cons_zero, List.set_cons_succ]
        refine wpAnyH_take (i := 8) (oi := { dst := some 83, op := Op.move (Operand.tmp 7), type := 23, pos := "law.go:44", after := #[{ on := 7, ground := Ground.guard }], guard := some (7, true) }) (v := ?v8) rfl (by kernel_rfl) (by kernel_rfl) (by kernel_rfl) (fun _ _ _ h => h) (Or.inl ⟨by rfl, ?y8⟩) (by assumption) ?r8
        case y8 => (intro w hSw; (try dsimp only at hSw); go_simp; try with_reducible rfl)
        try simp only [Act.put, List.setIfInBounds_toArray, List.set_cons_zero, List.set_cons_succ]
        refine wpAnyH_take (i := 12) (oi := { dst := some 87, op := Op.move (Operand.tmp 7), type := 23, pos := "law.go:44", after := #[{ on := 7, ground := Ground.guard }], guard := some (7, true) }) (v := ?v12) rfl (by kernel_rfl) (by kernel_rfl) (by kernel_rfl) (fun _ _ _ h => h) (Or.inl ⟨by rfl, ?y12⟩) (by assumption) ?r12
        case y12 => (intro w hSw; (try dsimp only at hSw); go_simp; try with_reducible rfl)
        try simp only [Act.put, List.setIfInBounds_toArray, List.set_cons_zero, List.set_cons_succ]
        refine wpAnyH_take (i := 13) (oi := { dst := some 88, op := Op.convert 23 9 (Operand.tmp 87), type := 9, pos := "law.go:44", after := #[{ on := 12, ground := Ground.data }, { on := 7, ground := Ground.guard }], guard := some (7, true) }) (v := ?v13) rfl (by kernel_rfl) (by kernel_rfl) (by kernel_rfl) (fun _ _ _ h => h) (Or.inl ⟨by rfl, ?y13⟩) (by assumption) ?r13
        case y13 => (intro w hSw; (try dsimp only at hSw); go_simp; try with_reducible rfl)
        try simp only [Act.put, List.setIfInBounds_toArray, List.set_cons_zero, List.set_cons_succ]
        refine wpAnyH_ready (rs := [9]) (by kernel_rfl) (by simp) ?_
        refine AllReadyH.cons (o := { dst := some 84, op := Op.call { callee := Callee.value (Operand.func 13), args := #[Operand.tmp 83], argTypes := #[23] }, type := 23, pos := "law.go:44", after := #[{ on := 8, ground := Ground.data }, { on := 7, ground := Ground.chain }, { on := 7, ground := Ground.guard }], guard := some (7, true) }) rfl (fun K hK => ?_) AllReadyH.nil
        go_simp
        refine (hT1.out _ hd0.out).mono ?_
        rintro e wa ⟨rfl, hBa, hba, _⟩
        go_wp2_with fail
        refine hK.out _ _ ?_ (fun hHeld9 => ?_)
        · exact keepS.out _ hba
        clear hK K
        try simp only [Act.put, List.setIfInBounds_toArray, List.set_cons_zero, List.set_cons_succ]
        refine wpAnyH_ready (rs := [10]) (by kernel_rfl) (by simp) ?_
        refine AllReadyH.cons (o := { dst := some 85, op := Op.call { callee := Callee.value (Operand.func 13), args := #[Operand.tmp 84], argTypes := #[23] }, type := 23, pos := "law.go:44", after := #[{ on := 9, ground := Ground.data }, { on := 9, ground := Ground.chain }, { on := 7, ground := Ground.guard }], guard := some (7, true) }) rfl (fun K hK => ?_) AllReadyH.nil
        go_simp
        refine (hT2.out _ _ hBa hba).mono ?_
        rintro e wb ⟨rfl, hBb, hbb⟩
        go_wp2_with fail
        refine hK.out _ _ ?_ (fun hHeld10 => ?_)
        · exact keepS.out _ hbb
        clear hK K
        try simp only [Act.put, List.setIfInBounds_toArray, List.set_cons_zero, List.set_cons_succ]
        refine wpAnyH_mono (S' := (fun W => (Below w4'.heap.size w4' W ∧ (convert 23 9 (.slice (some ⟨g, 0, none⟩) k k)).run Try.prog W = .ok (.string S) W ∧ W.cell? ⟨g, k - 1, none⟩ = some (.int .u8 z)) ∧ (convert 23 9 (.slice (some ⟨wa.heap.size, 0, none⟩) k k)).run Try.prog W = .ok (.string S2) W)) (fun W h => h.1) _ _ _ _ ?_
        have hcb : Hid (∀ W, Below wb.heap.size wb W → (convert 23 9 (.slice (some ⟨wa.heap.size, 0, none⟩) k k)).run Try.prog W = .ok (.string S2) W) := fun W hW => by
          rw [HS2.out]; exact conv_str 23 9 5 Try.underlying23 Try.underlying5 Try.underlying9 (hBb.below hW)
        have hH1 : (fun W => (Below w4'.heap.size w4' W ∧ (convert 23 9 (.slice (some ⟨g, 0, none⟩) k k)).run Try.prog W = .ok (.string S) W ∧ W.cell? ⟨g, k - 1, none⟩ = some (.int .u8 z)) ∧ (convert 23 9 (.slice (some ⟨wa.heap.size, 0, none⟩) k k)).run Try.prog W = .ok (.string S2) W) wb := ⟨hHeld10, hcb.out _ (Below.refl _ _)⟩
        refine wpAnyH_take (i := 11) (oi := { dst := some 86, op := Op.convert 23 9 (Operand.tmp 85), type := 9, pos := "law.go:44", after := #[{ on := 10, ground := Ground.data }, { on := 7, ground := Ground.guard }], guard := some (7, true) }) (v := ?v11) rfl (by kernel_rfl) (by kernel_rfl) (by kernel_rfl) (fun _ _ _ h => h) (Or.inl ⟨by rfl, ?y11⟩) hH1 ?r11
        case y11 => (intro w hSw; (try dsimp only at hSw); go_simp; try with_reducible rfl)
        try simp only [Act.put, List.setIfInBounds_toArray, List.set_cons_zero, List.set_cons_succ]
        refine wpAnyH_take (i := 14) (oi := { dst := some 89, op := Op.binOp BinOp.eql 9 (Operand.tmp 86) (Operand.tmp 88) 9, type := 4, pos := "law.go:44", after := #[{ on := 11, ground := Ground.data }, { on := 13, ground := Ground.data }, { on := 7, ground := Ground.guard }], guard := some (7, true) }) (v := ?v14) rfl (by kernel_rfl) (by kernel_rfl) (by kernel_rfl) (fun _ _ _ h => h) (Or.inl ⟨by rfl, ?y14⟩) hH1 ?r14
        case y14 => (intro w hSw; (try dsimp only at hSw); go_simp; try with_reducible rfl)
        try simp only [Act.put, List.setIfInBounds_toArray, List.set_cons_zero, List.set_cons_succ]
        refine wpAnyH_take (i := 15) (oi := { dst := some 90, op := Op.pick (Operand.tmp 82) (Operand.tmp 89) (Operand.const (Value.bool false)), type := 4, pos := "law.go:44", after := #[{ on := 7, ground := Ground.data }, { on := 14, ground := Ground.data }], guard := none }) (v := ?v15) rfl (by kernel_rfl) (by kernel_rfl) (by kernel_rfl) (fun _ _ _ h => h) (Or.inl ⟨by rfl, ?y15⟩) hH1 ?r15
        case y15 => (intro w hSw; (try dsimp only at hSw); go_simp; try with_reducible rfl)
        try simp only [Act.put, List.setIfInBounds_toArray, List.set_cons_zero, List.set_cons_succ]
        refine wpAnyH_take (i := 16) (oi := { dst := some 91, op := Op.move (Operand.tmp 90), type := 4, pos := "law.go:44", after := #[{ on := 15, ground := Ground.data }, { on := 10, ground := Ground.chain }], guard := none }) (v := ?v16) rfl (by kernel_rfl) (by kernel_rfl) (by kernel_rfl) (fun _ _ _ h => h) (Or.inl ⟨by rfl, ?y16⟩) hH1 ?r16
        case y16 => (intro w hSw; (try dsimp only at hSw); go_simp; try with_reducible rfl)
        try simp only [Act.put, List.setIfInBounds_toArray, List.set_cons_zero, List.set_cons_succ]
        refine wpAnyH_take (i := 17) (oi := { dst := some 92, op := Op.move (Operand.tmp 1), type := 3, pos := "law.go:44", after := #[{ on := 16, ground := Ground.guard }], guard := some (16, true) }) (v := ?v17) rfl (by kernel_rfl) (by kernel_rfl) (by kernel_rfl) (fun _ _ _ h => h) (Or.inl ⟨by rfl, ?y17⟩) hH1 ?r17
        case y17 => (intro w hSw; (try dsimp only at hSw); go_simp; try with_reducible rfl)
        try simp only [Act.put, List.setIfInBounds_toArray, List.set_cons_zero, List.set_cons_succ]
        by_cases hk2 : (k : Int) < 2
        · refine wpAnyH_take (i := 18) (oi := { dst := some 93, op := Op.binOp BinOp.lss 3 (Operand.tmp 92) (Operand.const (Value.int IntKind.i64 2)) 3, type := 4, pos := "law.go:44", after := #[{ on := 17, ground := Ground.data }, { on := 16, ground := Ground.guard }], guard := some (16, true) }) (v := ?v18) rfl (by kernel_rfl) (by kernel_rfl) (by kernel_rfl) (fun _ _ _ h => h) (Or.inl ⟨by rfl, ?y18⟩) hH1 ?r18
          case y18 => (intro w hSw; (try dsimp only at hSw); go_simp; try with_reducible rfl)
          try simp only [Act.put, List.setIfInBounds_toArray, List.set_cons_zero, List.set_cons_succ]
          refine wpAnyH_take (i := 19) (oi := { dst := some 94, op := Op.move (Operand.tmp 93), type := 4, pos := "law.go:44", after := #[{ on := 18, ground := Ground.data }, { on := 16, ground := Ground.chain }, { on := 16, ground := Ground.guard }], guard := some (16, true) }) (v := ?v19) rfl (by kernel_rfl) (by kernel_rfl) (by kernel_rfl) (fun _ _ _ h => h) (Or.inl ⟨by rfl, ?y19⟩) hH1 ?r19
          case y19 => (intro w hSw; (try dsimp only at hSw); go_simp; try with_reducible rfl)
          try simp only [Act.put, List.setIfInBounds_toArray, List.set_cons_zero, List.set_cons_succ]
          refine wpAnyH_take (i := 20) (oi := { dst := some 95, op := Op.move (Operand.tmp 7), type := 23, pos := "law.go:44", after := #[{ on := 19, ground := Ground.guard }], guard := some (19, false) }) (v := undef) rfl (by kernel_rfl) (by kernel_rfl) (by kernel_rfl) (fun _ _ _ h => h) (Or.inr ⟨by rfl, rfl⟩) hH1 ?_
          try simp only [Act.put, List.setIfInBounds_toArray, List.set_cons_zero, List.set_cons_succ]
          refine wpAnyH_take (i := 21) (oi := { dst := some 96, op := Op.call { callee := Callee.value (Operand.func 13), args := #[Operand.tmp 95], argTypes := #[23] }, type := 23, pos := "law.go:44", after := #[{ on := 20, ground := Ground.data }, { on := 19, ground := Ground.chain }, { on := 19, ground := Ground.guard }], guard := some (19, false) }) (v := undef) rfl (by kernel_rfl) (by kernel_rfl) (by kernel_rfl) (fun _ _ _ h => h) (Or.inr ⟨by rfl, rfl⟩) hH1 ?_
          try simp only [Act.put, List.setIfInBounds_toArray, List.set_cons_zero, List.set_cons_succ]
          refine wpAnyH_take (i := 22) (oi := { dst := some 97, op := Op.indexAddr 23 (Operand.tmp 96) (Operand.const (Value.int IntKind.i64 0)), type := 0, pos := "law.go:44", after := #[{ on := 21, ground := Ground.data }, { on := 19, ground := Ground.guard }], guard := some (19, false) }) (v := undef) rfl (by kernel_rfl) (by kernel_rfl) (by kernel_rfl) (fun _ _ _ h => h) (Or.inr ⟨by rfl, rfl⟩) hH1 ?_
          try simp only [Act.put, List.setIfInBounds_toArray, List.set_cons_zero, List.set_cons_succ]
          refine wpAnyH_take (i := 23) (oi := { dst := some 98, op := Op.load 5 (Operand.tmp 97), type := 5, pos := "law.go:44", after := #[{ on := 22, ground := Ground.data }, { on := 19, ground := Ground.guard }], guard := some (19, false) }) (v := undef) rfl (by kernel_rfl) (by kernel_rfl) (by kernel_rfl) (fun _ _ _ h => h) (Or.inr ⟨by rfl, rfl⟩) hH1 ?_
          try simp only [Act.put, List.setIfInBounds_toArray, List.set_cons_zero, List.set_cons_succ]
          refine wpAnyH_take (i := 24) (oi := { dst := some 99, op := Op.move (Operand.tmp 7), type := 23, pos := "law.go:44", after := #[{ on := 19, ground := Ground.guard }], guard := some (19, false) }) (v := undef) rfl (by kernel_rfl) (by kernel_rfl) (by kernel_rfl) (fun _ _ _ h => h) (Or.inr ⟨by rfl, rfl⟩) hH1 ?_
          try simp only [Act.put, List.setIfInBounds_toArray, List.set_cons_zero, List.set_cons_succ]
          refine wpAnyH_take (i := 25) (oi := { dst := some 100, op := Op.move (Operand.tmp 1), type := 3, pos := "law.go:44", after := #[{ on := 19, ground := Ground.guard }], guard := some (19, false) }) (v := undef) rfl (by kernel_rfl) (by kernel_rfl) (by kernel_rfl) (fun _ _ _ h => h) (Or.inr ⟨by rfl, rfl⟩) hH1 ?_
          try simp only [Act.put, List.setIfInBounds_toArray, List.set_cons_zero, List.set_cons_succ]
          refine wpAnyH_take (i := 26) (oi := { dst := some 101, op := Op.binOp BinOp.sub 3 (Operand.tmp 100) (Operand.const (Value.int IntKind.i64 1)) 3, type := 3, pos := "law.go:44", after := #[{ on := 25, ground := Ground.data }, { on := 19, ground := Ground.guard }], guard := some (19, false) }) (v := undef) rfl (by kernel_rfl) (by kernel_rfl) (by kernel_rfl) (fun _ _ _ h => h) (Or.inr ⟨by rfl, rfl⟩) hH1 ?_
          try simp only [Act.put, List.setIfInBounds_toArray, List.set_cons_zero, List.set_cons_succ]
          refine wpAnyH_take (i := 27) (oi := { dst := some 102, op := Op.indexAddr 23 (Operand.tmp 99) (Operand.tmp 101), type := 0, pos := "law.go:44", after := #[{ on := 24, ground := Ground.data }, { on := 26, ground := Ground.data }, { on := 19, ground := Ground.guard }], guard := some (19, false) }) (v := undef) rfl (by kernel_rfl) (by kernel_rfl) (by kernel_rfl) (fun _ _ _ h => h) (Or.inr ⟨by rfl, rfl⟩) hH1 ?_
          try simp only [Act.put, List.setIfInBounds_toArray, List.set_cons_zero, List.set_cons_succ]
          refine wpAnyH_take (i := 28) (oi := { dst := some 103, op := Op.load 5 (Operand.tmp 102), type := 5, pos := "law.go:44", after := #[{ on := 27, ground := Ground.data }, { on := 19, ground := Ground.guard }], guard := some (19, false) }) (v := undef) rfl (by kernel_rfl) (by kernel_rfl) (by kernel_rfl) (fun _ _ _ h => h) (Or.inr ⟨by rfl, rfl⟩) hH1 ?_
          try simp only [Act.put, List.setIfInBounds_toArray, List.set_cons_zero, List.set_cons_succ]
          refine wpAnyH_take (i := 29) (oi := { dst := some 104, op := Op.binOp BinOp.eql 5 (Operand.tmp 98) (Operand.tmp 103) 5, type := 4, pos := "law.go:44", after := #[{ on := 23, ground := Ground.data }, { on := 28, ground := Ground.data }, { on := 19, ground := Ground.guard }], guard := some (19, false) }) (v := undef) rfl (by kernel_rfl) (by kernel_rfl) (by kernel_rfl) (fun _ _ _ h => h) (Or.inr ⟨by rfl, rfl⟩) hH1 ?_
          try simp only [Act.put, List.setIfInBounds_toArray, List.set_cons_zero, List.set_cons_succ]
          refine wpAnyH_take (i := 30) (oi := { dst := some 105, op := Op.pick (Operand.tmp 94) (Operand.const (Value.bool true)) (Operand.tmp 104), type := 4, pos := "law.go:44", after := #[{ on := 19, ground := Ground.data }, { on := 29, ground := Ground.data }, { on := 16, ground := Ground.guard }], guard := some (16, true) }) (v := ?v30) rfl (by kernel_rfl) (by kernel_rfl) (by kernel_rfl) (fun _ _ _ h => h) (Or.inl ⟨by rfl, ?y30⟩) hH1 ?r30
          case y30 => (intro w hSw; (try dsimp only at hSw); go_simp; try with_reducible rfl)
          try simp only [Act.put, List.setIfInBounds_toArray, List.set_cons_zero, List.set_cons_succ]
          refine wpAnyH_take (i := 31) (oi := { dst := some 106, op := Op.pick (Operand.tmp 91) (Operand.tmp 105) (Operand.const (Value.bool false)), type := 4, pos := "law.go:44", after := #[{ on := 16, ground := Ground.data }, { on := 30, ground := Ground.data }], guard := none }) (v := ?v31) rfl (by kernel_rfl) (by kernel_rfl) (by kernel_rfl) (fun _ _ _ h => h) (Or.inl ⟨by rfl, ?y31⟩) hH1 ?r31
          case y31 => (intro w hSw; (try dsimp only at hSw); go_simp; try with_reducible rfl)
          try simp only [Act.put, List.setIfInBounds_toArray, List.set_cons_zero, List.set_cons_succ]
          refine wpAnyH_take (i := 32) (oi := { dst := some 6, op := Op.assign (Operand.tmp 106), type := 4, pos := "law.go:44", after := #[{ on := 31, ground := Ground.data }, { on := 21, ground := Ground.chain }, { on := 0, ground := Ground.phase }, { on := 1, ground := Ground.phase }, { on := 2, ground := Ground.phase }, { on := 3, ground := Ground.phase }, { on := 4, ground := Ground.phase }, { on := 5, ground := Ground.phase }, { on := 6, ground := Ground.phase }, { on := 7, ground := Ground.phase }, { on := 8, ground := Ground.phase }, { on := 9, ground := Ground.phase }, { on := 10, ground := Ground.phase }, { on := 11, ground := Ground.phase }, { on := 12, ground := Ground.phase }, { on := 13, ground := Ground.phase }, { on := 14, ground := Ground.phase }, { on := 15, ground := Ground.phase }, { on := 16, ground := Ground.phase }, { on := 17, ground := Ground.phase }, { on := 18, ground := Ground.phase }, { on := 19, ground := Ground.phase }, { on := 20, ground := Ground.phase }, { on := 21, ground := Ground.phase }, { on := 22, ground := Ground.phase }, { on := 23, ground := Ground.phase }, { on := 24, ground := Ground.phase }, { on := 25, ground := Ground.phase }, { on := 26, ground := Ground.phase }, { on := 27, ground := Ground.phase }, { on := 28, ground := Ground.phase }, { on := 29, ground := Ground.phase }, { on := 30, ground := Ground.phase }, { on := 31, ground := Ground.phase }], guard := none }) (v := ?v32) rfl (by kernel_rfl) (by kernel_rfl) (by kernel_rfl) (fun _ _ _ h => h) (Or.inl ⟨by rfl, ?y32⟩) hH1 ?r32
          case y32 => (intro w hSw; (try dsimp only at hSw); go_simp; try with_reducible rfl)
          try simp only [Act.put, List.setIfInBounds_toArray, List.set_cons_zero, List.set_cons_succ]
          refine wpAnyH_done (by kernel_rfl) ?_ _
          refine NoPanic.normal ?_
          go_wp2
          go_ret
          exact ⟨rfl, HW4.out.trans (hbb.mono HW4.out.size)⟩
        · have hkd : decide ((k : Int) < 2) = false := by simpa using hk2
          have hkw : IntKind.i64.wrap ((k : Int) - 1) = (k : Int) - 1 := by rw [IntKind.wrap_i64]; omega
          have hkp : 0 < k := by omega
          have hk0 : 0 ≤ (k : Int) - 1 := by omega
          have hkt : ((k : Int) - 1).toNat = k - 1 := by omega
          have hkn : ¬ ((k : Int) - 1 < 0) := by omega
          have hkl : (k : Int) - 1 < k := by omega
          have hks : (k : Int) - 1 ≤ 9223372036854775807 := by omega
          have hks2 : -9223372036854775808 ≤ (k : Int) - 1 := by omega
          refine wpAnyH_take (i := 18) (oi := { dst := some 93, op := Op.binOp BinOp.lss 3 (Operand.tmp 92) (Operand.const (Value.int IntKind.i64 2)) 3, type := 4, pos := "law.go:44", after := #[{ on := 17, ground := Ground.data }, { on := 16, ground := Ground.guard }], guard := some (16, true) }) (v := ?vb18) rfl (by kernel_rfl) (by kernel_rfl) (by kernel_rfl) (fun _ _ _ h => h) (Or.inl ⟨by rfl, ?yb18⟩) hH1 ?rb18
          case yb18 => (intro w hSw; (try dsimp only at hSw); go_simp; try with_reducible rfl)
          try simp only [Act.put, List.setIfInBounds_toArray, List.set_cons_zero, List.set_cons_succ]
          refine wpAnyH_take (i := 19) (oi := { dst := some 94, op := Op.move (Operand.tmp 93), type := 4, pos := "law.go:44", after := #[{ on := 18, ground := Ground.data }, { on := 16, ground := Ground.chain }, { on := 16, ground := Ground.guard }], guard := some (16, true) }) (v := ?vb19) rfl (by kernel_rfl) (by kernel_rfl) (by kernel_rfl) (fun _ _ _ h => h) (Or.inl ⟨by rfl, ?yb19⟩) hH1 ?rb19
          case yb19 => (intro w hSw; (try dsimp only at hSw); go_simp; try with_reducible rfl)
          try simp only [Act.put, List.setIfInBounds_toArray, List.set_cons_zero, List.set_cons_succ]
          refine wpAnyH_take (i := 20) (oi := { dst := some 95, op := Op.move (Operand.tmp 7), type := 23, pos := "law.go:44", after := #[{ on := 19, ground := Ground.guard }], guard := some (19, false) }) (v := ?vb20) rfl (by kernel_rfl) (by kernel_rfl) (by kernel_rfl) (fun _ _ _ h => h) (Or.inl ⟨by rfl, ?yb20⟩) hH1 ?rb20
          case yb20 => (intro w hSw; (try dsimp only at hSw); go_simp; try with_reducible rfl)
          try simp only [Act.put, List.setIfInBounds_toArray, List.set_cons_zero, List.set_cons_succ]
          refine wpAnyH_take (i := 24) (oi := { dst := some 99, op := Op.move (Operand.tmp 7), type := 23, pos := "law.go:44", after := #[{ on := 19, ground := Ground.guard }], guard := some (19, false) }) (v := ?vb24) rfl (by kernel_rfl) (by kernel_rfl) (by kernel_rfl) (fun _ _ _ h => h) (Or.inl ⟨by rfl, ?yb24⟩) hH1 ?rb24
          case yb24 => (intro w hSw; (try dsimp only at hSw); go_simp; try with_reducible rfl)
          try simp only [Act.put, List.setIfInBounds_toArray, List.set_cons_zero, List.set_cons_succ]
          refine wpAnyH_take (i := 25) (oi := { dst := some 100, op := Op.move (Operand.tmp 1), type := 3, pos := "law.go:44", after := #[{ on := 19, ground := Ground.guard }], guard := some (19, false) }) (v := ?vb25) rfl (by kernel_rfl) (by kernel_rfl) (by kernel_rfl) (fun _ _ _ h => h) (Or.inl ⟨by rfl, ?yb25⟩) hH1 ?rb25
          case yb25 => (intro w hSw; (try dsimp only at hSw); go_simp; try with_reducible rfl)
          try simp only [Act.put, List.setIfInBounds_toArray, List.set_cons_zero, List.set_cons_succ]
          refine wpAnyH_take (i := 26) (oi := { dst := some 101, op := Op.binOp BinOp.sub 3 (Operand.tmp 100) (Operand.const (Value.int IntKind.i64 1)) 3, type := 3, pos := "law.go:44", after := #[{ on := 25, ground := Ground.data }, { on := 19, ground := Ground.guard }], guard := some (19, false) }) (v := ?vb26) rfl (by kernel_rfl) (by kernel_rfl) (by kernel_rfl) (fun _ _ _ h => h) (Or.inl ⟨by rfl, ?yb26⟩) hH1 ?rb26
          case yb26 => (intro w hSw; (try dsimp only at hSw); go_simp; try with_reducible rfl)
          try simp only [Act.put, List.setIfInBounds_toArray, List.set_cons_zero, List.set_cons_succ]
          refine wpAnyH_take (i := 27) (oi := { dst := some 102, op := Op.indexAddr 23 (Operand.tmp 99) (Operand.tmp 101), type := 0, pos := "law.go:44", after := #[{ on := 24, ground := Ground.data }, { on := 26, ground := Ground.data }, { on := 19, ground := Ground.guard }], guard := some (19, false) }) (v := ?vb27) rfl (by kernel_rfl) (by kernel_rfl) (by kernel_rfl) (fun _ _ _ h => h) (Or.inl ⟨by rfl, ?yb27⟩) hH1 ?rb27
          case yb27 => (intro w hSw; (try dsimp only at hSw); go_simp; try with_reducible rfl)
          try simp only [Act.put, List.setIfInBounds_toArray, List.set_cons_zero, List.set_cons_succ]
          refine wpAnyH_take (i := 28) (oi := { dst := some 103, op := Op.load 5 (Operand.tmp 102), type := 5, pos := "law.go:44", after := #[{ on := 27, ground := Ground.data }, { on := 19, ground := Ground.guard }], guard := some (19, false) }) (v := ?vb28) rfl (by kernel_rfl) (by kernel_rfl) (by kernel_rfl) (fun _ _ _ h => h) (Or.inl ⟨by rfl, ?yb28⟩) hH1 ?rb28
          case yb28 => (intro w hSw; (try dsimp only at hSw); go_simp; try with_reducible rfl)
          try simp only [Act.put, List.setIfInBounds_toArray, List.set_cons_zero, List.set_cons_succ]
          refine wpAnyH_ready (rs := [21]) (by kernel_rfl) (by simp) ?_
          refine AllReadyH.cons (o := { dst := some 96, op := Op.call { callee := Callee.value (Operand.func 13), args := #[Operand.tmp 95], argTypes := #[23] }, type := 23, pos := "law.go:44", after := #[{ on := 20, ground := Ground.data }, { on := 19, ground := Ground.chain }, { on := 19, ground := Ground.guard }], guard := some (19, false) }) rfl (fun K hK => ?_) AllReadyH.nil
          go_simp
          refine (hT1.out _ hbb).mono ?_
          rintro e wc ⟨rfl, hBc, hbc, hbc2⟩
          go_wp2_with fail
          refine hK.out _ _ ?_ (fun hHeld21 => ?_)
          · exact ⟨keepS.out _ hbc, hcb.out _ hbc2⟩
          clear hK K
          try simp only [Act.put, List.setIfInBounds_toArray, List.set_cons_zero, List.set_cons_succ]
          refine wpAnyH_mono (S' := (fun W => ((Below w4'.heap.size w4' W ∧ (convert 23 9 (.slice (some ⟨g, 0, none⟩) k k)).run Try.prog W = .ok (.string S) W ∧ W.cell? ⟨g, k - 1, none⟩ = some (.int .u8 z)) ∧ (convert 23 9 (.slice (some ⟨wa.heap.size, 0, none⟩) k k)).run Try.prog W = .ok (.string S2) W) ∧ W.cell? ⟨wb.heap.size, 0, none⟩ = some (.int .u8 z))) (fun W h => h.1) _ _ _ _ ?_
          have hH2 : (fun W => ((Below w4'.heap.size w4' W ∧ (convert 23 9 (.slice (some ⟨g, 0, none⟩) k k)).run Try.prog W = .ok (.string S) W ∧ W.cell? ⟨g, k - 1, none⟩ = some (.int .u8 z)) ∧ (convert 23 9 (.slice (some ⟨wa.heap.size, 0, none⟩) k k)).run Try.prog W = .ok (.string S2) W) ∧ W.cell? ⟨wb.heap.size, 0, none⟩ = some (.int .u8 z)) wc := ⟨hHeld21, by
            obtain ⟨b, off, e, hc⟩ := Bs.place hBc (by rw [List.length_reverse, digs_length]) (by omega)
            cases e
            have := hc 0 (by omega)
            rwa [Nat.zero_add, hrev.out] at this⟩
          refine wpAnyH_take (i := 22) (oi := { dst := some 97, op := Op.indexAddr 23 (Operand.tmp 96) (Operand.const (Value.int IntKind.i64 0)), type := 0, pos := "law.go:44", after := #[{ on := 21, ground := Ground.data }, { on := 19, ground := Ground.guard }], guard := some (19, false) }) (v := ?vb22) rfl (by kernel_rfl) (by kernel_rfl) (by kernel_rfl) (fun _ _ _ h => h) (Or.inl ⟨by rfl, ?yb22⟩) hH2 ?rb22
          case yb22 => (intro w hSw; (try dsimp only at hSw); go_simp; try with_reducible rfl)
          try simp only [Act.put, List.setIfInBounds_toArray, List.set_cons_zero, List.set_cons_succ]
          refine wpAnyH_take (i := 23) (oi := { dst := some 98, op := Op.load 5 (Operand.tmp 97), type := 5, pos := "law.go:44", after := #[{ on := 22, ground := Ground.data }, { on := 19, ground := Ground.guard }], guard := some (19, false) }) (v := ?vb23) rfl (by kernel_rfl) (by kernel_rfl) (by kernel_rfl) (fun _ _ _ h => h) (Or.inl ⟨by rfl, ?yb23⟩) hH2 ?rb23
          case yb23 => (intro w hSw; (try dsimp only at hSw); go_simp; try with_reducible rfl)
          try simp only [Act.put, List.setIfInBounds_toArray, List.set_cons_zero, List.set_cons_succ]
          refine wpAnyH_take (i := 29) (oi := { dst := some 104, op := Op.binOp BinOp.eql 5 (Operand.tmp 98) (Operand.tmp 103) 5, type := 4, pos := "law.go:44", after := #[{ on := 23, ground := Ground.data }, { on := 28, ground := Ground.data }, { on := 19, ground := Ground.guard }], guard := some (19, false) }) (v := ?vb29) rfl (by kernel_rfl) (by kernel_rfl) (by kernel_rfl) (fun _ _ _ h => h) (Or.inl ⟨by rfl, ?yb29⟩) hH2 ?rb29
          case yb29 => (intro w hSw; (try dsimp only at hSw); go_simp; try with_reducible rfl)
          try simp only [Act.put, List.setIfInBounds_toArray, List.set_cons_zero, List.set_cons_succ]
          refine wpAnyH_take (i := 30) (oi := { dst := some 105, op := Op.pick (Operand.tmp 94) (Operand.const (Value.bool true)) (Operand.tmp 104), type := 4, pos := "law.go:44", after := #[{ on := 19, ground := Ground.data }, { on := 29, ground := Ground.data }, { on := 16, ground := Ground.guard }], guard := some (16, true) }) (v := ?vb30) rfl (by kernel_rfl) (by kernel_rfl) (by kernel_rfl) (fun _ _ _ h => h) (Or.inl ⟨by rfl, ?yb30⟩) hH2 ?rb30
          case yb30 => (intro w hSw; (try dsimp only at hSw); go_simp; try with_reducible rfl)
          try simp only [Act.put, List.setIfInBounds_toArray, List.set_cons_zero, List.set_cons_succ]
          refine wpAnyH_take (i := 31) (oi := { dst := some 106, op := Op.pick (Operand.tmp 91) (Operand.tmp 105) (Operand.const (Value.bool false)), type := 4, pos := "law.go:44", after := #[{ on := 16, ground := Ground.data }, { on := 30, ground := Ground.data }], guard := none }) (v := ?vb31) rfl (by kernel_rfl) (by kernel_rfl) (by kernel_rfl) (fun _ _ _ h => h) (Or.inl ⟨by rfl, ?yb31⟩) hH2 ?rb31
          case yb31 => (intro w hSw; (try dsimp only at hSw); go_simp; try with_reducible rfl)
          try simp only [Act.put, List.setIfInBounds_toArray, List.set_cons_zero, List.set_cons_succ]
          refine wpAnyH_take (i := 32) (oi := { dst := some 6, op := Op.assign (Operand.tmp 106), type := 4, pos := "law.go:44", after := #[{ on := 31, ground := Ground.data }, { on := 21, ground := Ground.chain }, { on := 0, ground := Ground.phase }, { on := 1, ground := Ground.phase }, { on := 2, ground := Ground.phase }, { on := 3, ground := Ground.phase }, { on := 4, ground := Ground.phase }, { on := 5, ground := Ground.phase }, { on := 6, ground := Ground.phase }, { on := 7, ground := Ground.phase }, { on := 8, ground := Ground.phase }, { on := 9, ground := Ground.phase }, { on := 10, ground := Ground.phase }, { on := 11, ground := Ground.phase }, { on := 12, ground := Ground.phase }, { on := 13, ground := Ground.phase }, { on := 14, ground := Ground.phase }, { on := 15, ground := Ground.phase }, { on := 16, ground := Ground.phase }, { on := 17, ground := Ground.phase }, { on := 18, ground := Ground.phase }, { on := 19, ground := Ground.phase }, { on := 20, ground := Ground.phase }, { on := 21, ground := Ground.phase }, { on := 22, ground := Ground.phase }, { on := 23, ground := Ground.phase }, { on := 24, ground := Ground.phase }, { on := 25, ground := Ground.phase }, { on := 26, ground := Ground.phase }, { on := 27, ground := Ground.phase }, { on := 28, ground := Ground.phase }, { on := 29, ground := Ground.phase }, { on := 30, ground := Ground.phase }, { on := 31, ground := Ground.phase }], guard := none }) (v := ?vb32) rfl (by kernel_rfl) (by kernel_rfl) (by kernel_rfl) (fun _ _ _ h => h) (Or.inl ⟨by rfl, ?yb32⟩) hH2 ?rb32
          case yb32 => (intro w hSw; (try dsimp only at hSw); go_simp; try with_reducible rfl)
          try simp only [Act.put, List.setIfInBounds_toArray, List.set_cons_zero, List.set_cons_succ]
          refine wpAnyH_done (by kernel_rfl) ?_ _
          refine NoPanic.normal ?_
          go_wp2
          go_ret
          exact ⟨rfl, HW4.out.trans (hbc.mono HW4.out.size)⟩
      · have hfb : (n / 256 ^ k == 0) = false := by rw [beq_eq_false_iff_ne]; intro e; exact hf ((div_zero_iff n k h0).1 e)
        have HF := hide (show 256 ^ k ≤ n by omega)
        clear hf
        go_enter Try.func3, Try.ntmps3
        go_wp2_with fail
        refine (lays_any w).mono ?_
        rintro e w1 ⟨rfl, hb1⟩
        go_wp2_with fail
        refine (Put_great n k _ h0 h1 h8 HF.out).mono ?_
        rintro e w1' ⟨rfl, rfl⟩
        go_wp2_with fail
        refine (Digits_any n k _ h0 hn h1 h8).mono ?_
        rintro e w3 ⟨rfl, _, hb3⟩
        have hW3 := hide (hb1.trans (hb3.mono hb1.size))
        clear hb1 hb3
        go_wp2
        go_ret
        exact ⟨rfl, hW3.out⟩
end Go.Proofs.Ytjoejbdgiepdcaa
