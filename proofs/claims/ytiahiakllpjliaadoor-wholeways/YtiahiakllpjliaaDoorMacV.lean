
/-
  The contract of mac.Retag where it answers a frame. Conditions: the table lies as the program's text lays it ('Tab'); those that each theorem names.
-/
import Derived.Test.YtiahiakllpjliaaDoorMacT
namespace Go.Proofs.YtiahiakllpjliaaDoor
open Go.RowKit

set_option maxRecDepth 20000 in
set_option maxHeartbeats 1000000 in
theorem Retag_okF {v : Value} {l : List Int} {w : World} (hv : Bs w v l) (hT : Tab w) (hG : Good l) (p : Int) (de : Bool) (vid : Int) (hE : checkE (withTag (hdOf (l.take (l.length - 4))) false p de vid) 0 = 0) (hY : (hdOf (l.take (l.length - 4))).typ ≠ 33024) :
    Calls Tryd.prog 28 #[v, .bool false, .int .i64 p, .bool de, .int .i64 vid] w fun e w' => ∃ g n, e = .returned (.tuple #[.slice (some ⟨g, 0, none⟩) n n, .int .i64 0]) ∧ n = (retagL l false p de vid).length ∧ Bs w' (.slice (some ⟨g, 0, none⟩) n n) (retagL l false p de vid) ∧ Below w.heap.size w w' := by
  have hs0 := hdOf_s0 (l.take (l.length - 4)) (hv.byte.take _)
  have hP := hide (Parse_any hv hT)
  rw [hG.is] at hP
  have HV := hide hv
  have HT := hide hT
  have hTf := hdOf_tag (l.take (l.length - 4)) (hv.byte.take _) hG.may
  have hTw := checkE_tag hE
  have hR : Hid (retagL l false p de vid = sealL (pad60 (l.take 12 ++ (tagL (withTag (hdOf (l.take (l.length - 4))) false p de vid) ++ (l.drop (12 + (tagL (hdOf (l.take (l.length - 4)))).length)).take (l.length - 4 - (12 + (tagL (hdOf (l.take (l.length - 4)))).length)))))) := rfl
  have hl1 := hG.least
  have hl2 := hG.most
  obtain ⟨hby, a, cap, rfl, hlc, hcm, hcn, hcell⟩ := hv
  obtain ⟨vb, voff, rfl, _⟩ := hcell 0 (by omega)
  have hcell' : Hid (∀ i, i < l.length → w.cell? ⟨vb, voff + i, none⟩ = some (.int .u8 (l.getD i 0))) := by
    intro i hi
    obtain ⟨b', o', e, hc⟩ := hcell i hi
    cases e
    exact hc
  clear hcell
  generalize hdOf (l.take (l.length - 4)) = H at *
  have hTag1 := hide (fun w => tag_len_any H w hTf)
  have hTag2 := hide (fun w => tag_len_any (withTag H false p de vid) w hTw)
  have hTL1 := hide (tagL_len H)
  have hTL2 := hide (tagL_len (withTag H false p de vid))
  clear hTf hTw hT hG
  generalize retagL l false p de vid = RL at *
  generalize tagL H = TL1 at *
  generalize tagL (withTag H false p de vid) = TL2 at *
  have hC := hide (fun w => Check_any (withTag H false p de vid) 0 w hs0)
  rw [hE] at hC
  clear hE
  have hY' : (H.typ == 33024) = false := by simpa using hY
  clear hY
  have ht1 : TL1.length ≤ 4 := by rw [hTL1.out]; split <;> omega
  have ht2 : TL2.length ≤ 4 := by rw [hTL2.out]; split <;> omega
  generalize ht1n : TL1.length = t1 at *
  have Ht1 := hide ht1n
  clear ht1n
  have hl3 : l.length ≤ 1522 := by split at hl2 <;> omega
  have Hl2 := hide hl2
  clear hl2
  generalize hlen : l.length = len at *
  have HL := hide hlen
  clear hlen
  have b1 : (12 : Int) ≤ (cap : Int) := by omega
  obtain ⟨ee, hee⟩ : ∃ ee : Nat, ee = len - 4 := ⟨_, rfl⟩
  obtain ⟨ss, hss⟩ : ∃ ss : Nat, ss = 12 + t1 := ⟨_, rfl⟩
  have hq1 : IntKind.i64.wrap ((len : Int) - 4) = (ee : Int) := by rw [wrap_i64_id _ (by omega) (by omega)]; omega
  have hq2 : (12 : Int) + (t1 : Int) = (ss : Int) := by omega
  have b2 : (ss : Int) ≤ (ee : Int) := by omega
  have b3 : (ee : Int) ≤ (cap : Int) := by omega
  have b4 : ¬ cap = ss := by omega
  have b5 : ss ≤ ee := by omega
  have Hee := hide hee
  have Hss := hide hss
  clear hee hss
  go_enter Tryd.func28, Tryd.ntmps28
  go_wp2_with fail
  refine hP.out.mono ?_
  rintro e w1 ⟨da, dn, dc, rfl, _, hb1⟩
  go_wp2_with (first | (refine wpList_store_fresh rfl 25 _ _ rfl H.row Hd.zero.row rfl rfl 25 (hdSize _) rfl (Hd.row_all _) ?_; intro w2 hH2 hb2; have c6 : w2.cell? ⟨w1.heap.size, 6, none⟩ = some (.int .u8 H.s0) := (cell_of_row _ _ _ _ _ _ hH2).trans rfl; have c7 : w2.cell? ⟨w1.heap.size, 7, none⟩ = some (.int .u8 H.s1) := (cell_of_row _ _ _ _ _ _ hH2).trans rfl; have c8 : w2.cell? ⟨w1.heap.size, 8, none⟩ = some (.int .u8 H.s2) := (cell_of_row _ _ _ _ _ _ hH2).trans rfl; have c9 : w2.cell? ⟨w1.heap.size, 9, none⟩ = some (.int .u8 H.s3) := (cell_of_row _ _ _ _ _ _ hH2).trans rfl; have c10 : w2.cell? ⟨w1.heap.size, 10, none⟩ = some (.int .u8 H.s4) := (cell_of_row _ _ _ _ _ _ hH2).trans rfl; have c11 : w2.cell? ⟨w1.heap.size, 11, none⟩ = some (.int .u8 H.s5) := (cell_of_row _ _ _ _ _ _ hH2).trans rfl) | (refine wpList_store_fresh rfl 25 _ _ rfl (withTag H false p de vid).row Hd.zero.row rfl rfl 25 (hdSize _) rfl (Hd.row_all _) ?_; intro w3 hH3 hb3) | (refine wpList_load_row rfl 25 _ rfl w2.heap.size rfl 25 _ _ _ hH3 Tryd.underlying25 rfl (hdSize _) ?_) | (go_at_call 25; refine (hTag1.out _).mono ?_; rintro e w5 ⟨ta, tc, rfl, hB5, hb5⟩; have hH5 := heap_kept hb5 (heap_kept hb4 hH3); have hW5 := hide ((((hb1.later hb2).later hb3).later hb4).later hb5); clear hB5 hb1 hb2 hb3 hb4 hb5) | (refine wpList_load_row rfl 25 _ rfl w1.heap.size rfl 25 _ _ _ hH4 Tryd.underlying25 rfl (hdSize _) ?_) | (go_at_call 6; refine (hC.out _).mono ?_; rintro e w4 ⟨rfl, hb4⟩; have hH4 := heap_kept hb4 (heap_kept hb3 hH2); have c16 : w4.cell? ⟨w1.heap.size, 16, none⟩ = some (.int .i64 H.typ) := (cell_of_row _ _ _ _ _ _ hH4).trans rfl))
  refine wp_region_noPanic ?_
  refine wp_region_held_drew (S := fun W => Below w5.heap.size w5 W) (by kernel_rfl) (below_drewN (Below.refl _ _) 1) (fun hHeld => ?_)
  refine wpAnyH_take (i := 0) (oi := { dst := some 53, op := Op.move (Operand.tmp 0), type := 26, pos := "mac.go:164", after := #[], guard := none }) (v := ?v1) rfl (by kernel_rfl) (by kernel_rfl) (by kernel_rfl) (fun _ _ _ h => h) (Or.inl ⟨by rfl, ?y1⟩) (by assumption) ?r1
  case y1 => (intro w hSw; (try dsimp only at hSw); (try (go_split_ands)); go_simp; try with_reducible rfl)
  try simp only [Act.put, List.setIfInBounds_toArray, List.set_cons_zero, List.set_cons_succ]
  refine wpAnyH_take (i := 1) (oi := { dst := some 54, op := Op.move (Operand.tmp 17), type := 3, pos := "mac.go:164", after := #[], guard := none }) (v := ?v2) rfl (by kernel_rfl) (by kernel_rfl) (by kernel_rfl) (fun _ _ _ h => h) (Or.inl ⟨by rfl, ?y2⟩) (by assumption) ?r2
  case y2 => (intro w hSw; (try dsimp only at hSw); (try (go_split_ands)); go_simp; try with_reducible rfl)
  try simp only [Act.put, List.setIfInBounds_toArray, List.set_cons_zero, List.set_cons_succ]
  refine wpAnyH_take (i := 2) (oi := { dst := some 55, op := Op.slice 26 (Operand.tmp 53) none (some (Operand.tmp 54)) none, type := 26, pos := "mac.go:164", after := #[{ on := 0, ground := Ground.data }, { on := 1, ground := Ground.data }], guard := none }) (v := ?v3) rfl (by kernel_rfl) (by kernel_rfl) (by kernel_rfl) (fun _ _ _ h => h) (Or.inl ⟨by rfl, ?y3⟩) (by assumption) ?r3
  case y3 => (intro w hSw; (try dsimp only at hSw); (try (go_split_ands)); go_simp; try with_reducible rfl)
  try simp only [Act.put, List.setIfInBounds_toArray, List.set_cons_zero, List.set_cons_succ]
  refine wpAnyH_take (i := 5) (oi := { dst := some 58, op := Op.move (Operand.tmp 0), type := 26, pos := "mac.go:164", after := #[], guard := none }) (v := ?v4) rfl (by kernel_rfl) (by kernel_rfl) (by kernel_rfl) (fun _ _ _ h => h) (Or.inl ⟨by rfl, ?y4⟩) (by assumption) ?r4
  case y4 => (intro w hSw; (try dsimp only at hSw); (try (go_split_ands)); go_simp; try with_reducible rfl)
  try simp only [Act.put, List.setIfInBounds_toArray, List.set_cons_zero, List.set_cons_succ]
  refine wpAnyH_take (i := 6) (oi := { dst := some 59, op := Op.move (Operand.tmp 18), type := 3, pos := "mac.go:164", after := #[], guard := none }) (v := ?v5) rfl (by kernel_rfl) (by kernel_rfl) (by kernel_rfl) (fun _ _ _ h => h) (Or.inl ⟨by rfl, ?y5⟩) (by assumption) ?r5
  case y5 => (intro w hSw; (try dsimp only at hSw); (try (go_split_ands)); go_simp; try with_reducible rfl)
  try simp only [Act.put, List.setIfInBounds_toArray, List.set_cons_zero, List.set_cons_succ]
  refine wpAnyH_take (i := 7) (oi := { dst := some 60, op := Op.move (Operand.tmp 0), type := 26, pos := "mac.go:164", after := #[], guard := none }) (v := ?v6) rfl (by kernel_rfl) (by kernel_rfl) (by kernel_rfl) (fun _ _ _ h => h) (Or.inl ⟨by rfl, ?y6⟩) (by assumption) ?r6
  case y6 => (intro w hSw; (try dsimp only at hSw); (try (go_split_ands)); go_simp; try with_reducible rfl)
  try simp only [Act.put, List.setIfInBounds_toArray, List.set_cons_zero, List.set_cons_succ]
  refine wpAnyH_take (i := 8) (oi := { dst := some 61, op := Op.call { callee := Callee.builtin Builtin.len, args := #[Operand.tmp 60], argTypes := #[26] }, type := 3, pos := "mac.go:164", after := #[{ on := 7, ground := Ground.data }], guard := none }) (v := ?v7) rfl (by kernel_rfl) (by kernel_rfl) (by kernel_rfl) (fun _ _ _ h => h) (Or.inl ⟨by rfl, ?y7⟩) (by assumption) ?r7
  case y7 => (intro w hSw; (try dsimp only at hSw); (try (go_split_ands)); go_simp; try with_reducible rfl)
  try simp only [Act.put, List.setIfInBounds_toArray, List.set_cons_zero, List.set_cons_succ]
  refine wpAnyH_take (i := 9) (oi := { dst := some 62, op := Op.binOp BinOp.sub 3 (Operand.tmp 61) (Operand.const (Value.int IntKind.i64 4)) 3, type := 3, pos := "mac.go:164", after := #[{ on := 8, ground := Ground.data }], guard := none }) (v := ?v8) rfl (by kernel_rfl) (by kernel_rfl) (by kernel_rfl) (fun _ _ _ h => h) (Or.inl ⟨by rfl, ?y8⟩) (by assumption) ?r8
  case y8 => (intro w hSw; (try dsimp only at hSw); (try (go_split_ands)); go_simp; try with_reducible rfl)
  try simp only [Act.put, List.setIfInBounds_toArray, List.set_cons_zero, List.set_cons_succ]
  refine wpAnyH_take (i := 10) (oi := { dst := some 63, op := Op.slice 26 (Operand.tmp 58) (some (Operand.tmp 59)) (some (Operand.tmp 62)) none, type := 26, pos := "mac.go:164", after := #[{ on := 5, ground := Ground.data }, { on := 6, ground := Ground.data }, { on := 9, ground := Ground.data }], guard := none }) (v := ?v9) rfl (by kernel_rfl) (by kernel_rfl) (by kernel_rfl) (fun _ _ _ h => h) (Or.inl ⟨by rfl, ?y9⟩) (by assumption) ?r9
  case y9 => (intro w hSw; (try dsimp only at hSw); (try (go_split_ands)); go_simp; try with_reducible rfl)
  try simp only [Act.put, List.setIfInBounds_toArray, List.set_cons_zero, List.set_cons_succ]
  refine wpAnyH_take (i := 3) (oi := { dst := some 56, op := Op.load 25 (Operand.tmp 15), type := 25, pos := "mac.go:164", after := #[], guard := none }) (v := _) rfl (by kernel_rfl) (by kernel_rfl) (by kernel_rfl) (fun _ _ _ h => h) (yieldsIf_load_row rfl 25 _ rfl w2.heap.size rfl 25 _ _ _ (fun W h => heap_kept h hH5) Tryd.underlying25 rfl (hdSize _)) (by assumption) ?_
  try simp only [Act.put, List.setIfInBounds_toArray, List.set_cons_zero, List.set_cons_succ]
  refine wpAnyH_ready (rs := [4]) (by kernel_rfl) (by simp) ?_
  refine AllReadyH.cons (o := { dst := some 57, op := Op.call { callee := Callee.value (Operand.func 25), args := #[Operand.tmp 56], argTypes := #[25] }, type := 26, pos := "mac.go:164", after := #[{ on := 3, ground := Ground.data }], guard := none }) rfl (fun K hK => ?_) AllReadyH.nil
  go_simp
  refine (hTag2.out _).mono ?_
  rintro e w6 ⟨sa, sc, rfl, hB6, hb6⟩
  have hb6' : Below w5.heap.size w5 w6 := (below_drewN (Below.refl _ _) 1).later hb6
  go_wp2_with fail
  refine hK.out _ _ ?_ (fun hHeld4 => ?_)
  · exact hb6'
  clear hK K
  try simp only [Act.put, List.setIfInBounds_toArray, List.set_cons_zero, List.set_cons_succ]
  refine wpAnyH_ready (rs := [11]) (by kernel_rfl) (by simp) ?_
  refine AllReadyH.cons (o := { dst := some 64, op := Op.buildSlice 102 3 #[(0, Operand.tmp 55), (1, Operand.tmp 57), (2, Operand.tmp 63)], type := 102, pos := "mac.go:164", after := #[{ on := 2, ground := Ground.data }, { on := 4, ground := Ground.data }, { on := 10, ground := Ground.data }], guard := none }) rfl (fun K hK => ?_) AllReadyH.nil
  go_simp
  refine hK.out _ _ (hb6'.later (below1 _ _)) (fun hHeld11 => ?_)
  clear hK K
  try simp only [Act.put, List.setIfInBounds_toArray, List.set_cons_zero, List.set_cons_succ]
  refine wpAnyH_ready (rs := [12]) (by kernel_rfl) (by simp) ?_
  refine AllReadyH.cons (o := { dst := some 65, op := Op.call { callee := Callee.value (Operand.func 24), args := #[Operand.tmp 64], argTypes := #[102] }, type := 26, pos := "mac.go:164", after := #[{ on := 11, ground := Ground.data }, { on := 4, ground := Ground.chain }], guard := none }) rfl (fun K hK => ?_) AllReadyH.nil
  go_simp
  have hW6 := hide (hW5.out.later hb6')
  have hp1 := Bs.piece hby (by rw [HL.out]; exact hlc) hcm (by rw [HL.out]; exact hcell'.out) 0 12 (by omega) (by rw [HL.out]; omega)
  have hp2 := Bs.piece hby (by rw [HL.out]; exact hlc) hcm (by rw [HL.out]; exact hcell'.out) ss ee b5 (by rw [HL.out, Hee.out]; omega)
  simp only [List.drop_zero, Nat.sub_zero, Nat.add_zero] at hp1
  have hBB := BBs.lit (w := w6) [.slice (some ⟨vb, voff, none⟩) 12 cap, .slice sa TL2.length sc, .slice (some ⟨vb, voff + ss, none⟩) (ee - ss) (cap - ss)] [l.take 12, TL2, (l.drop ss).take (ee - ss)] rfl (by simp [maxLen]) (fun i hi => by
    match i, hi with
    | 0, _ => exact hp1.below hW6.out
    | 1, _ => exact hB6
    | 2, _ => exact hp2.below hW6.out)
  have hfl : [l.take 12, TL2, (l.drop ss).take (ee - ss)].flatten = l.take 12 ++ (TL2 ++ (l.drop (12 + t1)).take (len - 4 - (12 + t1))) := by rw [Hss.out, Hee.out]; simp
  have hflen : (l.take 12 ++ (TL2 ++ (l.drop (12 + t1)).take (len - 4 - (12 + t1)))).length = len - 4 - t1 + TL2.length := by
    simp [HL.out]; omega
  have hF := finish_any hBB (HT.out.later (hW6.out.later (below1 _ _))) (by simp) (by rw [hfl, hflen]; omega)
  rw [hfl, ← hR.out] at hF
  have hRL : Hid (RL.length = max (len - 4 - t1 + TL2.length) 60 + 4) := by
    show RL.length = _
    rw [hR.out, sealL_length, pad60_length, hflen]
  clear hp1 hp2 hBB hfl hflen
  refine hF.mono ?_
  rintro e w7 ⟨g, n, rfl, hn, hg, hB7, hb7⟩
  have hb7' : Below w5.heap.size w5 w7 := (hb6'.later (below1 _ _)).later hb7
  have Hn := hide hn
  have hnm : (n : Int) ≤ 1518 := by
    have h1 := Hl2.out
    have h2 := hTL1.out
    have h3 : TL2.length = 0 := hTL2.out.trans (if_neg (by simp))
    have h4 := hRL.out
    have h5 := Hn.out
    cases hq : H.tg <;> rw [hq] at h1 h2 <;> simp at h1 h2 <;> omega
  clear hn hF
  go_wp2_with fail
  refine hK.out _ _ ?_ (fun hHeld12 => ?_)
  · exact hb7'
  clear hK K
  try simp only [Act.put, List.setIfInBounds_toArray, List.set_cons_zero, List.set_cons_succ]
  refine wpAnyH_take (i := 13) (oi := { dst := some 19, op := Op.assign (Operand.tmp 65), type := 26, pos := "mac.go:164", after := #[{ on := 12, ground := Ground.data }, { on := 12, ground := Ground.chain }, { on := 0, ground := Ground.phase }, { on := 1, ground := Ground.phase }, { on := 2, ground := Ground.phase }, { on := 3, ground := Ground.phase }, { on := 4, ground := Ground.phase }, { on := 5, ground := Ground.phase }, { on := 6, ground := Ground.phase }, { on := 7, ground := Ground.phase }, { on := 8, ground := Ground.phase }, { on := 9, ground := Ground.phase }, { on := 10, ground := Ground.phase }, { on := 11, ground := Ground.phase }, { on := 12, ground := Ground.phase }], guard := none }) (v := ?v10) rfl (by kernel_rfl) (by kernel_rfl) (by kernel_rfl) (fun _ _ _ h => h) (Or.inl ⟨by rfl, ?y10⟩) (by assumption) ?r10
  case y10 => (intro w hSw; (try dsimp only at hSw); (try (go_split_ands)); go_simp; try with_reducible rfl)
  try simp only [Act.put, List.setIfInBounds_toArray, List.set_cons_zero, List.set_cons_succ]
  refine wpAnyH_done (by kernel_rfl) ?_ _
  refine NoPanic.normal ?_
  go_wp2_with (go_at_call 32; refine (most_any false _).mono ?_; rintro e w8 ⟨rfl, rfl⟩; simp only [Bool.false_eq_true, if_false])
  go_ret2
  exact ⟨g, n, rfl, Hn.out, hB7, hW5.out.later hb7'⟩
end Go.Proofs.YtiahiakllpjliaaDoor
