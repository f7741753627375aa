
/-
  A contract of mac.Build. Conditions: the table lies as the program's text lays it ('Tab'); those that each theorem names.
-/
import Derived.Test.YtiahiakllpjliaaDoorMac1
namespace Go.Proofs.YtiahiakllpjliaaDoor
open Go.RowKit

theorem tag_any (h : Hd) (w : World) (hf : tagFitsB h = true) :
    Calls Tryd.prog 25 #[.agg h.row] w fun e w' => ∃ a n c, e = .returned (.slice a n c) ∧ Bs w' (.slice a n c) (tagL h) ∧ Below w.heap.size w w' := by
  cases ht : h.tg
  · refine (tag_none h w ht).mono ?_
    rintro e w' ⟨rfl, hb⟩
    exact ⟨_, _, _, rfl, by unfold tagL; rw [ht]; exact Bs.nil _, hb⟩
  · refine (tag_some h w ht hf).mono ?_
    rintro e w' ⟨g, rfl, _, hB, hb⟩
    exact ⟨_, _, _, rfl, hB, hb⟩
theorem tagL_length (h : Hd) : (tagL h).length ≤ 4 := by
  unfold tagL
  split <;> simp [digs_length]

def Hd.dst (h : Hd) : List Int := [h.d0, h.d1, h.d2, h.d3, h.d4, h.d5]
def Hd.src (h : Hd) : List Int := [h.s0, h.s1, h.s2, h.s3, h.s4, h.s5]
/-- What stands in a frame ahead of its noughts and its sum. -/
def bodyL (h : Hd) (data : List Int) : List Int := h.dst ++ (h.src ++ (tagL h ++ (digs h.typ 2 ++ data)))
def buildL (h : Hd) (data : List Int) : List Int := sealL (pad60 (bodyL h data))
/-- Bytes in both addresses. -/
def Hd.bytes (h : Hd) : Prop := Byte h.dst ∧ Byte h.src

theorem Bs_dst {W : World} {g : Nat} {t : TypeId} {fr : Nat × Nat} {h : Hd} (hk : W.heap[g]? = some (.cells h.row t fr)) (hB : h.bytes) : Bs W (.slice (some ⟨g, 0, none⟩) 6 6) h.dst :=
  Bs.mk_at (l := h.dst) hB.1 (Nat.le_refl _) (by decide) fun i hi => by
    rw [cell_of_row _ _ _ _ _ _ hk]
    match i, hi with
    | 0, _ => rfl
    | 1, _ => rfl
    | 2, _ => rfl
    | 3, _ => rfl
    | 4, _ => rfl
    | 5, _ => rfl
theorem Bs_src {W : World} {g : Nat} {t : TypeId} {fr : Nat × Nat} {h : Hd} (hk : W.heap[g]? = some (.cells h.row t fr)) (hB : h.bytes) : Bs W (.slice (some ⟨g, 6, none⟩) 6 6) h.src :=
  Bs.mk_at (l := h.src) hB.2 (Nat.le_refl _) (by decide) fun i hi => by
    rw [cell_of_row _ _ _ _ _ _ hk]
    match i, hi with
    | 0, _ => rfl
    | 1, _ => rfl
    | 2, _ => rfl
    | 3, _ => rfl
    | 4, _ => rfl
    | 5, _ => rfl

theorem Build_bad (h : Hd) {v : Value} {l : List Int} (w : World) (hB : h.bytes) (hv : Bs w v l) (hE : checkE h l.length ≠ 0) :
    Calls Tryd.prog 9 #[.agg h.row, v] w fun e w' => e = .returned (.tuple #[.slice none 0 0, .int .i64 (checkE h l.length)]) ∧ Below w.heap.size w w' := by
  have hC := hide (fun w => Check_any h l.length w (hB.2 h.s0 (by simp [Hd.src])))
  have hk := heap_alloc_new w (.cells h.row 25)
  obtain ⟨_, a, cap, rfl, _⟩ := hv
  have hE' : (checkE h l.length != 0) = true := by simpa using hE
  clear hE
  generalize checkE h l.length = E at *
  go_enter Tryd.func9, Tryd.ntmps9
  go_wp2_with (first | (refine wpList_load_row rfl 25 _ rfl w.heap.size rfl 25 _ _ _ hk Tryd.underlying25 rfl (hdSize _) ?_) | (go_at_call 6; refine (hC.out _).mono ?_; rintro e w1 ⟨rfl, hb1⟩))
  go_ret2
  exact ⟨rfl, (below1 _ _).later hb1⟩
set_option maxRecDepth 20000 in
theorem Build_ok (h : Hd) {v : Value} {l : List Int} (w : World) (hB : h.bytes) (hT : Tab w) (hv : Bs w v l) (hE : checkE h l.length = 0) :
    Calls Tryd.prog 9 #[.agg h.row, v] w fun e w' => ∃ g n, e = .returned (.tuple #[.slice (some ⟨g, 0, none⟩) n n, .int .i64 0]) ∧ n = (buildL h l).length ∧ w.heap.size ≤ g ∧ Bs w' (.slice (some ⟨g, 0, none⟩) n n) (buildL h l) ∧ Below w.heap.size w w' := by
  have hC := hide (fun w => Check_any h l.length w (hB.2 h.s0 (by simp [Hd.src])))
  have hk := heap_alloc_new w (.cells h.row 25)
  have hTf : tagFitsB h = true := by
    unfold checkE at hE
    split at hE
    · cases hE
    · split at hE
      · cases hE
      · rename_i h1; simpa using h1
  have hY : 0 ≤ h.typ ∧ h.typ < 65536 ∧ (l.length : Int) ≤ 1500 := by
    unfold checkE at hE
    split at hE
    · cases hE
    · rename_i h0
      split at hE
      · cases hE
      · split at hE
        · cases hE
        · rename_i h1
          have h2 : typeFitsB h l.length = true := by
            cases hq : typeFitsB h l.length
            · exact absurd (.inr hq) h1
            · rfl
          unfold typeFitsB at h2
          split at h2
          · have : h.typ = l.length := by simpa using h2
            omega
          · have : 1536 ≤ h.typ ∧ h.typ ≤ 65535 ∧ (h.tg = true ∨ h.typ ≠ 33024) := by simpa using h2
            omega
  obtain ⟨y0, y1, y2⟩ := hY
  have hTag := hide (fun w => tag_any h w hTf)
  have hTl := hide (tagL_length h)
  have HV := hide hv
  have HT := hide hT
  obtain ⟨_, a, cap, rfl, _⟩ := hv
  have hL : Hid (bodyL h l = h.dst ++ (h.src ++ (tagL h ++ (digs h.typ 2 ++ l)))) := rfl
  have hBL : Hid (buildL h l = sealL (pad60 (bodyL h l))) := rfl
  have hC' : Hid (∀ w, Calls Tryd.prog 6 #[.agg h.row, .int .i64 l.length] w fun r w' => r = .returned (.int .i64 0) ∧ Below w.heap.size w w') := by
    intro w
    have := hC.out w
    rwa [hE] at this
  clear hC hE hTf hT
  generalize buildL h l = BL at *
  generalize bodyL h l = BO at *
  generalize tagL h = TL at *
  go_enter Tryd.func9, Tryd.ntmps9
  go_wp2_with (first | (refine wpList_load_row rfl 25 _ rfl w.heap.size rfl 25 _ _ _ hk Tryd.underlying25 rfl (hdSize _) ?_) | (go_at_call 6; refine (hC'.out _).mono ?_; rintro e w1 ⟨rfl, hb1⟩))
  have hk1 := heap_kept hb1 hk
  have hW1 := hide ((below1 w _).later hb1)
  clear hk hb1 hC'
  have hc16 : w1.cell? ⟨w.heap.size, 16, none⟩ = some (.int .i64 h.typ) := by rw [cell_of_row _ _ _ _ _ _ hk1]; rfl
  have hwr : IntKind.u64.wrap h.typ = h.typ := by rw [IntKind.wrap_u64]; exact Int.emod_eq_of_lt y0 (by omega)
  refine wp_region_noPanic ?_
  refine wp_region_held_drew (S := fun W => Below w1.heap.size w1 W ∧ W.cell? ⟨w.heap.size, 16, none⟩ = some (.int .i64 h.typ)) (by kernel_rfl) ?_ (fun hHeld => ?_)
  · exact ⟨below_drewN (Below.refl _ _) 1, hc16⟩
  refine wpAnyH_take (i := 0) (oi := { dst := some 14, op := Op.fieldAddr 25 (Operand.tmp 2) 0, type := 0, pos := "mac.go:146", after := #[], guard := none }) (v := ?v1) rfl (by kernel_rfl) (by kernel_rfl) (by kernel_rfl) (fun _ _ _ h => h) (Or.inl ⟨by rfl, ?y1⟩) (by assumption) ?r1
  case y1 => (intro w hSw; (try dsimp only at hSw); (try (go_split_ands)); go_simp; try with_reducible rfl)
  try simp only [Act.put, List.setIfInBounds_toArray, List.set_cons_zero, List.set_cons_succ]
  refine wpAnyH_take (i := 1) (oi := { dst := some 15, op := Op.slice 23 (Operand.tmp 14) none none none, type := 26, pos := "mac.go:146", after := #[{ on := 0, ground := Ground.data }], guard := none }) (v := ?v2) rfl (by kernel_rfl) (by kernel_rfl) (by kernel_rfl) (fun _ _ _ h => h) (Or.inl ⟨by rfl, ?y2⟩) (by assumption) ?r2
  case y2 => (intro w hSw; (try dsimp only at hSw); (try (go_split_ands)); go_simp; try with_reducible rfl)
  try simp only [Act.put, List.setIfInBounds_toArray, List.set_cons_zero, List.set_cons_succ]
  refine wpAnyH_take (i := 2) (oi := { dst := some 16, op := Op.fieldAddr 25 (Operand.tmp 2) 1, type := 0, pos := "mac.go:146", after := #[], guard := none }) (v := ?v3) rfl (by kernel_rfl) (by kernel_rfl) (by kernel_rfl) (fun _ _ _ h => h) (Or.inl ⟨by rfl, ?y3⟩) (by assumption) ?r3
  case y3 => (intro w hSw; (try dsimp only at hSw); (try (go_split_ands)); go_simp; try with_reducible rfl)
  try simp only [Act.put, List.setIfInBounds_toArray, List.set_cons_zero, List.set_cons_succ]
  refine wpAnyH_take (i := 3) (oi := { dst := some 17, op := Op.slice 23 (Operand.tmp 16) none none none, type := 26, pos := "mac.go:146", after := #[{ on := 2, ground := Ground.data }], guard := none }) (v := ?v4) rfl (by kernel_rfl) (by kernel_rfl) (by kernel_rfl) (fun _ _ _ h => h) (Or.inl ⟨by rfl, ?y4⟩) (by assumption) ?r4
  case y4 => (intro w hSw; (try dsimp only at hSw); (try (go_split_ands)); go_simp; try with_reducible rfl)
  try simp only [Act.put, List.setIfInBounds_toArray, List.set_cons_zero, List.set_cons_succ]
  refine wpAnyH_take (i := 6) (oi := { dst := some 20, op := Op.fieldAddr 25 (Operand.tmp 2) 6, type := 0, pos := "mac.go:146", after := #[], guard := none }) (v := ?v5) rfl (by kernel_rfl) (by kernel_rfl) (by kernel_rfl) (fun _ _ _ h => h) (Or.inl ⟨by rfl, ?y5⟩) (by assumption) ?r5
  case y5 => (intro w hSw; (try dsimp only at hSw); (try (go_split_ands)); go_simp; try with_reducible rfl)
  try simp only [Act.put, List.setIfInBounds_toArray, List.set_cons_zero, List.set_cons_succ]
  refine wpAnyH_take (i := 7) (oi := { dst := some 21, op := Op.load 3 (Operand.tmp 20), type := 3, pos := "mac.go:146", after := #[{ on := 6, ground := Ground.data }], guard := none }) (v := ?v6) rfl (by kernel_rfl) (by kernel_rfl) (by kernel_rfl) (fun _ _ _ h => h) (Or.inl ⟨by rfl, ?y6⟩) (by assumption) ?r6
  case y6 => (intro w hSw; (try dsimp only at hSw); (try (go_split_ands)); go_simp; try with_reducible rfl)
  try simp only [Act.put, List.setIfInBounds_toArray, List.set_cons_zero, List.set_cons_succ]
  refine wpAnyH_take (i := 8) (oi := { dst := some 22, op := Op.convert 3 75 (Operand.tmp 21), type := 75, pos := "mac.go:146", after := #[{ on := 7, ground := Ground.data }], guard := none }) (v := ?v7) rfl (by kernel_rfl) (by kernel_rfl) (by kernel_rfl) (fun _ _ _ h => h) (Or.inl ⟨by rfl, ?y7⟩) (by assumption) ?r7
  case y7 => (intro w hSw; (try dsimp only at hSw); (try (go_split_ands)); go_simp; try with_reducible rfl)
  try simp only [Act.put, List.setIfInBounds_toArray, List.set_cons_zero, List.set_cons_succ]
  refine wpAnyH_take (i := 10) (oi := { dst := some 24, op := Op.move (Operand.tmp 1), type := 26, pos := "mac.go:146", after := #[], guard := none }) (v := ?v8) rfl (by kernel_rfl) (by kernel_rfl) (by kernel_rfl) (fun _ _ _ h => h) (Or.inl ⟨by rfl, ?y8⟩) (by assumption) ?r8
  case y8 => (intro w hSw; (try dsimp only at hSw); (try (go_split_ands)); go_simp; try with_reducible rfl)
  try simp only [Act.put, List.setIfInBounds_toArray, List.set_cons_zero, List.set_cons_succ]
  refine wpAnyH_take (i := 4) (oi := { dst := some 18, op := Op.load 25 (Operand.tmp 2), type := 25, pos := "mac.go:146", after := #[], guard := none }) (v := _) rfl (by kernel_rfl) (by kernel_rfl) (by kernel_rfl) (fun _ _ _ h => h) (yieldsIf_load_row rfl 25 _ rfl w.heap.size rfl 25 _ _ _ (fun W h => heap_kept h.1 hk1) Tryd.underlying25 rfl (hdSize _)) (by assumption) ?_
  try simp only [Act.put, List.setIfInBounds_toArray, List.set_cons_zero, List.set_cons_succ]
  refine wpAnyH_ready (rs := [5]) (by kernel_rfl) (by simp) ?_
  refine AllReadyH.cons (o := { dst := some 19, op := Op.call { callee := Callee.value (Operand.func 25), args := #[Operand.tmp 18], argTypes := #[25] }, type := 26, pos := "mac.go:146", after := #[{ on := 4, ground := Ground.data }], guard := none }) rfl (fun K hK => ?_) AllReadyH.nil
  go_simp
  refine (hTag.out _).mono ?_
  rintro e w2 ⟨ta, tn, tc, rfl, hB2, hb2⟩
  have hb2' : Below w1.heap.size w1 w2 := (below_drewN (Below.refl _ _) 1).trans (hb2.mono (Nat.le_refl _))
  go_wp2_with fail
  refine hK.out _ _ ?_ (fun hHeld5 => ?_)
  · exact ⟨hb2', by rw [hb2'.cell (p := ⟨w.heap.size, 16, none⟩) (block_lt_of_cell hc16)]; exact hc16⟩
  clear hK K
  try simp only [Act.put, List.setIfInBounds_toArray, List.set_cons_zero, List.set_cons_succ]
  refine wpAnyH_ready (rs := [9]) (by kernel_rfl) (by simp) ?_
  refine AllReadyH.cons (o := { dst := some 23, op := Op.call { callee := Callee.value (Operand.func 26), args := #[Operand.tmp 22], argTypes := #[75] }, type := 26, pos := "mac.go:146", after := #[{ on := 8, ground := Ground.data }, { on := 5, ground := Ground.chain }], guard := none }) rfl (fun K hK => ?_) AllReadyH.nil
  go_simp
  refine (pair_any _ _ y0 y1).mono ?_
  rintro e w3 ⟨rfl, hB3, hb3⟩
  have hb3' : Below w1.heap.size w1 w3 := hb2'.later hb3
  have hB2' := hB2.below hb3
  go_wp2_with fail
  refine hK.out _ _ ?_ (fun hHeld9 => ?_)
  · exact ⟨hb3', by rw [hb3'.cell (p := ⟨w.heap.size, 16, none⟩) (block_lt_of_cell hc16)]; exact hc16⟩
  clear hK K
  try simp only [Act.put, List.setIfInBounds_toArray, List.set_cons_zero, List.set_cons_succ]
  clear hB2 hb3 hb2 hb2'
  refine wpAnyH_ready (rs := [11]) (by kernel_rfl) (by simp) ?_
  refine AllReadyH.cons (o := { dst := some 25, op := Op.buildSlice 102 5 #[(0, Operand.tmp 15), (1, Operand.tmp 17), (2, Operand.tmp 19), (3, Operand.tmp 23), (4, Operand.tmp 24)], type := 102, pos := "mac.go:146", after := #[{ on := 1, ground := Ground.data }, { on := 3, ground := Ground.data }, { on := 5, ground := Ground.data }, { on := 9, ground := Ground.data }, { on := 10, ground := Ground.data }], guard := none }) rfl (fun K hK => ?_) AllReadyH.nil
  go_simp
  refine hK.out _ _ ?_ (fun hHeld11 => ?_)
  · have hb4 := hb3'.later (below1 w3 (.cells #[.slice (some ⟨w.heap.size, 0, none⟩) 6 6, .slice (some ⟨w.heap.size, 6, none⟩) 6 6, .slice ta tn tc, .slice (some ⟨w2.heap.size, 0, none⟩) 2 2, .slice a l.length cap] 26))
    exact ⟨hb4, by rw [hb4.cell (p := ⟨w.heap.size, 16, none⟩) (block_lt_of_cell hc16)]; exact hc16⟩
  clear hK K
  try simp only [Act.put, List.setIfInBounds_toArray, List.set_cons_zero, List.set_cons_succ]
  refine wpAnyH_ready (rs := [12]) (by kernel_rfl) (by simp) ?_
  refine AllReadyH.cons (o := { dst := some 26, op := Op.call { callee := Callee.value (Operand.func 24), args := #[Operand.tmp 25], argTypes := #[102] }, type := 26, pos := "mac.go:146", after := #[{ on := 11, ground := Ground.data }, { on := 9, ground := Ground.chain }], guard := none }) rfl (fun K hK => ?_) AllReadyH.nil
  go_simp
  have hk3 := heap_kept hb3' hk1
  have hV3 := HV.out.below (hW1.out.later hb3')
  have hBB := BBs.lit (w := w3) [.slice (some ⟨w.heap.size, 0, none⟩) 6 6, .slice (some ⟨w.heap.size, 6, none⟩) 6 6, .slice ta tn tc, .slice (some ⟨w2.heap.size, 0, none⟩) 2 2, .slice a l.length cap] [h.dst, h.src, TL, digs h.typ 2, l] rfl (by simp [maxLen]) (fun i hi => by
    match i, hi with
    | 0, _ => exact Bs_dst hk3 hB
    | 1, _ => exact Bs_src hk3 hB
    | 2, _ => exact hB2'
    | 3, _ => exact hB3
    | 4, _ => exact hV3)
  have hfl : [h.dst, h.src, TL, digs h.typ 2, l].flatten = BO := by rw [hL.out]; simp
  have hlen : BO.length ≤ 1000000 := by
    rw [hL.out]
    have := hTl.out
    simp [Hd.dst, Hd.src, digs_length]
    omega
  have hF := finish_any hBB (HT.out.later ((hW1.out.later hb3').later (below1 _ _))) (by simp) (by rw [hfl]; exact hlen)
  rw [hfl, ← hBL.out] at hF
  refine hF.mono ?_
  rintro e w4 ⟨g, n, rfl, hn, hg, hB4, hb4⟩
  have Hn := hide hn
  clear hn
  have hb4' : Below w1.heap.size w1 w4 := (hb3'.later (below1 _ _)).later hb4
  go_wp2_with fail
  refine hK.out _ _ ?_ (fun hHeld12 => ?_)
  · exact ⟨hb4', by rw [hb4'.cell (p := ⟨w.heap.size, 16, none⟩) (block_lt_of_cell hc16)]; exact hc16⟩
  clear hK K
  try simp only [Act.put, List.setIfInBounds_toArray, List.set_cons_zero, List.set_cons_succ]
  refine wpAnyH_take (i := 13) (oi := { dst := some 4, op := Op.assign (Operand.tmp 26), type := 26, pos := "mac.go:146", after := #[{ on := 12, ground := Ground.data }, { on := 12, ground := Ground.chain }, { on := 0, ground := Ground.phase }, { on := 1, ground := Ground.phase }, { on := 2, ground := Ground.phase }, { on := 3, ground := Ground.phase }, { on := 4, ground := Ground.phase }, { on := 5, ground := Ground.phase }, { on := 6, ground := Ground.phase }, { on := 7, ground := Ground.phase }, { on := 8, ground := Ground.phase }, { on := 9, ground := Ground.phase }, { on := 10, ground := Ground.phase }, { on := 11, ground := Ground.phase }, { on := 12, ground := Ground.phase }], guard := none }) (v := ?v9) rfl (by kernel_rfl) (by kernel_rfl) (by kernel_rfl) (fun _ _ _ h => h) (Or.inl ⟨by rfl, ?y9⟩) (by assumption) ?r9
  case y9 => (intro w hSw; (try dsimp only at hSw); (try (go_split_ands)); go_simp; try with_reducible rfl)
  try simp only [Act.put, List.setIfInBounds_toArray, List.set_cons_zero, List.set_cons_succ]
  refine wpAnyH_take (i := 14) (oi := { dst := some 5, op := Op.assign (Operand.const (Value.int IntKind.i64 0)), type := 29, pos := "mac.go:146", after := #[{ on := 13, ground := Ground.chain }, { on := 0, ground := Ground.phase }, { on := 1, ground := Ground.phase }, { on := 2, ground := Ground.phase }, { on := 3, ground := Ground.phase }, { on := 4, ground := Ground.phase }, { on := 5, ground := Ground.phase }, { on := 6, ground := Ground.phase }, { on := 7, ground := Ground.phase }, { on := 8, ground := Ground.phase }, { on := 9, ground := Ground.phase }, { on := 10, ground := Ground.phase }, { on := 11, ground := Ground.phase }, { on := 12, ground := Ground.phase }, { on := 13, ground := Ground.phase }], guard := none }) (v := ?v10) rfl (by kernel_rfl) (by kernel_rfl) (by kernel_rfl) (fun _ _ _ h => h) (Or.inl ⟨by rfl, ?y10⟩) (by assumption) ?r10
  case y10 => (intro w hSw; (try dsimp only at hSw); (try (go_split_ands)); go_simp; try with_reducible rfl)
  try simp only [Act.put, List.setIfInBounds_toArray, List.set_cons_zero, List.set_cons_succ]
  refine wpAnyH_done (by kernel_rfl) ?_ _
  refine NoPanic.normal ?_
  go_wp2
  go_ret2
  refine ⟨g, n, rfl, Hn.out, ?_, hB4, hW1.out.later hb4'⟩
  have h1 := hW1.out.size
  have h2 := hb3'.size
  simp only [World.size_alloc] at hg
  omega
end Go.Proofs.YtiahiakllpjliaaDoor
