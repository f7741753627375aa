/-
  A contract of mac.Text. Conditions: those that each theorem names.
-/
import Derived.Test.YtmakaadmjgakaaaDoorMac1
namespace Go.Proofs.YtmakaadmjgakaaaDoor
open Go.RowKit

/-- A digit to the base 16, as a letter. -/
def hexd (n : Int) : Int := if n < 10 then 48 + n else 87 + n
def hexB (x : Int) : List Int := [hexd (x / 16), hexd (x % 16)]
/-- The text of an address, as far as so many bytes. -/
def textTo (l : List Int) : Nat → List Int
  | 0 => []
  | j + 1 => textTo l j ++ ((if 0 < j then [58] else []) ++ hexB (l.getD j 0))
theorem textTo_length (l : List Int) : ∀ j, (textTo l j).length = if j = 0 then 0 else 3 * j - 1
  | 0 => rfl
  | j + 1 => by
    rw [textTo, List.length_append, List.length_append, textTo_length l j]
    by_cases h : j = 0
    · subst h; rfl
    · rw [if_neg h, if_pos (by omega), if_neg (by omega)]; simp [hexB]; omega

theorem hex_indexN (n : Nat) (hn : n < 16) (w : World) : (Instr.index 9 (.string ⟨#[48, 49, 50, 51, 52, 53, 54, 55, 56, 57, 97, 98, 99, 100, 101, 102]⟩) (.int .u8 (n : Int))).run Tryd.prog w = .ok (.int .u8 (hexd (n : Int))) w := by
  rcases (show n = 0 ∨ n = 1 ∨ n = 2 ∨ n = 3 ∨ n = 4 ∨ n = 5 ∨ n = 6 ∨ n = 7 ∨ n = 8 ∨ n = 9 ∨ n = 10 ∨ n = 11 ∨ n = 12 ∨ n = 13 ∨ n = 14 ∨ n = 15 by omega) with rfl | rfl | rfl | rfl | rfl | rfl | rfl | rfl | rfl | rfl | rfl | rfl | rfl | rfl | rfl | rfl
  all_goals kernel_rfl
theorem hex_index (k : Int) (h0 : 0 ≤ k) (h1 : k < 16) (w : World) : (Instr.index 9 (.string ⟨#[48, 49, 50, 51, 52, 53, 54, 55, 56, 57, 97, 98, 99, 100, 101, 102]⟩) (.int .u8 k)).run Tryd.prog w = .ok (.int .u8 (hexd k)) w := by
  have := hex_indexN k.toNat (by omega) w
  rwa [Int.toNat_of_nonneg h0] at this
theorem mac_index (a b c d e f : Int) (j : Nat) (h : j < 6) (w : World) : (Instr.index 23 (.agg (mac6 a b c d e f)) (.int .i64 j)).run Tryd.prog w = .ok (.int .u8 ([a, b, c, d, e, f].getD j 0)) w := by
  rcases (show j = 0 ∨ j = 1 ∨ j = 2 ∨ j = 3 ∨ j = 4 ∨ j = 5 by omega) with rfl | rfl | rfl | rfl | rfl | rfl
  all_goals kernel_rfl
theorem u8_and15 (x : Int) (h : 0 ≤ x ∧ x ≤ 255) : bits .and .u8 x 15 = x % 16 := by
  obtain ⟨h0, h1⟩ := h
  obtain ⟨n, rfl⟩ := Int.eq_ofNat_of_zero_le h0
  have hn : n < 256 := by omega
  exact (show ∀ n : Nat, n < 256 → bits .and .u8 (n : Int) 15 = (n : Int) % 16 by decide +kernel) n hn
theorem hexd_byte (n : Int) (h0 : 0 ≤ n) (h1 : n < 16) : 0 ≤ hexd n ∧ hexd n ≤ 255 := by unfold hexd; split <;> omega
theorem textTo_byte (l : List Int) (hl : Byte l) : ∀ j, Byte (textTo l j)
  | 0 => Byte.nil
  | j + 1 => by
    have hx := hl.getD j
    refine (textTo_byte l hl j).append (Byte.append ?_ ?_)
    · split
      · intro z hz; simp at hz; omega
      · exact Byte.nil
    · intro z hz
      simp only [hexB, List.mem_cons, List.not_mem_nil, or_false] at hz
      rcases hz with rfl | rfl
      · exact hexd_byte _ (by omega) (by omega)
      · exact hexd_byte _ (by omega) (by omega)

theorem step_append_own {P : Program} {ops : Array Oper} {o : Oper} {a : Act} {w : World} {K : Act → World → Prop} {Q : Exit → Act → World → Prop} {E : Prop} (hw : Region.wanted o (yielded ops a.tmps) = true) (s x : Operand) (t : TypeId)
    (ho : o.op = .call { callee := .builtin .append, args := #[s, x], argTypes := #[t, t] })
    (base : Nat) (e : TypeId) (i : TypeInfo) (z : Value) (size bytes : Nat) (ht : P.underlying t = some (.slice e)) (hi : P.info? e = some i) (hz : i.zero = some z)
    (hsize : i.size = size) (hby : i.bytes = bytes) (hzs : z.cells.size = size) (hsz : 0 < size)
    (v : Value) (n : Nat) (xs : List Value) (hs : a.eval s = v) (hown : w.ownsRow base e size v n xs)
    (ad : Addr) (m c : Nat) (news : List Value) (hx : a.eval x = .slice (some ad) m c) (hl : news.length = m * size) (hnews : ∀ j u, news[j]? = some u → w.cell? (ad.add j) = some u) (h1 : ∀ u ∈ news, u.oneCell' = true)
    (h63 : n + m ≤ maxLen) (hbytes : (n + m) * bytes ≤ 140737488355328) (hbase : base ≤ w.heap.size)
    (h : ∀ v' w', w'.ownsRow base e size v' (n + m) (xs ++ news) → w.grownBy w' v.ownBlock → (v' = .slice none 0 0 ↔ v = .slice none 0 0 ∧ m = 0) → K (a.put o.dst v') w') :
    if Region.wanted o (yielded ops a.tmps) = true then Oper.wp P o a w K Q else E := by
  rw [if_pos hw]
  exact wp_append_own w s x t ho base e i z size bytes ht hi hz hsize hby hzs hsz v n xs hs hown ad m c news hx hl hnews h1 h63 hbytes hbase h
theorem cells_two_new (w : World) (t : TypeId) (x y : Value) : ∀ j u, [x, y][j]? = some u → (w.alloc (.cells #[x, y] t)).cell? ((⟨w.heap.size, 0, none⟩ : Addr).add j) = some u := by
  intro j u hu
  rw [Addr.add_mid, Nat.zero_add, World.cell?_alloc_new]
  match j, hu with
  | 0, hu => exact hu
  | 1, hu => exact hu

theorem owns_kept {w w' : World} {base e n : Nat} {v : Value} {xs : List Value} (h : w.ownsRow base e 1 v n xs) (hb : Below w.heap.size w w') : w'.ownsRow base e 1 v n xs := by
  obtain ⟨h1, h2⟩ := h
  refine ⟨h1, ?_⟩
  rcases h2 with h2 | ⟨g', cap', cur, hv, hg, hh, r⟩
  · exact .inl h2
  · exact .inr ⟨g', cap', cur, hv, hg, by rw [hb.block g' (Array.getElem?_eq_some_iff.1 hh).1]; exact hh, r⟩
theorem owns_place {w : World} {base e n : Nat} {v : Value} {xs : List Value} (h : w.ownsRow base e 1 v n xs) (hn : 0 < n) : ∃ g cap, v = .slice (some ⟨g, 0, none⟩) n cap := by
  rcases h.2 with ⟨_, h0⟩ | ⟨g, cap, _, rfl, _⟩
  · omega
  · exact ⟨g, cap, rfl⟩
set_option maxRecDepth 20000 in
theorem Text_any (a b c d e f : Int) (w : World) (hB : Byte [a, b, c, d, e, f]) :
    Calls Tryd.prog 27 #[.agg (mac6 a b c d e f)] w fun r w' => r = .returned (.string (bstr (textTo [a, b, c, d, e, f] 6))) ∧ Below w.heap.size w w' := by
  obtain ⟨i0, hi, hz0, hz1, hz2⟩ := info_parts Tryd.infoU8
  have hix := hide (fun j h w => mac_index a b c d e f j h w)
  generalize hl : [a, b, c, d, e, f] = l at *
  have HL := hide hl
  clear hl
  go_enter Tryd.func27, Tryd.ntmps27
  go_wp2
  have hb0 := below1 w (.cells (mac6 a b c d e f) 23)
  go_loopw [3, 7] (fun v i wr => ∃ j : Nat, j ≤ 6 ∧ i = .int .i64 j ∧ Hid (wr.ownsRow (w.heap.size + 1) 5 1 v (textTo l j).length ((textTo l j).map (Value.int .u8))) ∧ Hid (Below w.heap.size w wr) ∧ w.heap.size + 1 ≤ wr.heap.size) (fun _ i _ => 6 - (intOf i).toNat)
  case atStart => exact ⟨0, Nat.zero_le _, rfl, World.ownsRow_nil _ _ _ _, hb0, by simp⟩
  case round =>
    obtain ⟨j, hj, rfl, HO, HW, hsz⟩ := hrel
    by_cases hlt : j < 6
    · have hixj := fun w => hix.out j hlt w
      have hx := hB.getD j
      have hTs : Hid (textTo l (j + 1) = textTo l j ++ ((if 0 < j then [58] else []) ++ hexB (l.getD j 0))) := rfl
      have hTl := hide (textTo_length l j)
      have hTl2 := hide (textTo_length l (j + 1))
      generalize l.getD j 0 = x at *
      have hand := u8_and15 x hx
      have i1 := fun w => hex_index (x / 16) (by omega) (by omega) w
      have i2 := fun w => hex_index (x % 16) (by omega) (by omega) w
      by_cases hj0 : 0 < j
      · go_wp2_with (at_builtin; refine wpList_append_own _ rfl _ _ 26 rfl (w.heap.size + 1) 5 i0 _ 1 1 Tryd.underlying26 hi hz0 hz1 hz2 rfl (by decide) _ (textTo l j).length _ rfl (HO.out.alloc _) _ 1 1 _ rfl rfl (cell_one_new _ _ _) (by intro u hu; simp at hu; subst hu; rfl) (by rw [hTl.out]; unfold maxLen; split <;> omega) (by rw [hTl.out]; split <;> omega) (by simp; omega) ?_; intro v4 w4 hown4 hgrow4 _)
        have hb4 : Below w.heap.size w w4 := (HW.out.alloc HW.out.size _).grown hgrow4 (by simp; omega) (fun k e => by have := (HO.out.lt k e).1; omega)
        have hz4 : w.heap.size + 1 ≤ w4.heap.size := by have := hgrow4.size; simp at this; omega
        clear hgrow4
        refine wp_region_noPanic ?_
        refine wp_region_held_drew (S := fun _ => True) (by kernel_rfl) trivial (fun hHeld => ?_)
        refine wpAnyH_take (i := 0) (oi := { dst := some 16, op := Op.move (Operand.tmp 3), type := 26, pos := "mac.go:46", after := #[], guard := none }) (v := ?v1) rfl (by kernel_rfl) (by kernel_rfl) (by kernel_rfl) (fun _ _ _ h => h) (Or.inl ⟨by rfl, ?y1⟩) (by assumption) ?r1
        case y1 => (intro w hSw; (try dsimp only at hSw); (try (go_split_ands)); go_simp; try with_reducible rfl)
        try simp only [Act.put, List.setIfInBounds_toArray, List.set_cons_zero, List.set_cons_succ]
        refine wpAnyH_take (i := 1) (oi := { dst := some 17, op := Op.move (Operand.tmp 5), type := 5, pos := "mac.go:46", after := #[], guard := none }) (v := ?v2) rfl (by kernel_rfl) (by kernel_rfl) (by kernel_rfl) (fun _ _ _ h => h) (Or.inl ⟨by rfl, ?y2⟩) (by assumption) ?r2
        case y2 => (intro w hSw; (try dsimp only at hSw); (try (go_split_ands)); go_simp; try with_reducible rfl)
        try simp only [Act.put, List.setIfInBounds_toArray, List.set_cons_zero, List.set_cons_succ]
        refine wpAnyH_take (i := 2) (oi := { dst := some 18, op := Op.binOp BinOp.shr 5 (Operand.tmp 17) (Operand.const (Value.int IntKind.u64 4)) 95, type := 5, pos := "mac.go:46", after := #[{ on := 1, ground := Ground.data }], guard := none }) (v := ?v3) rfl (by kernel_rfl) (by kernel_rfl) (by kernel_rfl) (fun _ _ _ h => h) (Or.inl ⟨by rfl, ?y3⟩) (by assumption) ?r3
        case y3 => (intro w hSw; (try dsimp only at hSw); (try (go_split_ands)); go_simp; try with_reducible rfl)
        try simp only [Act.put, List.setIfInBounds_toArray, List.set_cons_zero, List.set_cons_succ]
        refine wpAnyH_take (i := 3) (oi := { dst := some 19, op := Op.index 9 (Operand.const (Value.string { data := #[48, 49, 50, 51, 52, 53, 54, 55, 56, 57, 97, 98, 99, 100, 101, 102] })) (Operand.tmp 18), type := 5, pos := "mac.go:46", after := #[{ on := 2, ground := Ground.data }], guard := none }) (v := ?v4) rfl (by kernel_rfl) (by kernel_rfl) (by kernel_rfl) (fun _ _ _ h => h) (Or.inl ⟨by rfl, ?y4⟩) (by assumption) ?r4
        case y4 => (intro w hSw; (try dsimp only at hSw); (try (go_split_ands)); go_simp; try with_reducible rfl)
        try simp only [Act.put, List.setIfInBounds_toArray, List.set_cons_zero, List.set_cons_succ]
        refine wpAnyH_take (i := 4) (oi := { dst := some 20, op := Op.move (Operand.tmp 5), type := 5, pos := "mac.go:46", after := #[], guard := none }) (v := ?v5) rfl (by kernel_rfl) (by kernel_rfl) (by kernel_rfl) (fun _ _ _ h => h) (Or.inl ⟨by rfl, ?y5⟩) (by assumption) ?r5
        case y5 => (intro w hSw; (try dsimp only at hSw); (try (go_split_ands)); go_simp; try with_reducible rfl)
        try simp only [Act.put, List.setIfInBounds_toArray, List.set_cons_zero, List.set_cons_succ]
        refine wpAnyH_take (i := 5) (oi := { dst := some 21, op := Op.binOp BinOp.and 5 (Operand.tmp 20) (Operand.const (Value.int IntKind.u8 15)) 5, type := 5, pos := "mac.go:46", after := #[{ on := 4, ground := Ground.data }], guard := none }) (v := ?v6) rfl (by kernel_rfl) (by kernel_rfl) (by kernel_rfl) (fun _ _ _ h => h) (Or.inl ⟨by rfl, ?y6⟩) (by assumption) ?r6
        case y6 => (intro w hSw; (try dsimp only at hSw); (try (go_split_ands)); go_simp; try with_reducible rfl)
        try simp only [Act.put, List.setIfInBounds_toArray, List.set_cons_zero, List.set_cons_succ]
        refine wpAnyH_take (i := 6) (oi := { dst := some 22, op := Op.index 9 (Operand.const (Value.string { data := #[48, 49, 50, 51, 52, 53, 54, 55, 56, 57, 97, 98, 99, 100, 101, 102] })) (Operand.tmp 21), type := 5, pos := "mac.go:46", after := #[{ on := 5, ground := Ground.data }], guard := none }) (v := ?v7) rfl (by kernel_rfl) (by kernel_rfl) (by kernel_rfl) (fun _ _ _ h => h) (Or.inl ⟨by rfl, ?y7⟩) (by assumption) ?r7
        case y7 => (intro w hSw; (try dsimp only at hSw); (try (go_split_ands)); go_simp; try with_reducible rfl)
        try simp only [Act.put, List.setIfInBounds_toArray, List.set_cons_zero, List.set_cons_succ]
        refine wpAnyH_ready (rs := [7]) (by kernel_rfl) (by simp) ?_
        refine AllReadyH.cons (o := { dst := some 23, op := Op.buildSlice 26 2 #[(0, Operand.tmp 19), (1, Operand.tmp 22)], type := 26, pos := "mac.go:46", after := #[{ on := 3, ground := Ground.data }, { on := 6, ground := Ground.data }], guard := none }) rfl (fun K hK => ?_) AllReadyH.nil
        go_simp
        refine hK.out _ _ trivial (fun hHeld7 => ?_)
        clear hK K
        try simp only [Act.put, List.setIfInBounds_toArray, List.set_cons_zero, List.set_cons_succ]
        refine wpAnyH_ready (rs := [8]) (by kernel_rfl) (by simp) ?_
        refine AllReadyH.cons (o := { dst := some 24, op := Op.call { callee := Callee.builtin Builtin.append, args := #[Operand.tmp 16, Operand.tmp 23], argTypes := #[26, 26] }, type := 26, pos := "mac.go:46", after := #[{ on := 0, ground := Ground.data }, { on := 7, ground := Ground.data }], guard := none }) rfl (fun K hK => ?_) AllReadyH.nil
        have hbd : Below w4.heap.size w4 ((w4.alloc (.cells #[.int .u8 (hexd (x / 16)), .int .u8 (hexd (x % 16))] 5)).drew) := below_drewN (below1 _ _) 1
        refine step_append_own rfl _ _ 26 rfl (w.heap.size + 1) 5 i0 _ 1 1 Tryd.underlying26 hi hz0 hz1 hz2 rfl (by decide) _ ((textTo l j).length + 1) _ rfl (owns_kept hown4 hbd) ⟨w4.heap.size, 0, none⟩ 2 2 [.int .u8 (hexd (x / 16)), .int .u8 (hexd (x % 16))] rfl rfl (cells_two_new w4 _ _ _) (by intro u hu; simp at hu; rcases hu with rfl | rfl <;> rfl) (by rw [hTl.out]; unfold maxLen; split <;> omega) (by rw [hTl.out]; split <;> omega) (by have := hbd.size; omega) ?_
        intro v5 w5 hown5 hgrow5 _
        have hb5 : Hid (Below w.heap.size w w5) := (Below.later hb4 hbd).grown hgrow5 (by have := hb4.size; have := hbd.size; omega) (fun k e => by have := (hown4.lt k e).1; omega)
        have H5 : Hid (w5.ownsRow (w.heap.size + 1) 5 1 v5 (textTo l (j + 1)).length ((textTo l (j + 1)).map (Value.int .u8))) := by
          show w5.ownsRow _ _ _ _ _ _
          have e1 : (textTo l (j + 1)).map (Value.int .u8) = ((textTo l j).map (Value.int .u8) ++ [.int .u8 58]) ++ [.int .u8 (hexd (x / 16)), .int .u8 (hexd (x % 16))] := by
            rw [hTs.out, if_pos hj0]; simp [hexB]
          have e2 : (textTo l (j + 1)).length = ((textTo l j).length + 1) + 2 := by
            rw [hTs.out, if_pos hj0]; simp [hexB]
          rw [e1, e2]
          exact hown5
        have hsz5 : w.heap.size + 1 ≤ w5.heap.size := by have := hgrow5.size; have := hbd.size; omega
        clear hown5 hgrow5 hbd
        refine hK.out _ _ trivial (fun hHeld8 => ?_)
        clear hK K
        try simp only [Act.put, List.setIfInBounds_toArray, List.set_cons_zero, List.set_cons_succ]
        refine wpAnyH_take (i := 9) (oi := { dst := some 3, op := Op.assign (Operand.tmp 24), type := 26, pos := "mac.go:46", after := #[{ on := 8, ground := Ground.data }, { on := 8, ground := Ground.chain }, { on := 0, ground := Ground.phase }, { on := 1, ground := Ground.phase }, { on := 2, ground := Ground.phase }, { on := 3, ground := Ground.phase }, { on := 4, ground := Ground.phase }, { on := 5, ground := Ground.phase }, { on := 6, ground := Ground.phase }, { on := 7, ground := Ground.phase }, { on := 8, ground := Ground.phase }], guard := none }) (v := ?v8) rfl (by kernel_rfl) (by kernel_rfl) (by kernel_rfl) (fun _ _ _ h => h) (Or.inl ⟨by rfl, ?y8⟩) (by assumption) ?r8
        case y8 => (intro w hSw; (try dsimp only at hSw); (try (go_split_ands)); go_simp; try with_reducible rfl)
        try simp only [Act.put, List.setIfInBounds_toArray, List.set_cons_zero, List.set_cons_succ]
        refine wpAnyH_done (by kernel_rfl) ?_ _
        refine NoPanic.normal ?_
        go_wp2
        go_roundw
        case rel => exact ⟨j + 1, by omega, by go_num, H5, hb5, hsz5⟩
        case measure => simp [intOf]; omega
      · have hj0' : (j : Int) ≤ 0 := by omega
        go_wp2
        refine wp_region_noPanic ?_
        refine wp_region_held_drew (S := fun _ => True) (by kernel_rfl) trivial (fun hHeld => ?_)
        refine wpAnyH_take (i := 0) (oi := { dst := some 16, op := Op.move (Operand.tmp 3), type := 26, pos := "mac.go:46", after := #[], guard := none }) (v := ?v9) rfl (by kernel_rfl) (by kernel_rfl) (by kernel_rfl) (fun _ _ _ h => h) (Or.inl ⟨by rfl, ?y9⟩) (by assumption) ?r9
        case y9 => (intro w hSw; (try dsimp only at hSw); (try (go_split_ands)); go_simp; try with_reducible rfl)
        try simp only [Act.put, List.setIfInBounds_toArray, List.set_cons_zero, List.set_cons_succ]
        refine wpAnyH_take (i := 1) (oi := { dst := some 17, op := Op.move (Operand.tmp 5), type := 5, pos := "mac.go:46", after := #[], guard := none }) (v := ?v10) rfl (by kernel_rfl) (by kernel_rfl) (by kernel_rfl) (fun _ _ _ h => h) (Or.inl ⟨by rfl, ?y10⟩) (by assumption) ?r10
        case y10 => (intro w hSw; (try dsimp only at hSw); (try (go_split_ands)); go_simp; try with_reducible rfl)
        try simp only [Act.put, List.setIfInBounds_toArray, List.set_cons_zero, List.set_cons_succ]
        refine wpAnyH_take (i := 2) (oi := { dst := some 18, op := Op.binOp BinOp.shr 5 (Operand.tmp 17) (Operand.const (Value.int IntKind.u64 4)) 95, type := 5, pos := "mac.go:46", after := #[{ on := 1, ground := Ground.data }], guard := none }) (v := ?v11) rfl (by kernel_rfl) (by kernel_rfl) (by kernel_rfl) (fun _ _ _ h => h) (Or.inl ⟨by rfl, ?y11⟩) (by assumption) ?r11
        case y11 => (intro w hSw; (try dsimp only at hSw); (try (go_split_ands)); go_simp; try with_reducible rfl)
        try simp only [Act.put, List.setIfInBounds_toArray, List.set_cons_zero, List.set_cons_succ]
        refine wpAnyH_take (i := 3) (oi := { dst := some 19, op := Op.index 9 (Operand.const (Value.string { data := #[48, 49, 50, 51, 52, 53, 54, 55, 56, 57, 97, 98, 99, 100, 101, 102] })) (Operand.tmp 18), type := 5, pos := "mac.go:46", after := #[{ on := 2, ground := Ground.data }], guard := none }) (v := ?v12) rfl (by kernel_rfl) (by kernel_rfl) (by kernel_rfl) (fun _ _ _ h => h) (Or.inl ⟨by rfl, ?y12⟩) (by assumption) ?r12
        case y12 => (intro w hSw; (try dsimp only at hSw); (try (go_split_ands)); go_simp; try with_reducible rfl)
        try simp only [Act.put, List.setIfInBounds_toArray, List.set_cons_zero, List.set_cons_succ]
        refine wpAnyH_take (i := 4) (oi := { dst := some 20, op := Op.move (Operand.tmp 5), type := 5, pos := "mac.go:46", after := #[], guard := none }) (v := ?v13) rfl (by kernel_rfl) (by kernel_rfl) (by kernel_rfl) (fun _ _ _ h => h) (Or.inl ⟨by rfl, ?y13⟩) (by assumption) ?r13
        case y13 => (intro w hSw; (try dsimp only at hSw); (try (go_split_ands)); go_simp; try with_reducible rfl)
        try simp only [Act.put, List.setIfInBounds_toArray, List.set_cons_zero, List.set_cons_succ]
        refine wpAnyH_take (i := 5) (oi := { dst := some 21, op := Op.binOp BinOp.and 5 (Operand.tmp 20) (Operand.const (Value.int IntKind.u8 15)) 5, type := 5, pos := "mac.go:46", after := #[{ on := 4, ground := Ground.data }], guard := none }) (v := ?v14) rfl (by kernel_rfl) (by kernel_rfl) (by kernel_rfl) (fun _ _ _ h => h) (Or.inl ⟨by rfl, ?y14⟩) (by assumption) ?r14
        case y14 => (intro w hSw; (try dsimp only at hSw); (try (go_split_ands)); go_simp; try with_reducible rfl)
        try simp only [Act.put, List.setIfInBounds_toArray, List.set_cons_zero, List.set_cons_succ]
        refine wpAnyH_take (i := 6) (oi := { dst := some 22, op := Op.index 9 (Operand.const (Value.string { data := #[48, 49, 50, 51, 52, 53, 54, 55, 56, 57, 97, 98, 99, 100, 101, 102] })) (Operand.tmp 21), type := 5, pos := "mac.go:46", after := #[{ on := 5, ground := Ground.data }], guard := none }) (v := ?v15) rfl (by kernel_rfl) (by kernel_rfl) (by kernel_rfl) (fun _ _ _ h => h) (Or.inl ⟨by rfl, ?y15⟩) (by assumption) ?r15
        case y15 => (intro w hSw; (try dsimp only at hSw); (try (go_split_ands)); go_simp; try with_reducible rfl)
        try simp only [Act.put, List.setIfInBounds_toArray, List.set_cons_zero, List.set_cons_succ]
        refine wpAnyH_ready (rs := [7]) (by kernel_rfl) (by simp) ?_
        refine AllReadyH.cons (o := { dst := some 23, op := Op.buildSlice 26 2 #[(0, Operand.tmp 19), (1, Operand.tmp 22)], type := 26, pos := "mac.go:46", after := #[{ on := 3, ground := Ground.data }, { on := 6, ground := Ground.data }], guard := none }) rfl (fun K hK => ?_) AllReadyH.nil
        go_simp
        refine hK.out _ _ trivial (fun hHeld7 => ?_)
        clear hK K
        try simp only [Act.put, List.setIfInBounds_toArray, List.set_cons_zero, List.set_cons_succ]
        refine wpAnyH_ready (rs := [8]) (by kernel_rfl) (by simp) ?_
        refine AllReadyH.cons (o := { dst := some 24, op := Op.call { callee := Callee.builtin Builtin.append, args := #[Operand.tmp 16, Operand.tmp 23], argTypes := #[26, 26] }, type := 26, pos := "mac.go:46", after := #[{ on := 0, ground := Ground.data }, { on := 7, ground := Ground.data }], guard := none }) rfl (fun K hK => ?_) AllReadyH.nil
        have hbd : Below wr.heap.size wr ((wr.alloc (.cells #[.int .u8 (hexd (x / 16)), .int .u8 (hexd (x % 16))] 5)).drew) := below_drewN (below1 _ _) 1
        refine step_append_own rfl _ _ 26 rfl (w.heap.size + 1) 5 i0 _ 1 1 Tryd.underlying26 hi hz0 hz1 hz2 rfl (by decide) _ (textTo l j).length _ rfl (owns_kept HO.out hbd) ⟨wr.heap.size, 0, none⟩ 2 2 [.int .u8 (hexd (x / 16)), .int .u8 (hexd (x % 16))] rfl rfl (cells_two_new wr _ _ _) (by intro u hu; simp at hu; rcases hu with rfl | rfl <;> rfl) (by rw [hTl.out]; unfold maxLen; split <;> omega) (by rw [hTl.out]; split <;> omega) (by have := hbd.size; omega) ?_
        intro v5 w5 hown5 hgrow5 _
        have hb5 : Hid (Below w.heap.size w w5) := (Below.later HW.out hbd).grown hgrow5 (by have := HW.out.size; have := hbd.size; omega) (fun k e => by have := (HO.out.lt k e).1; omega)
        have H5 : Hid (w5.ownsRow (w.heap.size + 1) 5 1 v5 (textTo l (j + 1)).length ((textTo l (j + 1)).map (Value.int .u8))) := by
          show w5.ownsRow _ _ _ _ _ _
          have e1 : (textTo l (j + 1)).map (Value.int .u8) = (textTo l j).map (Value.int .u8) ++ [.int .u8 (hexd (x / 16)), .int .u8 (hexd (x % 16))] := by
            rw [hTs.out, if_neg hj0]; simp [hexB]
          have e2 : (textTo l (j + 1)).length = (textTo l j).length + 2 := by
            rw [hTs.out, if_neg hj0]; simp [hexB]
          rw [e1, e2]
          exact hown5
        have hsz5 : w.heap.size + 1 ≤ w5.heap.size := by have := hgrow5.size; have := hbd.size; omega
        clear hown5 hgrow5 hbd
        refine hK.out _ _ trivial (fun hHeld8 => ?_)
        clear hK K
        try simp only [Act.put, List.setIfInBounds_toArray, List.set_cons_zero, List.set_cons_succ]
        refine wpAnyH_take (i := 9) (oi := { dst := some 3, op := Op.assign (Operand.tmp 24), type := 26, pos := "mac.go:46", after := #[{ on := 8, ground := Ground.data }, { on := 8, ground := Ground.chain }, { on := 0, ground := Ground.phase }, { on := 1, ground := Ground.phase }, { on := 2, ground := Ground.phase }, { on := 3, ground := Ground.phase }, { on := 4, ground := Ground.phase }, { on := 5, ground := Ground.phase }, { on := 6, ground := Ground.phase }, { on := 7, ground := Ground.phase }, { on := 8, ground := Ground.phase }], guard := none }) (v := ?v16) rfl (by kernel_rfl) (by kernel_rfl) (by kernel_rfl) (fun _ _ _ h => h) (Or.inl ⟨by rfl, ?y16⟩) (by assumption) ?r16
        case y16 => (intro w hSw; (try dsimp only at hSw); (try (go_split_ands)); go_simp; try with_reducible rfl)
        try simp only [Act.put, List.setIfInBounds_toArray, List.set_cons_zero, List.set_cons_succ]
        refine wpAnyH_done (by kernel_rfl) ?_ _
        refine NoPanic.normal ?_
        go_wp2
        go_roundw
        case rel => exact ⟨j + 1, by omega, by go_num, H5, hb5, hsz5⟩
        case measure => simp [intOf]; omega
    · obtain rfl : j = 6 := by omega
      obtain ⟨g, cap, rfl⟩ := owns_place HO.out (by rw [textTo_length]; decide)
      have hq := conv_str (P := Tryd.prog) 26 9 5 Tryd.underlying26 Tryd.underlying5 Tryd.underlying9 (Bs.own HO.out (textTo_byte l hB 6))
      generalize hs : bstr (textTo l 6) = s at *
      have HX := hide hs
      clear hs
      go_wp2
      go_ret
      exact ⟨by rw [HX.out]; rfl, HW.out⟩
end Go.Proofs.YtmakaadmjgakaaaDoor
