/-
  The walk of FdbPlays. Conditions: those that each theorem names.
-/
import Derived.Test.YtiahiakllpjliaaFdb17
import Derived.Test.YtiahiakllpjliaaOpnF
import Derived.BigQuiet
import Derived.Deep.QuietTactic
namespace Go.Proofs.Ytiahiakllpjliaa
open Go.RowKit Go.Maps
set_option linter.unusedVariables false
set_option linter.unusedSimpArgs false
set_option maxRecDepth 20000

theorem alloc_map12 (w : World) : (Instr.alloc 26 true (.tuple #[])).run Try.prog w = .ok (.pointer (some ⟨w.heap.size, 0, none⟩)) (w.alloc (.cells #[.map none] 26)) := by
  go_simp

set_option maxHeartbeats 32000000 in
theorem Plays_walk (room age : Int) (b : Option Addr) (n cap : Nat) (xs : List Fa) (W : World) (hX : Hid (Fas W b n xs)) (hn : n ≤ maxLen) (hr0 : I64 room) (ha0 : I64 age) :
    Calls Try.prog 3 #[.int .i64 room, .int .i64 age, .slice b n cap] W fun r w' => r = .returned (.bool true) ∧ Below W.heap.size W w' := by
  unfold maxLen at hn
  obtain ⟨r1, r2⟩ := hr0
  obtain ⟨g1, g2⟩ := ha0
  have hk := hide (keeps_any (W.alloc (.cells #[.int .i64 age] 2)))
  have hb0 := hide (below1 W (.cells #[.int .i64 age] 2))
  have hp0 := hide (heap_alloc_new W (.cells #[.int .i64 age] 2))
  go_enter Try.func3, Try.ntmps3
  go_wp2_with fail
  refine hk.out.mono ?_
  rintro _ w1 ⟨rfl, hb1⟩
  have hp1 := hide (heap_kept hb1 hp0.out)
  have hB1 := hide (hb0.out.later hb1)
  have c1 : w1.cell? ⟨W.heap.size, 0, none⟩ = some (.int .i64 age) := cell_of_row _ _ _ _ _ _ hp1.out
  have hKb : Hid (W.heap.size < w1.heap.size) := (Array.getElem?_eq_some_iff.1 hp1.out).1
  clear hk hb0 hp0 hb1
  by_cases hn150 : 150 < n
  · go_wp2
    go_ret
    exact ⟨rfl, hB1.out⟩
  have hd1 : decide ((150 : Int) < (n : Int)) = false := decide_eq_false (by omega)
  by_cases ha40 : 1099511627776 < age
  · go_wp2
    go_ret
    exact ⟨rfl, hB1.out⟩
  have hd2 : decide ((1099511627776 : Int) < age) = false := decide_eq_false (by omega)
  replace hn150 : n ≤ 150 := by omega
  go_wp2_with fail
  refine (FoNew (K := W.heap.size) (A := fun k => k = W.heap.size) room age w1 (fun k h => by subst h; exact hKb.out) (Nat.le_of_lt hKb.out)).mono ?_
  rintro _ w2 ⟨rfl, hF, hb2⟩
  obtain ⟨M, hM⟩ : ∃ M : Int, M = max room 0 := ⟨_, rfl⟩
  obtain ⟨R, hR⟩ : ∃ R : Int, R = min M 1024 := ⟨_, rfl⟩
  obtain ⟨A, hA⟩ : ∃ A : Int, A = max age 0 := ⟨_, rfl⟩
  have hmx : ∀ (ts : Array TypeId) (t : TypeId) (w : World), (Builtin.max_ ts t #[.int .i64 room, .int .i64 0]).run Try.prog w = .ok (.int .i64 M) w := fun ts t w => by rw [hM, Go.Lib.run_max_ints]
  have hmn : ∀ (ts : Array TypeId) (t : TypeId) (w : World), (Builtin.min_ ts t #[.int .i64 M, .int .i64 1024]).run Try.prog w = .ok (.int .i64 R) w := fun ts t w => by rw [hR, Go.Lib.run_min_ints]
  have hma : ∀ (ts : Array TypeId) (t : TypeId) (w : World), (Builtin.max_ ts t #[.int .i64 age, .int .i64 0]).run Try.prog w = .ok (.int .i64 A) w := fun ts t w => by rw [hA, Go.Lib.run_max_ints]
  rw [← hM, ← hR, ← hA] at hF
  have hR0 : Hid (0 ≤ R ∧ R ≤ 1024) := hide (by omega)
  have hA0 : Hid (0 ≤ A) := hide (by omega)
  have hF2 := hide hF
  have hp2 := hide (heap_kept hb2 hp1.out)
  have hB2 := hide (hB1.out.trans (hb2.mono (Nat.le_of_lt hKb.out)))
  have c2 : w2.cell? ⟨W.heap.size, 0, none⟩ = some (.int .i64 age) := cell_of_row _ _ _ _ _ _ hp2.out
  have z2 : w2.frozen? ⟨W.heap.size, 0, none⟩ = false := by simp [World.frozen?, hp2.out]
  clear hF hb2 hp1 hB1 c1 hR hM hA
  generalize w1.heap.size = t at *
  clear w1 hKb
  go_wp2_with fail
  refine wp_region_noPanic ?_
  refine wp_region_held_drew (S := fun w => True) (by kernel_rfl) trivial (fun hHeld => ?_)
  refine wpAnyH_take (i := 0) (oi := { dst := some 42, op := Op.move (Operand.tmp 0), type := 3, pos := "law.go:49", after := #[], guard := none }) (v := ?v1) rfl (by kernel_rfl) (by kernel_rfl) (by kernel_rfl) (fun _ _ _ h => h) (Or.inl ⟨by rfl, ?y1⟩) trivial ?r1
  case y1 => (intro w hSw; (try dsimp only at hSw); (try (go_split_ands)); go_simp; try with_reducible rfl)
  try simp only [Act.put, List.setIfInBounds_toArray, List.set_cons_zero, List.set_cons_succ]
  refine wpAnyH_take (i := 1) (oi := { dst := some 43, op := Op.call { callee := Callee.builtin Builtin.max, args := #[Operand.tmp 42, Operand.const (Value.int IntKind.i64 0)], argTypes := #[3, 3] }, type := 3, pos := "law.go:49", after := #[{ on := 0, ground := Ground.data }], guard := none }) (v := ?v2) rfl (by kernel_rfl) (by kernel_rfl) (by kernel_rfl) (fun _ _ _ h => h) (Or.inl ⟨by rfl, ?y2⟩) trivial ?r2
  case y2 => (intro w hSw; (try dsimp only at hSw); (try (go_split_ands)); go_simp; try with_reducible rfl)
  try simp only [Act.put, List.setIfInBounds_toArray, List.set_cons_zero, List.set_cons_succ]
  refine wpAnyH_take (i := 2) (oi := { dst := some 44, op := Op.call { callee := Callee.builtin Builtin.min, args := #[Operand.tmp 43, Operand.const (Value.int IntKind.i64 1024)], argTypes := #[3, 3] }, type := 3, pos := "law.go:49", after := #[{ on := 1, ground := Ground.data }], guard := none }) (v := ?v3) rfl (by kernel_rfl) (by kernel_rfl) (by kernel_rfl) (fun _ _ _ h => h) (Or.inl ⟨by rfl, ?y3⟩) trivial ?r3
  case y3 => (intro w hSw; (try dsimp only at hSw); (try (go_split_ands)); go_simp; try with_reducible rfl)
  try simp only [Act.put, List.setIfInBounds_toArray, List.set_cons_zero, List.set_cons_succ]
  refine wpAnyH_take (i := 5) (oi := { dst := some 0, op := Op.assign (Operand.tmp 44), type := 3, pos := "law.go:49", after := #[{ on := 2, ground := Ground.data }, { on := 0, ground := Ground.phase }, { on := 1, ground := Ground.phase }, { on := 2, ground := Ground.phase }, { on := 3, ground := Ground.textOnly Departure.lateStores }, { on := 4, ground := Ground.textOnly Departure.lateStoresUnsure }], guard := none }) (v := ?v4) rfl (by kernel_rfl) (by kernel_rfl) (by kernel_rfl) (fun _ _ _ h => h) (Or.inl ⟨by rfl, ?y4⟩) trivial ?r4
  case y4 => (intro w hSw; (try dsimp only at hSw); (try (go_split_ands)); go_simp; try with_reducible rfl)
  try simp only [Act.put, List.setIfInBounds_toArray, List.set_cons_zero]
  have c3 : w2.drew.cell? ⟨W.heap.size, 0, none⟩ = some (.int .i64 age) := c2
  have z3 : w2.drew.frozen? ⟨W.heap.size, 0, none⟩ = false := z2
  refine wpAnyH_ready (rs := [3]) (by kernel_rfl) (by simp) ?_
  refine AllReadyH.cons (o := { dst := some 45, op := Op.load 2 (Operand.tmp 4), type := 2, pos := "law.go:49", after := #[], guard := none }) rfl (fun K hK => ?_) AllReadyH.nil
  go_simp
  refine hK.out _ _ trivial (fun hHeld3 => ?_)
  clear hK K
  try simp only [Act.put, List.setIfInBounds_toArray, List.set_cons_zero, List.set_cons_succ]
  refine wpAnyH_take (i := 4) (oi := { dst := some 46, op := Op.call { callee := Callee.builtin Builtin.max, args := #[Operand.tmp 45, Operand.const (Value.int IntKind.i64 0)], argTypes := #[2, 2] }, type := 2, pos := "law.go:49", after := #[{ on := 3, ground := Ground.data }], guard := none }) (v := ?v5) rfl (by kernel_rfl) (by kernel_rfl) (by kernel_rfl) (fun _ _ _ h => h) (Or.inl ⟨by rfl, ?y5⟩) trivial ?r5
  case y5 => (intro w hSw; (try dsimp only at hSw); (try (go_split_ands)); go_simp; try with_reducible rfl)
  try simp only [Act.put, List.setIfInBounds_toArray, List.set_cons_zero, List.set_cons_succ]
  refine wpAnyH_ready (rs := [6]) (by kernel_rfl) (by simp) ?_
  refine AllReadyH.cons (o := { dst := none, op := Op.store 2 (Operand.tmp 4) (Operand.tmp 46), type := 0, pos := "law.go:49", after := #[{ on := 4, ground := Ground.data }, { on := 5, ground := Ground.chain }, { on := 0, ground := Ground.phase }, { on := 1, ground := Ground.phase }, { on := 2, ground := Ground.phase }, { on := 3, ground := Ground.phase }, { on := 4, ground := Ground.phase }, { on := 5, ground := Ground.phase }], guard := none }) rfl (fun K hK => ?_) AllReadyH.nil
  go_simp
  refine hK.out _ _ trivial (fun hHeld6 => ?_)
  clear hK K
  try simp only [Act.put]
  refine wpAnyH_done (by kernel_rfl) ?_ _
  refine NoPanic.normal ?_
  clear hHeld hHeld3 hHeld6 hmx hmn hma c2 z2 c3 z3
  have hC : Ch (fun k => k = W.heap.size) w2 (w2.setCell ⟨W.heap.size, 0, none⟩ (.int .i64 A)) := ⟨rfl, rfl, rfl, by simp [World.setCell], fun k _ hk => heap_setCell_other _ ⟨W.heap.size, 0, none⟩ k _ hk⟩
  have hF4 := hide ((hF2.out.wrote hC).below (below_drewN (Below.refl _ _) 1))
  have hB4 : Hid (Below W.heap.size W (w2.setCell ⟨W.heap.size, 0, none⟩ (.int .i64 A)).drew) := below_drewN (hB2.out.trans (hC.belowK (K := W.heap.size) (by rintro k rfl; exact Nat.le_refl _) hB2.out.size)) 1
  have hp4 : Hid ((w2.setCell ⟨W.heap.size, 0, none⟩ (.int .i64 A)).drew.heap[W.heap.size]? = some (.cells #[.int .i64 A] 2 (0, 0))) := by
    refine hide ?_
    show (w2.setCell ⟨W.heap.size, 0, none⟩ (.int .i64 A)).heap[W.heap.size]? = _
    rw [heap_setCell_same _ _ _ _ _ _ hp2.out]; simp
  replace hF4 : Hid (Fo W.heap.size (fun k => k = W.heap.size) (w2.setCell ⟨W.heap.size, 0, none⟩ (.int .i64 A)).drew t R A 0 []) := hF4
  clear hF2 hB2 hp2 hC
  generalize (w2.setCell ⟨W.heap.size, 0, none⟩ (.int .i64 A)).drew = w4 at *
  clear w2
  have hmm := @run_makeMap Try.prog
  go_wp2_with fail
  obtain ⟨B, hBe⟩ : ∃ B, B = w4.heap.size := ⟨_, rfl⟩
  have hge : Hid (W.heap.size ≤ B ∧ W.heap.size < B) := by have h1 := hF4.out.size; have h2 := (Array.getElem?_eq_some_iff.1 hp4.out).1; exact hide ⟨by omega, by omega⟩
  have hz : Hid (Fz W (((w4.alloc (.map #[] 0)).alloc (.cells #[.map (some B)] 26)).alloc (.cells #[.int .i64 0] 2)) [] t (B + 1) (B + 1 + 1) W.heap.size B R A 0 0 [] (fun _ => none) 0) := by
    have s1 : (w4.alloc (.map #[] 0)).heap.size = B + 1 := by rw [World.size_alloc, hBe]
    have s2 : ((w4.alloc (.map #[] 0)).alloc (.cells #[.map (some B)] 26)).heap.size = B + 1 + 1 := by rw [World.size_alloc, s1]
    have b1 := below1 w4 (.map #[] 0)
    have b2 := below1 (w4.alloc (.map #[] 0)) (.cells #[.map (some B)] 26)
    have b3 := below1 ((w4.alloc (.map #[] 0)).alloc (.cells #[.map (some B)] 26)) (.cells #[.int .i64 0] 2)
    have hm := Mp.made Try.prog kT w4
    rw [← hBe] at hm
    have hA := heap_alloc_new (w4.alloc (.map #[] 0)) (.cells #[.map (some B)] 26)
    rw [s1] at hA
    have hN := heap_alloc_new ((w4.alloc (.map #[] 0)).alloc (.cells #[.map (some B)] 26)) (.cells #[.int .i64 0] 2)
    rw [s2] at hN
    have b13 := (b1.later b2).later b3
    refine hide ⟨hF4.out.more b13 fun k hk => ?_, (hm.below b2).below b3, heap_kept b3 hA, hN, heap_kept b13 hp4.out, by have := hge.out; omega, by have := hge.out; omega, fun k hk => (by cases hk), hB4.out.trans (b13.mono (by have := hge.out; omega))⟩
    rcases hk with (e | e | e | e) | e
    · exact .inr (by rw [World.size_alloc, s2]; omega)
    · exact .inr (by rw [World.size_alloc, s2]; omega)
    · exact .inl e
    · exact .inr (by rw [World.size_alloc, s2]; omega)
    · cases e
  have hs0 : Hid (Sd R 0 0 0 [] (fun _ => none)) := ⟨TieF.nil 0, by simpa using hR0.out.1, hR0.out, by omega, by omega⟩
  rw [hBe] at hz
  generalize hw5 : ((w4.alloc (.map #[] 0)).alloc (.cells #[.map (some w4.heap.size)] 26)).alloc (.cells #[.int .i64 0] 2) = w5 at *
  rw [← hBe] at hz
  clear hmm hF4 hB4 hp4 hw5
  generalize w4.heap.size = B' at *
  obtain rfl : B = B' := hBe
  clear w4 hge
  generalize B + 1 + 1 = pn at *
  generalize B + 1 = am at *
  go_loopw [10, 50] (fun x i wr => ∃ (j : Nat) (now lost : Int) (l : List Fe) (f : Int × M6 → Option (Int × Int)) (c : Nat), j ≤ n ∧ i = .int .i64 j ∧ x = .int .i64 lost ∧ Hid (Fz W wr [] t am pn W.heap.size B R A now lost l f c) ∧ Hid (Sd R now lost j l f)) (fun _ i _ => n - (intOf i).toNat)
  case atStart => exact ⟨0, 0, 0, [], _, 0, Nat.zero_le _, rfl, rfl, hz, hs0⟩
  case round =>
    obtain ⟨j, now, lost, l, f, c, hj, rfl, rfl, hZ, hS⟩ := hrel
    clear hz hs0
    by_cases hlt : j < n
    · obtain ⟨b0, off, rfl, hrg⟩ := (hX.out.below hZ.out.below).1.at_i j hlt
      have hwf := (hX.out).2 j hlt
      generalize xs.getD j Fa.zero = X at *
      obtain ⟨kd, vid, port, m, later⟩ := X
      have hrg' := hide hrg
      clear hrg
      go_wp2_with (first | ((with_reducible change wpList _ _ _ _ _ _); refine wpList_load_mid rfl 30 (.tmp 52) rfl b0 (off + j * 10) rfl (fFa ⟨kd, vid, port, m, later⟩) _ hrg'.out Try.underlying30 rfl (faLen _) ?_) | ((with_reducible change wpList _ _ _ _ _ _); refine stop_storeB 30 (.tmp 12) (.tmp 53) rfl ?_))
      refine hide (wpList_store_fresh rfl 30 (.tmp 12) (.tmp 53) rfl (fFa ⟨kd, vid, port, m, later⟩).toArray (fFa Fa.zero).toArray rfl rfl 30 (faSize _) rfl (fa_all _) ?_)
      intro w6 h6 hb6
      obtain ⟨wk, wv, wp, wm, wl⟩ := hwf
      dsimp only at wk wv wp wm wl
      have hD6 : wr.heap.size < w6.heap.size := (Array.getElem?_eq_some_iff.1 h6).1
      have hZ6 := hide (hZ.out.add hb6 wr.heap.size (Nat.le_refl _) hD6)
      have x9 : w6.cell? ⟨wr.heap.size, 9, none⟩ = some (.int .i64 later) := (cell_of_row _ _ _ _ _ _ h6).trans rfl
      have cn6 := hZ6.out.n0
      have zn6 := hZ6.out.nz
      replace h6 := hide h6
      clear hb6 hZ hrg' hD6
      generalize wr.heap.size = D at *
      clear wr
      obtain ⟨M1, hM1⟩ : ∃ M1 : Int, M1 = max later 0 := ⟨_, rfl⟩
      obtain ⟨d, hd⟩ : ∃ d : Int, d = min M1 1099511627776 := ⟨_, rfl⟩
      have hmx : ∀ (ts : Array TypeId) (t : TypeId) (w : World), (Builtin.max_ ts t #[.int .i64 later, .int .i64 0]).run Try.prog w = .ok (.int .i64 M1) w := fun ts t w => by rw [hM1, Go.Lib.run_max_ints]
      have hmn : ∀ (ts : Array TypeId) (t : TypeId) (w : World), (Builtin.min_ ts t #[.int .i64 M1, .int .i64 1099511627776]).run Try.prog w = .ok (.int .i64 d) w := fun ts t w => by rw [hd, Go.Lib.run_min_ints]
      have hdb : 0 ≤ d ∧ d ≤ 1099511627776 := by omega
      clear hM1 hd
      have hnb : 0 ≤ now ∧ now ≤ 164926744166400 := by have h1 := hS.out.now; exact ⟨h1.1, by omega⟩
      have hS1 := hide (hS.out.tick hdb)
      have hlk : Hid (0 ≤ lost ∧ lost ≤ j) := hS.out.lost
      clear hS
      have x3 : w6.rangeAt D 3 m.row.toList := World.rangeAt_of_block h6.out 3 6
      have x1 : w6.cell? ⟨D, 1, none⟩ = some (.int .i64 vid) := (cell_of_row _ _ _ _ _ _ h6.out).trans rfl
      have hne : D ≠ pn := (hZ6.out.lne D (by simp)).2
      have hZ7 := hide (hZ6.out.clock (now + d))
      have h7 := hide (hZ6.out.locN (k := D) (by simp) h6.out (now + d))
      have hw64 : wrap64 (now + d) = now + d := IntWalk.wrap64_in _ (by omega)
      clear x3
      go_wp2_with (first | ((with_reducible change wpList _ _ _ _ _ _); refine wpList_load_mid rfl 28 (.tmp 62) rfl D 3 rfl m.row.toList _ (World.rangeAt_of_block h7.out 3 6) Try.underlying28 rfl (m6Len _) ?_) | ((with_reducible change wpList _ _ _ _ _ _); refine stop_storeB 32 (.tmp 13) (.tmp 64) rfl ?_))
      refine hide (fresh_atC rfl 32 (.tmp 13) (.tmp 64) rfl w6.heap.size (by simp [World.setCell]) (kRow (vid, m)) (kRow kZero) rfl rfl 32 (kSize _) rfl (by simp [Value.oneCell']) ?_)
      intro w8 h8 hb8
      have hs7 : (w6.setCell ⟨pn, 0, none⟩ (.int .i64 (now + d))).heap.size = w6.heap.size := by simp [World.setCell]
      have hE8 : w6.heap.size < w8.heap.size := (Array.getElem?_eq_some_iff.1 h8).1
      have hZ8 := hide (hZ7.out.add hb8 w6.heap.size (by rw [hs7]; exact Nat.le_refl _) hE8)
      have hD := hide (heap_kept hb8 h7.out)
      have hE := hide h8
      have hko : Hid (kOk (vid, m)) := ⟨wv, wm⟩
      have hgo := go_gone
      have hj1 : Hid (j + 1 ≤ 150) := hide (by omega)
      clear h8 hb8 hZ7 h7 hZ6 h6 hs7 hE8 x1 x9 cn6 zn6 hne hw64 hmx hmn hdb hnb
      generalize hnw : now + d = nw at *
      generalize w6.heap.size = E at *
      clear hnw w6
      have x0 : w8.cell? ⟨D, 0, none⟩ = some (.int .i64 kd) := (cell_of_row _ _ _ _ _ _ hD.out).trans rfl
      by_cases e0 : kd = 0
      · subst e0
        as_aux_lemma =>
          have x1 : w8.cell? ⟨D, 1, none⟩ = some (.int .i64 vid) := (cell_of_row _ _ _ _ _ _ hD.out).trans rfl
          have x2 : w8.cell? ⟨D, 2, none⟩ = some (.int .i64 port) := (cell_of_row _ _ _ _ _ _ hD.out).trans rfl
          have cn := hZ8.out.n0
          have hT := hS1.out.time hj1.out
          have hL := hide (FoLearn hZ8.out.fo (hS1.out.fes hj1.out) vid m port nw wm hT (by have := hlk.out; have := hj1.out; omega))
          generalize hLr : learnR R A lost l vid m port nw = LR at *
          obtain ⟨le, lo2, l2⟩ := LR
          dsimp only at hL
          replace hLr := hide hLr
          replace hT := hide hT
          go_wp2_with ((with_reducible change wpList _ _ _ _ _ _); refine wpList_load_mid rfl 28 (.tmp 73) rfl D 3 rfl m.row.toList _ (World.rangeAt_of_block hD.out 3 6) Try.underlying28 rfl (m6Len _) ?_)
          refine hL.out.mono ?_
          rintro _ w9 ⟨rfl, hFn, hBn, hKn⟩
          have hZ9 := hide (hZ8.out.tab hFn hBn hKn)
          have hD9 := hide (hZ8.out.locT (k := D) (by simp) hD.out hKn)
          have hE9 := hide (hZ8.out.locT (k := E) (by simp) hE.out hKn)
          have hcc : Hid (c = l.length) := hS1.out.tie.count hZ8.out.mp
          clear hL hFn hBn hKn hZ8 hD hE x0 x1 x2 cn
          have x3 : w9.cell? ⟨D, 3, none⟩ = some (.int .u8 m.a) := (cell_of_row _ _ _ _ _ _ hD9.out).trans rfl
          have ho := odd8 m.a wm.1
          have hgm : Hid (grpB m = (m.a % 2 == 1)) := rfl
          generalize hma : m.a = ma at *
          replace hma := hide hma
          by_cases hodd : ma % 2 = 1
          · have hodd' : (ma % 2 == 1) = true := by rw [hodd]; rfl
            obtain ⟨rfl, rfl, rfl⟩ : le = 4 ∧ lo2 = lost ∧ l2 = l := by
              have h := hLr.out
              rw [learn_grp (hgm.out.trans hodd')] at h
              simp only [Prod.mk.injEq] at h
              exact ⟨h.1.symm, h.2.1.symm, h.2.2.symm⟩
            clear hLr
            have hfeF := hide (hS1.out.fes hj1.out)
            have hdlF := hide (hS1.out.len)
            go_wp2_with fail
            refine (FoLost hZ9.out.fo).mono ?_
            rintro _ _ ⟨rfl, rfl⟩
            go_wp2_with fail
            refine (FoAll hZ9.out.fo hfeF.out).mono ?_
            rintro _ wz ⟨v', rfl, hSl, -, hBz, -⟩
            obtain ⟨va, vc, rfl⟩ := hSl.shape
            have hdl := decide_eq_false (p := R < (_ : Int)) (Int.not_lt.2 hdlF.out)
            have hZg := hide (hZ9.out.later hBz).drop
            clear hSl hBz hfeF hdlF hZ9 hD9 hE9 x3
            go_wp2
            go_roundw
            case rel => exact ⟨j + 1, _, _, _, _, _, by omega, by go_num, rfl, hZg, hS1⟩
            case measure => simp [intOf]; omega
          · have hodd' : (ma % 2 == 1) = false := beq_eq_false_iff_ne.2 hodd
            have hgf : Hid (grpB m = false) := hgm.out.trans hodd'
            have hGn := hide (hZ9.out.gone hT.out (hS1.out.vals hj1.out) (by have := hcc.out; have := hS1.out.len; have := hS1.out.rm; omega))
            go_wp2_with fail
            refine hGn.out.mono ?_
            rintro _ w10 ⟨c1, f1, rfl, hZa, hf1, hC1⟩
            have hZ10 := hide hZa
            have hD10 := hide (hZ9.out.locM (k := D) (by simp) hD9.out hC1)
            have hE10 := hide (hZ9.out.locM (k := E) (by simp) hE9.out hC1)
            have hSo := hide (hS1.out.old (age := A) hf1)
            have hcl : Hid (c1 = (kept (oldB A nw) l).length) := hSo.out.tie.count hZa.mp
            have hc1 : Hid (c1 ≤ 1024) := by have h1 := hcl.out; have h2 := hSo.out.len; have h3 := hSo.out.rm; exact hide (by omega)
            have hlook : (Instr.lookup 26 (.map (some B)) (.agg (kRow (vid, m))) true).run Try.prog w10 = .ok (.tuple #[eV ((f1 (vid, m)).getD (0, 0)), .bool (f1 (vid, m)).isSome]) w10 := hZa.mp.lookok kT_good (vid, m) hko.out
            have cm := hZa.m0
            clear hGn hZa hf1 hC1 hZ9 hD9 hE9 x3 ho hodd hodd' hgm hcc
            generalize hgv : (f1 (vid, m)).getD (0, 0) = gv at *
            generalize hgb : (f1 (vid, m)).isSome = gb at *
            replace hgb := hide hgb
            clear hgv
            obtain ⟨gv1, gv2⟩ := gv
            go_wp2_with (first | ((with_reducible change wpList _ _ _ _ _ _); refine wpList_load_row rfl 32 (.tmp 13) rfl E rfl 32 _ _ _ hE10.out Try.underlying32 rfl (kSize _) ?_) | ((with_reducible change wpList _ _ _ _ _ _); refine stop_storeB 34 (.tmp 16) (.tmp 92) rfl ?_))
            refine hide (wpList_store_fresh rfl 34 (.tmp 16) (.tmp 92) rfl #[.int .i64 gv1, .int .i64 gv2] #[.int .i64 0, .int .i64 0] rfl rfl 34 (eSize (gv1, gv2)) rfl (by simp [Value.oneCell']) ?_)
            intro w11 h11 hb11
            have hZ11 := hide (hZ10.out.later hb11)
            have hD11 := hide (heap_kept hb11 hD10.out)
            have hE11 := hide (heap_kept hb11 hE10.out)
            have hln : ∀ ty, (Builtin.len_ #[26] ty #[.map (some B)]).run Try.prog w11 = .ok (.int .i64 c1) w11 := fun ty => hZ11.out.mp.len kT_good ty
            have cm11 := hZ11.out.m0
            clear hZ10 hD10 hE10 h11 hb11 hlook cm
            generalize w10.heap.size = G at *
            cases gb
            · by_cases hfull : R ≤ (c1 : Int)
              · obtain ⟨hEq, hSf⟩ := hSo.out.full (k := j) hlk.out.2 vid m port hgf.out hko.out hgb.out (by have := hcl.out; omega)
                obtain ⟨rfl, rfl, rfl⟩ : le = 20 ∧ lo2 = lost + 1 ∧ l2 = kept (oldB A nw) l := by
                  have h := hLr.out
                  rw [hEq] at h
                  simp only [Prod.mk.injEq] at h
                  exact ⟨h.1.symm, h.2.1.symm, h.2.2.symm⟩
                clear hLr
                replace hSf := hide hSf
                have hlr1 : -9223372036854775808 ≤ lost + 1 ∧ lost + 1 ≤ 9223372036854775807 := by have := hlk.out; have := hj1.out; omega
                clear hEq hSo
                have hfeF := hide (hSf.out.fes hj1.out)
                have hdlF := hide (hSf.out.len)
                go_wp2_with fail
                refine (FoLost hZ11.out.fo).mono ?_
                rintro _ _ ⟨rfl, rfl⟩
                go_wp2_with fail
                refine (FoAll hZ11.out.fo hfeF.out).mono ?_
                rintro _ wz ⟨v', rfl, hSl, -, hBz, -⟩
                obtain ⟨va, vc, rfl⟩ := hSl.shape
                have hdl := decide_eq_false (p := R < (_ : Int)) (Int.not_lt.2 hdlF.out)
                have hZg := hide (hZ11.out.later hBz).drop
                clear hSl hBz hfeF hdlF hZ11 hD11 hE11 hln cm11
                go_wp2
                go_roundw
                case rel => exact ⟨j + 1, _, _, _, _, _, by omega, by go_num, rfl, hZg, hSf⟩
                case measure => simp [intOf]; omega
              · have hfull' : decide (R ≤ (c1 : Int)) = false := decide_eq_false hfull
                obtain ⟨l', hEq, hSf⟩ := hSo.out.heard (lost := lost) vid m port hgf.out hko.out (.inr (by have := hcl.out; omega))
                obtain ⟨rfl, rfl, rfl⟩ : le = 0 ∧ lo2 = lost ∧ l2 = l' := by
                  have h := hLr.out
                  rw [hEq] at h
                  simp only [Prod.mk.injEq] at h
                  exact ⟨h.1.symm, h.2.1.symm, h.2.2.symm⟩
                clear hLr
                replace hSf := hide hSf
                obtain ⟨w12, hrun, hmp, hgr⟩ := hZ11.out.mp.put kT_good (vid, m) hko.out (port, nw) trivial (by have := hc1.out; unfold maxLen; omega)
                have hrun' : (Instr.mapUpdate 26 (.map (some B)) (.agg (kRow (vid, m))) (.agg #[.int .i64 port, .int .i64 nw])).run Try.prog w11 = .ok () w12 := hrun
                have hZ12 := hide (hZ11.out.mapc hmp (Ch.of_grown hgr))
                have cm := hZ11.out.m0
                have cn := hZ11.out.n0
                have x2 : w11.cell? ⟨D, 2, none⟩ = some (.int .i64 port) := (cell_of_row _ _ _ _ _ _ hD11.out).trans rfl
                clear hrun hmp hgr hEq hSo hZ11
                have hfeF := hide (hSf.out.fes hj1.out)
                have hdlF := hide (hSf.out.len)
                go_wp2_with ((with_reducible change wpList _ _ _ _ _ _); refine wpList_load_row rfl 32 (.tmp 13) rfl E rfl 32 _ _ _ hE11.out Try.underlying32 rfl (kSize _) ?_)
                refine (FoLost hZ12.out.fo).mono ?_
                rintro _ _ ⟨rfl, rfl⟩
                clear hrun' cm cn x2 hD11 hE11
                go_wp2_with fail
                refine (FoAll hZ12.out.fo hfeF.out).mono ?_
                rintro _ wz ⟨v', rfl, hSl, -, hBz, -⟩
                obtain ⟨va, vc, rfl⟩ := hSl.shape
                have hdl := decide_eq_false (p := R < (_ : Int)) (Int.not_lt.2 hdlF.out)
                have hZg := hide (hZ12.out.later hBz).drop
                clear hSl hBz hfeF hdlF hZ12
                go_wp2
                go_roundw
                case rel => exact ⟨j + 1, _, _, _, _, _, by omega, by go_num, rfl, hZg, hSf⟩
                case measure => simp [intOf]; omega
            ·
              obtain ⟨l', hEq, hSf⟩ := hSo.out.heard (lost := lost) vid m port hgf.out hko.out (.inl hgb.out)
              obtain ⟨rfl, rfl, rfl⟩ : le = 0 ∧ lo2 = lost ∧ l2 = l' := by
                have h := hLr.out
                rw [hEq] at h
                simp only [Prod.mk.injEq] at h
                exact ⟨h.1.symm, h.2.1.symm, h.2.2.symm⟩
              clear hLr
              replace hSf := hide hSf
              obtain ⟨w12, hrun, hmp, hgr⟩ := hZ11.out.mp.put kT_good (vid, m) hko.out (port, nw) trivial (by have := hc1.out; unfold maxLen; omega)
              have hrun' : (Instr.mapUpdate 26 (.map (some B)) (.agg (kRow (vid, m))) (.agg #[.int .i64 port, .int .i64 nw])).run Try.prog w11 = .ok () w12 := hrun
              have hZ12 := hide (hZ11.out.mapc hmp (Ch.of_grown hgr))
              have cm := hZ11.out.m0
              have cn := hZ11.out.n0
              have x2 : w11.cell? ⟨D, 2, none⟩ = some (.int .i64 port) := (cell_of_row _ _ _ _ _ _ hD11.out).trans rfl
              clear hrun hmp hgr hEq hSo hZ11
              have hfeF := hide (hSf.out.fes hj1.out)
              have hdlF := hide (hSf.out.len)
              go_wp2_with ((with_reducible change wpList _ _ _ _ _ _); refine wpList_load_row rfl 32 (.tmp 13) rfl E rfl 32 _ _ _ hE11.out Try.underlying32 rfl (kSize _) ?_)
              refine (FoLost hZ12.out.fo).mono ?_
              rintro _ _ ⟨rfl, rfl⟩
              clear hrun' cm cn x2 hD11 hE11
              go_wp2_with fail
              refine (FoAll hZ12.out.fo hfeF.out).mono ?_
              rintro _ wz ⟨v', rfl, hSl, -, hBz, -⟩
              obtain ⟨va, vc, rfl⟩ := hSl.shape
              have hdl := decide_eq_false (p := R < (_ : Int)) (Int.not_lt.2 hdlF.out)
              have hZg := hide (hZ12.out.later hBz).drop
              clear hSl hBz hfeF hdlF hZ12
              go_wp2
              go_roundw
              case rel => exact ⟨j + 1, _, _, _, _, _, by omega, by go_num, rfl, hZg, hSf⟩
              case measure => simp [intOf]; omega
      by_cases e1 : kd = 1
      · subst e1
        as_aux_lemma =>
          have x1 : w8.cell? ⟨D, 1, none⟩ = some (.int .i64 vid) := (cell_of_row _ _ _ _ _ _ hD.out).trans rfl
          have cm := hZ8.out.m0
          have hT := hide (hS1.out.time hj1.out)
          have hL := hide (fun (w : World) (h : Fo W.heap.size (zA am pn W.heap.size B [E, D]) w t R A lost l) => FoFind h (hS1.out.fes hj1.out) vid m nw wm hT.out)
          rw [show findR A nw vid m l = findQ A nw (f (vid, m)) by rw [hS1.out.tie.look _ hko.out]; exact find_and hS1.out.tie.nd A nw (vid, m)] at hL
          have hvl : Hid (∀ p, f (vid, m) = some p → timeOk p.2) := fun p hp => hS1.out.vals hj1.out (vid, m) p hko.out hp
          have hlook : (Instr.lookup 26 (.map (some B)) (.agg (kRow (vid, m))) true).run Try.prog w8 = .ok (.tuple #[eV ((f (vid, m)).getD (0, 0)), .bool (f (vid, m)).isSome]) w8 := hZ8.out.mp.lookok kT_good (vid, m) hko.out
          generalize hfx : f (vid, m) = fx at *
          clear hfx

          cases fx with
          | none =>
            have hres : findQ A nw (none : Option (Int × Int)) = (0, 21) := rfl
            rw [hres] at hL
            clear hres hvl
            simp only [Option.getD_none, Option.isSome_none] at hlook
            go_wp2_with (first | ((with_reducible change wpList _ _ _ _ _ _); refine wpList_load_row rfl 32 (.tmp 13) rfl E rfl 32 _ _ _ hE.out Try.underlying32 rfl (kSize _) ?_) | ((with_reducible change wpList _ _ _ _ _ _); refine stop_storeB 34 (.tmp 18) (.tmp 120) rfl ?_))
            refine hide (wpList_store_fresh rfl 34 (.tmp 18) (.tmp 120) rfl #[.int .i64 0, .int .i64 0] #[.int .i64 0, .int .i64 0] rfl rfl 34 (eSize (0, 0)) rfl (by simp [Value.oneCell']) ?_)
            intro w11 h11 hb11
            have hZ11 := hide (hZ8.out.later hb11)
            have hD11 := hide (heap_kept hb11 hD.out)
            have y0 : w11.cell? ⟨w8.heap.size, 0, none⟩ = some (.int .i64 0) := (cell_of_row _ _ _ _ _ _ h11).trans rfl
            have y1 : w11.cell? ⟨w8.heap.size, 1, none⟩ = some (.int .i64 0) := (cell_of_row _ _ _ _ _ _ h11).trans rfl
            have x1' : w11.cell? ⟨D, 1, none⟩ = some (.int .i64 vid) := (cell_of_row _ _ _ _ _ _ hD11.out).trans rfl
            have cn := hZ11.out.n0
            have ca := hZ11.out.a0
            have hL2 := hide (hL.out w11 hZ11.out.fo)
            replace y0 := hide y0
            have y0' := y0.out
            clear hZ8 hD hE h11 hb11 hlook cm x1 hL x0
            generalize w8.heap.size = G at *
            clear w8
            go_wp2_with ((with_reducible change wpList _ _ _ _ _ _); refine wpList_load_mid rfl 28 (.tmp 135) rfl D 3 rfl m.row.toList _ (World.rangeAt_of_block hD11.out 3 6) Try.underlying28 rfl (m6Len _) ?_)
            refine hL2.out.mono ?_
            rintro _ w12 ⟨rfl, hFn, hBn⟩
            have hZ12 := hide (hZ11.out.later hBn)
            have z0 : w12.cell? ⟨G, 0, none⟩ = some _ := (hBn.cell (p := ⟨G, 0, none⟩) (block_lt_of_cell y0.out)).trans y0.out
            clear hL2 hFn hBn hZ11 hD11 y0 y0' y1 x1' cn ca
            have hfeF := hide (hS1.out.fes hj1.out)
            have hdlF := hide (hS1.out.len)
            go_wp2_with fail
            refine (FoLost hZ12.out.fo).mono ?_
            rintro _ _ ⟨rfl, rfl⟩
            go_wp2_with fail
            refine (FoAll hZ12.out.fo hfeF.out).mono ?_
            rintro _ wz ⟨v', rfl, hSl, -, hBz, -⟩
            obtain ⟨va, vc, rfl⟩ := hSl.shape
            have hdl := decide_eq_false (p := R < (_ : Int)) (Int.not_lt.2 hdlF.out)
            have hZg := hide (hZ12.out.later hBz).drop
            clear hSl hBz hfeF hdlF hZ12 z0
            go_wp2
            go_roundw
            case rel => exact ⟨j + 1, _, _, _, _, _, by omega, by go_num, rfl, hZg, hS1⟩
            case measure => simp [intOf]; omega
          | some p =>
            obtain ⟨p1, p2⟩ := p
            obtain ⟨t1, t2⟩ := hvl.out _ rfl
            obtain ⟨t3, t4⟩ := hT.out
            dsimp only at t1 t2
            clear hvl
            simp only [Option.getD_some, Option.isSome_some] at hlook
            have hee : (p1 != p1) = false := by simp
            by_cases hold : nw - p2 < A
            · have hres : findQ A nw (some (p1, p2)) = (p1, 0) := by simp only [findQ]; rw [if_pos hold]
              rw [hres] at hL
              clear hres
              go_wp2_with (first | ((with_reducible change wpList _ _ _ _ _ _); refine wpList_load_row rfl 32 (.tmp 13) rfl E rfl 32 _ _ _ hE.out Try.underlying32 rfl (kSize _) ?_) | ((with_reducible change wpList _ _ _ _ _ _); refine stop_storeB 34 (.tmp 18) (.tmp 120) rfl ?_))
              refine hide (wpList_store_fresh rfl 34 (.tmp 18) (.tmp 120) rfl #[.int .i64 p1, .int .i64 p2] #[.int .i64 0, .int .i64 0] rfl rfl 34 (eSize (p1, p2)) rfl (by simp [Value.oneCell']) ?_)
              intro w11 h11 hb11
              have hZ11 := hide (hZ8.out.later hb11)
              have hD11 := hide (heap_kept hb11 hD.out)
              have y0 : w11.cell? ⟨w8.heap.size, 0, none⟩ = some (.int .i64 p1) := (cell_of_row _ _ _ _ _ _ h11).trans rfl
              have y1 : w11.cell? ⟨w8.heap.size, 1, none⟩ = some (.int .i64 p2) := (cell_of_row _ _ _ _ _ _ h11).trans rfl
              have x1' : w11.cell? ⟨D, 1, none⟩ = some (.int .i64 vid) := (cell_of_row _ _ _ _ _ _ hD11.out).trans rfl
              have cn := hZ11.out.n0
              have ca := hZ11.out.a0
              have hL2 := hide (hL.out w11 hZ11.out.fo)
              replace y0 := hide y0
              have y0' := y0.out
              clear hZ8 hD hE h11 hb11 hlook cm x1 hL x0
              generalize w8.heap.size = G at *
              clear w8
              go_wp2_with ((with_reducible change wpList _ _ _ _ _ _); refine wpList_load_mid rfl 28 (.tmp 135) rfl D 3 rfl m.row.toList _ (World.rangeAt_of_block hD11.out 3 6) Try.underlying28 rfl (m6Len _) ?_)
              refine hL2.out.mono ?_
              rintro _ w12 ⟨rfl, hFn, hBn⟩
              have hZ12 := hide (hZ11.out.later hBn)
              have z0 : w12.cell? ⟨G, 0, none⟩ = some _ := (hBn.cell (p := ⟨G, 0, none⟩) (block_lt_of_cell y0.out)).trans y0.out
              clear hL2 hFn hBn hZ11 hD11 y0 y0' y1 x1' cn ca
              have hfeF := hide (hS1.out.fes hj1.out)
              have hdlF := hide (hS1.out.len)
              go_wp2_with fail
              refine (FoLost hZ12.out.fo).mono ?_
              rintro _ _ ⟨rfl, rfl⟩
              go_wp2_with fail
              refine (FoAll hZ12.out.fo hfeF.out).mono ?_
              rintro _ wz ⟨v', rfl, hSl, -, hBz, -⟩
              obtain ⟨va, vc, rfl⟩ := hSl.shape
              have hdl := decide_eq_false (p := R < (_ : Int)) (Int.not_lt.2 hdlF.out)
              have hZg := hide (hZ12.out.later hBz).drop
              clear hSl hBz hfeF hdlF hZ12 z0
              go_wp2
              go_roundw
              case rel => exact ⟨j + 1, _, _, _, _, _, by omega, by go_num, rfl, hZg, hS1⟩
              case measure => simp [intOf]; omega
            · have hres : findQ A nw (some (p1, p2)) = (0, 21) := by simp only [findQ]; rw [if_neg hold]
              rw [hres] at hL
              clear hres
              have hold' : decide (nw - p2 < A) = false := decide_eq_false hold
              go_wp2_with (first | ((with_reducible change wpList _ _ _ _ _ _); refine wpList_load_row rfl 32 (.tmp 13) rfl E rfl 32 _ _ _ hE.out Try.underlying32 rfl (kSize _) ?_) | ((with_reducible change wpList _ _ _ _ _ _); refine stop_storeB 34 (.tmp 18) (.tmp 120) rfl ?_))
              refine hide (wpList_store_fresh rfl 34 (.tmp 18) (.tmp 120) rfl #[.int .i64 p1, .int .i64 p2] #[.int .i64 0, .int .i64 0] rfl rfl 34 (eSize (p1, p2)) rfl (by simp [Value.oneCell']) ?_)
              intro w11 h11 hb11
              have hZ11 := hide (hZ8.out.later hb11)
              have hD11 := hide (heap_kept hb11 hD.out)
              have y0 : w11.cell? ⟨w8.heap.size, 0, none⟩ = some (.int .i64 p1) := (cell_of_row _ _ _ _ _ _ h11).trans rfl
              have y1 : w11.cell? ⟨w8.heap.size, 1, none⟩ = some (.int .i64 p2) := (cell_of_row _ _ _ _ _ _ h11).trans rfl
              have x1' : w11.cell? ⟨D, 1, none⟩ = some (.int .i64 vid) := (cell_of_row _ _ _ _ _ _ hD11.out).trans rfl
              have cn := hZ11.out.n0
              have ca := hZ11.out.a0
              have hL2 := hide (hL.out w11 hZ11.out.fo)
              replace y0 := hide y0
              have y0' := y0.out
              clear hZ8 hD hE h11 hb11 hlook cm x1 hL x0
              generalize w8.heap.size = G at *
              clear w8
              go_wp2_with ((with_reducible change wpList _ _ _ _ _ _); refine wpList_load_mid rfl 28 (.tmp 135) rfl D 3 rfl m.row.toList _ (World.rangeAt_of_block hD11.out 3 6) Try.underlying28 rfl (m6Len _) ?_)
              refine hL2.out.mono ?_
              rintro _ w12 ⟨rfl, hFn, hBn⟩
              have hZ12 := hide (hZ11.out.later hBn)
              have z0 : w12.cell? ⟨G, 0, none⟩ = some _ := (hBn.cell (p := ⟨G, 0, none⟩) (block_lt_of_cell y0.out)).trans y0.out
              clear hL2 hFn hBn hZ11 hD11 y0 y0' y1 x1' cn ca
              have hfeF := hide (hS1.out.fes hj1.out)
              have hdlF := hide (hS1.out.len)
              go_wp2_with fail
              refine (FoLost hZ12.out.fo).mono ?_
              rintro _ _ ⟨rfl, rfl⟩
              go_wp2_with fail
              refine (FoAll hZ12.out.fo hfeF.out).mono ?_
              rintro _ wz ⟨v', rfl, hSl, -, hBz, -⟩
              obtain ⟨va, vc, rfl⟩ := hSl.shape
              have hdl := decide_eq_false (p := R < (_ : Int)) (Int.not_lt.2 hdlF.out)
              have hZg := hide (hZ12.out.later hBz).drop
              clear hSl hBz hfeF hdlF hZ12 z0
              go_wp2
              go_roundw
              case rel => exact ⟨j + 1, _, _, _, _, _, by omega, by go_num, rfl, hZg, hS1⟩
              case measure => simp [intOf]; omega
      by_cases e2 : kd = 2
      · subst e2
        as_aux_lemma =>
          have x2 : w8.cell? ⟨D, 2, none⟩ = some (.int .i64 port) := (cell_of_row _ _ _ _ _ _ hD.out).trans rfl
          have cm := hZ8.out.m0
          have hcc : Hid (c = l.length) := hS1.out.tie.count hZ8.out.mp
          have hc4 : c ≤ 1024 := by have h1 := hcc.out; have h2 := hS1.out.len; have h3 := hS1.out.rm; omega
          go_wp2_with (at_range; refine wpList_Mp_range rfl (.tmp 168) kT_good rfl rfl hZ8.out.mp ?_; intro w5' hRg0 hg0 hs0)
          have hGs := hide (Gn.start (atQ port) f)
          have hb5 : Hid (Ch (· = B) w8 w5') := ⟨hg0.os, hg0.tape, hg0.output, hg0.size, fun k hk _ => hg0.block k hk (by simp)⟩
          have hrl : Hid (B < w8.heap.size) := hZ8.out.mp.lt
          replace hRg0 := hide hRg0
          clear hg0 hs0 x0 x2 cm
          generalize hr : w8.heap.size = r at hRg0 hrl
          replace hr := hide hr
          go_frame
          go_loopw [22] (fun i wr => ∃ (lf : Int × M6 → Bool) (cnt c1 : Nat) (f1 : Int × M6 → Option (Int × Int)), i = .int .i64 ((c : Int) - (c1 : Nat)) ∧ c1 ≤ c ∧ Hid (Rg Try.prog kT wr B r c c1 f1 lf cnt) ∧ Hid (Gn (atQ port) f f1 lf) ∧ Hid (Ch (· = B) w8 wr)) (fun _ wr => wr.rangeLeft B r)
          case atStart => exact ⟨_, _, c, f, by simp, Nat.le_refl _, hRg0, hGs, hb5⟩
          case round =>
            obtain ⟨lf, cnt, c1, f1, rfl, hc1, hRg, hG, hb⟩ := hrel
            clear hRg0 hGs hb5
            go_wp2_with (at_next; refine stop_next (.tmp 169) rfl ?_)
            refine hide (wpList_Rg_next rfl (.tmp 169) kT_good rfl rfl hRg.out ?_ ?_)
            · intro hl
              have hfin : Hid (∀ k, kOk k → f1 k = (f k).filter (fun x => !atQ port x)) := fun k hk => hG.out.done k hk (hl k hk)
              have hZ9 := hide (hZ8.out.mapc hRg.out.mp hb.out)
              have hD9 := hide (hZ8.out.locM (k := D) (by simp) hD.out hb.out)
              have hS2 := hide (hS1.out.at port hfin.out)
              have hc2 : Hid (c1 = (kept (atB port) l).length) := hS2.out.tie.count hRg.out.mp
              have hL := hide (FoFlush hZ9.out.fo (hS1.out.fes hj1.out) port)
              rw [← hc2.out, ← hcc.out] at hL
              have hee : ((c : Int) - (c1 : Nat) != (c : Int) - (c1 : Nat)) = false := by simp
              have x2 : wr.cell? ⟨D, 2, none⟩ = some (.int .i64 port) := (cell_of_row _ _ _ _ _ _ hD9.out).trans rfl
              clear hRg hG hl hb hZ8 hD hE
              go_wp2_with fail
              refine hL.out.mono ?_
              rintro _ w10 ⟨rfl, hFn, hBn, hKn⟩
              have hZ10 := hide (hZ9.out.tab hFn hBn hKn)
              clear hL hFn hBn hKn hZ9 hD9 x2
              have hfeF := hide (hS2.out.fes hj1.out)
              have hdlF := hide (hS2.out.len)
              go_wp2_with fail
              refine (FoLost hZ10.out.fo).mono ?_
              rintro _ _ ⟨rfl, rfl⟩
              go_wp2_with fail
              refine (FoAll hZ10.out.fo hfeF.out).mono ?_
              rintro _ wz ⟨v', rfl, hSl, -, hBz, -⟩
              obtain ⟨va, vc, rfl⟩ := hSl.shape
              have hdl := decide_eq_false (p := R < (_ : Int)) (Int.not_lt.2 hdlF.out)
              have hZg := hide (hZ10.out.later hBz).drop
              clear hSl hBz hfeF hdlF hZ10 hee
              go_wp2
              go_roundw
              case rel => exact ⟨j + 1, _, _, _, _, _, by omega, by go_num, rfl, hZg, hS2⟩
              case measure => simp [intOf]; omega
            · intro x y w6 cnt' hx hy hlx hfx hRg6 hlt2 hgr hsz hen
              have hb6 : Hid (Ch (· = B) w8 w6) := ⟨hgr.os.trans hb.out.os, hgr.tape.trans hb.out.tape, hgr.output.trans hb.out.output, Nat.le_trans hb.out.size hgr.size, fun k hk hne => (hgr.block k (Nat.lt_of_lt_of_le hk hb.out.size) (fun e => by have h1 := hr.out; have h2 := Option.some.inj e; omega)).trans (hb.out.block k hk hne)⟩
              have hc6 : Hid (∀ w', Below w6.heap.size w6 w' → w'.cell? ⟨am, 0, none⟩ = some (.map (some B)) ∧ w'.cell? ⟨D, 2, none⟩ = some (.int .i64 port)) := fun w' hb' => by
                have hD9 := hZ8.out.locM (k := D) (by simp) hD.out hb6.out
                have hA9 := (hb6.out.block am (Array.getElem?_eq_some_iff.1 hZ8.out.cm).1 hZ8.out.ne.1).trans hZ8.out.cm
                exact ⟨cell_of_row _ _ _ _ _ _ (heap_kept hb' hA9), (cell_of_row _ _ _ _ _ _ (heap_kept hb' hD9)).trans rfl⟩
              have hsome : Hid ((f1 x).isSome = true) := by rw [hfx]; rfl
              have hRg6' := hide hRg6
              have hG' : Hid (atQ port y = false → Gn (atQ port) f f1 (updK lf x false)) := fun ho => hG.out.stay hx hlx hfx ho
              have hG'' : Hid (atQ port y = true → Gn (atQ port) f (updK f1 x none) (updK lf x false)) := fun ho => hG.out.goes hx hlx hfx ho
              have hc1p : Hid (1 ≤ c1) := hRg.out.mp.pos hx hsome.out
              replace hx := hide hx
              have hlt' : Hid (cnt' < wr.rangeLeft B r) := by rw [hRg.out.left_eq]; exact hlt2
              clear hRg hG hb hlx hfx hRg6 hgr hsz hlt2
              obtain ⟨y1, y2⟩ := y
              dsimp only at hen
              go_wp2_with ((with_reducible change wpList _ _ _ _ _ _); refine stop_storeB 32 (.tmp 23) (.tmp 173) rfl ?_)
              have hza := heap_alloc_new w6 (.cells (kRow kZero) 32)
              have hzb := heap_alloc_new (w6.alloc (.cells (kRow kZero) 32)) (.cells #[Value.int .i64 0, Value.int .i64 0] 34)
              rw [World.size_alloc] at hzb
              have hza2 := heap_kept (below1 (w6.alloc (.cells (kRow kZero) 32)) (.cells #[Value.int .i64 0, Value.int .i64 0] 34)) hza
              have hbz := (below1 w6 (.cells (kRow kZero) 32)).later (below1 _ (.cells #[Value.int .i64 0, Value.int .i64 0] 34))
              clear hza hen
              generalize ha : w6.heap.size = a at *
              generalize (w6.alloc (.cells (kRow kZero) 32)).alloc (.cells #[Value.int .i64 0, Value.int .i64 0] 34) = w7 at *
              have hra : (w7.setRow a (kRow x)).heap[a]? = some (.cells (kRow x) 32 (0, 0)) := setRow_heap _ _ _ _ _ _ hza2
              have hzb2 := (Go.setRow_other w7 a (a + 1) (kRow x) (by omega)).trans hzb
              have hrb : ((w7.setRow a (kRow x)).setRow (a + 1) #[Value.int .i64 y1, Value.int .i64 y2]).heap[a + 1]? = some (.cells #[Value.int .i64 y1, Value.int .i64 y2] 34 (0, 0)) := setRow_heap _ _ _ _ _ _ hzb2
              have hra2 := (Go.setRow_other (w7.setRow a (kRow x)) (a + 1) a #[Value.int .i64 y1, Value.int .i64 y2] (by omega)).trans hra
              refine hide (wpList_store_row rfl 32 (.tmp 23) (.tmp 173) rfl a (kRow x) rfl rfl 32 _ hza2 (kSize x) rfl (by simp [Value.oneCell']) ?_)
              go_wp2_with ((with_reducible change wpList _ _ _ _ _ _); refine stop_storeB 34 (.tmp 24) (.tmp 174) rfl ?_)
              refine hide (wpList_store_row rfl 34 (.tmp 24) (.tmp 174) rfl (a + 1) #[Value.int .i64 y1, Value.int .i64 y2] rfl rfl 34 _ hzb2 (eSize (y1, y2)) rfl (by simp [Value.oneCell']) ?_)
              have hb8 : Below a w6 ((w7.setRow a (kRow x)).setRow (a + 1) #[Value.int .i64 y1, Value.int .i64 y2]) := hbz.trans ⟨rfl, rfl, rfl, by simp [World.setRow], fun k hk => (Go.setRow_other _ _ _ _ (by omega)).trans (Go.setRow_other _ _ _ _ (by omega))⟩
              generalize (w7.setRow a (kRow x)).setRow (a + 1) #[Value.int .i64 y1, Value.int .i64 y2] = w9 at *
              subst ha
              have hrk := hide hra2
              have hce : w9.cell? ⟨w6.heap.size + 1, 0, none⟩ = some (.int .i64 y1) := (cell_of_row _ _ _ _ _ _ hrb).trans rfl
              have hR9 := hide (hRg6'.out.below hb8)
              have hC9 : Hid (Ch (· = B) w8 w9) := hb6.out.trans (Ch.of_below hb8)
              obtain ⟨cm, cp⟩ := hc6.out w9 hb8
              clear hc6 hb6 hRg6' hb8 hrb hzb2 hzb hza2 hra hra2 hbz w7
              by_cases ho : y1 = port
              · have ho' : (y1 == port) = true := by simp [ho]
                have hG9 := hide (hG''.out ho')
                clear hG' hG''
                obtain ⟨w10, cnt10, hrun10, hR10, hle10, hg10⟩ := hR9.out.del kT_good x hx.out (updK_same lf x false) hsome.out 0
                have hrun10' : (Builtin.delete_ #[26, 32] 0 #[.map (some B), .agg (kRow x)]).run Try.prog w9 = .ok (.tuple #[]) w10 := hrun10
                have hC10 : Hid (Ch (· = B) w8 w10) := hC9.out.trans (Ch.of_grown hg10)
                have hR10' := hide hR10
                have h1 := hc1p.out
                clear hrun10 hR10 hg10 hR9 hC9 hsome hx
                go_wp2_with ((with_reducible change wpList _ _ _ _ _ _); refine wpList_load_row rfl 32 (.tmp 23) rfl w6.heap.size rfl 32 _ _ _ hrk.out Try.underlying32 rfl (kSize _) ?_)
                go_roundw
                case rel => exact ⟨_, _, c1 - 1, _, by simp; omega, by omega, hR10', hG9, hC10⟩
                case measure => rw [hR10'.out.left_eq]; have := hlt'.out; omega
              · have ho' : (y1 == port) = false := beq_eq_false_iff_ne.2 ho
                have hG9 := hide (hG'.out ho')
                clear hG' hG'' hsome hrk
                go_wp2
                go_roundw
                case rel => exact ⟨_, _, c1, _, rfl, hc1, hR9, hG9, hC9⟩
                case measure => rw [hR9.out.left_eq]; exact hlt'.out
      by_cases e3 : kd = 3
      · subst e3
        as_aux_lemma =>
          have cn := hZ8.out.n0
          have hT := hide (hS1.out.time hj1.out)
          have hcc : Hid (c = l.length) := hS1.out.tie.count hZ8.out.mp
          have hL := hide (FoSweep hZ8.out.fo (hS1.out.fes hj1.out) nw hT.out)
          go_wp2_with fail
          refine hL.out.mono ?_
          rintro _ w9 ⟨rfl, hFn, hBn, hKn⟩
          have hZ9 := hide (hZ8.out.tab hFn hBn hKn)
          have hGn := hide (hZ9.out.gone hT.out (hS1.out.vals hj1.out) (by have := hcc.out; have := hS1.out.len; have := hS1.out.rm; omega))
          clear hL hFn hBn hKn hZ8 hD hE cn x0
          go_wp2_with fail
          refine hGn.out.mono ?_
          rintro _ w10 ⟨c1, f1, rfl, hZa, hf1, hC1⟩
          have hZ10 := hide hZa
          have hSo := hide (hS1.out.old (age := A) hf1)
          have hcl : Hid (c1 = (kept (oldB A nw) l).length) := hSo.out.tie.count hZa.mp
          have hee : ((l.length : Int) - ((kept (oldB A nw) l).length : Nat) != (c : Int) - (c1 : Nat)) = false := by rw [hcc.out, hcl.out]; simp
          clear hGn hZa hf1 hC1 hZ9 hcl

          have hfeF := hide (hSo.out.fes hj1.out)
          have hdlF := hide (hSo.out.len)
          go_wp2_with fail
          refine (FoLost hZ10.out.fo).mono ?_
          rintro _ _ ⟨rfl, rfl⟩
          go_wp2_with fail
          refine (FoAll hZ10.out.fo hfeF.out).mono ?_
          rintro _ wz ⟨v', rfl, hSl, -, hBz, -⟩
          obtain ⟨va, vc, rfl⟩ := hSl.shape
          have hdl := decide_eq_false (p := R < (_ : Int)) (Int.not_lt.2 hdlF.out)
          have hZg := hide (hZ10.out.later hBz).drop
          clear hSl hBz hfeF hdlF hZ10 hee
          go_wp2
          go_roundw
          case rel => exact ⟨j + 1, _, _, _, _, _, by omega, by go_num, rfl, hZg, hSo⟩
          case measure => simp [intOf]; omega
      have e0' : (kd == 0) = false := beq_eq_false_iff_ne.2 e0
      have e1' : (kd == 1) = false := beq_eq_false_iff_ne.2 e1
      have e2' : (kd == 2) = false := beq_eq_false_iff_ne.2 e2
      have e3' : (kd == 3) = false := beq_eq_false_iff_ne.2 e3
      have hfeF := hide (hS1.out.fes hj1.out)
      have hdlF := hide (hS1.out.len)
      go_wp2_with fail
      refine (FoLost hZ8.out.fo).mono ?_
      rintro _ _ ⟨rfl, rfl⟩
      go_wp2_with fail
      refine (FoAll hZ8.out.fo hfeF.out).mono ?_
      rintro _ wz ⟨v', rfl, hSl, -, hBz, -⟩
      obtain ⟨va, vc, rfl⟩ := hSl.shape
      have hdl := decide_eq_false (p := R < (_ : Int)) (Int.not_lt.2 hdlF.out)
      have hZg := hide (hZ8.out.later hBz).drop
      clear hSl hBz hfeF hdlF hZ8 x0 hD hE
      go_wp2
      go_roundw
      case rel => exact ⟨j + 1, _, _, _, _, _, by omega, by go_num, rfl, hZg, hS1⟩
      case measure => simp [intOf]; omega
    ·
      obtain rfl : n = j := by omega
      have hj1 : Hid (n ≤ 150) := hn150
      have hfe := hide (hS.out.fes hj1.out)
      have hcc : Hid (c = l.length) := hS.out.tie.count hZ.out.mp
      have hln : ∀ (w : World) (h : Mp Try.prog kT w B c f) ty, (Builtin.len_ #[26] ty #[.map (some B)]).run Try.prog w = .ok (.int .i64 c) w := fun w h ty => h.len kT_good ty
      go_wp2_with fail
      refine (FoAll hZ.out.fo hfe.out).mono ?_
      rintro _ w9 ⟨v', rfl, hSl, -, hBz, -⟩
      have hZ9 := hide (hZ.out.later hBz)
      have hSl' := hide hSl
      obtain ⟨va, vc, rfl⟩ := hSl.shape
      have hln9 := hln w9 hZ9.out.mp
      rw [hcc.out] at hln9
      have cm := hZ9.out.m0
      have hll : l.length ≤ 1024 := by have h2 := hS.out.len; have h3 := hS.out.rm; omega
      have hee : ((l.length : Int) != (l.length : Int)) = false := by simp
      clear hln hSl hBz hZ
      generalize hL : l.length = L at *
      replace hL := hide hL
      go_wp2_with fail
      clear hln9 cm hee
      have hB0 : Hid (Below w9.heap.size w9 w9) := Below.refl _ _
      go_loopw [219] (fun i wr => ∃ q : Nat, q ≤ L ∧ i = .int .i64 q ∧ Hid (Below w9.heap.size w9 wr)) (fun i _ => L - (intOf i).toNat)
      case atStart => exact ⟨0, Nat.zero_le _, rfl, hB0⟩
      case round =>
        obtain ⟨q, hq, rfl, hB⟩ := hrel
        clear hB0
        by_cases hqL : q < L
        · have hSr := hSl'.out.below hB.out
          rw [← hL.out] at hSr
          obtain ⟨bb, cap', sp, hv, hF, _, _⟩ := hSr.at_i (by rw [hL.out]; omega)
          simp only [Value.slice.injEq] at hv
          obtain ⟨rfl, _, rfl⟩ := hv
          have hqll : q < l.length := by rw [hL.out]; exact hqL
          have hrg := hide (hF.range wide_Fe Fe.zero q hqll)
          have hmem : l.getD q Fe.zero ∈ l := by rw [List.getD_eq_getElem?_getD, List.getElem?_eq_getElem hqll]; exact List.getElem_mem _
          have hlook0 : lookF l (keyF (l.getD q Fe.zero)) = some ((l.getD q Fe.zero).port, (l.getD q Fe.zero).seen) := lookF_mem hS.out.tie.nd hmem
          have hok := hS.out.tie.ok _ hmem
          have hsk := hide (hS.out.tie.look _ hok.1)
          rw [hlook0] at hsk
          have hprev : Hid (0 < q → ∀ w', Below wr.heap.size wr w' → w'.cell? ⟨bb, (q - 1) * 9 + 8, none⟩ = some (.int .i64 (l.getD (q - 1) Fe.zero).seen)) := fun h0 w' hb' => by
            exact (hF.below hb').cell wide_Fe Fe.zero (q - 1) 8 (by omega) (by omega)
          have hsort : Hid (0 < q → (l.getD (q - 1) Fe.zero).seen ≤ (l.getD q Fe.zero).seen) := fun h0 => by
            have hp := List.pairwise_iff_getElem.1 hS.out.tie.sorted (q - 1) q (by omega) hqll (by omega)
            simp only [List.getD_eq_getElem?_getD, List.getElem?_eq_getElem hqll, List.getElem?_eq_getElem (show q - 1 < l.length by omega), Option.getD_some]
            exact hp
          have hmw := hide hok.1.2
          clear hF hSr hmem hlook0
          generalize l.getD q Fe.zero = e at *
          generalize (l.getD (q - 1) Fe.zero).seen = ps at *
          obtain ⟨ev, em, ep, es⟩ := e
          replace hok := hide hok
          dsimp only [keyF] at hsk hsort hmw
          go_wp2_with (first | ((with_reducible change wpList _ _ _ _ _ _); refine wpList_load_mid rfl 46 (.tmp 222) rfl bb (q * 9) rfl (fFe ⟨ev, em, ep, es⟩) _ hrg.out Try.underlying46 rfl (feLen _) ?_) | ((with_reducible change wpList _ _ _ _ _ _); refine stop_storeB 46 (.tmp 27) (.tmp 223) rfl ?_))
          refine hide (wpList_store_fresh rfl 46 (.tmp 27) (.tmp 223) rfl (fFe ⟨ev, em, ep, es⟩).toArray (fFe Fe.zero).toArray rfl rfl 46 (feSize _) rfl (fe_all _) ?_)
          intro w10 h10 hb10
          have hB10 := hide (hB.out.later hb10)
          have hZ10 := hide ((hZ9.out.later hB10.out))
          have g0 : w10.cell? ⟨wr.heap.size, 0, none⟩ = some (.int .i64 ev) := (cell_of_row _ _ _ _ _ _ h10).trans rfl
          have hmr := hide (fe_mac ⟨ev, em, ep, es⟩ h10)
          have hpr := hide (fun (h0 : 0 < q) (w' : World) (hb' : Below w10.heap.size w10 w') => hprev.out h0 w' (hb10.later hb'))
          have cm := hZ10.out.m0
          have hlook : (Instr.lookup 26 (.map (some B)) (.agg (kRow (ev, em))) true).run Try.prog w10 = .ok (.tuple #[.agg #[.int .i64 ep, .int .i64 es], .bool true]) w10 := by
            have h := hZ10.out.mp.lookok kT_good (ev, em) hok.out.1
            rw [hsk.out] at h
            exact h
          have h10' := hide h10
          clear hprev hB h10 hb10 hrg hsk hmw
          generalize wr.heap.size = G at *
          clear wr
          go_wp2_with (first | ((with_reducible change wpList _ _ _ _ _ _); refine wpList_load_mid rfl 28 (.tmp 228) rfl G 1 rfl em.row.toList _ hmr.out Try.underlying28 rfl (m6Len _) ?_) | ((with_reducible change wpList _ _ _ _ _ _); refine stop_storeB 34 (.tmp 28) (.tmp 232) rfl ?_))
          refine hide (wpList_store_fresh rfl 34 (.tmp 28) (.tmp 232) rfl #[.int .i64 ep, .int .i64 es] #[.int .i64 0, .int .i64 0] rfl rfl 34 (eSize (ep, es)) rfl (by simp [Value.oneCell']) ?_)
          intro w11 h11 hb11
          have hBf := hide (hB10.out.later hb11)
          have y0 : w11.cell? ⟨w10.heap.size, 0, none⟩ = some (.int .i64 ep) := (cell_of_row _ _ _ _ _ _ h11).trans rfl
          have y1 : w11.cell? ⟨w10.heap.size, 1, none⟩ = some (.int .i64 es) := (cell_of_row _ _ _ _ _ _ h11).trans rfl
          have hG11 := heap_kept hb11 h10'.out
          have y2 : w11.cell? ⟨G, 7, none⟩ = some (.int .i64 ep) := (cell_of_row _ _ _ _ _ _ hG11).trans rfl
          have y3 : w11.cell? ⟨G, 8, none⟩ = some (.int .i64 es) := (cell_of_row _ _ _ _ _ _ hG11).trans rfl
          have e1 : (ep != ep) = false := by simp
          have e2 : (es != es) = false := by simp
          have hpr' := hide (fun h0 => hpr.out h0 w11 hb11)
          clear h11 hb11 h10' hG11 hmr hpr cm hlook hB10 hZ10 g0
          generalize w10.heap.size = H at *
          clear w10
          rcases Nat.eq_zero_or_pos q with rfl | h0
          · clear hpr' hsort
            go_wp2_with fail
            go_quiet (fail)
            have hBq : Hid (Below w9.heap.size w9 (w11.drewN nq)) := below_drewN hBf.out nq
            clear y0 y1 y2 y3 hBf
            go_wp2
            go_roundw
            case rel => exact ⟨1, by omega, by go_num, hBq⟩
            case measure => simp [intOf]; omega
          · have hp8 := hpr'.out h0
            have hqi : ((q : Int) - 1).toNat = q - 1 := by omega
            have hps : decide (es < ps) = false := decide_eq_false (by have := hsort.out h0; omega)
            have hq0 : 1 ≤ (q : Int) := by omega
            clear hpr' hsort
            go_wp2_with fail
            go_quiet (fail)
            have hBq : Hid (Below w9.heap.size w9 (w11.drewN nq)) := below_drewN hBf.out nq
            clear y0 y1 y2 y3 hBf hp8 hqi
            go_wp2
            go_roundw
            case rel => exact ⟨q + 1, by omega, by go_num, hBq⟩
            case measure => simp [intOf]; omega
        · have hfin := hide (hZ9.out.below.trans (hB.out.mono hZ9.out.below.size))
          clear hSl'
          go_wp2
          go_ret
          exact ⟨rfl, hfin.out⟩
end Go.Proofs.Ytiahiakllpjliaa
