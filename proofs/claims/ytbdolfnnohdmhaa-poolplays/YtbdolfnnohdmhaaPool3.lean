/-
  Contracts of bytes.Clone, and of package pool's calls that take a frame, or hand one out (Take, Get). Conditions: those that each theorem names.
-/
import Derived.Test.YtbdolfnnohdmhaaPool2
import Derived.Deep.RegionHeld3
import Derived.Lib.LazyBuf
namespace Go.Proofs.Ytbdolfnnohdmhaa
open Go.RowKit

theorem Try.infoU8p : (Try.prog.info? 5).map (fun i => (i.zero, i.size, i.bytes)) = some (some (.int .u8 0), 1, 1) := by kernel_rfl
theorem Bs.newsP {w : World} {a : Option Addr} {l : List Int}
    (h : ∀ i, i < l.length → ∃ b off, a = some ⟨b, off, none⟩ ∧ w.cell? ⟨b, off + i, none⟩ = some (.int .u8 (l.getD i 0))) :
    ∀ ad, a = some ad → ∀ t u, (l.map (Value.int .u8))[t]? = some u → w.cell? (ad.add t) = some u := by
  intro ad had t u hu
  have ht : t < l.length := by
    have := (List.getElem?_eq_some_iff.1 hu).1
    simpa using this
  obtain ⟨b, off, e, hc⟩ := h t ht
  rw [had] at e
  cases e
  rw [getElem?_map_u8 l t ht] at hu
  cases hu
  by_cases h0 : t = 0
  · subst h0; simpa [Addr.add] using hc
  · simpa [Addr.add, h0] using hc
/-- A slice of bytes of the call's own, from block B on, or nil. -/
def Own (w : World) (B : Nat) (v : Value) (l : List Int) : Prop := Byte l ∧ w.ownsRow B 5 1 v l.length (l.map (Value.int .u8))
theorem Own.bs {w : World} {B : Nat} {v : Value} {l : List Int} (h : Own w B v l) : Bs w v l := by
  rcases h.2.2 with ⟨rfl, h0⟩ | ⟨g, cap, cur, rfl, _⟩
  · obtain rfl := List.eq_nil_of_length_eq_zero h0
    exact Bs.nil w
  · exact Bs.own h.2 h.1
theorem Own.fresh {w : World} {B : Nat} {v : Value} {l : List Int} (h : Own w B v l) : ∀ a n c, v = .slice (some a) n c → B ≤ a.block := by
  intro a n c e
  rcases h.2.2 with ⟨rfl, h0⟩ | ⟨g, cap, cur, rfl, hB, _⟩
  · simp at e
  · simp only [Value.slice.injEq, Option.some.injEq] at e
    obtain ⟨rfl, _, _⟩ := e
    exact hB
theorem Own.form {w : World} {B : Nat} {v : Value} {l : List Int} (h : Own w B v l) : (v = .slice none 0 0 ∧ l = []) ∨ ∃ g cap, v = .slice (some ⟨g, 0, none⟩) l.length cap ∧ B ≤ g ∧ g < w.heap.size ∧ l.length ≤ cap ∧ cap ≤ maxLen := by
  rcases h.2.2 with ⟨rfl, h0⟩ | ⟨g, cap, cur, rfl, hB, hh, h1, h2, _⟩
  · exact .inl ⟨rfl, List.eq_nil_of_length_eq_zero h0⟩
  · exact .inr ⟨g, cap, rfl, hB, (Array.getElem?_eq_some_iff.1 hh).1, h1, h2⟩
theorem Own.mono {w : World} {B B' : Nat} {v : Value} {l : List Int} (h : Own w B v l) (hB : B' ≤ B) : Own w B' v l :=
  ⟨h.1, h.2.1, h.2.2.imp id fun ⟨g, cap, cur, a, b, c⟩ => ⟨g, cap, cur, a, Nat.le_trans hB b, c⟩⟩

theorem Clone_nil (c : Nat) (w : World) :
    Calls Try.prog 33 #[.slice none 0 c] w fun r w' => ∃ v, r = .returned v ∧ Own w' w.heap.size v [] ∧ Below w.heap.size w w' := by
  have hq := run_eql_slice_nil (P := Try.prog) w 42 5 none 0 c Try.underlying42
  go_enter Try.func33, Try.ntmps33
  go_wp2
  go_ret
  exact ⟨_, rfl, ⟨Byte.nil, World.ownsRow_nil _ _ _ _⟩, Below.refl _ _⟩
theorem Clone_some {w : World} {ad : Addr} {n c : Nat} {l : List Int} (h : Bs w (.slice (some ad) n c) l) (hm : l.length ≤ 1099511627776) :
    Calls Try.prog 33 #[.slice (some ad) n c] w fun r w' => ∃ v, r = .returned v ∧ Own w' w.heap.size v l ∧ Below w.heap.size w w' := by
  obtain ⟨i0, hi, hz0, hz1, hz2⟩ := info_parts Try.infoU8p
  obtain ⟨hby, a', cap', e, h1, h2, h3, h4⟩ := h.below (w' := w.alloc (.cells #[] 5)) ((Below.refl _ _).alloc (Nat.le_refl _) _)
  simp only [Value.slice.injEq] at e
  obtain ⟨rfl, hn, rfl⟩ := e
  subst hn
  have hown0 : (w.alloc (.cells #[] 5)).ownsRow w.heap.size 5 1 (.slice (some ⟨w.heap.size, 0, none⟩) 0 0) 0 [] := World.ownsRow_made w #[] 0 (Nat.le_refl _) (by simp [maxLen]) rfl
  have HN := hide (Bs.newsP h4 ad rfl)
  have HNL : Hid ((l.map (Value.int .u8)).length = l.length * 1) := by show _ = _; rw [List.length_map, Nat.mul_one]
  have HON := hide (ints_oneCell .u8 l)
  have HO0 := hide hown0
  have hBy := hide hby
  generalize hll : l.length = len at *
  have HL := hide hll
  clear hown0 h3 h4 h1 h2 hby hll
  have hq := run_eql_slice_nil (P := Try.prog) w 42 5 (some ad) len c Try.underlying42
  go_enter Try.func33, Try.ntmps33
  go_wp2_with (at_builtin; refine wpList_append_own _ rfl _ _ 42 rfl w.heap.size 5 i0 (.int .u8 0) 1 1 Try.underlying42 hi hz0 hz1 hz2 rfl (by decide) (.slice (some ⟨w.heap.size, 0, none⟩) 0 0) 0 [] rfl HO0.out ad len c (l.map (Value.int .u8)) rfl HNL.out HN.out HON.out (by unfold maxLen; omega) (by omega) (by simp) ?_; intro v2 w2 hown2 hgrow2 _; simp only [Nat.zero_add, List.nil_append] at hown2)
  go_ret
  refine ⟨_, rfl, ⟨hBy.out, by rw [HL.out]; exact hown2⟩, ?_⟩
  exact ((Below.refl _ _).alloc (Nat.le_refl _) _).grown hgrow2 (by simp) (fun k e => by cases e; exact Nat.le_refl _)
theorem Clone_any {w : World} {v : Value} {l : List Int} (h : Bs w v l) (hm : l.length ≤ 1099511627776) :
    Calls Try.prog 33 #[v] w fun r w' => ∃ v', r = .returned v' ∧ Own w' w.heap.size v' l ∧ Below w.heap.size w w' := by
  obtain ⟨h0, a, cap, rfl, h1, h2, h3, h4⟩ := h
  cases a with
  | none =>
    have hc := h3 rfl
    obtain rfl : l = [] := List.eq_nil_of_length_eq_zero (by omega)
    exact Clone_nil cap w
  | some ad => exact Clone_some ⟨h0, some ad, cap, rfl, h1, h2, h3, h4⟩ hm
theorem Get_no {w : World} {g b : Nat} {ps : List Pc} (h : Pl w g b ps) (i : Int) (hi : hasB ps i = false) :
    Calls Try.prog 27 #[.pointer (some ⟨g, 0, none⟩), .int .i64 i] w fun r w' => r = .returned (.tuple #[.slice none 0 0, .int .i64 21]) ∧ w' = w := by
  have hH := hide (has_any h i)
  rw [hi] at hH
  clear h hi
  go_enter Try.func27, Try.ntmps27
  go_wp2_with (go_at_call 34; refine hH.out.mono ?_; rintro e w' ⟨rfl, rfl⟩)
  go_ret2
  exact ⟨rfl, rfl⟩
theorem Get_yes {w : World} {g b : Nat} {ps : List Pc} (h : Pl w g b ps) (k : Nat) (hi : hasB ps k = true) (hm : (ps.getD k Pc.none).l.length ≤ 1099511627776) :
    Calls Try.prog 27 #[.pointer (some ⟨g, 0, none⟩), .int .i64 k] w fun r w' => ∃ v, r = .returned (.tuple #[v, .int .i64 0]) ∧ Own w' w.heap.size v (ps.getD k Pc.none).l ∧ Below w.heap.size w w' := by
  obtain ⟨k', e, hk, h0⟩ := has_index hi
  obtain rfl : k = k' := by omega
  have hH := hide (has_any h k)
  rw [hi] at hH
  have hg := h.cellG
  have hf := h.few
  have hc := h.cellV k hk
  have hC := hide (Clone_any (h.frameAt k hk).1 hm)
  generalize (ps.getD k Pc.none).l = L at *
  generalize (ps.getD k Pc.none).v = V at *
  generalize ps.length = n at *
  clear h hi e h0
  go_enter Try.func27, Try.ntmps27
  go_wp2_with (first | (go_at_call 34; refine hH.out.mono ?_; rintro e w' ⟨rfl, rfl⟩) | (go_at_call 33; refine hC.out.mono ?_; rintro e w' ⟨v, rfl, hO, hB⟩))
  go_ret2
  exact ⟨v, rfl, hO, hB⟩
theorem Take_full {w : World} {g b : Nat} {ps : List Pc} (h : Pl w g b ps) (v : Value) (hF : ∀ t, t < ps.length → 0 < (ps.getD t Pc.none).h) :
    Calls Try.prog 24 #[.pointer (some ⟨g, 0, none⟩), v] w fun r w' => r = .returned (.tuple #[.int .i64 0, .int .i64 20]) ∧ w' = w := by
  have hg := h.cellG
  have hf := h.few
  have HH := hide h
  have HF := hide hF
  clear h hF
  generalize hn : ps.length = n at *
  have HN := hide hn
  clear hn
  go_enter Try.func24, Try.ntmps24
  go_wp2
  go_loop [12] (fun i => ∃ j : Nat, j ≤ n ∧ i = .int .i64 j) (fun i => n - (intOf i).toNat)
  case atStart => exact ⟨0, Nat.zero_le _, rfl⟩
  case round =>
    obtain ⟨j, hj, rfl⟩ := hrel
    by_cases hlt : j < n
    · have hjp : j < ps.length := by rw [HN.out]; exact hlt
      have hc' := hide (HH.out.cellH j hjp)
      have h0 := HF.out j hlt
      generalize (ps.getD j Pc.none).h = H at *
      have h0' : ((H : Int) == 0) = false := by rw [beq_eq_false_iff_ne]; omega
      go_wp2_with (go_at_call 32; refine (free_any _ _ (H : Int) _ hc'.out).mono ?_; rintro e w' ⟨rfl, rfl⟩; rw [h0'])
      go_round
      case rel => exact ⟨j + 1, by omega, by go_num⟩
      case measure => simp [intOf]; omega
    · obtain rfl : j = n := by omega
      go_wp2
      go_ret2
      exact ⟨rfl, rfl⟩
theorem step_store_mid {P : Program} {ops : Array Oper} {o : Oper} {a : Act} {w : World} {K : Act → World → Prop} {Q : Exit → Act → World → Prop} {E : Prop} (hw : Region.wanted o (yielded ops a.tmps) = true) (ty : TypeId) (x y : Operand) (ho : o.op = .store ty x y)
    (b f : Nat) (cells : Array Value) (hx : a.eval x = .pointer (some ⟨b, f, none⟩)) (hy : a.eval y = .agg cells)
    (ht : w.there b f cells.size) (hi : (P.info? ty).map (·.size) = some cells.size) (h1 : cells.all (·.oneCell') = true)
    (h : K (a.put o.dst undef) (w.setCells b f cells.toList)) : if Region.wanted o (yielded ops a.tmps) = true then Oper.wp P o a w K Q else E := by
  rw [if_pos hw]
  exact wp_store_mid ty x y ho b f cells hx hy ht hi h1 h
theorem Try.sizePlace : (Try.prog.info? 59).map (·.size) = some 2 := by kernel_rfl
theorem Pl.put {w : World} {g b : Nat} {ps : List Pc} (h : Pl w g b ps) (k : Nat) (v : Value) (l : List Int) (n : Nat) (hk : k < ps.length) (hv : Bs w v l) (ha : Away g b v) :
    Pl (w.setCells b (k * 2) [v, .int .i64 n]) g b (ps.set k ⟨v, l, n⟩) ∧ But b w (w.setCells b (k * 2) [v, .int .i64 n]) := by
  have h1 := (h.setV k v l hk hv ha).setH k n (by rw [List.length_set]; exact hk)
  have e : (ps.set k ⟨v, l, (ps.getD k Pc.none).h⟩).getD k Pc.none = ⟨v, l, (ps.getD k Pc.none).h⟩ := by
    simp [List.getD_eq_getElem?_getD, hk]
  rw [e, List.set_set] at h1
  exact ⟨h1, (But.setCell b (k * 2) w v).trans (But.setCell b (k * 2 + 1) _ _)⟩
theorem Take_at {w : World} {g b : Nat} {ps : List Pc} (h : Pl w g b ps) (v : Value) (l : List Int) (hv : Bs w v l) (hm : l.length ≤ 1099511627776) (k : Nat) (hk : k < ps.length) (hF : ∀ t, t < k → 0 < (ps.getD t Pc.none).h) (h0 : (ps.getD k Pc.none).h = 0) :
    Calls Try.prog 24 #[.pointer (some ⟨g, 0, none⟩), v] w fun r w' => r = .returned (.tuple #[.int .i64 k, .int .i64 0]) ∧ ∃ v', Pl w' g b (ps.set k ⟨v', l, 1⟩) ∧ But b w w' ∧ ∀ a n c, v' = .slice (some a) n c → w.heap.size ≤ a.block := by
  have hg := h.cellG
  have hf := h.few
  have HH := hide h
  have HF := hide hF
  have H0 := hide h0
  have HK := hide hk
  have HV := hide hv
  clear h hF h0 hv
  generalize hn : ps.length = n at *
  have HN := hide hn
  clear hn
  go_enter Try.func24, Try.ntmps24
  go_wp2
  go_loop [12] (fun i => ∃ j : Nat, j ≤ k ∧ i = .int .i64 j) (fun i => n - (intOf i).toNat)
  case atStart => exact ⟨0, Nat.zero_le _, rfl⟩
  case round =>
    obtain ⟨j, hj, rfl⟩ := hrel
    have hlt : j < n := by omega
    have hjp : j < ps.length := by rw [HN.out]; exact hlt
    have hc' := hide (HH.out.cellH j hjp)
    rcases (show j < k ∨ j = k by omega) with hjk | rfl
    · have h0 := HF.out j hjk
      generalize (ps.getD j Pc.none).h = H at *
      have h0' : ((H : Int) == 0) = false := by rw [beq_eq_false_iff_ne]; omega
      go_wp2_with (go_at_call 32; refine (free_any _ _ (H : Int) _ hc'.out).mono ?_; rintro e w' ⟨rfl, rfl⟩; rw [h0'])
      go_round
      case rel => exact ⟨j + 1, by omega, by go_num⟩
      case measure => simp [intOf]; omega
    · rw [H0.out] at hc'
      go_wp2_with (go_at_call 32; refine (free_any _ _ ((0 : Nat) : Int) _ hc'.out).mono ?_; rintro e w' ⟨rfl, he⟩; obtain rfl := he.symm)
      have hC := hide (Clone_any (HV.out.below ((Below.refl _ _).drew)) hm)
      refine wp_region_noPanic ?_
      refine wp_region_held_drew (S := fun W => W.cell? ⟨g, 0, none⟩ = some (.slice (some ⟨b, 0, none⟩) n n)) (by kernel_rfl) hg (fun hHeld => ?_)
      refine wpAnyH_take (i := 0) (oi := { dst := some 22, op := Op.move (Operand.tmp 0), type := 37, pos := "pool.go:56", after := #[], guard := none }) (v := ?v1) rfl (by kernel_rfl) (by kernel_rfl) (by kernel_rfl) (fun _ _ _ h => h) (Or.inl ⟨by rfl, ?y1⟩) (by assumption) ?r1
      case y1 => (intro w hSw; (try dsimp only at hSw); (try (go_split_ands)); go_simp; try with_reducible rfl)
      try simp only [Act.put, List.setIfInBounds_toArray, List.set_cons_zero, List.set_cons_succ]
      refine wpAnyH_take (i := 1) (oi := { dst := some 23, op := Op.nilCheck (Operand.tmp 22), type := 0, pos := "pool.go:56", after := #[{ on := 0, ground := Ground.data }], guard := none }) (v := ?v2) rfl (by kernel_rfl) (by kernel_rfl) (by kernel_rfl) (fun _ _ _ h => h) (Or.inl ⟨by rfl, ?y2⟩) (by assumption) ?r2
      case y2 => (intro w hSw; (try dsimp only at hSw); (try (go_split_ands)); go_simp; try with_reducible rfl)
      try simp only [Act.put, List.setIfInBounds_toArray, List.set_cons_zero, List.set_cons_succ]
      refine wpAnyH_take (i := 2) (oi := { dst := some 24, op := Op.fieldAddr 57 (Operand.tmp 23) 0, type := 0, pos := "pool.go:56", after := #[{ on := 1, ground := Ground.data }], guard := none }) (v := ?v3) rfl (by kernel_rfl) (by kernel_rfl) (by kernel_rfl) (fun _ _ _ h => h) (Or.inl ⟨by rfl, ?y3⟩) (by assumption) ?r3
      case y3 => (intro w hSw; (try dsimp only at hSw); (try (go_split_ands)); go_simp; try with_reducible rfl)
      try simp only [Act.put, List.setIfInBounds_toArray, List.set_cons_zero, List.set_cons_succ]
      refine wpAnyH_take (i := 3) (oi := { dst := some 25, op := Op.load 55 (Operand.tmp 24), type := 55, pos := "pool.go:56", after := #[{ on := 2, ground := Ground.data }], guard := none }) (v := ?v4) rfl (by kernel_rfl) (by kernel_rfl) (by kernel_rfl) (fun _ _ _ h => h) (Or.inl ⟨by rfl, ?y4⟩) (by assumption) ?r4
      case y4 => (intro w hSw; (try dsimp only at hSw); (try (go_split_ands)); go_simp; try with_reducible rfl)
      try simp only [Act.put, List.setIfInBounds_toArray, List.set_cons_zero, List.set_cons_succ]
      refine wpAnyH_take (i := 4) (oi := { dst := some 26, op := Op.move (Operand.tmp 6), type := 3, pos := "pool.go:56", after := #[], guard := none }) (v := ?v5) rfl (by kernel_rfl) (by kernel_rfl) (by kernel_rfl) (fun _ _ _ h => h) (Or.inl ⟨by rfl, ?y5⟩) (by assumption) ?r5
      case y5 => (intro w hSw; (try dsimp only at hSw); (try (go_split_ands)); go_simp; try with_reducible rfl)
      try simp only [Act.put, List.setIfInBounds_toArray, List.set_cons_zero, List.set_cons_succ]
      refine wpAnyH_take (i := 5) (oi := { dst := some 27, op := Op.move (Operand.tmp 1), type := 42, pos := "pool.go:56", after := #[], guard := none }) (v := ?v6) rfl (by kernel_rfl) (by kernel_rfl) (by kernel_rfl) (fun _ _ _ h => h) (Or.inl ⟨by rfl, ?y6⟩) (by assumption) ?r6
      case y6 => (intro w hSw; (try dsimp only at hSw); (try (go_split_ands)); go_simp; try with_reducible rfl)
      try simp only [Act.put, List.setIfInBounds_toArray, List.set_cons_zero, List.set_cons_succ]
      refine wpAnyH_ready (rs := [6]) (by kernel_rfl) (by simp) ?_
      refine AllReadyH.cons (o := { dst := some 28, op := Op.call { callee := Callee.value (Operand.func 33), args := #[Operand.tmp 27], argTypes := #[42] }, type := 42, pos := "pool.go:56", after := #[{ on := 5, ground := Ground.data }], guard := none }) rfl (fun K hK => ?_) AllReadyH.nil
      go_simp
      refine hC.out.mono ?_
      rintro e w1 ⟨v1, rfl, hO1, hb1⟩
      obtain ⟨va, vn, vc, rfl⟩ : ∃ a n c, v1 = .slice a n c := by
        obtain ⟨_, a, cap, e, _⟩ := hO1.bs
        exact ⟨a, _, cap, e⟩
      have HO1 := hide hO1
      have HB1 := hide hb1
      have hg1 : w1.cell? ⟨g, 0, none⟩ = some (.slice (some ⟨b, 0, none⟩) n n) := by
        rw [hb1.cell (p := ⟨g, 0, none⟩) HH.out.lt.1]; exact hg
      clear hO1 hb1
      go_wp2_with fail
      refine hK.out _ _ ?_ (fun hHeld6 => ?_)
      · exact hg1
      clear hK K
      try simp only [Act.put, List.setIfInBounds_toArray, List.set_cons_zero, List.set_cons_succ]
      refine wpAnyH_take (i := 7) (oi := { dst := some 29, op := Op.build 59 #[(0, Operand.tmp 28), (1, Operand.const (Value.int IntKind.i64 1))], type := 59, pos := "pool.go:56", after := #[{ on := 6, ground := Ground.data }], guard := none }) (v := ?v7) rfl (by kernel_rfl) (by kernel_rfl) (by kernel_rfl) (fun _ _ _ h => h) (Or.inl ⟨by rfl, ?y7⟩) (by assumption) ?r7
      case y7 => (intro w hSw; (try dsimp only at hSw); (try (go_split_ands)); go_simp; try with_reducible rfl)
      try simp only [Act.put, List.setIfInBounds_toArray, List.set_cons_zero, List.set_cons_succ]
      refine wpAnyH_take (i := 8) (oi := { dst := some 30, op := Op.indexAddr 55 (Operand.tmp 25) (Operand.tmp 26), type := 0, pos := "pool.go:56", after := #[{ on := 3, ground := Ground.data }, { on := 4, ground := Ground.data }, { on := 0, ground := Ground.phase }, { on := 1, ground := Ground.phase }, { on := 2, ground := Ground.phase }, { on := 3, ground := Ground.phase }, { on := 4, ground := Ground.phase }, { on := 5, ground := Ground.phase }, { on := 6, ground := Ground.phase }, { on := 7, ground := Ground.phase }], guard := none }) (v := ?v8) rfl (by kernel_rfl) (by kernel_rfl) (by kernel_rfl) (fun _ _ _ h => h) (Or.inl ⟨by rfl, ?y8⟩) (by assumption) ?r8
      case y8 => (intro w hSw; (try dsimp only at hSw); (try (go_split_ands)); go_simp; try with_reducible rfl)
      try simp only [Act.put, List.setIfInBounds_toArray, List.set_cons_zero, List.set_cons_succ]
      have hP1 : Pl w1 g b ps := HH.out.below (((Below.refl _ _).drew).trans (HB1.out))
      have hA1 : Away g b (.slice va vn vc) := fun a n c e => by
        have := HO1.out.fresh a n c e
        have h1 : g < w.heap.size := HH.out.lt.1
        have h2 : b < w.heap.size := HH.out.lt.2
        have h3 : w.heap.size ≤ a.block := this
        exact ⟨by omega, by omega⟩
      obtain ⟨hP2, hB2⟩ := hP1.put j (.slice va vn vc) l 1 hjp HO1.out.bs hA1
      have hg2 : (w1.setCells b (j * 2) [.slice va vn vc, .int .i64 1]).cell? ⟨g, 0, none⟩ = some (.slice (some ⟨b, 0, none⟩) n n) := by
        have := hP2.cellG
        rwa [List.length_set, HN.out] at this
      refine wpAnyH_ready (rs := [9]) (by kernel_rfl) (by simp) ?_
      refine AllReadyH.cons (o := { dst := none, op := Op.store 59 (Operand.tmp 30) (Operand.tmp 29), type := 0, pos := "pool.go:56", after := #[{ on := 8, ground := Ground.data }, { on := 7, ground := Ground.data }, { on := 6, ground := Ground.chain }, { on := 0, ground := Ground.phase }, { on := 1, ground := Ground.phase }, { on := 2, ground := Ground.phase }, { on := 3, ground := Ground.phase }, { on := 4, ground := Ground.phase }, { on := 5, ground := Ground.phase }, { on := 6, ground := Ground.phase }, { on := 7, ground := Ground.phase }], guard := none }) rfl (fun K hK => ?_) AllReadyH.nil
      refine step_store_mid rfl 59 (.tmp 30) (.tmp 29) rfl b (j * 2) #[.slice va vn vc, .int .i64 1] rfl rfl (fun t ht => ?_) Try.sizePlace (by simp [Value.oneCell']) ?_
      · refine ⟨?_, hP1.frozenB _⟩
        rcases (show t = 0 ∨ t = 1 by simp at ht; omega) with rfl | rfl
        · rw [Nat.add_zero, hP1.cellV j hjp]; rfl
        · rw [hP1.cellH j hjp]; rfl
      refine hK.out _ _ hg2 (fun hHeld9 => ?_)
      clear hK K
      simp only [Act.put]
      refine wpAnyH_done (by kernel_rfl) ?_ _
      refine NoPanic.normal ?_
      have HP2 := hide hP2
      have HBB : Hid (But b w (w1.setCells b (j * 2) [.slice va vn vc, .int .i64 1])) := (But.of_below (((Below.refl _ _).drew).trans (HB1.out))).trans hB2
      have HFr : Hid (∀ a n c, Value.slice va vn vc = .slice (some a) n c → w.heap.size ≤ a.block) := HO1.out.fresh
      clear hP1 hA1 hP2 hB2 hg1 HO1 HB1
      go_wp2
      go_ret2
      exact ⟨rfl, _, HP2.out, HBB.out, HFr.out⟩
end Go.Proofs.Ytbdolfnnohdmhaa
