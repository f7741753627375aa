/-
  The walk of the statement PoolOwn: whatever the bytes, it answers true and writes nothing that was there.
-/
import Derived.Test.YtbdolfnnohdmhaaPoolL1
import Derived.Test.YtbdolfnnohdmhaaCame
namespace Go.Proofs.Ytbdolfnnohdmhaa
open Go.RowKit

theorem Own.cell {w : World} {B g n c : Nat} {l : List Int} (h : Own w B (.slice (some ⟨g, 0, none⟩) n c) l) (k : Nat) (hk : k < n) :
    w.cell? ⟨g, k, none⟩ = some (.int .u8 (l.getD k 0)) ∧ w.frozen? ⟨g, k, none⟩ = false ∧ n = l.length ∧ B ≤ g := by
  have hn : n = l.length := by
    rcases h.2.2 with ⟨e, _⟩ | ⟨g', cap, cur, e, _⟩
    · simp at e
    · simp only [Value.slice.injEq] at e; exact e.2.1
  subst hn
  exact ⟨by rw [h.2.cellAt k (by omega), getElem?_map_u8 l k hk], h.2.frozenAt k, rfl, h.fresh _ _ _ rfl⟩
theorem Own.set {w : World} {B g n c : Nat} {l : List Int} (h : Own w B (.slice (some ⟨g, 0, none⟩) n c) l) (k : Nat) (hk : k < n) (x : Int) (hx : 0 ≤ x ∧ x ≤ 255) :
    Own (w.setCell ⟨g, k, none⟩ (.int .u8 x)) B (.slice (some ⟨g, 0, none⟩) n c) (l.set k x) := by
  obtain ⟨_, _, hn, _⟩ := h.cell k hk
  subst hn
  refine ⟨h.1.set k x hx, ?_⟩
  rw [List.length_set, List.map_set]
  exact (h.2.stored k _).1
theorem Own.but {w w' : World} {B b : Nat} {v : Value} {l : List Int} (h : Own w B v l) (hb : But b w w') (hv : ∀ a n c, v = .slice (some a) n c → a.block ≠ b) : Own w' B v l := by
  refine ⟨h.1, h.2.1, ?_⟩
  rcases h.2.2 with h2 | ⟨g, cap, cur, rfl, hB, hh, r⟩
  · exact .inl h2
  · exact .inr ⟨g, cap, cur, rfl, hB, by rw [hb.block g (Array.getElem?_eq_some_iff.1 hh).1 (hv _ _ _ rfl)]; exact hh, r⟩
theorem Own.below {w w' : World} {B : Nat} {v : Value} {l : List Int} (h : Own w B v l) (hb : Below w.heap.size w w') : Own w' B v l := by
  refine ⟨h.1, h.2.1, ?_⟩
  rcases h.2.2 with h2 | ⟨g, cap, cur, rfl, hB, hh, r⟩
  · exact .inl h2
  · exact .inr ⟨g, cap, cur, rfl, hB, by rw [hb.block g (Array.getElem?_eq_some_iff.1 hh).1]; exact hh, r⟩
/-- Bytes of whatever slice, appended to a new row. -/
theorem wpList_append_bs (w : World) {ops : Array Oper} {rest : List Oper} {o : Oper} {a : Act} {Q : Exit → Act → World → Prop} (hgd : o.guard = none) (s x : Operand)
    (ho : o.op = .call { callee := .builtin .append, args := #[s, x], argTypes := #[42, 42] })
    (y : Value) (l : List Int) (hs : a.eval s = .slice (some ⟨w.heap.size, 0, none⟩) 0 0) (hx : a.eval x = y) (hy : Bs w y l) (hm : l.length ≤ 1099511627776)
    (h : ∀ g c w', Own w' w.heap.size (.slice (some ⟨g, 0, none⟩) l.length c) l → Below w.heap.size w w' → g < w'.heap.size → wpList Try.prog ops Q rest (a.put o.dst (.slice (some ⟨g, 0, none⟩) l.length c)) w') : wpList Try.prog ops Q (o :: rest) a (w.alloc (.cells #[] 5)) := by
  obtain ⟨i0, hi, hz0, hz1, hz2⟩ := info_parts Try.infoU8p
  have hb0 : Below w.heap.size w (w.alloc (.cells #[] 5)) := (Below.refl _ _).alloc (Nat.le_refl _) _
  obtain ⟨hby, ao, cap', rfl, h1, h2, h3, h4⟩ := hy.below hb0
  have hown0 : (w.alloc (.cells #[] 5)).ownsRow w.heap.size 5 1 (.slice (some ⟨w.heap.size, 0, none⟩) 0 0) 0 [] := World.ownsRow_made w #[] 0 (Nat.le_refl _) (by simp [maxLen]) rfl
  cases ao with
  | none =>
    have hc := h3 rfl
    obtain rfl : l = [] := List.eq_nil_of_length_eq_zero (by omega)
    subst hc
    refine wpList_append_fits_any _ hgd s x 42 ho w.heap.size 5 i0 1 Try.underlying42 hi hz1 w.heap.size 0 0 [] hs hown0 none 0 0 [] hx rfl (fun _ => ⟨rfl, rfl⟩) (fun ad e => by cases e) (by simp) (by simp) ?_
    intro w' hown hg
    exact h w.heap.size 0 w' ⟨Byte.nil, hown⟩ (hb0.grown hg (by simp) (fun k e => by cases e; exact Nat.le_refl _)) (Nat.lt_of_lt_of_le (by simp) hg.size)
  | some ad =>
    refine wpList_append_own _ hgd s x 42 ho w.heap.size 5 i0 (.int .u8 0) 1 1 Try.underlying42 hi hz0 hz1 hz2 rfl (by decide) _ 0 [] hs hown0 ad l.length cap' (l.map (Value.int .u8)) hx (by rw [List.length_map, Nat.mul_one]) (Bs.newsP h4 ad rfl) (ints_oneCell .u8 l) (by unfold maxLen; omega) (by omega) (by simp) ?_
    intro v' w' hown hg hnil
    simp only [Nat.zero_add, List.nil_append] at hown
    have hO : Own w' w.heap.size v' l := ⟨hby, hown⟩
    rcases hO.form with ⟨rfl, _⟩ | ⟨g, c, rfl, _, hlt, _⟩
    · have := hnil.1 rfl
      simp at this
    · exact h g c w' hO (hb0.grown hg (by simp) (fun k e => by cases e; exact Nat.le_refl _)) hlt
theorem POwn_far (a : Option Addr) (len cap : Nat) (w : World) (hlen : len ≤ maxLen) (h : 300 < len) :
    Calls Try.prog 10 #[.slice a len cap] w fun r w' => r = .returned (.bool true) ∧ Below w.heap.size w w' := by
  unfold maxLen at hlen
  go_enter Try.func10, Try.ntmps10
  go_wp2_with fail
  refine (keeps_any _).mono ?_
  rintro e w1 ⟨rfl, hb1⟩
  go_wp2
  go_ret
  exact ⟨rfl, hb1⟩
set_option maxHeartbeats 1000000 in
theorem POwn_near (a : Option Addr) (len cap : Nat) (l : List Int) (w : World) (hB : Bs w (.slice a len cap) l) (hll : l.length = len) (hlen : len ≤ 300) :
    Calls Try.prog 10 #[.slice a len cap] w fun r w' => r = .returned (.bool true) ∧ Below w.heap.size w w' := by
  have HV := hide hB
  have HL := hide hll
  clear hB hll
  go_enter Try.func10, Try.ntmps10
  go_wp2_with fail
  refine (keeps_any _).mono ?_
  rintro e w1 ⟨rfl, hb1⟩
  go_wp2_with fail
  refine (New_at 3 3 w1 (by decide)).mono ?_
  rintro e w2 ⟨rfl, hP2, hb2⟩
  have HS := hide hb1.size
  have HP2 := hide hP2
  have HB2 := hide (hb1.trans (hb2.mono hb1.size))
  have HG2 := hide hP2.lt
  clear hb1 hb2 hP2
  generalize w1.heap.size = B at *
  go_wp2_with (at_builtin; refine wpList_append_bs w2 rfl _ _ rfl _ l rfl rfl (HV.out.below HB2.out) (by rw [HL.out]; omega) ?_; intro go co w3 hO3 hb3 hgo; refine unhide ?_)
  have HP3 := hide (HP2.out.below hb3)
  have HB3 := hide (HB2.out.trans (hb3.mono HB2.out.size))
  have hgo2 := hO3.fresh _ _ _ rfl
  have HO3 := hide hO3
  have HG3 : Hid (B + 1 < go ∧ B < go) := by have := HG2.out; exact ⟨Nat.lt_of_lt_of_le this.1 hgo2, Nat.lt_of_lt_of_le this.2 hgo2⟩
  clear hO3 hb3 HP2 HG2 hgo2 HB2
  rw [HL.out] at HO3 ⊢
  refine hide ?_
  go_wp2_with fail
  refine (Take_at HP3.out _ l HO3.out.bs (by rw [HL.out]; omega) 0 (by simp) (by simp) (by simp)).mono ?_
  rintro e w4 ⟨rfl, v, hP4, hbut4, hfr4⟩
  have HP4 : Hid (Pl w4 (B + 1) B [⟨v, l, 1⟩, Pc.none, Pc.none]) := hP4
  have HB4 := hide (But.below HB3.out hbut4 HS.out HB3.out.size)
  have HO4 := hide (HO3.out.but hbut4 (fun a n c e => by cases e; have := HG3.out.2; simp only; omega))
  have HF4 : Hid (∀ p ∈ ([⟨v, l, 1⟩, Pc.none, Pc.none] : List Pc), ∀ a n k, p.v = .slice (some a) n k → a.block ≠ go) := by
    intro p hp a n k e
    simp only [List.mem_cons, List.not_mem_nil, or_false] at hp
    rcases hp with rfl | rfl | rfl
    · have := hfr4 a n k e; omega
    · simp at e
    · simp at e
  clear hP4 hbut4 hfr4 HP3 HB3 HO3
  generalize w2.heap.size = B2 at *
  have HG4 := HG3
  clear HG3
  go_wp2
  go_loopw [30] (fun i wr => ∃ j : Nat, j ≤ len ∧ i = .int .i64 j ∧ Hid (Pl wr (B + 1) B [⟨v, l, 1⟩, Pc.none, Pc.none]) ∧ (∃ l', Hid (Own wr B2 (.slice (some ⟨go, 0, none⟩) len co) l')) ∧ Hid (Below w.heap.size w wr)) (fun i _ => len - (intOf i).toNat)
  case atStart => exact ⟨0, Nat.zero_le _, rfl, HP4, ⟨l, HO4⟩, HB4⟩
  case round =>
    obtain ⟨j, hj, rfl, HP, ⟨l', HO⟩, HB⟩ := hrel
    clear HP4 HO4 HB4
    by_cases hlt : j < len
    · obtain ⟨hc, hz, _, _⟩ := HO.out.cell j hlt
      have HO' := hide (HO.out.set j hlt 7 (by decide))
      have HP' := hide (HP.out.but (But.setCell go j wr (.int .u8 7)) (by have := HG4.out.1; omega) (by have := HG4.out.2; omega) HF4.out)
      have HB' := hide (HB.out.setCell (p := ⟨go, j, none⟩) (by have := HG4.out.2; have := HS.out; show w.heap.size ≤ go; omega) (.int .u8 7))
      generalize l'.getD j 0 = y at *
      generalize l'.set j 7 = l'' at *
      go_wp2
      go_roundw
      case rel => exact ⟨j + 1, by omega, by go_num, HP', ⟨l'', HO'⟩, HB'⟩
      case measure => simp [intOf]; omega
    · clear HO HF4 HG4
      obtain rfl : j = len := by omega
      go_wp2_with fail
      refine (Get_yes HP.out 0 rfl (by show l.length ≤ _; rw [HL.out]; omega)).mono ?_
      rintro e w5 ⟨v5, rfl, hO5, hb5⟩
      have HO5 : Hid (Own w5 wr.heap.size v5 l) := hO5
      have HP5 := hide (HP.out.below hb5)
      have HB5 := hide (HB.out.trans (hb5.mono HB.out.size))
      have HW5 : Hid (Below wr.heap.size wr w5) := hb5
      have HSW := hide HB.out.size
      have HBr := HB
      clear hO5 hb5 HB
      obtain ⟨a5, n5, c5, rfl, hn5⟩ : ∃ a n c, v5 = .slice a n c ∧ n = l.length := by
        obtain ⟨_, a, cap, e, _⟩ := HO5.out.bs
        exact ⟨a, _, cap, e, rfl⟩
      rw [HL.out] at hn5
      subst hn5
      obtain ⟨S, hS⟩ : ∃ S, S = bstr l := ⟨_, rfl⟩
      have HSt := hide hS
      have HB' : Hid (∀ W, Below wr.heap.size wr W → Below w.heap.size w W) := fun W h => HBr.out.trans (h.mono HSW.out)
      clear hS HB5 HP5 HBr
      go_wp2
      go_loopw [45] (fun i wt => ∃ t : Nat, t ≤ n5 ∧ i = .int .i64 t ∧ (∃ l', Hid (Own wt wr.heap.size (.slice a5 n5 c5) l')) ∧ Hid (Below wr.heap.size wr wt)) (fun i _ => n5 - (intOf i).toNat)
      case atStart => exact ⟨0, Nat.zero_le _, rfl, ⟨l, HO5⟩, HW5⟩
      case round =>
        obtain ⟨t, ht, rfl, ⟨l', HO⟩, HW⟩ := hrel
        clear HO5 HW5
        by_cases hlt2 : t < n5
        · obtain ⟨g5, rfl⟩ : ∃ g, a5 = some ⟨g, 0, none⟩ := by
            rcases HO.out.form with ⟨e, _⟩ | ⟨g, cc, e, _⟩
            · simp only [Value.slice.injEq] at e; omega
            · simp only [Value.slice.injEq] at e; exact ⟨g, e.1⟩
          obtain ⟨hc, hz, _, hB5⟩ := HO.out.cell t hlt2
          have HO' := hide (HO.out.set t hlt2 9 (by decide))
          have HW' := hide (HW.out.setCell (p := ⟨g5, t, none⟩) hB5 (.int .u8 9))
          generalize l'.getD t 0 = y at *
          generalize l'.set t 9 = l'' at *
          go_wp2
          go_roundw
          case rel => exact ⟨t + 1, by omega, by go_num, ⟨l'', HO'⟩, HW'⟩
          case measure => simp [intOf]; omega
        · clear HO
          obtain rfl : t = n5 := by omega
          go_wp2_with fail
          refine (Get_yes (HP.out.below HW.out) 0 rfl (by show l.length ≤ _; rw [HL.out]; omega)).mono ?_
          rintro e w7 ⟨v7, rfl, hO7, hb7⟩
          have HB7 := hide (HB'.out _ (HW.out.trans (hb7.mono HW.out.size)))
          have hV7 : Bs w7 v7 l := hO7.bs
          have q5 : (convert 42 9 v7).run Try.prog w7 = .ok (.string S) w7 := by rw [HSt.out]; exact conv_str 42 9 5 Try.underlying42 Try.underlying5 Try.underlying9 hV7
          have q6 : (convert 42 9 (.slice a t cap)).run Try.prog w7 = .ok (.string S) w7 := by rw [HSt.out]; exact conv_str 42 9 5 Try.underlying42 Try.underlying5 Try.underlying9 (HV.out.below HB7.out)
          clear hO7 hb7 hV7 HW HP HB'
          go_wp2
          go_ret
          exact ⟨rfl, HB7.out⟩
theorem POwn_walk (a : Option Addr) (len cap : Nat) (l : List Int) (w : World) (hB : Bs w (.slice a len cap) l) (hll : l.length = len) :
    Calls Try.prog 10 #[.slice a len cap] w fun r w' => r = .returned (.bool true) ∧ Below w.heap.size w w' := by
  by_cases h : 300 < len
  · refine POwn_far a len cap w ?_ h
    obtain ⟨_, a', c', e, h1, h2, _⟩ := hB
    simp only [Value.slice.injEq] at e
    omega
  · exact POwn_near a len cap l w hB hll (by omega)
end Go.Proofs.Ytbdolfnnohdmhaa
