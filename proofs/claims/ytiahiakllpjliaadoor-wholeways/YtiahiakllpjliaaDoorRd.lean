
/-
  Contracts of octet.Read and of the reader's calls (Number, Take, Left, Err). Conditions: those that each theorem names.
-/
import Derived.Test.YtiahiakllpjliaaDoorJoin
namespace Go.Proofs.YtiahiakllpjliaaDoor
open Go.RowKit

/-- Where the value is a slice of some bytes, they lie below block B. -/
def Bl (B : Nat) (v : Value) : Prop := ∀ a n c, v = .slice (some a) n c → 0 < n → a.block < B
theorem Bs.belowAt {B : Nat} {w w' : World} {v : Value} {l : List Int} (h : Bs w v l) (hB : Bl B v) (hb : Below B w w') : Bs w' v l := by
  obtain ⟨h0, a, cap, rfl, h1, h2, h3, h4⟩ := h
  refine ⟨h0, a, cap, rfl, h1, h2, h3, fun i hi => ?_⟩
  obtain ⟨b, off, e, hc⟩ := h4 i hi
  refine ⟨b, off, e, ?_⟩
  subst e
  rw [hb.cell (p := ⟨b, off + i, none⟩) (show b < B from hB ⟨b, off, none⟩ _ _ rfl (Nat.lt_of_le_of_lt (Nat.zero_le _) hi))]
  exact hc
theorem Bl.mono {B B' : Nat} {v : Value} (h : Bl B v) (hB : B ≤ B') : Bl B' v := fun a n c e hn => Nat.lt_of_lt_of_le (h a n c e hn) hB
theorem Bs.bl {w : World} {v : Value} {l : List Int} (h : Bs w v l) : Bl w.heap.size v := by
  intro a n c e hn
  obtain ⟨_, a', cap, rfl, h1, h2, h3, h4⟩ := h
  simp only [Value.slice.injEq] at e
  obtain ⟨rfl, rfl, rfl⟩ := e
  obtain ⟨b, off, e, hc⟩ := h4 0 hn
  simp only [Option.some.injEq] at e
  subst e
  exact block_lt_of_cell hc

/-- A reader at block g, with so many bytes left, and an error. -/
def Rd (w : World) (g : Nat) (l : List Int) (err : Int) : Prop :=
  ∃ v, w.heap[g]? = some (.cells #[v, .int .i64 err] 110 (0, 0)) ∧ Bs w v l ∧ Bl g v
theorem Rd.lt {w : World} {g : Nat} {l : List Int} {err : Int} (h : Rd w g l err) : g < w.heap.size := by
  obtain ⟨v, hg, _⟩ := h
  exact (Array.getElem?_eq_some_iff.1 hg).1
/-- It stays so where no block up to its own is written. -/
theorem Rd.kept {w w' : World} {g : Nat} {l : List Int} {err : Int} (h : Rd w g l err) {B : Nat} (hg : g < B) (hb : Below B w w') : Rd w' g l err := by
  obtain ⟨v, h1, h2, h3⟩ := h
  exact ⟨v, by rw [hb.block g hg]; exact h1, h2.belowAt h3 (hb.mono (by omega)), h3⟩

/-- No old block but one has turned. -/
def Kept (g : Nat) (w w' : World) : Prop := ∀ b, b < w.heap.size → b ≠ g → w'.heap[b]? = w.heap[b]?
theorem Kept.setCell (w : World) (p : Addr) (v : Value) : Kept p.block w (w.setCell p v) := fun b _ hne => Below.heap_setCell w p v b hne
theorem Kept.later {g : Nat} {w w1 : World} (hb : Below w.heap.size w w1) {p : Addr} (hp : p.block = g) (v : Value) : Kept g w (w1.setCell p v) := fun b hb' hne => by
  rw [Below.heap_setCell w1 p v b (by rw [hp]; exact hne)]; exact hb.block b hb'

theorem Read_any {v : Value} {l : List Int} {w : World} (hv : Bs w v l) :
    Calls Tryd.prog 30 #[v] w fun e w' => e = .returned (.pointer (some ⟨w.heap.size, 0, none⟩)) ∧ Rd w' w.heap.size l 0 ∧ Below w.heap.size w w' := by
  have hv' := hv
  obtain ⟨_, a, cap, rfl, _⟩ := hv
  have HV := hide hv'
  clear hv'
  go_enter Tryd.func30, Tryd.ntmps30
  go_wp2
  go_ret
  have hbl : Below w.heap.size w (w.alloc (.cells #[.slice a l.length cap, .int .i64 0] 110)) := (Below.refl _ _).alloc (Nat.le_refl _) _
  exact ⟨rfl, ⟨_, heap_alloc_new _ _, HV.out.below hbl, HV.out.bl⟩, hbl⟩

theorem Left_any {w : World} {g : Nat} {l : List Int} {err : Int} (h : Rd w g l err) :
    Calls Tryd.prog 33 #[.pointer (some ⟨g, 0, none⟩)] w fun e w' => e = .returned (.int .i64 l.length) ∧ w' = w := by
  obtain ⟨v, h1, ⟨_, a, cap, rfl, _⟩, _⟩ := h
  have c0 := cell_of_row w g 0 _ _ _ h1
  simp at c0
  clear h1
  go_enter Tryd.func33, Tryd.ntmps33
  go_wp2
  go_ret
  exact ⟨rfl, rfl⟩
/-! Number -/
theorem RNumber_err {w : World} {g : Nat} {l : List Int} {err : Int} (h : Rd w g l err) (he : err ≠ 0) (k : Int) :
    Calls Tryd.prog 54 #[.pointer (some ⟨g, 0, none⟩), .int .i64 k] w fun e w' => e = .returned (.int .u64 0) ∧ w' = w := by
  obtain ⟨v, h1, _, _⟩ := h
  have c1 := cell_of_row w g 1 _ _ _ h1
  simp at c1
  have he' : (err != 0) = true := bne_iff_ne.2 he
  clear h1 he
  go_enter Tryd.func54, Tryd.ntmps54
  go_wp2
  go_ret
  exact ⟨rfl, rfl⟩
theorem Rd.setErr {w : World} {g : Nat} {l : List Int} {err : Int} (h : Rd w g l err) (e : Int) : Rd (w.setCell ⟨g, 1, none⟩ (.int .i64 e)) g l e ∧ Below g w (w.setCell ⟨g, 1, none⟩ (.int .i64 e)) := by
  obtain ⟨v, h1, h2, h3⟩ := h
  have hb : Below g w (w.setCell ⟨g, 1, none⟩ (.int .i64 e)) := (Below.refl _ _).setCell (p := ⟨g, 1, none⟩) (Nat.le_refl _) _
  refine ⟨⟨v, ?_, h2.belowAt h3 hb, h3⟩, hb⟩
  rw [heap_setCell_same w g 1 _ _ _ h1]
  rfl
theorem Rd.setRest {w : World} {g : Nat} {l l' : List Int} {err : Int} (h : Rd w g l err) (v' : Value) (h' : Bs w v' l') (hl : Bl g v') : Rd (w.setCell ⟨g, 0, none⟩ v') g l' err ∧ Below g w (w.setCell ⟨g, 0, none⟩ v') := by
  obtain ⟨v, h1, h2, h3⟩ := h
  have hb : Below g w (w.setCell ⟨g, 0, none⟩ v') := (Below.refl _ _).setCell (p := ⟨g, 0, none⟩) (Nat.le_refl _) _
  refine ⟨⟨v', ?_, h'.belowAt hl hb, hl⟩, hb⟩
  rw [heap_setCell_same w g 0 _ _ _ h1]
  rfl
theorem RNumber_bad {w : World} {g : Nat} {l : List Int} (h : Rd w g l 0) (k c : Int) (hm : l.length ≤ 1099511627776) (hc : c = if k < 1 ∨ 8 < k then 1 else 2) (hk : (k < 1 ∨ 8 < k) ∨ (l.length : Int) < k) :
    Calls Tryd.prog 54 #[.pointer (some ⟨g, 0, none⟩), .int .i64 k] w fun e w' => e = .returned (.int .u64 0) ∧ Rd w' g l c ∧ Below g w w' := by
  have HR := hide h
  obtain ⟨v, h1, h2, _⟩ := h
  have c1 := cell_of_row w g 1 _ _ _ h1
  have c0 := cell_of_row w g 0 _ _ _ h1
  have fz := frozen_of_row w g 1 _ _ h1
  simp at c1 c0
  clear h1
  by_cases hr : k < 1 ∨ 8 < k
  · rw [if_pos hr] at hc
    subst hc
    clear hk
    go_enter Tryd.func54, Tryd.ntmps54
    go_wp2_with (go_at_call 71; refine (Get_range _ _ _ _ (.inl hr)).mono ?_; rintro e w' ⟨rfl, rfl⟩)
    go_ret
    exact ⟨rfl, HR.out.setErr 1⟩
  · rw [if_neg hr] at hc
    subst hc
    have hk' : (l.length : Int) < k := by omega
    have ka : 1 ≤ k := by omega
    have kb : k ≤ 8 := by omega
    clear hk hr
    go_enter Tryd.func54, Tryd.ntmps54
    go_wp2_with (go_at_call 71; refine (Get_less h2 _ _ (by omega) (by omega) ka kb (by omega) (by omega)).mono ?_; rintro e w' ⟨rfl, rfl⟩)
    go_ret
    exact ⟨rfl, HR.out.setErr 2⟩
theorem RNumber_okK {w : World} {g : Nat} {l : List Int} (h : Rd w g l 0) (k : Nat) (hm : l.length ≤ 1099511627776) (h1 : 1 ≤ k) (h8 : k ≤ 8) (hk : k ≤ l.length) :
    Calls Tryd.prog 54 #[.pointer (some ⟨g, 0, none⟩), .int .i64 k] w fun e w' => e = .returned (.int .u64 (num (l.take k))) ∧ Rd w' g (l.drop k) 0 ∧ Below g w w' ∧ Kept g w w' := by
  have HR := hide h
  obtain ⟨v, hg, h2, hbl⟩ := h
  have c1 := cell_of_row w g 1 _ _ _ hg
  have c0 := cell_of_row w g 0 _ _ _ hg
  have fz := frozen_of_row w g 0 _ _ hg
  simp at c1 c0
  clear hg
  have h2' := h2
  rcases h2'.cases with ⟨rfl, _⟩ | ⟨b, off, cap, rfl, _, h3, h4, hc⟩
  · simp at hk; omega
  · have hpiece := Bs.piece h2.byte h3 h4 hc k l.length hk (Nat.le_refl _)
    rw [List.take_of_length_le (by simp)] at hpiece
    have HP := hide hpiece
    clear hpiece h2'
    have HB := hide hbl
    clear hbl
    generalize hlen : l.length = len at *
    have HL := hide hlen
    clear hlen hc
    by_cases hck : cap = k
    · subst hck
      go_enter Tryd.func54, Tryd.ntmps54
      go_wp2_with (go_at_call 71; refine (Get_ok h2 0 cap (by omega) (by omega) (by omega) (by rw [HL.out]; omega) (by rw [HL.out]; omega)).mono ?_; rintro e w' ⟨rfl, rfl⟩)
      go_ret
      have e1 : l.drop cap = [] := List.drop_eq_nil_of_le (by rw [HL.out]; omega)
      rw [e1]
      have hs := HR.out.setRest (l' := []) (.slice (some ⟨b, off, none⟩) 0 0) (Bs.empty _ _ _ (by simp [maxLen]) (fun e => by cases e)) (fun a n c e hn => by cases e; omega)
      exact ⟨rfl, hs.1, hs.2, Kept.setCell _ ⟨g, 0, none⟩ _⟩
    · have hck' : ((cap : Int) == (k : Int)) = false := by simp; omega
      go_enter Tryd.func54, Tryd.ntmps54
      go_wp2_with (go_at_call 71; refine (Get_ok h2 0 k (by omega) (by omega) (by omega) (by rw [HL.out]; omega) (by rw [HL.out]; omega)).mono ?_; rintro e w' ⟨rfl, rfl⟩)
      go_ret
      have hs := HR.out.setRest _ HP.out (by
        intro a n c e hn
        cases e
        exact HB.out ⟨b, off, none⟩ _ _ rfl (by omega))
      exact ⟨rfl, hs.1, hs.2, Kept.setCell _ ⟨g, 0, none⟩ _⟩

theorem RNumber_ok {w : World} {g : Nat} {l : List Int} (h : Rd w g l 0) (k : Nat) (hm : l.length ≤ 1099511627776) (h1 : 1 ≤ k) (h8 : k ≤ 8) (hk : k ≤ l.length) :
    Calls Tryd.prog 54 #[.pointer (some ⟨g, 0, none⟩), .int .i64 k] w fun e w' => e = .returned (.int .u64 (num (l.take k))) ∧ Rd w' g (l.drop k) 0 ∧ Below g w w' :=
  (RNumber_okK h k hm h1 h8 hk).mono fun _ _ ⟨a, b, c, _⟩ => ⟨a, b, c⟩

/-- A store into another block is nothing to it. -/
theorem Bs.setCell_other {w : World} {v : Value} {l : List Int} (h : Bs w v l) (p : Addr) (u : Value) (hne : ∀ a n c, v = .slice (some a) n c → a.block ≠ p.block) : Bs (w.setCell p u) v l := by
  obtain ⟨h0, a, cap, rfl, h1, h2, h3, h4⟩ := h
  refine ⟨h0, a, cap, rfl, h1, h2, h3, fun i hi => ?_⟩
  obtain ⟨b, off, e, hc⟩ := h4 i hi
  refine ⟨b, off, e, ?_⟩
  subst e
  rw [World.cell?_of_block (Below.heap_setCell w p u b (hne _ _ _ rfl))]
  exact hc

/-- Slices that are laid side by side in a new block. -/
theorem BBs.lit {w : World} (vs : List Value) (ls : List (List Int)) (hl : vs.length = ls.length) (hm : ls.length ≤ maxLen) (h : ∀ i, i < ls.length → Bs w (vs.getD i undef) (ls.getD i [])) :
    BBs (w.alloc (.cells vs.toArray 26)) (.slice (some ⟨w.heap.size, 0, none⟩) ls.length ls.length) ls := by
  refine ⟨_, _, vs, rfl, Nat.le_refl _, hm, (fun e => by cases e), hl, fun i hi => ⟨_, _, rfl, ?_, (h i hi).below ((Below.refl _ _).alloc (Nat.le_refl _) _)⟩⟩
  rw [cell_of_row _ _ _ _ _ _ (heap_alloc_new w _), Nat.zero_add, List.getElem?_toArray, List.getElem?_eq_getElem (by omega), List.getD_eq_getElem?_getD, List.getElem?_eq_getElem (by omega)]
  rfl
theorem Join_one {w : World} {v : Value} {l : List Int} (h : Bs w v l) (hm : l.length ≤ 1099511627776) :
    Calls Tryd.prog 47 #[.slice (some ⟨w.heap.size, 0, none⟩) 1 1] (w.alloc (.cells #[v] 26)) fun e w' => e = .returned (.slice (some ⟨w.heap.size + 1, 0, none⟩) l.length l.length) ∧ Bs w' (.slice (some ⟨w.heap.size + 1, 0, none⟩) l.length l.length) l ∧ Below w.heap.size w w' := by
  have hb := BBs.lit (w := w) [v] [l] rfl (by simp [maxLen]) (fun i hi => by
    obtain rfl : i = 0 := by simpa using hi
    simpa using h)
  refine (Join_any hb (by simp) (by simpa using hm)).mono ?_
  rintro e w' ⟨rfl, h1, h2⟩
  simp only [List.flatten_cons, List.flatten_nil, List.append_nil, World.size_alloc] at h1 ⊢
  refine ⟨trivial, h1, ?_⟩
  exact ((Below.refl _ _).alloc (Nat.le_refl _) _).trans (h2.mono (by simp))

/-! Take -/
theorem RTake_err {w : World} {g : Nat} {l : List Int} {err : Int} (h : Rd w g l err) (he : err ≠ 0) (k : Int) :
    Calls Tryd.prog 35 #[.pointer (some ⟨g, 0, none⟩), .int .i64 k] w fun e w' => e = .returned (.slice none 0 0) ∧ w' = w := by
  obtain ⟨v, h1, _, _⟩ := h
  have c1 := cell_of_row w g 1 _ _ _ h1
  simp at c1
  have he' : (err != 0) = true := bne_iff_ne.2 he
  clear h1 he
  go_enter Tryd.func35, Tryd.ntmps35
  go_wp2
  go_ret
  exact ⟨rfl, rfl⟩
theorem RTake_bad {w : World} {g : Nat} {l : List Int} (h : Rd w g l 0) (k c : Int) (_hm : l.length ≤ 1099511627776) (hc : c = if k < 0 then 1 else 2) (hk : k < 0 ∨ (l.length : Int) < k) :
    Calls Tryd.prog 35 #[.pointer (some ⟨g, 0, none⟩), .int .i64 k] w fun e w' => e = .returned (.slice none 0 0) ∧ Rd w' g l c ∧ Below g w w' := by
  have HR := hide h
  obtain ⟨v, h1, ⟨_, a, cap, rfl, _⟩, _⟩ := h
  have c1 := cell_of_row w g 1 _ _ _ h1
  have c0 := cell_of_row w g 0 _ _ _ h1
  have fz := frozen_of_row w g 1 _ _ h1
  simp at c1 c0
  clear h1
  by_cases hr : k < 0
  · rw [if_pos hr] at hc
    subst hc
    clear hk
    go_enter Tryd.func35, Tryd.ntmps35
    go_wp2
    go_ret
    exact ⟨rfl, HR.out.setErr 1⟩
  · rw [if_neg hr] at hc
    subst hc
    have hk' : (l.length : Int) < k := by omega
    clear hk
    go_enter Tryd.func35, Tryd.ntmps35
    go_wp2
    go_ret
    exact ⟨rfl, HR.out.setErr 2⟩
/-- Where the value is a slice, it lies in a block from B on. -/
def Fresh (B : Nat) (v : Value) : Prop := ∀ a n c, v = .slice (some a) n c → B ≤ a.block
theorem RTake_okK {w : World} {g : Nat} {l : List Int} (h : Rd w g l 0) (k : Nat) (hm : l.length ≤ 1099511627776) (hk : k ≤ l.length) :
    Calls Tryd.prog 35 #[.pointer (some ⟨g, 0, none⟩), .int .i64 k] w fun e w' => ∃ v, e = .returned v ∧ Bs w' v (l.take k) ∧ Rd w' g (l.drop k) 0 ∧ Below g w w' ∧ Kept g w w' ∧ Fresh w.heap.size v := by
  have HR := hide h
  obtain ⟨v, hg, h2, hbl⟩ := h
  have c1 := cell_of_row w g 1 _ _ _ hg
  have c0 := cell_of_row w g 0 _ _ _ hg
  have fz := frozen_of_row w g 0 _ _ hg
  simp at c1 c0
  clear hg
  rcases h2.cases with ⟨rfl, a, cap, rfl, h3, h4⟩ | ⟨b, off, cap, rfl, h0, h3, h4, hc⟩
  · obtain rfl : k = 0 := by simpa using hk
    have hgl := HR.out.lt
    have HE := hide (Bs.empty w a cap h3 h4)
    clear h2 hbl
    go_enter Tryd.func35, Tryd.ntmps35
    go_wp2_with fail
    refine (Join_one HE.out (by simp)).mono ?_
    rintro e w1 ⟨rfl, hB1, hb1⟩
    have c0' : w1.cell? ⟨g, 0, none⟩ = some (.slice a 0 cap) := by rw [hb1.cell (p := ⟨g, 0, none⟩) hgl]; exact c0
    have fz' : w1.frozen? ⟨g, 0, none⟩ = false := by rw [hb1.frozen (p := ⟨g, 0, none⟩) hgl]; exact fz
    go_wp2
    go_ret
    refine ⟨_, rfl, hB1.setCell_other _ _ (fun a n c e => by cases e; show w.heap.size + 1 ≠ g; omega), ?_⟩
    have hs := (HR.out.kept hgl hb1).setRest (l' := []) (.slice a 0 cap) (HE.out.below hb1) (fun a n c e hn => by cases e; omega)
    exact ⟨hs.1, (hb1.mono (by omega)).trans hs.2, Kept.later (p := ⟨g, 0, none⟩) hb1 rfl _, fun a n c e => by cases e; exact Nat.le_succ _⟩
  · have hgl := HR.out.lt
    have hp1 := Bs.piece h2.byte h3 h4 hc 0 k (Nat.zero_le _) hk
    have hp2 := Bs.piece h2.byte h3 h4 hc k l.length hk (Nat.le_refl _)
    rw [List.take_of_length_le (by simp)] at hp2
    have hlk : (l.take k).length = k := by simp; omega
    simp only [List.drop_zero, Nat.sub_zero, Nat.add_zero] at hp1
    have HP2 := hide hp2
    have HB := hide hbl
    have HLK := hide hlk
    clear hp2 hbl hlk h2 hc
    generalize hlen : l.length = len at *
    have HL := hide hlen
    clear hlen
    by_cases hck : cap = k
    · subst hck
      go_enter Tryd.func35, Tryd.ntmps35
      go_wp2_with fail
      refine (Join_one hp1 (by rw [HLK.out]; omega)).mono ?_
      rw [HLK.out]
      rintro e w1 ⟨rfl, hB1, hb1⟩
      have c0' : w1.cell? ⟨g, 0, none⟩ = some (.slice (some ⟨b, off, none⟩) len cap) := by rw [hb1.cell (p := ⟨g, 0, none⟩) hgl]; exact c0
      have fz' : w1.frozen? ⟨g, 0, none⟩ = false := by rw [hb1.frozen (p := ⟨g, 0, none⟩) hgl]; exact fz
      have hkl : len = cap := by omega
      have HK := hide hkl
      clear hkl
      go_wp2
      go_ret
      refine ⟨_, rfl, hB1.setCell_other _ _ (fun a n c e => by cases e; show w.heap.size + 1 ≠ g; omega), ?_⟩
      have hs := (HR.out.kept hgl hb1).setRest (l' := l.drop cap) (.slice (some ⟨b, off, none⟩) 0 0) (by
        rw [List.drop_eq_nil_of_le (by rw [HL.out, HK.out]; exact Nat.le_refl _)]
        exact Bs.empty _ _ _ (by simp [maxLen]) (fun e => by cases e)) (fun a n c e hn => by cases e; omega)
      exact ⟨hs.1, (hb1.mono (by omega)).trans hs.2, Kept.later (p := ⟨g, 0, none⟩) hb1 rfl _, fun a n c e => by cases e; exact Nat.le_succ _⟩
    · have hck' : ((cap : Int) == (k : Int)) = false := by simp; omega
      go_enter Tryd.func35, Tryd.ntmps35
      go_wp2_with fail
      refine (Join_one hp1 (by rw [HLK.out]; omega)).mono ?_
      rw [HLK.out]
      rintro e w1 ⟨rfl, hB1, hb1⟩
      have c0' : w1.cell? ⟨g, 0, none⟩ = some (.slice (some ⟨b, off, none⟩) len cap) := by rw [hb1.cell (p := ⟨g, 0, none⟩) hgl]; exact c0
      have fz' : w1.frozen? ⟨g, 0, none⟩ = false := by rw [hb1.frozen (p := ⟨g, 0, none⟩) hgl]; exact fz
      go_wp2
      go_ret
      refine ⟨_, rfl, hB1.setCell_other _ _ (fun a n c e => by cases e; show w.heap.size + 1 ≠ g; omega), ?_⟩
      have hs := (HR.out.kept hgl hb1).setRest _ (HP2.out.below hb1) (fun a n c e hn => by cases e; exact HB.out ⟨b, off, none⟩ _ _ rfl (by omega))
      exact ⟨hs.1, (hb1.mono (by omega)).trans hs.2, Kept.later (p := ⟨g, 0, none⟩) hb1 rfl _, fun a n c e => by cases e; exact Nat.le_succ _⟩
theorem RTake_ok {w : World} {g : Nat} {l : List Int} (h : Rd w g l 0) (k : Nat) (hm : l.length ≤ 1099511627776) (hk : k ≤ l.length) :
    Calls Tryd.prog 35 #[.pointer (some ⟨g, 0, none⟩), .int .i64 k] w fun e w' => ∃ v, e = .returned v ∧ Bs w' v (l.take k) ∧ Rd w' g (l.drop k) 0 ∧ Below g w w' :=
  (RTake_okK h k hm hk).mono fun _ _ ⟨v, a, b, c, d, _⟩ => ⟨v, a, b, c, d⟩
end Go.Proofs.YtiahiakllpjliaaDoor
