/-
  Contracts of mac.pair, mac.tag and mac.finish. Conditions: the table lies as the program's text lays it ('Tab'); those that each theorem names.
-/
import Derived.Test.YtmakaadmjgakaaaDoorMac2
namespace Go.Proofs.YtmakaadmjgakaaaDoor
open Go.RowKit

theorem pair_any (n : Int) (w : World) (h0 : 0 ≤ n) (h : n < 65536) :
    Calls Tryd.prog 32 #[.int .u64 n] w fun e w' => e = .returned (.slice (some ⟨w.heap.size, 0, none⟩) 2 2) ∧ Bs w' (.slice (some ⟨w.heap.size, 0, none⟩) 2 2) (digs n 2) ∧ Below w.heap.size w w' := by
  have hp := hide (fun w => Put_fits n 2 w h0 (by decide) (by decide) (by simpa using h))
  go_enter Tryd.func32, Tryd.ntmps32
  go_wp2_with (go_at_call 61; refine (hp.out _).mono ?_; rintro e w1 ⟨rfl, hB, hb⟩)
  go_ret
  exact ⟨rfl, hB, hb⟩

/-- Join, of pieces that are laid side by side. -/
theorem Join_lit {w : World} (vs : List Value) (ls : List (List Int)) (n g T : Nat) (hv : vs.length = n) (hl : ls.length = n) (hg : g = w.heap.size) (hm : n ≤ 1000) (h : ∀ i, i < n → Bs w (vs.getD i undef) (ls.getD i [])) (hT : ls.flatten.length = T) (hTm : T ≤ 1099511627776) :
    Calls Tryd.prog 53 #[.slice (some ⟨g, 0, none⟩) n n] (w.alloc (.cells vs.toArray 26)) fun e w' => e = .returned (.slice (some ⟨w.heap.size + 1, 0, none⟩) T T) ∧ Bs w' (.slice (some ⟨w.heap.size + 1, 0, none⟩) T T) ls.flatten ∧ Below w.heap.size w w' := by
  subst hg hl hT
  have hb := BBs.lit (w := w) vs ls hv (by unfold maxLen; omega) h
  refine (Join_any hb (by omega) hTm).mono ?_
  rintro e w' ⟨rfl, h1, h2⟩
  simp only [World.size_alloc] at h1 ⊢
  exact ⟨trivial, h1, (below1 _ _).later h2⟩
theorem Join_two {w : World} {v1 v2 : Value} {l1 l2 : List Int} (g T : Nat) (hg : g = w.heap.size) (h1 : Bs w v1 l1) (h2 : Bs w v2 l2) (hT : (l1 ++ l2).length = T) (hTm : T ≤ 1099511627776) :
    Calls Tryd.prog 53 #[.slice (some ⟨g, 0, none⟩) 2 2] (w.alloc (.cells #[v1, v2] 26)) fun e w' => e = .returned (.slice (some ⟨w.heap.size + 1, 0, none⟩) T T) ∧ Bs w' (.slice (some ⟨w.heap.size + 1, 0, none⟩) T T) (l1 ++ l2) ∧ Below w.heap.size w w' := by
  have := Join_lit (w := w) [v1, v2] [l1, l2] 2 g T rfl rfl hg (by decide) (fun i hi => by
    match i, hi with
    | 0, _ => exact h1
    | 1, _ => exact h2) (by simpa using hT) hTm
  simpa using this

/-- The number of a tag. -/
def tagN (h : Hd) : Int := h.pcp * 8192 + (if h.de then 4096 else 0) + h.vid
/-- The bytes of a header's tag. -/
def tagL (h : Hd) : List Int := if h.tg then digs 33024 2 ++ digs (tagN h) 2 else []

theorem Prs.lit3 (w : World) (g : Nat) (a b c d e f : Int) (t : TypeId) (hg : g = w.heap.size) (hw : Wide [(a, b), (c, d), (e, f)]) :
    Prs (w.alloc (.cells #[.int .u64 a, .int .u64 b, .int .u64 c, .int .u64 d, .int .u64 e, .int .u64 f] t)) (.slice (some ⟨g, 0, none⟩) 3 3) [(a, b), (c, d), (e, f)] := by
  subst hg
  refine ⟨hw, some ⟨w.heap.size, 0, none⟩, 3, rfl, fun i hi => ⟨w.heap.size, 0, rfl, ?_, ?_⟩⟩
  all_goals
    rw [World.cell?_alloc_new]
    match i, hi with
    | 0, _ => rfl
    | 1, _ => rfl
    | 2, _ => rfl
theorem pk_tag (p d v : Int) (hp : 0 ≤ p ∧ p ≤ 7) (hd : d = 0 ∨ d = 1) (hv : 0 ≤ v ∧ v ≤ 4094) : pk [(p, 3), (d, 1), (v, 12)] = some (p * 8192 + d * 4096 + v, 48) := by
  have e1 : pkStep (0, 64) (p, 3) = some (p, 61) := by
    unfold pkStep
    rw [if_neg (by simp; exact Int.ediv_eq_zero_of_lt hp.1 (by omega))]
    simp
  have e2 : pkStep (p, 61) (d, 1) = some (p * 2 + d, 60) := by
    unfold pkStep
    rw [if_neg (by simp; exact Int.ediv_eq_zero_of_lt (by omega) (by omega))]
    simp
  have e3 : pkStep (p * 2 + d, 60) (v, 12) = some (p * 8192 + d * 4096 + v, 48) := by
    unfold pkStep
    rw [if_neg (by simp; exact Int.ediv_eq_zero_of_lt (by omega) (by omega))]
    simp
    omega
  simp [pk, e1, e2, e3]

theorem tag_none (h : Hd) (w : World) (ht : h.tg = false) :
    Calls Tryd.prog 31 #[.agg h.row] w fun e w' => e = .returned (.slice none 0 0) ∧ Below w.heap.size w w' := by
  obtain ⟨d0, d1, d2, d3, d4, d5, s0, s1, s2, s3, s4, s5, tg, pcp, de, vid, typ, llc⟩ := h
  simp only at ht
  subst ht
  go_enter Tryd.func31, Tryd.ntmps31
  go_wp2
  go_ret
  exact ⟨rfl, below1 _ _⟩
theorem tag_some (h : Hd) (w : World) (ht : h.tg = true) (hf : tagFitsB h = true) :
    Calls Tryd.prog 31 #[.agg h.row] w fun e w' => ∃ g, e = .returned (.slice (some ⟨g, 0, none⟩) 4 4) ∧ w.heap.size ≤ g ∧ Bs w' (.slice (some ⟨g, 0, none⟩) 4 4) (tagL h) ∧ Below w.heap.size w w' := by
  obtain ⟨d0, d1, d2, d3, d4, d5, s0, s1, s2, s3, s4, s5, tg, pcp, de, vid, typ, llc⟩ := h
  simp only at ht
  subst ht
  have hf' : 0 ≤ pcp ∧ pcp ≤ 7 ∧ 0 ≤ vid ∧ vid ≤ 4094 := by simpa [tagFitsB] using hf
  obtain ⟨p0, p1, v0, v1⟩ := hf'
  clear hf
  obtain ⟨d, hd, hd01⟩ : ∃ d : Int, d = (if de then 1 else 0) ∧ (d = 0 ∨ d = 1) := ⟨_, rfl, by cases de <;> simp⟩
  have hpk := hide (pkRes_some (pk_tag pcp d vid ⟨p0, p1⟩ hd01 ⟨v0, v1⟩))
  have hwide : Hid (Wide [(pcp, 3), (d, 1), (vid, 12)]) := by
    intro p hp
    simp only [List.mem_cons, List.not_mem_nil, or_false] at hp
    rcases hp with rfl | rfl | rfl <;> simp <;> omega
  have hN : Hid (tagL ⟨d0, d1, d2, d3, d4, d5, s0, s1, s2, s3, s4, s5, true, pcp, de, vid, typ, llc⟩ = digs 33024 2 ++ digs (pcp * 8192 + d * 4096 + vid) 2) := by
    show tagL _ = _
    simp only [tagL, tagN, if_true, hd]
    cases de <;> simp
  have n0 : 0 ≤ pcp * 8192 + d * 4096 + vid := by omega
  have n1 : pcp * 8192 + d * 4096 + vid < 65536 := by omega
  generalize pcp * 8192 + d * 4096 + vid = M at *
  generalize tagL ⟨d0, d1, d2, d3, d4, d5, s0, s1, s2, s3, s4, s5, true, pcp, de, vid, typ, llc⟩ = L at *
  cases de
  all_goals
    have hd' := hd
    simp at hd'
    clear hd
    subst hd'
    clear hd01
    go_enter Tryd.func31, Tryd.ntmps31
    go_wp2_with fail
    refine (Pack_any (Prs.lit3 (w.alloc _) _ _ _ _ _ _ _ _ (World.size_alloc _ _).symm hwide.out) (by simp)).mono ?_
    rw [hpk.out]
    rintro e w1 ⟨rfl, hb1⟩
    have hW1 := hide (((below1 _ _).later (below1 _ _)).later hb1)
    clear hb1
    go_wp2_with fail
    refine (pair_any 33024 _ (by decide) (by decide)).mono ?_
    rintro e w2 ⟨rfl, hB2, hb2⟩
    have hW2 := hide (hW1.out.later hb2)
    have hg2 : w.heap.size ≤ w1.heap.size := hW1.out.size
    clear hb2 hW1
    go_wp2_with fail
    refine (pair_any _ _ n0 n1).mono ?_
    rintro e w3 ⟨rfl, hB3, hb3⟩
    have hW3 := hide (hW2.out.later hb3)
    have hB2' := hB2.below hb3
    clear hB2
    go_wp2_with fail
    refine (Join_two w3.heap.size 4 rfl hB2' hB3 (by simp [digs_length]) (by decide)).mono ?_
    rintro e w4 ⟨rfl, hB4, hb4⟩
    go_wp2
    go_ret
    refine ⟨_, rfl, ?_, by rw [hN.out]; exact hB4, hW3.out.later hb4⟩
    have := hW3.out.size
    omega

/-- Noughts behind, so that there are sixty. -/
def pad60 (l : List Int) : List Int := l ++ List.replicate (60 - l.length) 0
theorem pad60_length (l : List Int) : (pad60 l).length = max l.length 60 := by simp [pad60]; omega
theorem pad60_long (l : List Int) (h : 60 ≤ l.length) : pad60 l = l := by simp [pad60, Nat.sub_eq_zero_of_le h]
theorem zero_byte (n : Nat) : Byte (List.replicate n 0) := by
  intro z hz
  have := List.eq_of_mem_replicate hz
  omega
-- finish: the pieces, noughts, and the sum.
set_option maxRecDepth 20000 in
theorem finish_any {v : Value} {ls : List (List Int)} {w : World} (hv : BBs w v ls) (hT : Tab w) (hm : ls.length ≤ 1000) (hn : ls.flatten.length ≤ 1000000) :
    Calls Tryd.prog 30 #[v] w fun e w' => ∃ g n, e = .returned (.slice (some ⟨g, 0, none⟩) n n) ∧ n = (sealL (pad60 ls.flatten)).length ∧ w.heap.size ≤ g ∧ Bs w' (.slice (some ⟨g, 0, none⟩) n n) (sealL (pad60 ls.flatten)) ∧ Below w.heap.size w w' := by
  have hJ := hide (Join_any hv (by omega) (by omega))
  obtain ⟨a, cap, vs, rfl, _⟩ := hv
  generalize ls.flatten = L at *
  have hBy : Hid (∀ {w v}, Bs w v L → Byte L) := fun h => h.byte
  generalize hlen : L.length = len at *
  have HL := hide hlen
  have HT := hide hT
  clear hlen hT
  obtain ⟨i0, hi, hz0, hz1, hz2⟩ := info_parts Tryd.infoU8
  by_cases h60 : 60 ≤ len
  · go_enter Tryd.func30, Tryd.ntmps30
    go_wp2_with fail
    refine hJ.out.mono ?_
    rintro e w1 ⟨rfl, hB1, hb1⟩
    go_wp2_with fail
    refine (Seal_any hB1 (HT.out.later hb1) (by rw [HL.out]; omega)).mono ?_
    rintro e w2 ⟨rfl, hB2, hb2⟩
    rw [HL.out] at hB2 ⊢
    go_wp2
    go_ret
    have hp : pad60 L = L := pad60_long L (by rw [HL.out]; exact h60)
    rw [hp]
    exact ⟨_, _, rfl, by rw [sealL_length, HL.out], hb1.size, hB2, hb1.later hb2⟩
  · have h59 : len < 60 := by omega
    have hk : ((60 - len : Nat) : Int) = 60 - (len : Int) := by omega
    have hpos : (0 : Int) < 60 - (len : Int) := by omega
    go_enter Tryd.func30, Tryd.ntmps30
    go_wp2_with fail
    refine hJ.out.mono ?_
    rintro e w1 ⟨rfl, hB1, hb1⟩
    go_wp2_with (at_make; refine wpList_make_full _ rfl _ _ 26 rfl w1.heap.size 5 i0 (.int .u8 0) 1 Tryd.underlying26 hi hz0 hz1 _ _ _ _ (60 - len) rfl rfl hk.symm hk.symm (by rw [hz2]; omega) (by unfold maxLen; omega) (Nat.le_refl _) ?_; intro w2 hown hgrow)
    have hb2 : Below w1.heap.size w1 w2 := (Below.refl _ _).grown hgrow (Nat.le_refl _) (fun _ e => by cases e)
    have hZ : Bs w2 (.slice (some ⟨w1.heap.size, 0, none⟩) (60 - len) (60 - len)) (List.replicate (60 - len) 0) := by
      have := Bs.own (l := List.replicate (60 - len) 0) (by
        rw [List.length_replicate, List.map_replicate, ← toList_madeCells_one]
        simpa [Value.cells] using hown) (zero_byte _)
      rwa [List.length_replicate] at this
    have hB1' := hB1.below hb2
    have hW2 := hide (hb1.later hb2)
    clear hown hgrow hb2 hb1 hB1
    go_wp2_with fail
    refine (Join_two w2.heap.size 60 rfl hB1' hZ (by simp [HL.out]; omega) (by decide)).mono ?_
    rintro e w3 ⟨rfl, hB3, hb3⟩
    have hW3 := hide (hW2.out.later hb3)
    have hs2 := hW2.out.size
    clear hb3 hB1' hZ hW2
    go_wp2_with fail
    refine (Seal_any hB3 (HT.out.later hW3.out) (by simp [HL.out]; omega)).mono ?_
    rintro e w4 ⟨rfl, hB4, hb4⟩
    have e1 : (L ++ List.replicate (60 - len) 0).length = 60 := by simp [HL.out]; omega
    have e2 : pad60 L = L ++ List.replicate (60 - len) 0 := by unfold pad60; rw [HL.out]
    rw [e1] at hB4 ⊢
    go_wp2
    go_ret
    rw [e2]
    refine ⟨_, _, rfl, by rw [sealL_length, e1], hW3.out.size, hB4, hW3.out.later hb4⟩
end Go.Proofs.YtmakaadmjgakaaaDoor
