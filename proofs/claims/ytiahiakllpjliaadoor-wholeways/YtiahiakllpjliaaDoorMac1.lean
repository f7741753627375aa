import Derived.Test.YtiahiakllpjliaaDoorLaws
/-
  Contracts of package mac's small functions (Group, most, tagFits, typeFits, Check, mayBe). Conditions: none beyond what each theorem names.
-/
namespace Go.Proofs.YtiahiakllpjliaaDoor
open Go.RowKit

/-- What stands in a header, field by field. -/
structure Hd where
  (d0 d1 d2 d3 d4 d5 s0 s1 s2 s3 s4 s5 : Int) (tg : Bool) (pcp : Int) (de : Bool) (vid typ : Int) (llc : Bool)
  deriving DecidableEq
@[reducible] def Hd.row (h : Hd) : Array Value := #[.int .u8 h.d0, .int .u8 h.d1, .int .u8 h.d2, .int .u8 h.d3, .int .u8 h.d4, .int .u8 h.d5, .int .u8 h.s0, .int .u8 h.s1, .int .u8 h.s2, .int .u8 h.s3, .int .u8 h.s4, .int .u8 h.s5, .bool h.tg, .int .i64 h.pcp, .bool h.de, .int .i64 h.vid, .int .i64 h.typ, .bool h.llc]
@[reducible] def mac6 (a b c d e f : Int) : Array Value := #[.int .u8 a, .int .u8 b, .int .u8 c, .int .u8 d, .int .u8 e, .int .u8 f]

theorem u8_odd (x : Int) (h : 0 ≤ x ∧ x ≤ 255) : bits .and .u8 x 1 = x % 2 := by
  obtain ⟨h0, h1⟩ := h
  obtain ⟨n, rfl⟩ := Int.eq_ofNat_of_zero_le h0
  have hn : n < 256 := by omega
  exact (show ∀ n : Nat, n < 256 → bits .and .u8 (n : Int) 1 = (n : Int) % 2 by decide +kernel) n hn

theorem Group_any (a b c d e f : Int) (w : World) (h : 0 ≤ a ∧ a ≤ 255) :
    Calls Tryd.prog 20 #[.agg (mac6 a b c d e f)] w fun r w' => r = .returned (.bool (a % 2 == 1)) ∧ Below w.heap.size w w' := by
  have ho := u8_odd a h
  go_enter Tryd.func20, Tryd.ntmps20
  go_wp2
  go_ret
  exact ⟨rfl, (Below.refl _ _).alloc (Nat.le_refl _) _⟩
theorem Group_yes (a b c d e f : Int) (w : World) (h : 0 ≤ a ∧ a ≤ 255) (h1 : a % 2 = 1) :
    Calls Tryd.prog 20 #[.agg (mac6 a b c d e f)] w fun r w' => r = .returned (.bool true) ∧ Below w.heap.size w w' := by
  have := Group_any a b c d e f w h
  rwa [show (a % 2 == 1) = true by simpa using h1] at this
theorem Group_no (a b c d e f : Int) (w : World) (h : 0 ≤ a ∧ a ≤ 255) (h1 : ¬ a % 2 = 1) :
    Calls Tryd.prog 20 #[.agg (mac6 a b c d e f)] w fun r w' => r = .returned (.bool false) ∧ Below w.heap.size w w' := by
  have := Group_any a b c d e f w h
  rwa [show (a % 2 == 1) = false by simpa using h1] at this
theorem most_any (t : Bool) (w : World) :
    Calls Tryd.prog 32 #[.bool t] w fun r w' => r = .returned (.int .i64 (if t then 1522 else 1518)) ∧ w' = w := by
  cases t
  all_goals
    go_enter Tryd.func32, Tryd.ntmps32
    go_wp2
    go_ret
    exact ⟨rfl, rfl⟩

def tagFitsB (h : Hd) : Bool := if h.tg then decide (0 ≤ h.pcp ∧ h.pcp ≤ 7 ∧ 0 ≤ h.vid ∧ h.vid ≤ 4094) else decide (h.pcp = 0 ∧ h.vid = 0 ∧ h.de = false)
def typeFitsB (h : Hd) (n : Int) : Bool := if h.llc then h.typ == n else decide (1536 ≤ h.typ ∧ h.typ ≤ 65535 ∧ (h.tg = true ∨ h.typ ≠ 33024))
def checkE (h : Hd) (n : Int) : Int := if n < 0 ∨ 1500 < n then 3 else if tagFitsB h = false then 1 else if h.s0 % 2 = 1 ∨ typeFitsB h n = false then 4 else 0
def mayBeB (h : Hd) : Bool := decide (h.s0 % 2 ≠ 1 ∧ h.vid ≤ 4094 ∧ (h.llc = true ∨ 1536 ≤ h.typ))

theorem tagFits_any (h : Hd) (w : World) :
    Calls Tryd.prog 19 #[.agg h.row] w fun r w' => r = .returned (.bool (tagFitsB h)) ∧ Below w.heap.size w w' := by
  obtain ⟨d0, d1, d2, d3, d4, d5, s0, s1, s2, s3, s4, s5, tg, pcp, de, vid, typ, llc⟩ := h
  cases tg
  all_goals
    go_enter Tryd.func19, Tryd.ntmps19
    go_wp2
  all_goals
    go_ret
    refine ⟨ret_bool ?_, (Below.refl _ _).alloc (Nat.le_refl _) _⟩
    go_light
    rw [Bool.eq_iff_iff]
    simp [tagFitsB]
    try omega
  all_goals
    constructor
    · intro h; exact ⟨‹_›, ‹_›, h⟩
    · intro h; exact h.2.2
theorem typeFits_any (h : Hd) (n : Int) (w : World) :
    Calls Tryd.prog 21 #[.agg h.row, .int .i64 n] w fun r w' => r = .returned (.bool (typeFitsB h n)) ∧ Below w.heap.size w w' := by
  obtain ⟨d0, d1, d2, d3, d4, d5, s0, s1, s2, s3, s4, s5, tg, pcp, de, vid, typ, llc⟩ := h
  cases llc
  all_goals
    go_enter Tryd.func21, Tryd.ntmps21
    go_wp2
  all_goals
    go_ret
    refine ⟨ret_bool ?_, (Below.refl _ _).alloc (Nat.le_refl _) _⟩
    go_light
    rw [Bool.eq_iff_iff]
    simp [typeFitsB]
    try omega
  all_goals
    rename_i h1 h2 h3
    simp [h1, h2, h3]
theorem mayBe_any (h : Hd) (w : World) (hs : 0 ≤ h.s0 ∧ h.s0 ≤ 255) :
    Calls Tryd.prog 34 #[.agg h.row] w fun r w' => r = .returned (.bool (mayBeB h)) ∧ Below w.heap.size w w' := by
  obtain ⟨d0, d1, d2, d3, d4, d5, s0, s1, s2, s3, s4, s5, tg, pcp, de, vid, typ, llc⟩ := h
  cases llc
  all_goals
    go_enter Tryd.func34, Tryd.ntmps34
    go_wp2_with (go_at_call 20; refine (Group_any _ _ _ _ _ _ _ hs).mono ?_; rintro e w' ⟨rfl, hb⟩; obtain ⟨hc, hf⟩ := bcell hb)
  all_goals
    go_ret
    refine ⟨ret_bool ?_, ((Below.refl _ _).alloc (Nat.le_refl _) _).trans (hb.mono (by simp))⟩
    go_light
    clear hb hc hf
    rw [Bool.eq_iff_iff]
    simp [mayBeB]
    try omega
end Go.Proofs.YtiahiakllpjliaaDoor

/-
  Contract of mac.Check.
-/
namespace Go.Proofs.YtiahiakllpjliaaDoor
open Go.RowKit
theorem Check_any1 (h : Hd) (n : Int) (w : World) (hs : 0 ≤ h.s0 ∧ h.s0 ≤ 255) (h1 : n < 0) :
    Calls Tryd.prog 6 #[.agg h.row, .int .i64 n] w fun r w' => r = .returned (.int .i64 3) ∧ Below w.heap.size w w' := by
  obtain ⟨d0, d1, d2, d3, d4, d5, s0, s1, s2, s3, s4, s5, tg, pcp, de, vid, typ, llc⟩ := h
  go_enter Tryd.func6, Tryd.ntmps6
  go_wp2
  go_ret
  exact ⟨rfl, (Below.refl _ _).alloc (Nat.le_refl _) _⟩
theorem Check_any2 (h : Hd) (n : Int) (w : World) (hs : 0 ≤ h.s0 ∧ h.s0 ≤ 255) (h1 : 1500 < n) :
    Calls Tryd.prog 6 #[.agg h.row, .int .i64 n] w fun r w' => r = .returned (.int .i64 3) ∧ Below w.heap.size w w' := by
  obtain ⟨d0, d1, d2, d3, d4, d5, s0, s1, s2, s3, s4, s5, tg, pcp, de, vid, typ, llc⟩ := h
  go_enter Tryd.func6, Tryd.ntmps6
  go_wp2
  go_ret
  exact ⟨rfl, (Below.refl _ _).alloc (Nat.le_refl _) _⟩
theorem hdSize (h : Hd) : (Tryd.prog.info? 25).map (·.size) = some h.row.size := by kernel_rfl
theorem Check_any3 (h : Hd) (n : Int) (w : World) (hs : 0 ≤ h.s0 ∧ h.s0 ≤ 255) (h1 : 0 ≤ n) (h2 : n ≤ 1500) (h3 : tagFitsB h = false) :
    Calls Tryd.prog 6 #[.agg h.row, .int .i64 n] w fun r w' => r = .returned (.int .i64 1) ∧ Below w.heap.size w w' := by
  have hA := hide (tagFits_any h)
  have h4 : ¬ n < 0 := by omega
  have hk := heap_alloc_new w (.cells h.row 25)
  obtain ⟨d0, d1, d2, d3, d4, d5, s0, s1, s2, s3, s4, s5, tg, pcp, de, vid, typ, llc⟩ := h
  go_enter Tryd.func6, Tryd.ntmps6
  go_wp2_with (first | (refine wpList_load_row rfl 25 _ rfl w.heap.size rfl 25 _ _ _ hk Tryd.underlying25 rfl (hdSize _) ?_) | (go_at_call 19; refine (hA.out _).mono ?_; rintro e w1 ⟨rfl, hb1⟩))
  go_ret
  exact ⟨rfl, ((Below.refl _ _).alloc (Nat.le_refl _) _).trans (hb1.mono (by simp))⟩
theorem Check_any4 (h : Hd) (n : Int) (w : World) (hs : 0 ≤ h.s0 ∧ h.s0 ≤ 255) (h1 : 0 ≤ n) (h2 : n ≤ 1500) (h3 : tagFitsB h = true) (h5 : h.s0 % 2 = 1) :
    Calls Tryd.prog 6 #[.agg h.row, .int .i64 n] w fun r w' => r = .returned (.int .i64 4) ∧ Below w.heap.size w w' := by
  have hA := hide (tagFits_any h)
  have hB := hide (typeFits_any h n)
  have h4 : ¬ n < 0 := by omega
  have hk := heap_alloc_new w (.cells h.row 25)
  obtain ⟨d0, d1, d2, d3, d4, d5, s0, s1, s2, s3, s4, s5, tg, pcp, de, vid, typ, llc⟩ := h
  go_enter Tryd.func6, Tryd.ntmps6
  go_wp2_with (first | (refine wpList_load_row rfl 25 _ rfl w.heap.size rfl 25 _ _ _ hk Tryd.underlying25 rfl (hdSize _) ?_) | (go_at_call 19; refine (hA.out _).mono ?_; rintro e w1 ⟨rfl, hb1⟩; obtain ⟨hc1, hf1⟩ := bcell hb1; have hz1 := hb1.size; simp only [World.size_alloc] at hz1) | (go_at_call 20; refine (Group_yes _ _ _ _ _ _ _ hs h5).mono ?_; rintro e w2 ⟨rfl, hb2⟩; have hk2 := heap_kept hb2 (heap_kept hb1 hk); have hW := hide (((Below.refl _ _).alloc (Nat.le_refl _) (.cells _ 25)).trans ((hb1.mono (by simp)).trans (hb2.mono (by omega)))); clear hc1 hf1))
  go_ret
  exact ⟨rfl, hW.out⟩
theorem Check_any5 (h : Hd) (n : Int) (w : World) (hs : 0 ≤ h.s0 ∧ h.s0 ≤ 255) (h1 : 0 ≤ n) (h2 : n ≤ 1500) (h3 : tagFitsB h = true) (h5 : ¬ h.s0 % 2 = 1) (h6 : typeFitsB h n = false) :
    Calls Tryd.prog 6 #[.agg h.row, .int .i64 n] w fun r w' => r = .returned (.int .i64 4) ∧ Below w.heap.size w w' := by
  have hA := hide (tagFits_any h)
  have hB := hide (typeFits_any h n)
  have h4 : ¬ n < 0 := by omega
  have hk := heap_alloc_new w (.cells h.row 25)
  obtain ⟨d0, d1, d2, d3, d4, d5, s0, s1, s2, s3, s4, s5, tg, pcp, de, vid, typ, llc⟩ := h
  go_enter Tryd.func6, Tryd.ntmps6
  go_wp2_with (first | (refine wpList_load_row rfl 25 _ rfl w.heap.size rfl 25 _ _ _ hk Tryd.underlying25 rfl (hdSize _) ?_) | (refine wpList_load_row_on rfl 25 _ rfl w.heap.size rfl 25 _ _ _ hk2 Tryd.underlying25 rfl (hdSize _) ?_) | (go_at_call 19; refine (hA.out _).mono ?_; rintro e w1 ⟨rfl, hb1⟩; obtain ⟨hc1, hf1⟩ := bcell hb1; have hz1 := hb1.size; simp only [World.size_alloc] at hz1) | (go_at_call 20; refine (Group_no _ _ _ _ _ _ _ hs h5).mono ?_; rintro e w2 ⟨rfl, hb2⟩; have hk2 := heap_kept hb2 (heap_kept hb1 hk); have hW := hide (((Below.refl _ _).alloc (Nat.le_refl _) (.cells _ 25)).trans ((hb1.mono (by simp)).trans (hb2.mono (by omega)))); clear hc1 hf1) | (go_at_call 21; refine (hB.out _).mono ?_; rintro e w3 ⟨rfl, hb3⟩))
  go_ret
  exact ⟨rfl, hW.out.later hb3⟩
theorem Check_any6 (h : Hd) (n : Int) (w : World) (hs : 0 ≤ h.s0 ∧ h.s0 ≤ 255) (h1 : 0 ≤ n) (h2 : n ≤ 1500) (h3 : tagFitsB h = true) (h5 : ¬ h.s0 % 2 = 1) (h6 : typeFitsB h n = true) :
    Calls Tryd.prog 6 #[.agg h.row, .int .i64 n] w fun r w' => r = .returned (.int .i64 0) ∧ Below w.heap.size w w' := by
  have hA := hide (tagFits_any h)
  have hB := hide (typeFits_any h n)
  have h4 : ¬ n < 0 := by omega
  have hk := heap_alloc_new w (.cells h.row 25)
  obtain ⟨d0, d1, d2, d3, d4, d5, s0, s1, s2, s3, s4, s5, tg, pcp, de, vid, typ, llc⟩ := h
  go_enter Tryd.func6, Tryd.ntmps6
  go_wp2_with (first | (refine wpList_load_row rfl 25 _ rfl w.heap.size rfl 25 _ _ _ hk Tryd.underlying25 rfl (hdSize _) ?_) | (refine wpList_load_row_on rfl 25 _ rfl w.heap.size rfl 25 _ _ _ hk2 Tryd.underlying25 rfl (hdSize _) ?_) | (go_at_call 19; refine (hA.out _).mono ?_; rintro e w1 ⟨rfl, hb1⟩; obtain ⟨hc1, hf1⟩ := bcell hb1; have hz1 := hb1.size; simp only [World.size_alloc] at hz1) | (go_at_call 20; refine (Group_no _ _ _ _ _ _ _ hs h5).mono ?_; rintro e w2 ⟨rfl, hb2⟩; have hk2 := heap_kept hb2 (heap_kept hb1 hk); have hW := hide (((Below.refl _ _).alloc (Nat.le_refl _) (.cells _ 25)).trans ((hb1.mono (by simp)).trans (hb2.mono (by omega)))); clear hc1 hf1) | (go_at_call 21; refine (hB.out _).mono ?_; rintro e w3 ⟨rfl, hb3⟩))
  go_ret
  exact ⟨rfl, hW.out.later hb3⟩
/-- Check: which of several things is told first. -/
theorem Check_any (h : Hd) (n : Int) (w : World) (hs : 0 ≤ h.s0 ∧ h.s0 ≤ 255) :
    Calls Tryd.prog 6 #[.agg h.row, .int .i64 n] w fun r w' => r = .returned (.int .i64 (checkE h n)) ∧ Below w.heap.size w w' := by
  unfold checkE
  by_cases h1 : n < 0
  · rw [if_pos (.inl h1)]; exact Check_any1 h n w hs h1
  · by_cases h2 : 1500 < n
    · rw [if_pos (.inr h2)]; exact Check_any2 h n w hs h2
    · rw [if_neg (by omega)]
      cases h3 : tagFitsB h
      · rw [if_pos rfl]; exact Check_any3 h n w hs (by omega) (by omega) h3
      · rw [if_neg (by simp)]
        by_cases h5 : h.s0 % 2 = 1
        · rw [if_pos (.inl h5)]; exact Check_any4 h n w hs (by omega) (by omega) h3 h5
        · cases h6 : typeFitsB h n
          · rw [if_pos (.inr rfl)]; exact Check_any5 h n w hs (by omega) (by omega) h3 h5 h6
          · rw [if_neg (by simp [h5])]; exact Check_any6 h n w hs (by omega) (by omega) h3 h5 h6
end Go.Proofs.YtiahiakllpjliaaDoor

/-
  Contracts of mac.pair, mac.tag and mac.finish. Conditions: the table lies as the program's text lays it ('Tab'); those that each theorem names.
-/
namespace Go.Proofs.YtiahiakllpjliaaDoor
open Go.RowKit

theorem pair_any (n : Int) (w : World) (h0 : 0 ≤ n) (h : n < 65536) :
    Calls Tryd.prog 26 #[.int .u64 n] w fun e w' => e = .returned (.slice (some ⟨w.heap.size, 0, none⟩) 2 2) ∧ Bs w' (.slice (some ⟨w.heap.size, 0, none⟩) 2 2) (digs n 2) ∧ Below w.heap.size w w' := by
  have hp := hide (fun w => Put_fits n 2 w h0 (by decide) (by decide) (by simpa using h))
  go_enter Tryd.func26, Tryd.ntmps26
  go_wp2_with (go_at_call 50; refine (hp.out _).mono ?_; rintro e w1 ⟨rfl, hB, hb⟩)
  go_ret
  exact ⟨rfl, hB, hb⟩

/-- Join, of pieces that are laid side by side. -/
theorem Join_lit {w : World} (vs : List Value) (ls : List (List Int)) (n g T : Nat) (hv : vs.length = n) (hl : ls.length = n) (hg : g = w.heap.size) (hm : n ≤ 1000) (h : ∀ i, i < n → Bs w (vs.getD i undef) (ls.getD i [])) (hT : ls.flatten.length = T) (hTm : T ≤ 1099511627776) :
    Calls Tryd.prog 47 #[.slice (some ⟨g, 0, none⟩) n n] (w.alloc (.cells vs.toArray 26)) fun e w' => e = .returned (.slice (some ⟨w.heap.size + 1, 0, none⟩) T T) ∧ Bs w' (.slice (some ⟨w.heap.size + 1, 0, none⟩) T T) ls.flatten ∧ Below w.heap.size w w' := by
  subst hg hl hT
  have hb := BBs.lit (w := w) vs ls hv (by unfold maxLen; omega) h
  refine (Join_any hb (by omega) hTm).mono ?_
  rintro e w' ⟨rfl, h1, h2⟩
  simp only [World.size_alloc] at h1 ⊢
  exact ⟨trivial, h1, (below1 _ _).later h2⟩
theorem Join_two {w : World} {v1 v2 : Value} {l1 l2 : List Int} (g T : Nat) (hg : g = w.heap.size) (h1 : Bs w v1 l1) (h2 : Bs w v2 l2) (hT : (l1 ++ l2).length = T) (hTm : T ≤ 1099511627776) :
    Calls Tryd.prog 47 #[.slice (some ⟨g, 0, none⟩) 2 2] (w.alloc (.cells #[v1, v2] 26)) fun e w' => e = .returned (.slice (some ⟨w.heap.size + 1, 0, none⟩) T T) ∧ Bs w' (.slice (some ⟨w.heap.size + 1, 0, none⟩) T T) (l1 ++ l2) ∧ Below w.heap.size w w' := by
  have := Join_lit (w := w) [v1, v2] [l1, l2] 2 g T rfl rfl hg (by decide) (fun i hi => by
    match i, hi with
    | 0, _ => exact h1
    | 1, _ => exact h2) (by simpa using hT) hTm
  simpa using this

/-- The number of a tag. -/
def tagN (h : Hd) : Int := h.pcp * 8192 + (if h.de then 4096 else 0) + h.vid
/-- The bytes of a header's tag. -/
def tagL (h : Hd) : List Int := if h.tg then digs 33024 2 ++ digs (tagN h) 2 else []

theorem Prs.lit3 (w : World) (g : Nat) (a b c d e f : Int) (t : TypeId) (hg : g = w.heap.size) (hw : Wide [(a, b), (c, d), (e, f)]) :
    Prs (w.alloc (.cells #[.int .u64 a, .int .u64 b, .int .u64 c, .int .u64 d, .int .u64 e, .int .u64 f] t)) (.slice (some ⟨g, 0, none⟩) 3 3) [(a, b), (c, d), (e, f)] := by
  subst hg
  refine ⟨hw, some ⟨w.heap.size, 0, none⟩, 3, rfl, fun i hi => ⟨w.heap.size, 0, rfl, ?_, ?_⟩⟩
  all_goals
    rw [World.cell?_alloc_new]
    match i, hi with
    | 0, _ => rfl
    | 1, _ => rfl
    | 2, _ => rfl
theorem pk_tag (p d v : Int) (hp : 0 ≤ p ∧ p ≤ 7) (hd : d = 0 ∨ d = 1) (hv : 0 ≤ v ∧ v ≤ 4094) : pk [(p, 3), (d, 1), (v, 12)] = some (p * 8192 + d * 4096 + v, 48) := by
  have e1 : pkStep (0, 64) (p, 3) = some (p, 61) := by
    unfold pkStep
    rw [if_neg (by simp; exact Int.ediv_eq_zero_of_lt hp.1 (by omega))]
    simp
  have e2 : pkStep (p, 61) (d, 1) = some (p * 2 + d, 60) := by
    unfold pkStep
    rw [if_neg (by simp; exact Int.ediv_eq_zero_of_lt (by omega) (by omega))]
    simp
  have e3 : pkStep (p * 2 + d, 60) (v, 12) = some (p * 8192 + d * 4096 + v, 48) := by
    unfold pkStep
    rw [if_neg (by simp; exact Int.ediv_eq_zero_of_lt (by omega) (by omega))]
    simp
    omega
  simp [pk, e1, e2, e3]

theorem tag_none (h : Hd) (w : World) (ht : h.tg = false) :
    Calls Tryd.prog 25 #[.agg h.row] w fun e w' => e = .returned (.slice none 0 0) ∧ Below w.heap.size w w' := by
  obtain ⟨d0, d1, d2, d3, d4, d5, s0, s1, s2, s3, s4, s5, tg, pcp, de, vid, typ, llc⟩ := h
  simp only at ht
  subst ht
  go_enter Tryd.func25, Tryd.ntmps25
  go_wp2
  go_ret
  exact ⟨rfl, below1 _ _⟩
theorem tag_some (h : Hd) (w : World) (ht : h.tg = true) (hf : tagFitsB h = true) :
    Calls Tryd.prog 25 #[.agg h.row] w fun e w' => ∃ g, e = .returned (.slice (some ⟨g, 0, none⟩) 4 4) ∧ w.heap.size ≤ g ∧ Bs w' (.slice (some ⟨g, 0, none⟩) 4 4) (tagL h) ∧ Below w.heap.size w w' := by
  obtain ⟨d0, d1, d2, d3, d4, d5, s0, s1, s2, s3, s4, s5, tg, pcp, de, vid, typ, llc⟩ := h
  simp only at ht
  subst ht
  have hf' : 0 ≤ pcp ∧ pcp ≤ 7 ∧ 0 ≤ vid ∧ vid ≤ 4094 := by simpa [tagFitsB] using hf
  obtain ⟨p0, p1, v0, v1⟩ := hf'
  clear hf
  obtain ⟨d, hd, hd01⟩ : ∃ d : Int, d = (if de then 1 else 0) ∧ (d = 0 ∨ d = 1) := ⟨_, rfl, by cases de <;> simp⟩
  have hpk := hide (pkRes_some (pk_tag pcp d vid ⟨p0, p1⟩ hd01 ⟨v0, v1⟩))
  have hwide : Hid (Wide [(pcp, 3), (d, 1), (vid, 12)]) := by
    intro p hp
    simp only [List.mem_cons, List.not_mem_nil, or_false] at hp
    rcases hp with rfl | rfl | rfl <;> simp <;> omega
  have hN : Hid (tagL ⟨d0, d1, d2, d3, d4, d5, s0, s1, s2, s3, s4, s5, true, pcp, de, vid, typ, llc⟩ = digs 33024 2 ++ digs (pcp * 8192 + d * 4096 + vid) 2) := by
    show tagL _ = _
    simp only [tagL, tagN, if_true, hd]
    cases de <;> simp
  have n0 : 0 ≤ pcp * 8192 + d * 4096 + vid := by omega
  have n1 : pcp * 8192 + d * 4096 + vid < 65536 := by omega
  generalize pcp * 8192 + d * 4096 + vid = M at *
  generalize tagL ⟨d0, d1, d2, d3, d4, d5, s0, s1, s2, s3, s4, s5, true, pcp, de, vid, typ, llc⟩ = L at *
  cases de
  all_goals
    have hd' := hd
    simp at hd'
    clear hd
    subst hd'
    clear hd01
    go_enter Tryd.func25, Tryd.ntmps25
    go_wp2_with fail
    refine (Pack_any (Prs.lit3 (w.alloc _) _ _ _ _ _ _ _ _ (World.size_alloc _ _).symm hwide.out) (by simp)).mono ?_
    rw [hpk.out]
    rintro e w1 ⟨rfl, hb1⟩
    have hW1 := hide (((below1 _ _).later (below1 _ _)).later hb1)
    clear hb1
    go_wp2_with fail
    refine (pair_any 33024 _ (by decide) (by decide)).mono ?_
    rintro e w2 ⟨rfl, hB2, hb2⟩
    have hW2 := hide (hW1.out.later hb2)
    have hg2 : w.heap.size ≤ w1.heap.size := hW1.out.size
    clear hb2 hW1
    go_wp2_with fail
    refine (pair_any _ _ n0 n1).mono ?_
    rintro e w3 ⟨rfl, hB3, hb3⟩
    have hW3 := hide (hW2.out.later hb3)
    have hB2' := hB2.below hb3
    clear hB2
    go_wp2_with fail
    refine (Join_two w3.heap.size 4 rfl hB2' hB3 (by simp [digs_length]) (by decide)).mono ?_
    rintro e w4 ⟨rfl, hB4, hb4⟩
    go_wp2
    go_ret
    refine ⟨_, rfl, ?_, by rw [hN.out]; exact hB4, hW3.out.later hb4⟩
    have := hW3.out.size
    omega

/-- Noughts behind, so that there are sixty. -/
def pad60 (l : List Int) : List Int := l ++ List.replicate (60 - l.length) 0
theorem pad60_length (l : List Int) : (pad60 l).length = max l.length 60 := by simp [pad60]; omega
theorem pad60_long (l : List Int) (h : 60 ≤ l.length) : pad60 l = l := by simp [pad60, Nat.sub_eq_zero_of_le h]
theorem zero_byte (n : Nat) : Byte (List.replicate n 0) := by
  intro z hz
  have := List.eq_of_mem_replicate hz
  omega
-- finish: the pieces, noughts, and the sum.
set_option maxRecDepth 20000 in
theorem finish_any {v : Value} {ls : List (List Int)} {w : World} (hv : BBs w v ls) (hT : Tab w) (hm : ls.length ≤ 1000) (hn : ls.flatten.length ≤ 1000000) :
    Calls Tryd.prog 24 #[v] w fun e w' => ∃ g n, e = .returned (.slice (some ⟨g, 0, none⟩) n n) ∧ n = (sealL (pad60 ls.flatten)).length ∧ w.heap.size ≤ g ∧ Bs w' (.slice (some ⟨g, 0, none⟩) n n) (sealL (pad60 ls.flatten)) ∧ Below w.heap.size w w' := by
  have hJ := hide (Join_any hv (by omega) (by omega))
  obtain ⟨a, cap, vs, rfl, _⟩ := hv
  generalize ls.flatten = L at *
  have hBy : Hid (∀ {w v}, Bs w v L → Byte L) := fun h => h.byte
  generalize hlen : L.length = len at *
  have HL := hide hlen
  have HT := hide hT
  clear hlen hT
  obtain ⟨i0, hi, hz0, hz1, hz2⟩ := info_parts Tryd.infoU8
  by_cases h60 : 60 ≤ len
  · go_enter Tryd.func24, Tryd.ntmps24
    go_wp2_with fail
    refine hJ.out.mono ?_
    rintro e w1 ⟨rfl, hB1, hb1⟩
    go_wp2_with fail
    refine (Seal_any hB1 (HT.out.later hb1) (by rw [HL.out]; omega)).mono ?_
    rintro e w2 ⟨rfl, hB2, hb2⟩
    rw [HL.out] at hB2 ⊢
    go_wp2
    go_ret
    have hp : pad60 L = L := pad60_long L (by rw [HL.out]; exact h60)
    rw [hp]
    exact ⟨_, _, rfl, by rw [sealL_length, HL.out], hb1.size, hB2, hb1.later hb2⟩
  · have h59 : len < 60 := by omega
    have hk : ((60 - len : Nat) : Int) = 60 - (len : Int) := by omega
    have hpos : (0 : Int) < 60 - (len : Int) := by omega
    go_enter Tryd.func24, Tryd.ntmps24
    go_wp2_with fail
    refine hJ.out.mono ?_
    rintro e w1 ⟨rfl, hB1, hb1⟩
    go_wp2_with (at_make; refine wpList_make_full _ rfl _ _ 26 rfl w1.heap.size 5 i0 (.int .u8 0) 1 Tryd.underlying26 hi hz0 hz1 _ _ _ _ (60 - len) rfl rfl hk.symm hk.symm (by rw [hz2]; omega) (by unfold maxLen; omega) (Nat.le_refl _) ?_; intro w2 hown hgrow)
    have hb2 : Below w1.heap.size w1 w2 := (Below.refl _ _).grown hgrow (Nat.le_refl _) (fun _ e => by cases e)
    have hZ : Bs w2 (.slice (some ⟨w1.heap.size, 0, none⟩) (60 - len) (60 - len)) (List.replicate (60 - len) 0) := by
      have := Bs.own (l := List.replicate (60 - len) 0) (by
        rw [List.length_replicate, List.map_replicate, ← toList_madeCells_one]
        simpa [Value.cells] using hown) (zero_byte _)
      rwa [List.length_replicate] at this
    have hB1' := hB1.below hb2
    have hW2 := hide (hb1.later hb2)
    clear hown hgrow hb2 hb1 hB1
    go_wp2_with fail
    refine (Join_two w2.heap.size 60 rfl hB1' hZ (by simp [HL.out]; omega) (by decide)).mono ?_
    rintro e w3 ⟨rfl, hB3, hb3⟩
    have hW3 := hide (hW2.out.later hb3)
    have hs2 := hW2.out.size
    clear hb3 hB1' hZ hW2
    go_wp2_with fail
    refine (Seal_any hB3 (HT.out.later hW3.out) (by simp [HL.out]; omega)).mono ?_
    rintro e w4 ⟨rfl, hB4, hb4⟩
    have e1 : (L ++ List.replicate (60 - len) 0).length = 60 := by simp [HL.out]; omega
    have e2 : pad60 L = L ++ List.replicate (60 - len) 0 := by unfold pad60; rw [HL.out]
    rw [e1] at hB4 ⊢
    go_wp2
    go_ret
    rw [e2]
    refine ⟨_, _, rfl, by rw [sealL_length, e1], hW3.out.size, hB4, hW3.out.later hb4⟩
end Go.Proofs.YtiahiakllpjliaaDoor
