
/-
  Contracts of package crc's functions. Conditions: the table lies as the program's text lays it ('Tab'); those that each theorem names.
-/
import Derived.Test.YtiahiakllpjliaaDoorStr
import Derived.Test.YtiahiakllpjliaaDoorCrcMath
namespace Go.Proofs.YtiahiakllpjliaaDoor
open Go.RowKit

/-- The table of half bytes' sums lies as it is written. -/
def Tab (w : World) : Prop := ∀ i, i < 16 → w.cell? ⟨0, i, none⟩ = some (.int .u32 ((tab i).toNat : Int))
theorem Tab.below {w w' : World} {B : Nat} (h : Tab w) (hB : 0 < B) (hb : Below B w w') : Tab w' := fun i hi => by
  rw [hb.cell (p := ⟨0, i, none⟩) hB]; exact h i hi
theorem Tab.pos {w : World} (h : Tab w) : 0 < w.heap.size := block_lt_of_cell (h 0 (by decide))
theorem Tab.later {w w' : World} (h : Tab w) (hb : Below w.heap.size w w') : Tab w' := h.below h.pos hb

/-- Half a byte's step, rule by rule, as the walk meets it. -/
theorem half_rules (s t : B32) (h : t = half s) : (bits .and .u32 (s.toNat : Int) 15 = ((s.toNat % 16 : Nat) : Int)) ∧
    (bits .xor .u32 ((s.toNat : Int) / 16) ((tab (s.toNat % 16)).toNat : Int) = (t.toNat : Int)) ∧ s.toNat % 16 < 16 :=
  ⟨sp_and15 s, by rw [sp_shr4, sp_xor, h]; rfl, Nat.mod_lt _ (by decide)⟩

theorem divide_at (c : B32) (b off cap : Nat) (l : List Int) (w : World) (hT : Tab w) (hm : l.length ≤ 1099511627776) (hb : Byte l)
    (hc : ∀ i, i < l.length → w.cell? ⟨b, off + i, none⟩ = some (.int .u8 (l.getD i 0))) :
    Calls Tryd.prog 80 #[.int .u32 (c.toNat : Int), .slice (some ⟨b, off, none⟩) l.length cap] w fun e w' => e = .returned (.int .u32 ((crcD c l).toNat : Int)) ∧ w' = w := by
  generalize hlen : l.length = len at *
  have HL := hide hlen
  clear hlen
  have HT := hide hT
  have HC := hide hc
  clear hT hc
  go_enter Tryd.func80, Tryd.ntmps80
  go_wp2
  go_loop [0, 9] (fun x i => ∃ j : Nat, j ≤ len ∧ i = .int .i64 j ∧ x = .int .u32 ((crcD c (l.take j)).toNat : Int)) (fun _ i => len - (intOf i).toNat)
  case atStart => exact ⟨0, Nat.zero_le _, rfl, rfl⟩
  case round =>
    obtain ⟨j, hj, rfl, rfl⟩ := hrel
    by_cases hlt : j < len
    · have hcj := HC.out j hlt
      have hbj := hb.getD j
      have hnext : Hid (crcD c (l.take (j + 1)) = stepB (crcD c (l.take j)) (l.getD j 0)) := by
        have hL := HL.out
        have e1 : l.take (j + 1) = l.take j ++ [l.getD j 0] := by
          rw [List.take_succ_eq_append_getElem (by omega)]
          simp [show j < l.length by omega]
        show crcD c (l.take (j + 1)) = _
        rw [e1, crcD_snoc]
      generalize crcD c (l.take j) = s at *
      generalize l.getD j 0 = x at *
      obtain ⟨s1, hs1⟩ : ∃ s1, s1 = s ^^^ byteOf x := ⟨_, rfl⟩
      obtain ⟨s2, hs2⟩ : ∃ s2, s2 = half s1 := ⟨_, rfl⟩
      obtain ⟨s3, hs3⟩ : ∃ s3, s3 = half s2 := ⟨_, rfl⟩
      obtain ⟨r2, r3, r4⟩ := half_rules s1 s2 hs2
      obtain ⟨q2, q3, q4⟩ := half_rules s2 s3 hs3
      have e1 : bits .xor .u32 (s.toNat : Int) x = (s1.toNat : Int) := by
        rw [hs1, ← sp_xor, ← sp_byte x hbj]
      have c1 := HT.out _ r4
      have c2 := HT.out _ q4
      have H3 : Hid (s3 = stepB s x) := by show s3 = _; rw [hs3, hs2, hs1]; rfl
      clear hs1 hs2 hs3
      generalize hk1 : s1.toNat % 16 = k1 at *
      generalize hk2 : s2.toNat % 16 = k2 at *
      generalize tab k1 = t1 at *
      generalize tab k2 = t2 at *
      clear hk1 hk2
      go_wp2
      go_round
      case rel => exact ⟨j + 1, by omega, by go_num, by rw [hnext.out, ← H3.out]⟩
      case measure => simp [intOf]; omega
    · go_wp2
      go_ret
      have : j = len := by omega
      subst this
      exact ⟨by rw [← HL.out, List.take_length]; rfl, rfl⟩
/-- divide, of any bytes. -/
theorem divide_any {v : Value} {l : List Int} {w : World} (c : B32) (hv : Bs w v l) (hT : Tab w) (hm : l.length ≤ 1099511627776) :
    Calls Tryd.prog 80 #[.int .u32 (c.toNat : Int), v] w fun e w' => e = .returned (.int .u32 ((crcD c l).toNat : Int)) ∧ w' = w := by
  rcases hv.cases with ⟨rfl, a, cap, rfl, _, _⟩ | ⟨b, off, cap, rfl, _, h3, h4, hc⟩
  · go_enter Tryd.func80, Tryd.ntmps80
    go_wp2
    refine wp_loop_rounds 1 ?_
    rw [rounds_succ]
    go_wp2
    go_ret
    exact ⟨rfl, rfl⟩
  · exact divide_at c b off cap l w hT hm hv.byte hc

/-! Sum -/
theorem Sum_any {v : Value} {ls : List (List Int)} {w : World} (hv : BBs w v ls) (hT : Tab w) (hm : ls.length ≤ 1099511627776) (hn : ∀ i, i < ls.length → (ls.getD i []).length ≤ 1099511627776) :
    Calls Tryd.prog 68 #[v] w fun e w' => e = .returned (.int .u32 ((crcSum ls.flatten).toNat : Int)) ∧ w' = w := by
  obtain ⟨a, cap, vs, rfl, h1, h2, h3, h4, h5⟩ := hv
  generalize hlen : ls.length = m at *
  have HL := hide hlen
  have HT := hide hT
  have HN := hide hn
  have HA := hide h5
  clear hlen hT hn h5
  go_enter Tryd.func68, Tryd.ntmps68
  go_wp2
  go_loop [3, 8] (fun x i => ∃ j : Nat, j ≤ m ∧ i = .int .i64 j ∧ x = .int .u32 ((crcD ones (ls.take j).flatten).toNat : Int)) (fun _ i => m - (intOf i).toNat)
  case atStart => exact ⟨0, Nat.zero_le _, rfl, rfl⟩
  case round =>
    obtain ⟨j, hj, rfl, rfl⟩ := hrel
    by_cases hlt : j < m
    · obtain ⟨b, off, rfl, hcj, hBj⟩ := HA.out j hlt
      have hnj := HN.out j hlt
      have hs : Hid (crcD ones (ls.take (j + 1)).flatten = crcD (crcD ones (ls.take j).flatten) (ls.getD j [])) := by
        show crcD ones (ls.take (j + 1)).flatten = _
        rw [flat_take_succ ls j (by rw [HL.out]; exact hlt), crcD_append]
      generalize crcD ones (ls.take j).flatten = s at *
      generalize vs.getD j undef = vj at *
      generalize ls.getD j [] = lj at *
      have HB := hide hBj
      obtain ⟨_, aj, capj, hvj, _⟩ := hBj
      subst hvj
      go_wp2_with (go_at_call 80; refine (divide_any s HB.out HT.out hnj).mono ?_; rintro e w' ⟨rfl, rfl⟩)
      go_round
      case rel => exact ⟨j + 1, by omega, by go_num, by rw [hs.out]⟩
      case measure => simp [intOf]; omega
    · have hfin : (ls.take j).flatten = ls.flatten := by rw [List.take_of_length_le (by rw [HL.out]; omega)]
      rw [hfin]
      clear hfin
      have hcs : Hid (((crcSum ls.flatten).toNat : Int) = bits .xor .u32 IntKind.u32.max ((crcD ones ls.flatten).toNat : Int)) := (sp_not _).symm
      generalize crcD ones ls.flatten = s at *
      go_wp2
      go_ret
      exact ⟨by rw [hcs.out]; rfl, rfl⟩

theorem Sum_one {w : World} {v : Value} {l : List Int} (h : Bs w v l) (hT : Tab w) (hm : l.length ≤ 1099511627776) :
    Calls Tryd.prog 68 #[.slice (some ⟨w.heap.size, 0, none⟩) 1 1] (w.alloc (.cells #[v] 26)) fun e w' => e = .returned (.int .u32 ((crcSum l).toNat : Int)) ∧ Below w.heap.size w w' := by
  have hb := BBs.lit (w := w) [v] [l] rfl (by simp [maxLen]) (fun i hi => by
    obtain rfl : i = 0 := by simpa using hi
    simpa using h)
  have hbl : Below w.heap.size w (w.alloc (.cells #[v] 26)) := (Below.refl _ _).alloc (Nat.le_refl _) _
  refine (Sum_any hb (hT.later hbl) (by simp) (fun i hi => by
    obtain rfl : i = 0 := by simpa using hi
    simpa using hm)).mono ?_
  rintro e w' ⟨rfl, rfl⟩
  simp only [List.flatten_cons, List.flatten_nil, List.append_nil]
  exact ⟨trivial, hbl⟩

/-! Seal -/
def sumRow (l : List Int) (c : B32) (i : Nat) : List Int := l ++ (sumBytes c).take i
theorem sumRow_succ (l : List Int) (c : B32) (i : Nat) (h : i < 4) : sumRow l c (i + 1) = sumRow l c i ++ [(c.toNat : Int) / 256 ^ i % 256] := by
  unfold sumRow
  rw [List.take_succ_eq_append_getElem (by rw [sumBytes_length]; exact h), ← List.append_assoc]
  simp [sumBytes]
theorem sumRow_length (l : List Int) (c : B32) (i : Nat) (h : i ≤ 4) : (sumRow l c i).length = l.length + i := by
  simp [sumRow, sumBytes_length]; omega
theorem _root_.Go.World.ownsRow.keptBelow {w w' : World} {base e size g n cap : Nat} {xs : List Value} (h : w.ownsRow base e size (.slice (some ⟨g, 0, none⟩) n cap) n xs) (hb : Below w.heap.size w w') : w'.ownsRow base e size (.slice (some ⟨g, 0, none⟩) n cap) n xs := by
  obtain ⟨h1, h2⟩ := h
  refine ⟨h1, ?_⟩
  rcases h2 with h2 | ⟨g', cap', cur, hv, hg, hh, r⟩
  · exact .inl h2
  · exact .inr ⟨g', cap', cur, hv, hg, by rw [hb.block g' (Array.getElem?_eq_some_iff.1 hh).1]; exact hh, r⟩
set_option maxRecDepth 20000 in
theorem Seal_own {v : Value} {l : List Int} {w : World} (hv : Bs w v l) (hT : Tab w) (hm : l.length ≤ 1099511627000) :
    Calls Tryd.prog 48 #[v] w fun e w' => e = .returned (.slice (some ⟨w.heap.size, 0, none⟩) (l.length + 4) (l.length + 4)) ∧ w'.ownsRow w.heap.size 5 1 (.slice (some ⟨w.heap.size, 0, none⟩) (l.length + 4) (l.length + 4)) (l.length + 4) ((sealL l).map (Value.int .u8)) ∧ Below w.heap.size w w' := by
  have HV := hide hv
  obtain ⟨hby, a, cap, rfl, h1, h2, h3, h4⟩ := hv
  have HN : Hid (∀ W, Below w.heap.size w W → ∀ ad, a = some ad → ∀ t u, (l.map (Value.int .u8))[t]? = some u → W.cell? (ad.add t) = some u) := fun W hW => by
    obtain ⟨_, a', cap', e, _, _, _, h6⟩ := HV.out.below hW
    simp only [Value.slice.injEq] at e
    obtain ⟨rfl, _, _⟩ := e
    exact Bs.news h6
  have hone := ints_oneCell .u8 l
  generalize hlen : l.length = len at *
  have hnone : a = none → len = 0 ∧ cap = 0 := fun e => by have := h3 e; omega
  have hnl : (l.map (Value.int .u8)).length = len * 1 := by simp [hlen]
  have HL := hide hlen
  have HT := hide hT
  clear hlen hT h3 h4
  obtain ⟨i0, hi, hz0, hz1, hz2⟩ := info_parts Tryd.infoU8
  generalize hxs : l.map (Value.int .u8) = xs at *
  have HX := hide hxs
  clear hxs
  go_enter Tryd.func48, Tryd.ntmps48
  go_wp2_with (first | (at_make; refine wpList_make_own _ rfl _ _ 26 rfl w.heap.size 5 i0 (.int .u8 0) 1 Tryd.underlying26 hi hz0 hz1 _ _ _ (len + 4) rfl rfl (by simp) (by rw [hz2]; omega) (by unfold maxLen; omega) (Nat.le_refl _) ?_; intro w1 hown0 hgrow; have hb1 : Below w.heap.size w w1 := (Below.refl _ _).grown hgrow (Nat.le_refl _) (fun _ e => by cases e)) | (at_builtin; refine wpList_append_fits_any _ rfl _ _ 26 rfl w.heap.size 5 i0 1 Tryd.underlying26 hi hz1 w.heap.size 0 (len + 4) [] rfl hown0 a len cap xs rfl hnl hnone (HN.out _ hb1) hone (by omega) ?_; intro w2 hown1 hgrow1; simp only [Nat.zero_add, List.nil_append] at hown1 ⊢))
  have hb2 : Below w.heap.size w w2 := hb1.grown hgrow1 hb1.size (fun k e => by cases e; exact Nat.le_refl _)
  have hV2 := HV.out.below hb2
  have hT2 := HT.out.later hb2
  refine (Sum_one hV2 hT2 (by rw [HL.out]; omega)).mono ?_
  rintro e w3 ⟨rfl, hb3⟩
  have hk3 : w3.ownsRow w.heap.size 5 1 (.slice (some ⟨w.heap.size, 0, none⟩) len (len + 4)) len xs := hown1.keptBelow hb3
  have hb3' : Below w.heap.size w w3 := hb2.trans (hb3.mono hb2.size)
  clear hown0 hown1 hgrow hgrow1 hb1 hb2 hb3 hV2 hT2 hone hnl hnone
  have H3 : Hid (w3.ownsRow w.heap.size 5 1 (.slice (some ⟨w.heap.size, 0, none⟩) (len + 0) (len + 4)) (len + 0) ((sumRow l (crcSum l) 0).map (Value.int .u8))) := by
    show w3.ownsRow _ _ _ _ _ _
    rw [show sumRow l (crcSum l) 0 = l by simp [sumRow], HX.out]
    exact hk3
  have hfin : Hid (sealL l = sumRow l (crcSum l) 4) := by
    show sealL l = _
    unfold sumRow
    rw [List.take_of_length_le (by rw [sumBytes_length]; exact Nat.le_refl _)]
    rfl
  generalize crcSum l = c at *
  clear hk3
  go_wp2
  go_loopw [3, 16] (fun v i wr => ∃ j : Nat, j ≤ 4 ∧ i = .int .i64 j ∧ v = .slice (some ⟨w.heap.size, 0, none⟩) (len + j) (len + 4) ∧ Hid (wr.ownsRow w.heap.size 5 1 (.slice (some ⟨w.heap.size, 0, none⟩) (len + j) (len + 4)) (len + j) ((sumRow l c j).map (Value.int .u8))) ∧ Hid (Below w.heap.size w wr)) (fun _ i _ => 4 - (intOf i).toNat)
  case atStart => exact ⟨0, Nat.zero_le _, rfl, rfl, H3, hb3'⟩
  case round =>
    obtain ⟨j, hj, rfl, rfl, Hown, Hbl⟩ := hrel
    clear H3 hb3'
    by_cases hlt : j < 4
    · have hsz := Hbl.out.size
      have hown := Hown.out.alloc (.cells #[.int .u8 ((c.toNat : Int) / 2 ^ (8 * j) % 256)] 5)
      have hc1 : ∀ t u, [Value.int .u8 ((c.toNat : Int) / 2 ^ (8 * j) % 256)][t]? = some u → (wr.alloc (.cells #[.int .u8 ((c.toNat : Int) / 2 ^ (8 * j) % 256)] 5)).cell? ((⟨wr.heap.size, 0, none⟩ : Addr).add t) = some u := cell_one_new _ _ _
      have hbl1 : Below w.heap.size w (wr.alloc (.cells #[.int .u8 ((c.toNat : Int) / 2 ^ (8 * j) % 256)] 5)) := Hbl.out.alloc hsz _
      have hrow := hide (sumRow_succ l c j hlt)
      have HO := hide hown
      have HC1 := hide hc1
      have HB1 := hide hbl1
      clear hown hc1 hbl1
      generalize hxs : (sumRow l c j).map (Value.int .u8) = ys at *
      have HX2 := hide hxs
      clear hxs
      go_wp2_with (at_builtin; refine wpList_append_fits _ rfl _ _ 26 rfl w.heap.size 5 i0 1 Tryd.underlying26 hi hz1 w.heap.size (len + j) (len + 4) ys rfl HO.out ⟨wr.heap.size, 0, none⟩ 1 1 [.int .u8 ((c.toNat : Int) / 2 ^ (8 * j) % 256)] rfl rfl HC1.out (by intro u hu; simp at hu; subst hu; rfl) (by omega) ?_; intro w4 hown4 hgrow4)
      have hb4 : Below w.heap.size w w4 := HB1.out.grown hgrow4 HB1.out.size (fun k e => by cases e; exact Nat.le_refl _)
      have H4 : Hid (w4.ownsRow w.heap.size 5 1 (.slice (some ⟨w.heap.size, 0, none⟩) (len + (j + 1)) (len + 4)) (len + (j + 1)) ((sumRow l c (j + 1)).map (Value.int .u8))) := by
        show w4.ownsRow _ _ _ _ _ _
        rw [hrow.out, List.map_append, HX2.out, ← pow_2_8]
        exact hown4
      clear hown4 hgrow4
      go_wp2
      go_roundw
      case rel => exact ⟨j + 1, by omega, by go_num, rfl, H4, hb4⟩
      case measure => simp [intOf]; omega
    · obtain rfl : j = 4 := by omega
      go_wp2
      go_ret
      exact ⟨rfl, by rw [hfin.out]; exact Hown.out, Hbl.out⟩

/-- Seal: the bytes with their sum behind, in new memory. -/
theorem Seal_any {v : Value} {l : List Int} {w : World} (hv : Bs w v l) (hT : Tab w) (hm : l.length ≤ 1099511627000) :
    Calls Tryd.prog 48 #[v] w fun e w' => e = .returned (.slice (some ⟨w.heap.size, 0, none⟩) (l.length + 4) (l.length + 4)) ∧ Bs w' (.slice (some ⟨w.heap.size, 0, none⟩) (l.length + 4) (l.length + 4)) (sealL l) ∧ Below w.heap.size w w' := by
  refine (Seal_own hv hT hm).mono ?_
  rintro e w' ⟨rfl, h1, h2⟩
  refine ⟨rfl, ?_, h2⟩
  have := Bs.own (l := sealL l) (by rw [sealL_length]; exact h1) (sealL_byte hv.byte)
  rwa [sealL_length] at this

/-! bytes.Equal -/
theorem Equal_any {v1 v2 : Value} {a b : List Int} {w : World} (h1 : Bs w v1 a) (h2 : Bs w v2 b) :
    Calls Tryd.prog 53 #[v1, v2] w fun e w' => e = .returned (.bool (a == b)) ∧ w' = w := by
  have q1 := conv_str (P := Tryd.prog) 26 9 5 Tryd.underlying26 Tryd.underlying5 Tryd.underlying9 h1
  have q2 := conv_str (P := Tryd.prog) 26 9 5 Tryd.underlying26 Tryd.underlying5 Tryd.underlying9 h2
  have he : Hid (((bstr a).toList == (bstr b).toList) = (a == b)) := by
    show ((bstr a).toList == (bstr b).toList) = (a == b)
    rw [Bool.eq_iff_iff, beq_iff_eq, beq_iff_eq, ByteArray.toList_eq, ByteArray.toList_eq]
    constructor
    · intro h
      refine bstr_inj h1.byte h2.byte ?_
      have : (bstr a).data = (bstr b).data := Array.toList_inj.1 h
      cases ha : bstr a; cases hb : bstr b; simp_all
    · intro h; rw [h]
  generalize bstr a = s1 at *
  generalize bstr b = s2 at *
  obtain ⟨_, a1, c1, rfl, _⟩ := h1
  obtain ⟨_, a2, c2, rfl, _⟩ := h2
  go_enter Tryd.func53, Tryd.ntmps53
  go_wp2
  go_ret
  exact ⟨by rw [← he.out]; rfl, rfl⟩

/-! Open -/
/-- The first bytes of it, without the rest's room. -/
theorem Bs.front {w : World} {g n cap : Nat} {l : List Int} (h : Bs w (.slice (some ⟨g, 0, none⟩) n cap) l) (k : Nat) (hk : k ≤ n) (hl : l.length = n) : Bs w (.slice (some ⟨g, 0, none⟩) k k) (l.take k) := by
  obtain ⟨hby, a, cap', e, h1, h2, _, h4⟩ := h
  simp only [Value.slice.injEq] at e
  obtain ⟨rfl, _, rfl⟩ := e
  have e1 : (l.take k).length = k := by simp; omega
  have := Bs.mk_at (w := w) (l := l.take k) (b := g) (off := 0) (cap := k) (hby.take k) (by omega) (by omega) (fun i hi => by
    rw [e1] at hi
    obtain ⟨b, off, e, hc⟩ := h4 i (by omega)
    cases e
    rw [hc]
    congr 2
    simp [hi])
  rwa [e1] at this

/-- The first bytes of it, with the rest's room. -/
theorem Bs.headOf {w : World} {g n cap : Nat} {l : List Int} (h : Bs w (.slice (some ⟨g, 0, none⟩) n cap) l) (k : Nat) (hk : k ≤ n) (hl : l.length = n) : Bs w (.slice (some ⟨g, 0, none⟩) k cap) (l.take k) := by
  obtain ⟨hby, a, cap', e, h1, h2, _, h4⟩ := h
  simp only [Value.slice.injEq] at e
  obtain ⟨rfl, _, rfl⟩ := e
  have e1 : (l.take k).length = k := by simp; omega
  have := Bs.mk_at (w := w) (l := l.take k) (b := g) (off := 0) (cap := cap) (hby.take k) (by omega) (by omega) (fun i hi => by
    rw [e1] at hi
    obtain ⟨b, off, e, hc⟩ := h4 i (by omega)
    cases e
    rw [hc]
    congr 2
    simp [hi])
  rwa [e1] at this
theorem Open_short {v : Value} {l : List Int} {w : World} (hv : Bs w v l) (h : l.length < 4) :
    Calls Tryd.prog 29 #[v] w fun e w' => e = .returned (.tuple #[.slice none 0 0, .int .i64 2]) ∧ w' = w := by
  obtain ⟨_, a, cap, rfl, _⟩ := hv
  go_enter Tryd.func29, Tryd.ntmps29
  go_wp2
  go_ret2
  exact ⟨rfl, rfl⟩
theorem Open_long {v : Value} {l : List Int} {w : World} (hv : Bs w v l) (hT : Tab w) (h : 4 ≤ l.length) (hm : l.length ≤ 1099511627000) :
    Calls Tryd.prog 29 #[v] w fun e w' => ((sealL (l.take (l.length - 4)) = l ∧ e = .returned (.tuple #[.slice (some ⟨w.heap.size, 0, none⟩) (l.length - 4) (l.length - 4), .int .i64 0]) ∧ Bs w' (.slice (some ⟨w.heap.size, 0, none⟩) (l.length - 4) (l.length - 4)) (l.take (l.length - 4))) ∨ (sealL (l.take (l.length - 4)) ≠ l ∧ e = .returned (.tuple #[.slice none 0 0, .int .i64 10]))) ∧ Below w.heap.size w w' := by
  have HV := hide hv
  have HT := hide hT
  have hby := hv.byte
  rcases hv.cases with ⟨rfl, _⟩ | ⟨b, off, cap, rfl, h0, h3, h4, hc⟩
  · simp at h
  · have hp := Bs.piece hby h3 h4 hc 0 (l.length - 4) (Nat.zero_le _) (by omega)
    simp only [List.drop_zero, Nat.sub_zero, Nat.add_zero] at hp
    have hlk : (l.take (l.length - 4)).length = l.length - 4 := by simp
    have hsl := sealL_length (l.take (l.length - 4))
    rw [hlk] at hsl
    have HP := hide hp
    have HLK := hide hlk
    have HS4 := hide hsl
    have HBY := hide (hby.take (l.length - 4))
    generalize hbd : l.take (l.length - 4) = body at *
    have hn : ((l.length - 4 : Nat) : Int) = (l.length : Int) - 4 := by omega
    clear hp hlk hsl hc hT hby
    generalize hlen : l.length = len at *
    have HL := hide hlen
    have HN := hide hn
    clear hlen hbd hn
    go_enter Tryd.func29, Tryd.ntmps29
    go_wp2_with fail
    refine (Seal_any HP.out HT.out (by rw [HLK.out]; omega)).mono ?_
    rw [HLK.out, show len - 4 + 4 = len by omega]
    rintro e w1 ⟨rfl, hB1, hb1⟩
    have hV1 := HV.out.below hb1
    have HB1 := hide hB1
    go_wp2_with fail
    refine (Equal_any HB1.out hV1).mono ?_
    rintro e w1' ⟨rfl, rfl⟩
    clear hB1 hV1
    by_cases heq : sealL body = l
    · have hb' : (sealL body == l) = true := by rw [beq_iff_eq]; exact heq
      have HE := hide heq
      clear heq
      go_wp2
      go_ret2
      have h5 := HB1.out.front (len - 4) (by omega) (by rw [HS4.out]; omega)
      have h6 : (sealL body).take (len - 4) = body := by
        unfold sealL
        rw [List.take_append_of_le_length (by rw [HLK.out]; exact Nat.le_refl _), List.take_of_length_le (by rw [HLK.out]; exact Nat.le_refl _)]
      rw [h6] at h5
      exact ⟨.inl ⟨HE.out, rfl, h5⟩, hb1⟩
    · have hb' : (sealL body == l) = false := by rw [beq_eq_false_iff_ne]; exact heq
      have HE := hide heq
      clear heq
      go_wp2
      go_ret2
      exact ⟨.inr ⟨HE.out, rfl⟩, hb1⟩
end Go.Proofs.YtiahiakllpjliaaDoor
