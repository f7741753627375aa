
/-
  Plain mathematics of frames (no walk): what is built is read as it was, and with another tag, too.
-/
import Derived.Test.YtiahiakllpjliaaDoorMacT
namespace Go.Proofs.YtiahiakllpjliaaDoor
open Go.RowKit

theorem digs2 (n : Int) : digs n 2 = [n / 256 % 256, n % 256] := by
  simp [digs, rowAt, rowF, dig, List.range_succ]
theorem n2_digs (n : Int) (h0 : 0 ≤ n) (h1 : n < 65536) : n2 (n / 256 % 256) (n % 256) = n := by unfold n2; omega
/-- Noughts behind, so that there are sixty. -/
def padN (h : Hd) (r : List Int) : Nat := 60 - (14 + (tagL h).length + r.length)
theorem bodyL_length (h : Hd) (r : List Int) : (bodyL h r).length = 14 + (tagL h).length + r.length := by
  simp [bodyL, Hd.dst, Hd.src, digs2]; omega
theorem pad_body (h : Hd) (r : List Int) : pad60 (bodyL h r) = bodyL h (r ++ List.replicate (padN h r) 0) := by
  unfold pad60 padN
  rw [bodyL_length]
  simp [bodyL]
/-- A header that may stand in a frame. -/
structure Fits (h : Hd) : Prop where
  bytes : h.bytes
  tag : tagFitsB h = true
  t0 : 0 ≤ h.typ
  t1 : h.typ < 65536
  notag : h.tg = true ∨ h.typ ≠ 33024
  llc : h.llc = decide (h.typ ≤ 1500)
  may : mayBeB h = true
theorem tagN_range {h : Hd} (hf : tagFitsB h = true) (ht : h.tg = true) : 0 ≤ tagN h ∧ tagN h < 65536 ∧ tagN h / 8192 = h.pcp ∧ (tagN h / 4096 % 2 == 1) = h.de ∧ tagN h % 4096 = h.vid := by
  rw [tagFitsB, ht] at hf
  simp at hf
  unfold tagN
  cases h.de <;> simp <;> omega
theorem hdOf_body {h : Hd} (hF : Fits h) (r : List Int) : hdOf (bodyL h r) = h ∧ restOf (bodyL h r) = r := by
  have ht := hF.tag
  have hn := hF.notag
  have hl := hF.llc
  have e1 := n2_digs h.typ hF.t0 hF.t1
  cases hq : h.tg
  · have e0 : tagL h = [] := by unfold tagL; rw [hq]; rfl
    have hne : h.typ ≠ 33024 := by rcases hn with hn | hn; rw [hq] at hn; cases hn; exact hn
    have hb : bodyL h r = h.d0 :: h.d1 :: h.d2 :: h.d3 :: h.d4 :: h.d5 :: h.s0 :: h.s1 :: h.s2 :: h.s3 :: h.s4 :: h.s5 :: (h.typ / 256 % 256) :: (h.typ % 256) :: r := by
      simp [bodyL, Hd.dst, Hd.src, e0, digs2]
    rw [hb]
    constructor
    · simp only [hdOf]
      rw [e1, if_neg hne]
      rw [tagFitsB, hq] at ht
      simp at ht
      obtain ⟨d0, d1, d2, d3, d4, d5, s0, s1, s2, s3, s4, s5, tg, pcp, de, vid, typ, llc⟩ := h
      simp only at ht hq hl
      obtain ⟨h1, h2, h3⟩ := ht
      simp only [hdPlain, Hd.mk.injEq, true_and]
      exact ⟨hq.symm, h1.symm, h3.symm, h2.symm, hl.symm⟩
    · simp only [restOf, isTag, List.getD_cons_zero, List.getD_cons_succ]
      rw [e1, if_neg (by simpa using hne)]
      rfl
  · obtain ⟨k0, k1, k2, k3, k4⟩ := tagN_range ht hq
    have e0 : tagL h = [129, 0, tagN h / 256 % 256, tagN h % 256] := by
      unfold tagL; rw [hq, if_pos rfl, digs2, digs2]; rfl
    have e2 := n2_digs (tagN h) k0 k1
    have hb : bodyL h r = h.d0 :: h.d1 :: h.d2 :: h.d3 :: h.d4 :: h.d5 :: h.s0 :: h.s1 :: h.s2 :: h.s3 :: h.s4 :: h.s5 :: 129 :: 0 :: (tagN h / 256 % 256) :: (tagN h % 256) :: (h.typ / 256 % 256) :: (h.typ % 256) :: r := by
      simp [bodyL, Hd.dst, Hd.src, e0, digs2]
    rw [hb]
    constructor
    · simp only [hdOf, List.getD_cons_zero, List.getD_cons_succ]
      rw [if_pos (by decide), e1, e2]
      simp only [Hd.typed, Hd.tagged, hdPlain]
      rw [k2, k3, k4, ← hl, ← hq]
    · simp only [restOf, isTag, List.getD_cons_zero, List.getD_cons_succ]
      rw [if_pos (by decide)]
      rfl
theorem sealL_take (b : List Int) : (sealL b).take ((sealL b).length - 4) = b := by
  rw [sealL_length]
  unfold sealL
  rw [List.take_append_of_le_length (by omega), List.take_of_length_le (by omega)]
/-- A frame is read as it was built. -/
theorem parsed_build {h : Hd} (hF : Fits h) (r : List Int) (hm : 14 + (tagL h).length + r.length + 4 ≤ (if h.tg then 1522 else 1518)) (hp : payN h (r ++ List.replicate (padN h r) 0) ≤ r.length + padN h r) :
    Good (buildL h r) ∧ parsed (buildL h r) = (h, (r ++ List.replicate (padN h r) 0).take (payN h (r ++ List.replicate (padN h r) 0)), 0) := by
  have hlen : (buildL h r).length = max (14 + (tagL h).length + r.length) 60 + 4 := by
    unfold buildL
    rw [sealL_length, pad60_length, bodyL_length]
  have ht : (buildL h r).take ((buildL h r).length - 4) = bodyL h (r ++ List.replicate (padN h r) 0) := by
    unfold buildL
    rw [sealL_take, pad_body]
  obtain ⟨e1, e2⟩ := hdOf_body hF (r ++ List.replicate (padN h r) 0)
  have hg : Good (buildL h r) := by
    refine parsed_of (by omega) ?_ ?_ ?_ ?_
    · rw [ht, e1, hlen]
      cases hq : h.tg <;> rw [hq] at hm <;> simp at hm ⊢ <;> omega
    · rw [ht]; unfold buildL; rw [pad_body]
    · rw [ht, e1]; exact hF.may
    · rw [ht, e1, e2]; simpa using hp
  refine ⟨hg, ?_⟩
  rw [hg.is, ht, e1, e2]

theorem fits_of_check {h : Hd} {n : Int} (hB : h.bytes) (hE : checkE h n = 0) : Fits h ∧ 0 ≤ n ∧ n ≤ 1500 ∧ (h.llc = true → h.typ = n) := by
  have ht := checkE_tag hE
  unfold checkE at hE
  by_cases h1 : n < 0 ∨ 1500 < n
  · rw [if_pos h1] at hE; cases hE
  rw [if_neg h1, if_neg (by simp [ht])] at hE
  by_cases h2 : h.s0 % 2 = 1 ∨ typeFitsB h n = false
  · rw [if_pos h2] at hE; cases hE
  obtain ⟨h3, h4⟩ := not_or.1 h2
  have h5 : typeFitsB h n = true := by simpa using h4
  have hv : h.vid ≤ 4094 := by
    rw [tagFitsB] at ht
    cases hq : h.tg <;> rw [hq] at ht <;> simp at ht <;> omega
  rw [typeFitsB] at h5
  cases hl : h.llc
  · rw [hl] at h5
    simp at h5
    refine ⟨⟨hB, ht, by omega, by omega, ?_, by rw [hl]; symm; simp; omega, ?_⟩, by omega, by omega, fun h => by cases h⟩
    · rcases h5.2.2 with h6 | h6
      · exact .inl h6
      · exact .inr h6
    · unfold mayBeB
      rw [hl]
      simp
      omega
  · rw [hl] at h5
    simp at h5
    refine ⟨⟨hB, ht, by omega, by omega, .inr (by omega), by rw [hl]; symm; simp; omega, ?_⟩, by omega, by omega, fun _ => h5⟩
    unfold mayBeB
    rw [hl]
    simp
    omega
/-- What Parse answers of what Build answers. -/
theorem parsed_of_check {h : Hd} {l : List Int} (hB : h.bytes) (hE : checkE h l.length = 0) : Good (buildL h l) ∧ parsed (buildL h l) = (h, if h.llc then l else l ++ List.replicate (padN h l) 0, 0) := by
  obtain ⟨hF, _, h1, h2⟩ := fits_of_check hB hE
  have hm : 14 + (tagL h).length + l.length + 4 ≤ (if h.tg then 1522 else 1518) := by
    rw [tagL_len]
    cases h.tg <;> simp <;> omega
  cases hl : h.llc
  · have hp : payN h (l ++ List.replicate (padN h l) 0) = l.length + padN h l := by rw [payN, hl]; simp
    have := parsed_build hF l hm (by omega)
    rw [hp, List.take_of_length_le (by simp)] at this
    exact this
  · have hp : payN h (l ++ List.replicate (padN h l) 0) = l.length := by
      rw [payN, hl]
      have := h2 hl
      simp
      omega
    have := parsed_build hF l hm (by omega)
    rw [hp, List.take_append_of_le_length (by omega), List.take_of_length_le (by omega)] at this
    exact this

/-- Bytes that are long enough are what their header tells, and what is behind. -/
theorem body_shape {b : List Int} (hb : Byte b) (hl : 18 ≤ b.length) : b = bodyL (hdOf b) (restOf b) := by
  obtain ⟨a0, a1, a2, a3, a4, a5, a6, a7, a8, a9, a10, a11, a12, a13, a14, a15, a16, a17, r, rfl⟩ := list14 b hl
  have q12 := hb a12 (by simp)
  have q13 := hb a13 (by simp)
  have q14 := hb a14 (by simp)
  have q15 := hb a15 (by simp)
  have q16 := hb a16 (by simp)
  have q17 := hb a17 (by simp)
  have back : ∀ x y : Int, (0 ≤ x ∧ x ≤ 255) → (0 ≤ y ∧ y ≤ 255) → digs (n2 x y) 2 = [x, y] := by
    intro x y hx hy
    rw [digs2]
    unfold n2
    simp
    omega
  by_cases hn : n2 a12 a13 = 33024
  · have hH : hdOf (a0 :: a1 :: a2 :: a3 :: a4 :: a5 :: a6 :: a7 :: a8 :: a9 :: a10 :: a11 :: a12 :: a13 :: a14 :: a15 :: a16 :: a17 :: r) = ((hdPlain a0 a1 a2 a3 a4 a5 a6 a7 a8 a9 a10 a11 0).tagged (n2 a14 a15)).typed (n2 a16 a17) := by
      simp only [hdOf, if_pos hn, List.getD_cons_zero, List.getD_cons_succ]
    have hR : restOf (a0 :: a1 :: a2 :: a3 :: a4 :: a5 :: a6 :: a7 :: a8 :: a9 :: a10 :: a11 :: a12 :: a13 :: a14 :: a15 :: a16 :: a17 :: r) = r := by
      simp [restOf, isTag, hn]
    have hT : tagN (((hdPlain a0 a1 a2 a3 a4 a5 a6 a7 a8 a9 a10 a11 0).tagged (n2 a14 a15)).typed (n2 a16 a17)) = n2 a14 a15 := by
      simp only [tagN, Hd.typed, Hd.tagged, hdPlain]
      unfold n2
      by_cases hq : (a14 * 256 + a15) / 4096 % 2 = 1
      · simp only [hq]; simp; omega
      · have hq' : ((a14 * 256 + a15) / 4096 % 2 == 1) = false := by simpa using hq
        simp only [hq']; simp; omega
    rw [hH, hR]
    simp only [bodyL, tagL, hT]
    rw [if_pos (show (((hdPlain a0 a1 a2 a3 a4 a5 a6 a7 a8 a9 a10 a11 0).tagged (n2 a14 a15)).typed (n2 a16 a17)).tg = true from rfl), ← hn, back a12 a13 q12 q13, back a14 a15 q14 q15]
    have e : digs (((hdPlain a0 a1 a2 a3 a4 a5 a6 a7 a8 a9 a10 a11 0).tagged (n2 a14 a15)).typed (n2 a16 a17)).typ 2 = [a16, a17] := back a16 a17 q16 q17
    rw [e]
    rfl
  · have hH : hdOf (a0 :: a1 :: a2 :: a3 :: a4 :: a5 :: a6 :: a7 :: a8 :: a9 :: a10 :: a11 :: a12 :: a13 :: a14 :: a15 :: a16 :: a17 :: r) = hdPlain a0 a1 a2 a3 a4 a5 a6 a7 a8 a9 a10 a11 (n2 a12 a13) := by
      simp only [hdOf, if_neg hn]
    have hR : restOf (a0 :: a1 :: a2 :: a3 :: a4 :: a5 :: a6 :: a7 :: a8 :: a9 :: a10 :: a11 :: a12 :: a13 :: a14 :: a15 :: a16 :: a17 :: r) = a14 :: a15 :: a16 :: a17 :: r := by
      simp [restOf, isTag, hn]
    rw [hH, hR]
    simp only [bodyL, tagL]
    have e : digs (hdPlain a0 a1 a2 a3 a4 a5 a6 a7 a8 a9 a10 a11 (n2 a12 a13)).typ 2 = [a12, a13] := back a12 a13 q12 q13
    rw [e]
    rfl
theorem fits_of_body {b : List Int} (hb : Byte b) (hl : 18 ≤ b.length) (hm : mayBeB (hdOf b) = true) : Fits (hdOf b) := by
  have ht := hdOf_tag b hb hm
  obtain ⟨a0, a1, a2, a3, a4, a5, a6, a7, a8, a9, a10, a11, a12, a13, a14, a15, a16, a17, r, rfl⟩ := list14 b hl
  have q12 := hb a12 (by simp)
  have q13 := hb a13 (by simp)
  have q16 := hb a16 (by simp)
  have q17 := hb a17 (by simp)
  have hby : ∀ h : Hd, h.dst = [a0, a1, a2, a3, a4, a5] → h.src = [a6, a7, a8, a9, a10, a11] → h.bytes := fun h e1 e2 => ⟨by rw [e1]; intro z hz; exact hb z (by simp at hz ⊢; rcases hz with rfl | rfl | rfl | rfl | rfl | rfl <;> simp), by rw [e2]; intro z hz; exact hb z (by simp at hz ⊢; rcases hz with rfl | rfl | rfl | rfl | rfl | rfl <;> simp)⟩
  by_cases hn : n2 a12 a13 = 33024
  · have hH : hdOf (a0 :: a1 :: a2 :: a3 :: a4 :: a5 :: a6 :: a7 :: a8 :: a9 :: a10 :: a11 :: a12 :: a13 :: a14 :: a15 :: a16 :: a17 :: r) = ((hdPlain a0 a1 a2 a3 a4 a5 a6 a7 a8 a9 a10 a11 0).tagged (n2 a14 a15)).typed (n2 a16 a17) := by
      simp only [hdOf, if_pos hn, List.getD_cons_zero, List.getD_cons_succ]
    rw [hH] at hm ht ⊢
    exact ⟨hby _ rfl rfl, ht, by show 0 ≤ n2 a16 a17; unfold n2; omega, by show n2 a16 a17 < 65536; unfold n2; omega, .inl rfl, rfl, hm⟩
  · have hH : hdOf (a0 :: a1 :: a2 :: a3 :: a4 :: a5 :: a6 :: a7 :: a8 :: a9 :: a10 :: a11 :: a12 :: a13 :: a14 :: a15 :: a16 :: a17 :: r) = hdPlain a0 a1 a2 a3 a4 a5 a6 a7 a8 a9 a10 a11 (n2 a12 a13) := by
      simp only [hdOf, if_neg hn]
    rw [hH] at hm ht ⊢
    exact ⟨hby _ rfl rfl, ht, by show 0 ≤ n2 a12 a13; unfold n2; omega, by show n2 a12 a13 < 65536; unfold n2; omega, .inr hn, rfl, hm⟩
/-- A header with another tag. -/
@[reducible] def Hd.retag (h : Hd) (tg : Bool) (p : Int) (de : Bool) (v : Int) : Hd := { h with tg := tg, pcp := p, de := de, vid := v }
theorem fits_retag {h : Hd} (hF : Fits h) (tg : Bool) (p : Int) (de : Bool) (v : Int) (hE : checkE (withTag h tg p de v) 0 = 0) (hn : tg = true ∨ h.typ ≠ 33024) : Fits (h.retag tg p de v) := by
  have ht0 := checkE_tag hE
  have ht : tagFitsB (h.retag tg p de v) = true := ht0
  refine ⟨hF.bytes, ht, hF.t0, hF.t1, hn, hF.llc, ?_⟩
  have hm := hF.may
  have hv : v ≤ 4094 := by
    rw [tagFitsB] at ht
    cases hq : tg <;> rw [hq] at ht <;> simp at ht <;> omega
  unfold mayBeB at hm ⊢
  simp at hm ⊢
  exact ⟨hm.1, hv, hm.2.2⟩
theorem retag_build {l : List Int} (hb : Byte l) (hG : Good l) (tg : Bool) (p : Int) (de : Bool) (v : Int) : retagL l tg p de v = buildL ((hdOf (l.take (l.length - 4))).retag tg p de v) (restOf (l.take (l.length - 4))) := by
  have hl := hG.least
  have hlb : (l.take (l.length - 4)).length = l.length - 4 := by simp
  have hs := body_shape (hb.take (l.length - 4)) (by omega)
  have hlen := bodyL_length (hdOf (l.take (l.length - 4))) (restOf (l.take (l.length - 4)))
  rw [← hs, hlb] at hlen
  have htl := tagL_length (hdOf (l.take (l.length - 4)))
  have e1 : l.take 12 = (l.take (l.length - 4)).take 12 := by rw [List.take_take, Nat.min_eq_left (by omega)]
  have e2 : (l.drop (12 + (tagL (hdOf (l.take (l.length - 4)))).length)).take (l.length - 4 - (12 + (tagL (hdOf (l.take (l.length - 4)))).length)) = (l.take (l.length - 4)).drop (12 + (tagL (hdOf (l.take (l.length - 4)))).length) := by
    rw [List.drop_take]
  unfold retagL buildL
  rw [e1, e2]
  generalize l.take (l.length - 4) = b at *
  have f1 : b.take 12 = (hdOf b).dst ++ (hdOf b).src := by
    have hs' : b = ((hdOf b).dst ++ (hdOf b).src) ++ (tagL (hdOf b) ++ (digs (hdOf b).typ 2 ++ restOf b)) := hs.trans (by simp [bodyL])
    exact (congrArg (List.take 12) hs').trans (by rw [List.take_append_of_le_length (by simp [Hd.dst, Hd.src]), List.take_of_length_le (by simp [Hd.dst, Hd.src])])
  have f2 : b.drop (12 + (tagL (hdOf b)).length) = digs (hdOf b).typ 2 ++ restOf b := by
    have hs' : b = ((hdOf b).dst ++ (hdOf b).src ++ tagL (hdOf b)) ++ (digs (hdOf b).typ 2 ++ restOf b) := hs.trans (by simp [bodyL])
    have hk : ((hdOf b).dst ++ (hdOf b).src ++ tagL (hdOf b)).length = 12 + (tagL (hdOf b)).length := by simp [Hd.dst, Hd.src]; omega
    exact (congrArg (List.drop (12 + (tagL (hdOf b)).length)) hs').trans (by rw [← hk, List.drop_left])
  rw [f1, f2, List.append_assoc]
  rfl
/-- What Parse answers of a frame with another tag. -/
theorem parsed_retag {l : List Int} (hb : Byte l) (hG : Good l) (tg : Bool) (p : Int) (de : Bool) (v : Int) (hE : checkE (withTag (hdOf (l.take (l.length - 4))) tg p de v) 0 = 0) (hn : tg = true ∨ (hdOf (l.take (l.length - 4))).typ ≠ 33024) :
    ∃ k, Good (retagL l tg p de v) ∧ parsed (retagL l tg p de v) = ((hdOf (l.take (l.length - 4))).retag tg p de v, (restOf (l.take (l.length - 4)) ++ List.replicate k 0).take (if (hdOf (l.take (l.length - 4))).llc then (hdOf (l.take (l.length - 4))).typ.toNat else (restOf (l.take (l.length - 4))).length + k), 0) := by
  have hl := hG.least
  have hmo := hG.most
  have hpay := hG.pay
  have hlb : (l.take (l.length - 4)).length = l.length - 4 := by simp
  have hF := fits_of_body (hb.take (l.length - 4)) (by omega) hG.may
  have hs := body_shape (hb.take (l.length - 4)) (by omega)
  have hlen := bodyL_length (hdOf (l.take (l.length - 4))) (restOf (l.take (l.length - 4)))
  rw [← hs, hlb] at hlen
  rw [retag_build hb hG]
  have htl := tagL_len (hdOf (l.take (l.length - 4)))
  generalize l.take (l.length - 4) = b at *
  have hF' := fits_retag hF tg p de v hE hn
  have htl' := tagL_len ((hdOf b).retag tg p de v)
  refine ⟨padN ((hdOf b).retag tg p de v) (restOf b), ?_⟩
  have hpn : payN ((hdOf b).retag tg p de v) (restOf b ++ List.replicate (padN ((hdOf b).retag tg p de v) (restOf b)) 0) = if (hdOf b).llc then (hdOf b).typ.toNat else (restOf b).length + padN ((hdOf b).retag tg p de v) (restOf b) := by
    unfold payN
    simp
  have := parsed_build hF' (restOf b) (by
    rw [htl']
    cases hq : (hdOf b).tg <;> rw [hq] at hmo htl <;> cases tg <;> simp at hmo htl ⊢ <;> omega) (by
    rw [hpn]
    unfold payN at hpay
    cases hq : (hdOf b).llc <;> rw [hq] at hpay <;> simp at hpay ⊢ <;> omega)
  rw [hpn] at this
  exact this
end Go.Proofs.YtiahiakllpjliaaDoor
