/-
  A contract of the document's own Parse of frames, where the sum is right. Conditions: those that each theorem names.
-/
import Derived.Test.YtiimppbfigikfaaDoorRf1
namespace Go.Proofs.YtiimppbfigikfaaDoor
open Go.RowKit
set_option linter.unusedVariables false

/-- A header whose addresses have their first j bytes. -/
def hdJ (l : List Int) (j : Nat) : Hd := ⟨if 0 < j then l.getD 0 0 else 0, if 1 < j then l.getD 1 0 else 0, if 2 < j then l.getD 2 0 else 0, if 3 < j then l.getD 3 0 else 0, if 4 < j then l.getD 4 0 else 0, if 5 < j then l.getD 5 0 else 0, if 0 < j then l.getD 6 0 else 0, if 1 < j then l.getD 7 0 else 0, if 2 < j then l.getD 8 0 else 0, if 3 < j then l.getD 9 0 else 0, if 4 < j then l.getD 10 0 else 0, if 5 < j then l.getD 11 0 else 0, false, 0, false, 0, 0, false⟩
theorem hdJ_step (l : List Int) (j : Nat) (h : j < 6) : ((hdJ l j).row.setIfInBounds j (.int .u8 (l.getD j 0))).setIfInBounds (6 + j) (.int .u8 (l.getD (6 + j) 0)) = (hdJ l (j + 1)).row := by
  rcases (show j = 0 ∨ j = 1 ∨ j = 2 ∨ j = 3 ∨ j = 4 ∨ j = 5 by omega) with rfl | rfl | rfl | rfl | rfl | rfl <;> rfl
theorem hdJ_cell (l : List Int) (j : Nat) (h : j < 12) (k : Nat) : ∃ x, (hdJ l k).row[j]? = some (.int .u8 x) := by
  rcases (show j = 0 ∨ j = 1 ∨ j = 2 ∨ j = 3 ∨ j = 4 ∨ j = 5 ∨ j = 6 ∨ j = 7 ∨ j = 8 ∨ j = 9 ∨ j = 10 ∨ j = 11 by omega) with rfl | rfl | rfl | rfl | rfl | rfl | rfl | rfl | rfl | rfl | rfl | rfl <;> exact ⟨_, rfl⟩
theorem Bs.lenB' {w : World} {a : Option Addr} {n c : Nat} {l : List Int} (h : Bs w (.slice a n c) l) : n = l.length := by
  obtain ⟨_, _, _, e, _⟩ := h
  simp only [Value.slice.injEq] at e
  exact e.2.1
theorem Bs.pieceOf {w : World} {b off n cap : Nat} {l : List Int} (h : Bs w (.slice (some ⟨b, off, none⟩) n cap) l) (lo hi : Nat) (h1 : lo ≤ hi) (h2 : hi ≤ l.length) : Bs w (.slice (some ⟨b, off + lo, none⟩) (hi - lo) (cap - lo)) ((l.drop lo).take (hi - lo)) := by
  obtain ⟨h0, a, c, e, h3, h4, h5, h6⟩ := h
  simp only [Value.slice.injEq] at e
  obtain ⟨rfl, rfl, rfl⟩ := e
  refine Bs.piece h0 h3 h4 (fun i hi' => ?_) lo hi h1 h2
  obtain ⟨b', off', e, hc⟩ := h6 i hi'
  simp only [Option.some.injEq, Addr.mk.injEq, and_true] at e
  obtain ⟨rfl, rfl⟩ := e
  exact hc
/-- What is left to tell, when the header stands. -/
def fin (H : Hd) (R : List Int) : Hd × List Int × Int := if mayBeB H = false ∨ R.length < payN H R then (Hd.zero, [], 4) else (H, R.take (payN H R), 0)
theorem fin_odd {H : Hd} {R : List Int} (h : H.s0 % 2 = 1) : fin H R = (Hd.zero, [], 4) := by
  unfold fin
  rw [if_pos (.inl (by unfold mayBeB; exact decide_eq_false (by omega)))]
theorem fin_vid {H : Hd} {R : List Int} (h : H.vid = 4095) : fin H R = (Hd.zero, [], 4) := by
  unfold fin
  rw [if_pos (.inl (by unfold mayBeB; exact decide_eq_false (by omega)))]
theorem fin_type {H : Hd} {R : List Int} (h : ¬ H.s0 % 2 = 1) (hv : H.vid ≤ 4094) (ht : 1536 ≤ H.typ) (hl : H.llc = false) : fin H R = (H, R, 0) := by
  have e : payN H R = R.length := by unfold payN; rw [hl]; rfl
  unfold fin
  rw [e, if_neg, List.take_length]
  rw [show mayBeB H = true from decide_eq_true ⟨h, hv, .inr ht⟩]
  simp
theorem fin_gap {H : Hd} {R : List Int} (ht : ¬ 1536 ≤ H.typ) (hl : H.llc = false) : fin H R = (Hd.zero, [], 4) := by
  unfold fin
  rw [if_pos (.inl (by unfold mayBeB; exact decide_eq_false (by rw [hl]; simp; omega)))]
theorem fin_long {H : Hd} {R : List Int} (hl : H.llc = true) (h : (R.length : Int) < H.typ) : fin H R = (Hd.zero, [], 4) := by
  unfold fin
  rw [if_pos (.inr (by unfold payN; rw [hl, if_pos rfl]; omega))]
theorem fin_llc {H : Hd} {R : List Int} (h : ¬ H.s0 % 2 = 1) (hv : H.vid ≤ 4094) (hl : H.llc = true) (h0 : 0 ≤ H.typ) (ht : H.typ ≤ R.length) : fin H R = (H, R.take H.typ.toNat, 0) := by
  have e : payN H R = H.typ.toNat := by unfold payN; rw [hl]; rfl
  unfold fin
  rw [e, if_neg]
  rw [show mayBeB H = true from decide_eq_true ⟨h, hv, .inl hl⟩]
  simp
  omega
theorem take18 (a0 a1 a2 a3 a4 a5 a6 a7 a8 a9 a10 a11 a12 a13 a14 a15 a16 a17 : Int) (r : List Int) (h : 4 ≤ r.length) : (a0 :: a1 :: a2 :: a3 :: a4 :: a5 :: a6 :: a7 :: a8 :: a9 :: a10 :: a11 :: a12 :: a13 :: a14 :: a15 :: a16 :: a17 :: r).take ((a0 :: a1 :: a2 :: a3 :: a4 :: a5 :: a6 :: a7 :: a8 :: a9 :: a10 :: a11 :: a12 :: a13 :: a14 :: a15 :: a16 :: a17 :: r).length - 4) = a0 :: a1 :: a2 :: a3 :: a4 :: a5 :: a6 :: a7 :: a8 :: a9 :: a10 :: a11 :: a12 :: a13 :: a14 :: a15 :: a16 :: a17 :: r.take (r.length - 4) := by
  have e : (a0 :: a1 :: a2 :: a3 :: a4 :: a5 :: a6 :: a7 :: a8 :: a9 :: a10 :: a11 :: a12 :: a13 :: a14 :: a15 :: a16 :: a17 :: r).length - 4 = (r.length - 4) + 18 := by simp; omega
  rw [e]
  rfl
theorem parsed_tag (a0 a1 a2 a3 a4 a5 a6 a7 a8 a9 a10 a11 a12 a13 a14 a15 a16 a17 : Int) (r : List Int) (h1 : 64 ≤ (a0 :: a1 :: a2 :: a3 :: a4 :: a5 :: a6 :: a7 :: a8 :: a9 :: a10 :: a11 :: a12 :: a13 :: a14 :: a15 :: a16 :: a17 :: r).length) (h2 : (a0 :: a1 :: a2 :: a3 :: a4 :: a5 :: a6 :: a7 :: a8 :: a9 :: a10 :: a11 :: a12 :: a13 :: a14 :: a15 :: a16 :: a17 :: r).length ≤ 1522) (hs : sealL ((a0 :: a1 :: a2 :: a3 :: a4 :: a5 :: a6 :: a7 :: a8 :: a9 :: a10 :: a11 :: a12 :: a13 :: a14 :: a15 :: a16 :: a17 :: r).take ((a0 :: a1 :: a2 :: a3 :: a4 :: a5 :: a6 :: a7 :: a8 :: a9 :: a10 :: a11 :: a12 :: a13 :: a14 :: a15 :: a16 :: a17 :: r).length - 4)) = a0 :: a1 :: a2 :: a3 :: a4 :: a5 :: a6 :: a7 :: a8 :: a9 :: a10 :: a11 :: a12 :: a13 :: a14 :: a15 :: a16 :: a17 :: r) (hT : n2 a12 a13 = 33024) :
    parsed (a0 :: a1 :: a2 :: a3 :: a4 :: a5 :: a6 :: a7 :: a8 :: a9 :: a10 :: a11 :: a12 :: a13 :: a14 :: a15 :: a16 :: a17 :: r) = fin (Hd.mk a0 a1 a2 a3 a4 a5 a6 a7 a8 a9 a10 a11 true (n2 a14 a15 / 8192) (n2 a14 a15 / 4096 % 2 == 1) (n2 a14 a15 % 4096) (n2 a16 a17) (decide (n2 a16 a17 ≤ 1500))) (r.take (r.length - 4)) := by
  have e := take18 a0 a1 a2 a3 a4 a5 a6 a7 a8 a9 a10 a11 a12 a13 a14 a15 a16 a17 r (by simp at h1; omega)
  have e1 : hdOf (a0 :: a1 :: a2 :: a3 :: a4 :: a5 :: a6 :: a7 :: a8 :: a9 :: a10 :: a11 :: a12 :: a13 :: a14 :: a15 :: a16 :: a17 :: r.take (r.length - 4)) = Hd.mk a0 a1 a2 a3 a4 a5 a6 a7 a8 a9 a10 a11 true (n2 a14 a15 / 8192) (n2 a14 a15 / 4096 % 2 == 1) (n2 a14 a15 % 4096) (n2 a16 a17) (decide (n2 a16 a17 ≤ 1500)) := by
    simp only [hdOf, if_pos hT, List.getD_cons_zero, List.getD_cons_succ]
    rfl
  have e2 : restOf (a0 :: a1 :: a2 :: a3 :: a4 :: a5 :: a6 :: a7 :: a8 :: a9 :: a10 :: a11 :: a12 :: a13 :: a14 :: a15 :: a16 :: a17 :: r.take (r.length - 4)) = r.take (r.length - 4) := by
    simp [restOf, isTag, hT]
  unfold parsed
  rw [if_neg (by omega), if_neg (by omega), if_neg (by simpa using hs), e, e1, e2, if_neg (by simp only [if_true]; omega)]
  rfl
theorem parsed_plain (a0 a1 a2 a3 a4 a5 a6 a7 a8 a9 a10 a11 a12 a13 a14 a15 a16 a17 : Int) (r : List Int) (h1 : 64 ≤ (a0 :: a1 :: a2 :: a3 :: a4 :: a5 :: a6 :: a7 :: a8 :: a9 :: a10 :: a11 :: a12 :: a13 :: a14 :: a15 :: a16 :: a17 :: r).length) (h2 : (a0 :: a1 :: a2 :: a3 :: a4 :: a5 :: a6 :: a7 :: a8 :: a9 :: a10 :: a11 :: a12 :: a13 :: a14 :: a15 :: a16 :: a17 :: r).length ≤ 1522) (hs : sealL ((a0 :: a1 :: a2 :: a3 :: a4 :: a5 :: a6 :: a7 :: a8 :: a9 :: a10 :: a11 :: a12 :: a13 :: a14 :: a15 :: a16 :: a17 :: r).take ((a0 :: a1 :: a2 :: a3 :: a4 :: a5 :: a6 :: a7 :: a8 :: a9 :: a10 :: a11 :: a12 :: a13 :: a14 :: a15 :: a16 :: a17 :: r).length - 4)) = a0 :: a1 :: a2 :: a3 :: a4 :: a5 :: a6 :: a7 :: a8 :: a9 :: a10 :: a11 :: a12 :: a13 :: a14 :: a15 :: a16 :: a17 :: r) (hT : ¬ n2 a12 a13 = 33024) :
    parsed (a0 :: a1 :: a2 :: a3 :: a4 :: a5 :: a6 :: a7 :: a8 :: a9 :: a10 :: a11 :: a12 :: a13 :: a14 :: a15 :: a16 :: a17 :: r) = if 1518 < (a0 :: a1 :: a2 :: a3 :: a4 :: a5 :: a6 :: a7 :: a8 :: a9 :: a10 :: a11 :: a12 :: a13 :: a14 :: a15 :: a16 :: a17 :: r).length then (Hd.zero, [], 3) else fin (Hd.mk a0 a1 a2 a3 a4 a5 a6 a7 a8 a9 a10 a11 false 0 false 0 (n2 a12 a13) (decide (n2 a12 a13 ≤ 1500))) (a14 :: a15 :: a16 :: a17 :: r.take (r.length - 4)) := by
  have e := take18 a0 a1 a2 a3 a4 a5 a6 a7 a8 a9 a10 a11 a12 a13 a14 a15 a16 a17 r (by simp at h1; omega)
  have e1 : hdOf (a0 :: a1 :: a2 :: a3 :: a4 :: a5 :: a6 :: a7 :: a8 :: a9 :: a10 :: a11 :: a12 :: a13 :: a14 :: a15 :: a16 :: a17 :: r.take (r.length - 4)) = Hd.mk a0 a1 a2 a3 a4 a5 a6 a7 a8 a9 a10 a11 false 0 false 0 (n2 a12 a13) (decide (n2 a12 a13 ≤ 1500)) := by
    simp only [hdOf, if_neg hT]
    rfl
  have e2 : restOf (a0 :: a1 :: a2 :: a3 :: a4 :: a5 :: a6 :: a7 :: a8 :: a9 :: a10 :: a11 :: a12 :: a13 :: a14 :: a15 :: a16 :: a17 :: r.take (r.length - 4)) = a14 :: a15 :: a16 :: a17 :: r.take (r.length - 4) := by
    simp [restOf, isTag, hT]
  unfold parsed
  rw [if_neg (by omega), if_neg (by omega), if_neg (by simpa using hs), e, e1, e2]
  simp only [Bool.false_eq_true, if_false]
  rfl
set_option maxRecDepth 20000 in
set_option maxHeartbeats 4000000 in
theorem RP_loop {w : World} {b off cap len : Nat} {l : List Int} (hv : Bs w (.slice (some ⟨b, off, none⟩) len cap) l) (h64 : 64 ≤ len) (h15 : len ≤ 1522) (hs : sealL (l.take (l.length - 4)) = l) (PL : Hd × List Int × Int) (hPL : PL = parsed l) :
    Calls Tryd.prog 20 #[.slice (some ⟨b, off, none⟩) len cap] w fun e w' => ∃ a n c, e = .returned (.tuple #[.agg PL.1.row, .slice a n c, .int .i64 PL.2.2]) ∧ Bs w' (.slice a n c) PL.2.1 ∧ Below w.heap.size w w' := by
  have HPL := hide hPL
  clear hPL
  have hlen : len = l.length := by obtain ⟨_, _, _, e, _⟩ := hv; simp only [Value.slice.injEq] at e; exact e.2.1
  have hR := hide (fun w (h : Bs w (.slice (some ⟨b, off, none⟩) len cap) l) => Right_any h (by omega) (by omega))
  rw [decide_eq_true hs] at hR
  have hcl : Hid (∀ W i, Bs W (.slice (some ⟨b, off, none⟩) len cap) l → i < len → W.cell? ⟨b, off + i, none⟩ = some (.int .u8 (l.getD i 0))) := fun W i h hi => by
    obtain ⟨_, a, c, e, _, _, _, h6⟩ := h
    simp only [Value.slice.injEq] at e
    obtain ⟨rfl, _, rfl⟩ := e
    obtain ⟨b', off', e, hc⟩ := h6 i (by omega)
    simp only [Option.some.injEq, Addr.mk.injEq, and_true] at e
    obtain ⟨rfl, rfl⟩ := e
    exact hc
  have hcap : len ≤ cap := by
    obtain ⟨_, a, c, e, h3, _⟩ := hv
    simp only [Value.slice.injEq] at e
    obtain ⟨_, _, rfl⟩ := e
    omega
  have hbl : b < w.heap.size := block_lt_of_cell (hcl.out w 0 hv (by omega))
  have HV := hide hv
  have HS := hide hs
  have HL := hide hlen
  have i64 : (64 : Int) ≤ (len : Int) := by omega
  have i15 : (len : Int) ≤ 1522 := by omega
  have icap : (len : Int) ≤ (cap : Int) := by omega
  have hA := heap_alloc_new w (.cells Hd.zero.row 27)
  clear hv hs hlen
  go_enter Tryd.func20, Tryd.ntmps20
  go_wp2_with fail
  refine (hR.out _ (HV.out.below (below1 _ _))).mono ?_
  rintro e w1 ⟨rfl, hb1⟩
  have hA1 := heap_kept hb1 hA
  have hW1 := hide ((below1 w _).later hb1)
  have hz1 : w.heap.size < w1.heap.size := (Array.getElem?_eq_some_iff.1 hA1).1
  clear hb1 hA hR
  go_wp2_with ((with_reducible change wpList _ _ _ _ _ _); refine wpList_store_fresh rfl 27 (.tmp 5) (.tmp 22) rfl Hd.zero.row Hd.zero.row rfl rfl 27 (hdSize _) rfl (Hd.row_all _) ?_; intro w2 hB2 hb2; have hA2 := heap_kept hb2 hA1; have hW2 := hide (hW1.out.later hb2); clear hb2 hA1 hW1)
  have hz2 : w1.heap.size < w2.heap.size := (Array.getElem?_eq_some_iff.1 hB2).1
  go_loopw [6] (fun i wr => ∃ j : Nat, j ≤ 6 ∧ i = .int .i64 j ∧ Hid (wr.heap[w1.heap.size]? = some (.cells (hdJ l j).row 27 (0, 0))) ∧ Hid (wr.heap[w.heap.size]? = some (.cells Hd.zero.row 27 (0, 0))) ∧ Hid (Below w.heap.size w wr)) (fun i _ => 6 - (intOf i).toNat)
  case atStart => exact ⟨0, Nat.zero_le _, rfl, hB2, hA2, hW2⟩
  case round =>
    clear hA2 hW2 hB2 hz2
    obtain ⟨j, hj, rfl, HB, HA, HW⟩ := hrel
    by_cases hlt : j < 6
    · obtain ⟨x, hx⟩ := hdJ_cell l j (by omega) j
      obtain ⟨y, hy⟩ := hdJ_cell l (6 + j) (by omega) j
      have HV1 := HV.out.below HW.out
      have bj := hcl.out wr j HV1 (by omega)
      have b6 := hcl.out wr (6 + j) HV1 (by omega)
      have cj : wr.cell? ⟨w1.heap.size, j, none⟩ = some (.int .u8 x) := by rw [cell_of_row _ _ _ _ _ _ HB.out]; exact hx
      have c6 : wr.cell? ⟨w1.heap.size, 6 + j, none⟩ = some (.int .u8 y) := by rw [cell_of_row _ _ _ _ _ _ HB.out]; exact hy
      have fj := frozen_of_row wr w1.heap.size j _ _ HB.out
      have f6 := frozen_of_row wr w1.heap.size (6 + j) _ _ HB.out
      have hbx := HV.out.byte.getD j
      have hby := HV.out.byte.getD (6 + j)
      obtain ⟨X, hX⟩ : ∃ X, X = l.getD j 0 := ⟨_, rfl⟩
      obtain ⟨Y, hY⟩ : ∃ Y, Y = l.getD (6 + j) 0 := ⟨_, rfl⟩
      rw [← hX] at bj hbx
      rw [← hY] at b6 hby
      have HX := hide hX
      have HY := hide hY
      have hji : (j : Int) < 6 := by omega
      have hjl : j < len := by omega
      have hwr6 : IntKind.i64.wrap ((6 : Int) + (j : Int)) = 6 + (j : Int) := wrap_i64_id _ (by omega) (by omega)
      have htn6 : ((6 : Int) + (j : Int)).toNat = 6 + j := by omega
      have h06 : (0 : Int) ≤ 6 + (j : Int) := by omega
      have hj6 : 6 + j < len := by omega
      have hj6i : (6 : Int) + (j : Int) < (len : Int) := by omega
      have hbne : b ≠ w1.heap.size := by omega
      clear hX hY hx hy HV1
      go_wp2_with fail
      have HB' : Hid (wr.drew.heap[w1.heap.size]? = some (.cells (hdJ l j).row 27 (0, 0))) := HB
      have HA' : Hid (wr.drew.heap[w.heap.size]? = some (.cells Hd.zero.row 27 (0, 0))) := HA
      have HW' : Hid (Below w.heap.size w wr.drew) := below_drewN HW.out 1
      have bj' : wr.drew.cell? ⟨b, off + j, none⟩ = some (.int .u8 X) := bj
      have b6' : wr.drew.cell? ⟨b, off + (6 + j), none⟩ = some (.int .u8 Y) := b6
      have cj' : wr.drew.cell? ⟨w1.heap.size, j, none⟩ = some (.int .u8 x) := cj
      have c6' : wr.drew.cell? ⟨w1.heap.size, 6 + j, none⟩ = some (.int .u8 y) := c6
      have fj' : wr.drew.frozen? ⟨w1.heap.size, j, none⟩ = false := fj
      have f6' : wr.drew.frozen? ⟨w1.heap.size, 6 + j, none⟩ = false := f6
      clear HB HA HW bj b6 cj c6 fj f6
      refine wp_region_noPanic ?_
      refine wp_region_held_drew (S := fun W => W.cell? ⟨b, off + j, none⟩ = some (.int .u8 X) ∧ W.cell? ⟨b, off + (6 + j), none⟩ = some (.int .u8 Y)) (by kernel_rfl) ⟨bj', b6'⟩ (fun hHeld => ?_)
      generalize hwd : wr.drew = wd at *
      refine wpAnyH_take (i := 0) (oi := { dst := some 27, op := Op.move (Operand.tmp 6), type := 3, pos := "ref.go:43", after := #[], guard := none }) (v := ?v1) rfl (by kernel_rfl) (by kernel_rfl) (by kernel_rfl) (fun _ _ _ h => h) (Or.inl ⟨by rfl, ?y1⟩) (by assumption) ?r1
      case y1 => (intro w hSw; (try dsimp only at hSw); (try (go_split_ands)); go_simp; try with_reducible rfl)
      try simp only [Act.put, List.setIfInBounds_toArray, List.set_cons_zero, List.set_cons_succ]
      refine wpAnyH_take (i := 1) (oi := { dst := some 28, op := Op.move (Operand.tmp 6), type := 3, pos := "ref.go:43", after := #[{ on := 13, ground := Ground.gcOnly Departure.lateStores }], guard := none }) (v := ?v2) rfl (by kernel_rfl) (by kernel_rfl) (by kernel_rfl) (fun _ _ _ h => h) (Or.inl ⟨by rfl, ?y2⟩) (by assumption) ?r2
      case y2 => (intro w hSw; (try dsimp only at hSw); (try (go_split_ands)); go_simp; try with_reducible rfl)
      try simp only [Act.put, List.setIfInBounds_toArray, List.set_cons_zero, List.set_cons_succ]
      refine wpAnyH_take (i := 2) (oi := { dst := some 29, op := Op.move (Operand.tmp 0), type := 22, pos := "ref.go:43", after := #[], guard := none }) (v := ?v3) rfl (by kernel_rfl) (by kernel_rfl) (by kernel_rfl) (fun _ _ _ h => h) (Or.inl ⟨by rfl, ?y3⟩) (by assumption) ?r3
      case y3 => (intro w hSw; (try dsimp only at hSw); (try (go_split_ands)); go_simp; try with_reducible rfl)
      try simp only [Act.put, List.setIfInBounds_toArray, List.set_cons_zero, List.set_cons_succ]
      refine wpAnyH_take (i := 3) (oi := { dst := some 30, op := Op.move (Operand.tmp 6), type := 3, pos := "ref.go:43", after := #[], guard := none }) (v := ?v4) rfl (by kernel_rfl) (by kernel_rfl) (by kernel_rfl) (fun _ _ _ h => h) (Or.inl ⟨by rfl, ?y4⟩) (by assumption) ?r4
      case y4 => (intro w hSw; (try dsimp only at hSw); (try (go_split_ands)); go_simp; try with_reducible rfl)
      try simp only [Act.put, List.setIfInBounds_toArray, List.set_cons_zero, List.set_cons_succ]
      refine wpAnyH_take (i := 4) (oi := { dst := some 31, op := Op.indexAddr 22 (Operand.tmp 29) (Operand.tmp 30), type := 0, pos := "ref.go:43", after := #[{ on := 2, ground := Ground.data }, { on := 3, ground := Ground.data }], guard := none }) (v := ?v5) rfl (by kernel_rfl) (by kernel_rfl) (by kernel_rfl) (fun _ _ _ h => h) (Or.inl ⟨by rfl, ?y5⟩) (by assumption) ?r5
      case y5 => (intro w hSw; (try dsimp only at hSw); (try (go_split_ands)); go_simp; try with_reducible rfl)
      try simp only [Act.put, List.setIfInBounds_toArray, List.set_cons_zero, List.set_cons_succ]
      refine wpAnyH_take (i := 5) (oi := { dst := some 32, op := Op.load 5 (Operand.tmp 31), type := 5, pos := "ref.go:43", after := #[{ on := 4, ground := Ground.data }], guard := none }) (v := ?v6) rfl (by kernel_rfl) (by kernel_rfl) (by kernel_rfl) (fun _ _ _ h => h) (Or.inl ⟨by rfl, ?y6⟩) (by assumption) ?r6
      case y6 => (intro w hSw; (try dsimp only at hSw); (try (go_split_ands)); go_simp; try with_reducible rfl)
      try simp only [Act.put, List.setIfInBounds_toArray, List.set_cons_zero, List.set_cons_succ]
      refine wpAnyH_take (i := 6) (oi := { dst := some 33, op := Op.move (Operand.tmp 0), type := 22, pos := "ref.go:43", after := #[{ on := 13, ground := Ground.gcOnly Departure.lateStores }], guard := none }) (v := ?v7) rfl (by kernel_rfl) (by kernel_rfl) (by kernel_rfl) (fun _ _ _ h => h) (Or.inl ⟨by rfl, ?y7⟩) (by assumption) ?r7
      case y7 => (intro w hSw; (try dsimp only at hSw); (try (go_split_ands)); go_simp; try with_reducible rfl)
      try simp only [Act.put, List.setIfInBounds_toArray, List.set_cons_zero, List.set_cons_succ]
      refine wpAnyH_take (i := 7) (oi := { dst := some 34, op := Op.move (Operand.tmp 6), type := 3, pos := "ref.go:43", after := #[{ on := 13, ground := Ground.gcOnly Departure.lateStores }], guard := none }) (v := ?v8) rfl (by kernel_rfl) (by kernel_rfl) (by kernel_rfl) (fun _ _ _ h => h) (Or.inl ⟨by rfl, ?y8⟩) (by assumption) ?r8
      case y8 => (intro w hSw; (try dsimp only at hSw); (try (go_split_ands)); go_simp; try with_reducible rfl)
      try simp only [Act.put, List.setIfInBounds_toArray, List.set_cons_zero, List.set_cons_succ]
      refine wpAnyH_take (i := 8) (oi := { dst := some 35, op := Op.binOp BinOp.add 3 (Operand.const (Value.int IntKind.i64 6)) (Operand.tmp 34) 3, type := 3, pos := "ref.go:43", after := #[{ on := 7, ground := Ground.data }, { on := 13, ground := Ground.gcOnly Departure.lateStores }], guard := none }) (v := ?v9) rfl (by kernel_rfl) (by kernel_rfl) (by kernel_rfl) (fun _ _ _ h => h) (Or.inl ⟨by rfl, ?y9⟩) (by assumption) ?r9
      case y9 => (intro w hSw; (try dsimp only at hSw); (try (go_split_ands)); go_simp; try with_reducible rfl)
      try simp only [Act.put, List.setIfInBounds_toArray, List.set_cons_zero, List.set_cons_succ]
      refine wpAnyH_take (i := 9) (oi := { dst := some 36, op := Op.indexAddr 22 (Operand.tmp 33) (Operand.tmp 35), type := 0, pos := "ref.go:43", after := #[{ on := 6, ground := Ground.data }, { on := 8, ground := Ground.data }, { on := 13, ground := Ground.gcOnly Departure.lateStores }], guard := none }) (v := ?v10) rfl (by kernel_rfl) (by kernel_rfl) (by kernel_rfl) (fun _ _ _ h => h) (Or.inl ⟨by rfl, ?y10⟩) (by assumption) ?r10
      case y10 => (intro w hSw; (try dsimp only at hSw); (try (go_split_ands)); go_simp; try with_reducible rfl)
      try simp only [Act.put, List.setIfInBounds_toArray, List.set_cons_zero, List.set_cons_succ]
      refine wpAnyH_take (i := 10) (oi := { dst := some 37, op := Op.load 5 (Operand.tmp 36), type := 5, pos := "ref.go:43", after := #[{ on := 9, ground := Ground.data }, { on := 13, ground := Ground.gcOnly Departure.lateStores }], guard := none }) (v := ?v11) rfl (by kernel_rfl) (by kernel_rfl) (by kernel_rfl) (fun _ _ _ h => h) (Or.inl ⟨by rfl, ?y11⟩) (by assumption) ?r11
      case y11 => (intro w hSw; (try dsimp only at hSw); (try (go_split_ands)); go_simp; try with_reducible rfl)
      try simp only [Act.put, List.setIfInBounds_toArray, List.set_cons_zero, List.set_cons_succ]
      refine wpAnyH_take (i := 11) (oi := { dst := some 38, op := Op.fieldAddr 27 (Operand.tmp 5) 0, type := 0, pos := "ref.go:43", after := #[], guard := none }) (v := ?v12) rfl (by kernel_rfl) (by kernel_rfl) (by kernel_rfl) (fun _ _ _ h => h) (Or.inl ⟨by rfl, ?y12⟩) (by assumption) ?r12
      case y12 => (intro w hSw; (try dsimp only at hSw); (try (go_split_ands)); go_simp; try with_reducible rfl)
      try simp only [Act.put, List.setIfInBounds_toArray, List.set_cons_zero, List.set_cons_succ]
      refine wpAnyH_take (i := 12) (oi := { dst := some 39, op := Op.indexAddr 25 (Operand.tmp 38) (Operand.tmp 27), type := 0, pos := "ref.go:43", after := #[{ on := 11, ground := Ground.data }, { on := 0, ground := Ground.data }, { on := 0, ground := Ground.phase }, { on := 1, ground := Ground.textOnly Departure.lateStores }, { on := 2, ground := Ground.phase }, { on := 3, ground := Ground.phase }, { on := 4, ground := Ground.phase }, { on := 5, ground := Ground.phase }, { on := 6, ground := Ground.textOnly Departure.lateStores }, { on := 7, ground := Ground.textOnly Departure.lateStores }, { on := 8, ground := Ground.textOnly Departure.lateStores }, { on := 9, ground := Ground.textOnly Departure.lateStores }, { on := 10, ground := Ground.textOnly Departure.lateStores }], guard := none }) (v := ?v13) rfl (by kernel_rfl) (by kernel_rfl) (by kernel_rfl) (fun _ _ _ h => h) (Or.inl ⟨by rfl, ?y13⟩) (by assumption) ?r13
      case y13 => (intro w hSw; (try dsimp only at hSw); (try (go_split_ands)); go_simp; try with_reducible rfl)
      try simp only [Act.put, List.setIfInBounds_toArray, List.set_cons_zero, List.set_cons_succ]
      refine wpAnyH_take (i := 14) (oi := { dst := some 40, op := Op.fieldAddr 27 (Operand.tmp 5) 1, type := 0, pos := "ref.go:43", after := #[], guard := none }) (v := ?v14) rfl (by kernel_rfl) (by kernel_rfl) (by kernel_rfl) (fun _ _ _ h => h) (Or.inl ⟨by rfl, ?y14⟩) (by assumption) ?r14
      case y14 => (intro w hSw; (try dsimp only at hSw); (try (go_split_ands)); go_simp; try with_reducible rfl)
      try simp only [Act.put, List.setIfInBounds_toArray, List.set_cons_zero, List.set_cons_succ]
      refine wpAnyH_ready (rs := [13]) (by kernel_rfl) (by simp) ?_
      refine AllReadyH.cons (o := { dst := none, op := Op.store 5 (Operand.tmp 39) (Operand.tmp 32), type := 0, pos := "ref.go:43", after := #[{ on := 12, ground := Ground.data }, { on := 5, ground := Ground.data }, { on := 0, ground := Ground.phase }, { on := 1, ground := Ground.textOnly Departure.lateStores }, { on := 2, ground := Ground.phase }, { on := 3, ground := Ground.phase }, { on := 4, ground := Ground.phase }, { on := 5, ground := Ground.phase }, { on := 6, ground := Ground.textOnly Departure.lateStores }, { on := 7, ground := Ground.textOnly Departure.lateStores }, { on := 8, ground := Ground.textOnly Departure.lateStores }, { on := 9, ground := Ground.textOnly Departure.lateStores }, { on := 10, ground := Ground.textOnly Departure.lateStores }], guard := none }) rfl (fun K hK => ?_) AllReadyH.nil
      go_simp
      have hq1 : Below w1.heap.size wd (wd.setCell ⟨w1.heap.size, j, none⟩ (.int .u8 X)) := (Below.refl _ _).setCell (p := ⟨w1.heap.size, j, none⟩) (Nat.le_refl _) _
      have hS1 := hide (show (wd.setCell ⟨w1.heap.size, j, none⟩ (.int .u8 X)).cell? ⟨b, off + j, none⟩ = some (.int .u8 X) ∧ (wd.setCell ⟨w1.heap.size, j, none⟩ (.int .u8 X)).cell? ⟨b, off + (6 + j), none⟩ = some (.int .u8 Y) from ⟨(hq1.cell (p := ⟨b, off + j, none⟩) (Nat.lt_trans hbl hz1)).trans bj', (hq1.cell (p := ⟨b, off + (6 + j), none⟩) (Nat.lt_trans hbl hz1)).trans b6'⟩)
      have hk1 := heap_setCell_same wd w1.heap.size j _ _ (.int .u8 X) HB'.out
      have c7 : (wd.setCell ⟨w1.heap.size, j, none⟩ (.int .u8 X)).cell? ⟨w1.heap.size, 6 + j, none⟩ = some (.int .u8 y) := by
        rw [cell_of_row _ _ _ _ _ _ hk1]
        have h0 := cell_of_row wd w1.heap.size (6 + j) _ _ _ HB'.out
        rw [c6'] at h0
        rw [Array.getElem?_setIfInBounds_ne (by omega)]
        exact h0.symm
      have f7 := frozen_of_row _ w1.heap.size (6 + j) _ _ hk1
      have HK1 := hide hk1
      have HA1 := hide ((hq1.block w.heap.size hz1).trans HA'.out)
      have HW1 := hide (HW'.out.trans (hq1.mono (Nat.le_of_lt hz1)))
      refine hK.out _ _ hS1.out (fun hHeld13 => ?_)
      clear hq1 hk1 bj' b6' cj' c6' fj' f6' HB' HA' HW'
      generalize hwe : wd.setCell ⟨w1.heap.size, j, none⟩ (.int .u8 X) = we at *
      clear hwe
      clear hK K
      try simp only [Act.put, List.setIfInBounds_toArray, List.set_cons_zero, List.set_cons_succ]
      refine wpAnyH_take (i := 15) (oi := { dst := some 41, op := Op.indexAddr 25 (Operand.tmp 40) (Operand.tmp 28), type := 0, pos := "ref.go:43", after := #[{ on := 14, ground := Ground.data }, { on := 1, ground := Ground.data }, { on := 0, ground := Ground.phase }, { on := 1, ground := Ground.phase }, { on := 2, ground := Ground.phase }, { on := 3, ground := Ground.phase }, { on := 4, ground := Ground.phase }, { on := 5, ground := Ground.phase }, { on := 6, ground := Ground.phase }, { on := 7, ground := Ground.phase }, { on := 8, ground := Ground.phase }, { on := 9, ground := Ground.phase }, { on := 10, ground := Ground.phase }, { on := 11, ground := Ground.phase }, { on := 12, ground := Ground.phase }, { on := 13, ground := Ground.phase }], guard := none }) (v := ?v15) rfl (by kernel_rfl) (by kernel_rfl) (by kernel_rfl) (fun _ _ _ h => h) (Or.inl ⟨by rfl, ?y15⟩) (by assumption) ?r15
      case y15 => (intro w hSw; (try dsimp only at hSw); (try (go_split_ands)); go_simp; try with_reducible rfl)
      try simp only [Act.put, List.setIfInBounds_toArray, List.set_cons_zero, List.set_cons_succ]
      refine wpAnyH_ready (rs := [16]) (by kernel_rfl) (by simp) ?_
      refine AllReadyH.cons (o := { dst := none, op := Op.store 5 (Operand.tmp 41) (Operand.tmp 37), type := 0, pos := "ref.go:43", after := #[{ on := 15, ground := Ground.data }, { on := 10, ground := Ground.data }, { on := 13, ground := Ground.chain }, { on := 0, ground := Ground.phase }, { on := 1, ground := Ground.phase }, { on := 2, ground := Ground.phase }, { on := 3, ground := Ground.phase }, { on := 4, ground := Ground.phase }, { on := 5, ground := Ground.phase }, { on := 6, ground := Ground.phase }, { on := 7, ground := Ground.phase }, { on := 8, ground := Ground.phase }, { on := 9, ground := Ground.phase }, { on := 10, ground := Ground.phase }, { on := 11, ground := Ground.phase }, { on := 12, ground := Ground.phase }, { on := 13, ground := Ground.phase }], guard := none }) rfl (fun K hK => ?_) AllReadyH.nil
      go_simp
      have hq2 : Below w1.heap.size we (we.setCell ⟨w1.heap.size, 6 + j, none⟩ (.int .u8 Y)) := (Below.refl _ _).setCell (p := ⟨w1.heap.size, 6 + j, none⟩) (Nat.le_refl _) _
      have HK2 := hide (heap_setCell_same we w1.heap.size (6 + j) _ _ (.int .u8 Y) HK1.out)
      have HA2 := hide ((hq2.block w.heap.size hz1).trans HA1.out)
      have HW2 := hide (HW1.out.trans (hq2.mono (Nat.le_of_lt hz1)))
      have hS2 := hide (And.intro ((hq2.cell (p := ⟨b, off + j, none⟩) (Nat.lt_trans hbl hz1)).trans hS1.out.1) ((hq2.cell (p := ⟨b, off + (6 + j), none⟩) (Nat.lt_trans hbl hz1)).trans hS1.out.2))
      refine hK.out _ _ hS2.out (fun hHeld16 => ?_)
      clear hq2 HK1 HA1 HW1 hS1 c7 f7
      generalize hwf : we.setCell ⟨w1.heap.size, 6 + j, none⟩ (.int .u8 Y) = wf at *
      clear hwf
      clear hK K
      try simp only [Act.put, List.setIfInBounds_toArray, List.set_cons_zero, List.set_cons_succ]
      refine wpAnyH_done (by kernel_rfl) ?_ _
      refine NoPanic.normal ?_
      clear hS2
      go_wp2
      go_roundw
      case rel => exact ⟨j + 1, by omega, by go_num, by show _ = _; rw [HK2.out, HX.out, HY.out, hdJ_step l j hlt], HA2, HW2⟩
      case measure => simp [intOf]; omega
    · obtain rfl : j = 6 := by omega
      have hll : 18 ≤ l.length := by have := HL.out; omega
      obtain ⟨a0, a1, a2, a3, a4, a5, a6, a7, a8, a9, a10, a11, a12, a13, a14, a15, a16, a17, r, rfl⟩ := list14 l hll
      have hB6 : Hid (wr.heap[w1.heap.size]? = some (.cells (Hd.mk a0 a1 a2 a3 a4 a5 a6 a7 a8 a9 a10 a11 false 0 false 0 0 false).row 27 (0, 0))) := HB
      have hby := HV.out.byte
      have q6 := hby a6 (by simp)
      have q12 := hby a12 (by simp)
      have q13 := hby a13 (by simp)
      have q14 := hby a14 (by simp)
      have q15 := hby a15 (by simp)
      have q16 := hby a16 (by simp)
      have q17 := hby a17 (by simp)
      have HVr := hide (HV.out.below HW.out)
      have hrl : Hid (len = 18 + r.length) := by show _ = _; have := HL.out; simp at this; omega
      have p12 : Bs wr (.slice (some ⟨b, off + 12, none⟩) 2 (cap - 12)) [a12, a13] := HVr.out.pieceOf 12 14 (by decide) (by simp)
      have p14 : Bs wr (.slice (some ⟨b, off + 14, none⟩) 2 (cap - 14)) [a14, a15] := HVr.out.pieceOf 14 16 (by decide) (by simp)
      have p16 : Bs wr (.slice (some ⟨b, off + 16, none⟩) 2 (cap - 16)) [a16, a17] := HVr.out.pieceOf 16 18 (by decide) (by simp)
      have N12 := hide (Number_any p12 (by simp) (by simp))
      have N14 := hide (fun W (h : Bs W (.slice (some ⟨b, off + 14, none⟩) 2 (cap - 14)) [a14, a15]) => Number_any h (by simp) (by simp))
      have N16 := hide (fun W (h : Bs W (.slice (some ⟨b, off + 16, none⟩) 2 (cap - 16)) [a16, a17]) => Number_any h (by simp) (by simp))
      rw [num2] at N12 N14 N16
      have HP12 := hide p12
      have HP14 := hide p14
      have HP16 := hide p16
      have k12 : 0 ≤ n2 a12 a13 ∧ n2 a12 a13 ≤ 65535 := by unfold n2; omega
      have k14 : 0 ≤ n2 a14 a15 ∧ n2 a14 a15 ≤ 65535 := by unfold n2; omega
      have k16 : 0 ≤ n2 a16 a17 ∧ n2 a16 a17 ≤ 65535 := by unfold n2; omega
      have ncap12 : ¬ cap = 12 := by omega
      have ncap14 : ¬ cap = 14 := by omega
      have ncap16 : ¬ cap = 16 := by omega
      have ncap18 : ¬ cap = 18 := by omega
      have f12 := frozen_of_row wr w1.heap.size 12 _ _ hB6.out
      have f13 := frozen_of_row wr w1.heap.size 13 _ _ hB6.out
      have f14 := frozen_of_row wr w1.heap.size 14 _ _ hB6.out
      have f15 := frozen_of_row wr w1.heap.size 15 _ _ hB6.out
      have f16 := frozen_of_row wr w1.heap.size 16 _ _ hB6.out
      have f17 := frozen_of_row wr w1.heap.size 17 _ _ hB6.out
      have c6 : wr.cell? ⟨w1.heap.size, 6, none⟩ = some (.int .u8 a6) := by rw [cell_of_row _ _ _ _ _ _ hB6.out]; rfl
      have c12 : wr.cell? ⟨w1.heap.size, 12, none⟩ = some (.bool false) := by rw [cell_of_row _ _ _ _ _ _ hB6.out]; rfl
      have c13 : wr.cell? ⟨w1.heap.size, 13, none⟩ = some (.int .i64 0) := by rw [cell_of_row _ _ _ _ _ _ hB6.out]; rfl
      have c14 : wr.cell? ⟨w1.heap.size, 14, none⟩ = some (.bool false) := by rw [cell_of_row _ _ _ _ _ _ hB6.out]; rfl
      have c15 : wr.cell? ⟨w1.heap.size, 15, none⟩ = some (.int .i64 0) := by rw [cell_of_row _ _ _ _ _ _ hB6.out]; rfl
      have c16 : wr.cell? ⟨w1.heap.size, 16, none⟩ = some (.int .i64 0) := by rw [cell_of_row _ _ _ _ _ _ hB6.out]; rfl
      have c17 : wr.cell? ⟨w1.heap.size, 17, none⟩ = some (.bool false) := by rw [cell_of_row _ _ _ _ _ _ hB6.out]; rfl
      clear HB p12 p14 p16 hll hby hlt hcl
      obtain ⟨M, hM⟩ : ∃ M, M = n2 a12 a13 := ⟨_, rfl⟩
      rw [← hM] at N12 k12
      have HM := hide hM
      clear hM
      go_wp2_with fail
      refine N12.out.mono ?_
      rintro e wx ⟨rfl, hxx⟩
      obtain rfl := hxx.symm
      by_cases hT : M = 33024
      · subst hT
        obtain ⟨N, hN⟩ : ∃ N, N = n2 a14 a15 := ⟨_, rfl⟩
        rw [← hN] at N14 k14
        have HN := hide hN
        clear hN
        go_wp2_with fail
        refine (N14.out _ HP14.out).mono ?_
        rintro e wx ⟨rfl, hxx⟩
        obtain rfl := hxx.symm
        go_wp2_with fail
        have HBt : Hid (((((wr.setCell ⟨w1.heap.size, 12, none⟩ (.bool true)).setCell ⟨w1.heap.size, 13, none⟩ (.int .i64 (N / 8192))).setCell ⟨w1.heap.size, 14, none⟩ (.bool (N / 4096 % 2 == 1))).setCell ⟨w1.heap.size, 15, none⟩ (.int .i64 (N % 4096))).heap[w1.heap.size]? = some (.cells (Hd.mk a0 a1 a2 a3 a4 a5 a6 a7 a8 a9 a10 a11 true (N / 8192) (N / 4096 % 2 == 1) (N % 4096) 0 false).row 27 (0, 0))) := heap_setCell_same _ w1.heap.size 15 _ _ _ (heap_setCell_same _ w1.heap.size 14 _ _ _ (heap_setCell_same _ w1.heap.size 13 _ _ _ (heap_setCell_same _ w1.heap.size 12 _ _ _ hB6.out)))
        have hqt : Below w1.heap.size wr ((((wr.setCell ⟨w1.heap.size, 12, none⟩ (.bool true)).setCell ⟨w1.heap.size, 13, none⟩ (.int .i64 (N / 8192))).setCell ⟨w1.heap.size, 14, none⟩ (.bool (N / 4096 % 2 == 1))).setCell ⟨w1.heap.size, 15, none⟩ (.int .i64 (N % 4096))) := ((((Below.refl _ _).setCell (p := ⟨w1.heap.size, 12, none⟩) (Nat.le_refl _) _).setCell (p := ⟨w1.heap.size, 13, none⟩) (Nat.le_refl _) _).setCell (p := ⟨w1.heap.size, 14, none⟩) (Nat.le_refl _) _).setCell (p := ⟨w1.heap.size, 15, none⟩) (Nat.le_refl _) _
        have HAt := hide ((hqt.block w.heap.size hz1).trans HA.out)
        have HWt := hide (HW.out.trans (hqt.mono (Nat.le_of_lt hz1)))
        have HP16t := hide (HP16.out.belowAt (fun a n c e hn => by cases e; show b < _; exact Nat.lt_trans hbl hz1) hqt)
        clear hqt hB6 HA HW HP12 HP14 HP16 c6 c12 c13 c14 c15 c16 c17 f12 f13 f14 f15 f16 f17 HVr N12 N14
        generalize hwt : ((((wr.setCell ⟨w1.heap.size, 12, none⟩ (.bool true)).setCell ⟨w1.heap.size, 13, none⟩ (.int .i64 (N / 8192))).setCell ⟨w1.heap.size, 14, none⟩ (.bool (N / 4096 % 2 == 1))).setCell ⟨w1.heap.size, 15, none⟩ (.int .i64 (N % 4096))) = wt at *
        clear hwt
        have HPf := hide (HPL.out.trans (parsed_tag _ _ _ _ _ _ _ _ _ _ _ _ _ _ _ _ _ _ r (by have := HL.out; omega) (by have := HL.out; omega) HS.out HM.out.symm))
        rw [← HN.out] at HPf
        obtain ⟨KT, hKd⟩ : ∃ KT, KT = n2 a16 a17 := ⟨_, rfl⟩
        rw [← hKd] at N16 k16 HPf
        have HKd := hide hKd
        clear hKd
        obtain ⟨K0, K1⟩ := k16
        obtain ⟨RR, hRRd⟩ : ∃ RR, RR = r.take (r.length - 4) := ⟨_, rfl⟩
        rw [← hRRd] at HPf
        have hRR : Hid ((((a0 :: a1 :: a2 :: a3 :: a4 :: a5 :: a6 :: a7 :: a8 :: a9 :: a10 :: a11 :: a12 :: a13 :: a14 :: a15 :: a16 :: a17 :: r).drop 18).take (len - 4 - 18)) = RR) := by
          show _ = _
          rw [hRRd, hrl.out, show 18 + r.length - 4 - 18 = r.length - 4 by omega]
          rfl
        clear hRRd
        refine (N16.out _ HP16t.out).mono ?_
        rintro e wx ⟨rfl, hxx⟩
        obtain rfl := hxx.symm
        clear HP16t N16
        have cS : wt.cell? ⟨w1.heap.size, 6, none⟩ = some (.int .u8 a6) := by rw [cell_of_row _ _ _ _ _ _ HBt.out]; rfl
        have cV : wt.cell? ⟨w1.heap.size, 15, none⟩ = some (.int .i64 (N % 4096)) := by rw [cell_of_row _ _ _ _ _ _ HBt.out]; rfl
        have cL : wt.cell? ⟨w1.heap.size, 17, none⟩ = some (.bool false) := by rw [cell_of_row _ _ _ _ _ _ HBt.out]; rfl
        have fL := frozen_of_row wt w1.heap.size 17 _ _ HBt.out
        have c16 : wt.cell? ⟨w1.heap.size, 16, none⟩ = some (.int .i64 0) := by rw [cell_of_row _ _ _ _ _ _ HBt.out]; rfl
        have f16 := frozen_of_row wt w1.heap.size 16 _ _ HBt.out
        have HBs : Hid ((wt.setCell ⟨w1.heap.size, 16, none⟩ (.int .i64 KT)).heap[w1.heap.size]? = some (.cells (Hd.mk a0 a1 a2 a3 a4 a5 a6 a7 a8 a9 a10 a11 true (N / 8192) (N / 4096 % 2 == 1) (N % 4096) KT false).row 27 (0, 0))) := heap_setCell_same wt w1.heap.size 16 _ _ _ HBt.out
        have hqs : Below w1.heap.size wt (wt.setCell ⟨w1.heap.size, 16, none⟩ (.int .i64 KT)) := (Below.refl _ _).setCell (p := ⟨w1.heap.size, 16, none⟩) (Nat.le_refl _) _
        have HAs := hide ((hqs.block w.heap.size hz1).trans HAt.out)
        have HWs := hide (HWt.out.trans (hqs.mono (Nat.le_of_lt hz1)))
        have HD := hide (show Bs (wt.setCell ⟨w1.heap.size, 16, none⟩ (.int .i64 KT)) (.slice (some ⟨b, off + 18, none⟩) (len - 4 - 18) (cap - 18)) RR from by
          have := (HV.out.below HWs.out).pieceOf 18 (len - 4) (by omega) (by have := HL.out; omega)
          rwa [hRR.out] at this)
        have hRl := hide (show RR.length = len - 4 - 18 from (Bs.lenB' HD.out).symm)
        clear hqs HBt HAt HWt
        have hl4 : IntKind.i64.wrap ((len : Int) - 4) = (len : Int) - 4 := wrap_i64_id _ (by omega) (by omega)
        by_cases hodd : a6 % 2 = 1
        · have do1 : (a6 % 2 == 1) = true := by simpa using hodd
          have hq := hide (HPf.out.trans (fin_odd hodd))
          clear hodd
          go_wp2_with ((with_reducible change wpList _ _ _ _ _ _); refine wpList_store_row rfl 27 (.tmp 2) (.tmp 91) rfl w.heap.size Hd.zero.row rfl rfl 27 _ HAs.out (hdSize _) rfl (Hd.row_all _) ?_)
          exact bodyPost_ret (results_cell_row3 rfl _ _ w.heap.size 27 _ _ _ rfl (setRow_heap _ _ _ _ _ _ HAs.out) Tryd.underlying27 rfl (hdSize Hd.zero)) rfl ⟨none, 0, 0, by rw [hq.out]; rfl, by rw [hq.out]; exact Bs.nil _, below_setRow HWs.out (Nat.le_refl _) _⟩
        have do1 : (a6 % 2 == 1) = false := by simpa using hodd
        by_cases hv : N % 4096 = 4095
        · have dv1 : (N % 4096 == 4095) = true := by simpa using hv
          have hq := hide (HPf.out.trans (fin_vid hv))
          clear hv
          go_wp2_with ((with_reducible change wpList _ _ _ _ _ _); refine wpList_store_row rfl 27 (.tmp 2) (.tmp 91) rfl w.heap.size Hd.zero.row rfl rfl 27 _ HAs.out (hdSize _) rfl (Hd.row_all _) ?_)
          exact bodyPost_ret (results_cell_row3 rfl _ _ w.heap.size 27 _ _ _ rfl (setRow_heap _ _ _ _ _ _ HAs.out) Tryd.underlying27 rfl (hdSize Hd.zero)) rfl ⟨none, 0, 0, by rw [hq.out]; rfl, by rw [hq.out]; exact Bs.nil _, below_setRow HWs.out (Nat.le_refl _) _⟩
        have dv1 : (N % 4096 == 4095) = false := by simpa using hv
        have hv4 : Hid (N % 4096 ≤ 4094) := by show _ ≤ _; omega
        clear hv
        have Hodd := hide hodd
        clear hodd
        by_cases hk : 1536 ≤ KT
        · have dk : decide (1536 ≤ KT) = true := by simpa using hk
          have hq := hide (HPf.out.trans (fin_type Hodd.out hv4.out hk (by simp; omega)))
          have hll : decide (KT ≤ 1500) = false := by simp; omega
          rw [hll] at hq
          clear hk hll
          go_wp2_with (first | ((with_reducible change wpList _ _ _ _ _ _); refine wpList_load_row rfl 27 (.tmp 5) rfl w1.heap.size rfl 27 _ _ _ HBs.out Tryd.underlying27 rfl (hdSize _) ?_) | ((with_reducible change wpList _ _ _ _ _ _); refine wpList_store_row rfl 27 (.tmp 2) (.tmp 95) rfl w.heap.size (Hd.mk a0 a1 a2 a3 a4 a5 a6 a7 a8 a9 a10 a11 true (N / 8192) (N / 4096 % 2 == 1) (N % 4096) KT false).row rfl rfl 27 _ HAs.out (hdSize _) rfl (Hd.row_all _) ?_))
          exact bodyPost_ret (results_cell_row3 rfl _ _ w.heap.size 27 _ _ _ rfl (setRow_heap _ _ _ _ _ _ HAs.out) Tryd.underlying27 rfl (hdSize (Hd.mk a0 a1 a2 a3 a4 a5 a6 a7 a8 a9 a10 a11 true (N / 8192) (N / 4096 % 2 == 1) (N % 4096) KT false))) rfl ⟨_, _, _, by rw [hq.out]; rfl, by rw [hq.out]; exact HD.out.setRow_other _ _ (fun a n c e => by cases e; show b ≠ _; omega), below_setRow HWs.out (Nat.le_refl _) _⟩
        have dk : decide (1536 ≤ KT) = false := by simpa using hk
        by_cases hk5 : 1500 < KT
        · have dk5 : decide (1500 < KT) = true := by simpa using hk5
          have hq := hide (HPf.out.trans (fin_gap hk (by simp; omega)))
          clear hk hk5
          go_wp2_with ((with_reducible change wpList _ _ _ _ _ _); refine wpList_store_row rfl 27 (.tmp 2) (.tmp 107) rfl w.heap.size Hd.zero.row rfl rfl 27 _ HAs.out (hdSize _) rfl (Hd.row_all _) ?_)
          exact bodyPost_ret (results_cell_row3 rfl _ _ w.heap.size 27 _ _ _ rfl (setRow_heap _ _ _ _ _ _ HAs.out) Tryd.underlying27 rfl (hdSize Hd.zero)) rfl ⟨none, 0, 0, by rw [hq.out]; rfl, by rw [hq.out]; exact Bs.nil _, below_setRow HWs.out (Nat.le_refl _) _⟩
        have dk5 : decide (1500 < KT) = false := by simpa using hk5
        have hll : decide (KT ≤ 1500) = true := by simp; omega
        rw [hll] at HPf
        have hdI : ((len - 4 - 18 : Nat) : Int) = (len : Int) - 4 - 18 := by omega
        by_cases hkd : (len : Int) - 4 - 18 < KT
        · have dkd : decide (((len - 4 - 18 : Nat) : Int) < KT) = true := by rw [hdI]; simpa using hkd
          have hq := hide (HPf.out.trans (fin_long rfl (by rw [hRl.out, hdI]; exact hkd)))
          clear hk hk5 hkd hll hdI
          go_wp2_with ((with_reducible change wpList _ _ _ _ _ _); refine wpList_store_row rfl 27 (.tmp 2) (.tmp 107) rfl w.heap.size Hd.zero.row rfl rfl 27 _ HAs.out (hdSize _) rfl (Hd.row_all _) ?_)
          exact bodyPost_ret (results_cell_row3 rfl _ _ w.heap.size 27 _ _ _ rfl (setRow_heap _ _ _ _ _ _ HAs.out) Tryd.underlying27 rfl (hdSize Hd.zero)) rfl ⟨none, 0, 0, by rw [hq.out]; rfl, by rw [hq.out]; exact Bs.nil _, below_setRow HWs.out (Nat.le_refl _) _⟩
        have dkd : decide (((len - 4 - 18 : Nat) : Int) < KT) = false := by rw [hdI]; simpa using hkd
        have hq := hide (HPf.out.trans (fin_llc Hodd.out hv4.out rfl K0 (by rw [hRl.out, hdI]; show KT ≤ _; omega)))
        have hkc : KT ≤ ((cap - 18 : Nat) : Int) := by omega
        have hkl : Hid (KT.toNat ≤ RR.length) := by show _ ≤ _; rw [hRl.out]; omega
        clear hk hk5 hkd hll hdI
        go_wp2_with fail
        have HBl : Hid (((wt.setCell ⟨w1.heap.size, 16, none⟩ (.int .i64 KT)).setCell ⟨w1.heap.size, 17, none⟩ (.bool true)).heap[w1.heap.size]? = some (.cells (Hd.mk a0 a1 a2 a3 a4 a5 a6 a7 a8 a9 a10 a11 true (N / 8192) (N / 4096 % 2 == 1) (N % 4096) KT true).row 27 (0, 0))) := heap_setCell_same _ w1.heap.size 17 _ _ (.bool true) HBs.out
        have hql : Below w1.heap.size (wt.setCell ⟨w1.heap.size, 16, none⟩ (.int .i64 KT)) ((wt.setCell ⟨w1.heap.size, 16, none⟩ (.int .i64 KT)).setCell ⟨w1.heap.size, 17, none⟩ (.bool true)) := (Below.refl _ _).setCell (p := ⟨w1.heap.size, 17, none⟩) (Nat.le_refl _) _
        have HAl := hide ((hql.block w.heap.size hz1).trans HAs.out)
        have HWl := hide (HWs.out.trans (hql.mono (Nat.le_of_lt hz1)))
        have HDl := hide (HD.out.belowAt (fun a n c e hn => by cases e; show b < _; exact Nat.lt_trans hbl hz1) hql)
        clear hql HBs HAs HWs HD cS cV cL fL c16 f16
        generalize hwl : ((wt.setCell ⟨w1.heap.size, 16, none⟩ (.int .i64 KT)).setCell ⟨w1.heap.size, 17, none⟩ (.bool true)) = wl at *
        clear hwl
        have HBd : Hid (wl.drew.heap[w1.heap.size]? = some (.cells (Hd.mk a0 a1 a2 a3 a4 a5 a6 a7 a8 a9 a10 a11 true (N / 8192) (N / 4096 % 2 == 1) (N % 4096) KT true).row 27 (0, 0))) := HBl
        have HAd : Hid (wl.drew.heap[w.heap.size]? = some (.cells Hd.zero.row 27 (0, 0))) := HAl
        have HWd : Hid (Below w.heap.size w wl.drew) := below_drewN HWl.out 1
        have HDd := hide (HDl.out.below (show Below wl.heap.size wl wl.drew from below_drewN (Below.refl _ _) 1))
        have ckd : wl.drew.cell? ⟨w1.heap.size, 16, none⟩ = some (.int .i64 KT) := by rw [cell_of_row _ _ _ _ _ _ HBd.out]; rfl
        clear HBl HAl HWl HDl
        refine wp_region_noPanic ?_
        refine wp_region_held_drew (S := fun W => W.heap[w1.heap.size]? = some (.cells (Hd.mk a0 a1 a2 a3 a4 a5 a6 a7 a8 a9 a10 a11 true (N / 8192) (N / 4096 % 2 == 1) (N % 4096) KT true).row 27 (0, 0)) ∧ W.cell? ⟨w1.heap.size, 16, none⟩ = some (.int .i64 KT)) (by kernel_rfl) ⟨HBd.out, ckd⟩ (fun hHeld => ?_)
        generalize hwd : wl.drew = wd at *
        clear hwd
        refine wpAnyH_take (i := 0) (oi := { dst := some 109, op := Op.load 27 (Operand.tmp 5), type := 27, pos := "ref.go:65", after := #[], guard := none }) (v := _) rfl (by kernel_rfl) (by kernel_rfl) (by kernel_rfl) (fun _ _ _ h => h) (yieldsIf_load_row rfl 27 _ rfl w1.heap.size rfl 27 _ _ _ (fun W h => h.1) Tryd.underlying27 rfl (hdSize _)) (by assumption) ?_
        try simp only [Act.put, List.setIfInBounds_toArray, List.set_cons_zero, List.set_cons_succ]
        refine wpAnyH_take (i := 1) (oi := { dst := some 110, op := Op.move (Operand.tmp 9), type := 22, pos := "ref.go:65", after := #[], guard := none }) (v := ?v16) rfl (by kernel_rfl) (by kernel_rfl) (by kernel_rfl) (fun _ _ _ h => h) (Or.inl ⟨by rfl, ?y16⟩) (by assumption) ?r16
        case y16 => (intro w hSw; (try dsimp only at hSw); (try (go_split_ands)); go_simp; try with_reducible rfl)
        try simp only [Act.put, List.setIfInBounds_toArray, List.set_cons_zero, List.set_cons_succ]
        refine wpAnyH_take (i := 2) (oi := { dst := some 111, op := Op.fieldAddr 27 (Operand.tmp 5) 6, type := 0, pos := "ref.go:65", after := #[], guard := none }) (v := ?v17) rfl (by kernel_rfl) (by kernel_rfl) (by kernel_rfl) (fun _ _ _ h => h) (Or.inl ⟨by rfl, ?y17⟩) (by assumption) ?r17
        case y17 => (intro w hSw; (try dsimp only at hSw); (try (go_split_ands)); go_simp; try with_reducible rfl)
        try simp only [Act.put, List.setIfInBounds_toArray, List.set_cons_zero, List.set_cons_succ]
        refine wpAnyH_take (i := 3) (oi := { dst := some 112, op := Op.load 3 (Operand.tmp 111), type := 3, pos := "ref.go:65", after := #[{ on := 2, ground := Ground.data }], guard := none }) (v := ?v18) rfl (by kernel_rfl) (by kernel_rfl) (by kernel_rfl) (fun _ _ _ h => h) (Or.inl ⟨by rfl, ?y18⟩) (by assumption) ?r18
        case y18 => (intro w hSw; (try dsimp only at hSw); (try (go_split_ands)); go_simp; try with_reducible rfl)
        try simp only [Act.put, List.setIfInBounds_toArray, List.set_cons_zero, List.set_cons_succ]
        refine wpAnyH_take (i := 4) (oi := { dst := some 113, op := Op.slice 22 (Operand.tmp 110) none (some (Operand.tmp 112)) none, type := 22, pos := "ref.go:65", after := #[{ on := 1, ground := Ground.data }, { on := 3, ground := Ground.data }], guard := none }) (v := ?v19) rfl (by kernel_rfl) (by kernel_rfl) (by kernel_rfl) (fun _ _ _ h => h) (Or.inl ⟨by rfl, ?y19⟩) (by assumption) ?r19
        case y19 => (intro w hSw; (try dsimp only at hSw); (try (go_split_ands)); go_simp; try with_reducible rfl)
        try simp only [Act.put, List.setIfInBounds_toArray, List.set_cons_zero, List.set_cons_succ]
        refine wpAnyH_ready (rs := [5]) (by kernel_rfl) (by simp) ?_
        refine AllReadyH.cons (o := { dst := none, op := Op.store 27 (Operand.tmp 2) (Operand.tmp 109), type := 0, pos := "ref.go:65", after := #[{ on := 0, ground := Ground.data }, { on := 0, ground := Ground.phase }, { on := 1, ground := Ground.textOnly Departure.lateStores }, { on := 2, ground := Ground.textOnly Departure.lateStores }, { on := 3, ground := Ground.textOnly Departure.lateStores }, { on := 4, ground := Ground.textOnly Departure.lateStoresUnsure }], guard := none }) rfl (fun K hK => ?_) AllReadyH.nil
        refine step_store_row rfl 27 (.tmp 2) (.tmp 109) rfl w.heap.size (Hd.mk a0 a1 a2 a3 a4 a5 a6 a7 a8 a9 a10 a11 true (N / 8192) (N / 4096 % 2 == 1) (N % 4096) KT true).row rfl rfl 27 _ HAd.out (hdSize _) rfl (Hd.row_all _) ?_
        have HBe := hide ((Go.setRow_other wd w.heap.size w1.heap.size (Hd.mk a0 a1 a2 a3 a4 a5 a6 a7 a8 a9 a10 a11 true (N / 8192) (N / 4096 % 2 == 1) (N % 4096) KT true).row (Nat.ne_of_gt hz1)).trans HBd.out)
        have cke : (wd.setRow w.heap.size (Hd.mk a0 a1 a2 a3 a4 a5 a6 a7 a8 a9 a10 a11 true (N / 8192) (N / 4096 % 2 == 1) (N % 4096) KT true).row).cell? ⟨w1.heap.size, 16, none⟩ = some (.int .i64 KT) := by rw [cell_of_row _ _ _ _ _ _ HBe.out]; rfl
        refine hK.out _ _ ⟨HBe.out, cke⟩ (fun hHeld5 => ?_)
        clear hK K
        try simp only [Act.put]
        refine wpAnyH_take (i := 6) (oi := { dst := some 3, op := Op.assign (Operand.tmp 113), type := 22, pos := "ref.go:65", after := #[{ on := 4, ground := Ground.data }, { on := 5, ground := Ground.chain }, { on := 0, ground := Ground.phase }, { on := 1, ground := Ground.phase }, { on := 2, ground := Ground.phase }, { on := 3, ground := Ground.phase }, { on := 4, ground := Ground.phase }, { on := 5, ground := Ground.phase }], guard := none }) (v := ?v20) rfl (by kernel_rfl) (by kernel_rfl) (by kernel_rfl) (fun _ _ _ h => h) (Or.inl ⟨by rfl, ?y20⟩) (by assumption) ?r20
        case y20 => (intro w hSw; (try dsimp only at hSw); (try (go_split_ands)); go_simp; try with_reducible rfl)
        try simp only [Act.put, List.setIfInBounds_toArray, List.set_cons_zero, List.set_cons_succ]
        refine wpAnyH_take (i := 7) (oi := { dst := some 4, op := Op.assign (Operand.const (Value.int IntKind.i64 0)), type := 3, pos := "ref.go:65", after := #[{ on := 6, ground := Ground.chain }, { on := 0, ground := Ground.phase }, { on := 1, ground := Ground.phase }, { on := 2, ground := Ground.phase }, { on := 3, ground := Ground.phase }, { on := 4, ground := Ground.phase }, { on := 5, ground := Ground.phase }, { on := 6, ground := Ground.phase }], guard := none }) (v := ?v21) rfl (by kernel_rfl) (by kernel_rfl) (by kernel_rfl) (fun _ _ _ h => h) (Or.inl ⟨by rfl, ?y21⟩) (by assumption) ?r21
        case y21 => (intro w hSw; (try dsimp only at hSw); (try (go_split_ands)); go_simp; try with_reducible rfl)
        try simp only [Act.put, List.setIfInBounds_toArray, List.set_cons_zero, List.set_cons_succ]
        refine wpAnyH_done (by kernel_rfl) ?_ _
        refine NoPanic.normal ?_
        go_wp2_with fail
        exact bodyPost_ret (results_cell_row3 rfl _ _ w.heap.size 27 _ _ _ rfl (setRow_heap _ _ _ _ _ _ HAd.out) Tryd.underlying27 rfl (hdSize (Hd.mk a0 a1 a2 a3 a4 a5 a6 a7 a8 a9 a10 a11 true (N / 8192) (N / 4096 % 2 == 1) (N % 4096) KT true))) rfl ⟨_, _, _, by rw [hq.out]; rfl, by rw [hq.out]; exact (HDd.out.headAny0 KT.toNat hkl.out).setRow_other _ _ (fun a n c e => by cases e; show b ≠ _; omega), below_setRow HWd.out (Nat.le_refl _) _⟩
      · have hT' : (M == 33024) = false := by simpa using hT
        have HPf0 := hide (HPL.out.trans (parsed_plain _ _ _ _ _ _ _ _ _ _ _ _ _ _ _ _ _ _ r (by have := HL.out; omega) (by have := HL.out; omega) HS.out (by rw [← HM.out]; exact hT)))
        rw [← HM.out, ← HL.out] at HPf0
        clear hT N14 N16 HP14 HP16
        by_cases hlong : 1518 < len
        · have dl : decide ((1518 : Int) < (len : Int)) = true := by simp; omega
          have hq := hide (HPf0.out.trans (if_pos hlong))
          clear hlong
          go_wp2_with ((with_reducible change wpList _ _ _ _ _ _); refine wpList_store_row rfl 27 (.tmp 2) (.tmp 65) rfl w.heap.size Hd.zero.row rfl rfl 27 _ HA.out (hdSize _) rfl (Hd.row_all _) ?_)
          exact bodyPost_ret (results_cell_row3 rfl _ _ w.heap.size 27 _ _ _ rfl (setRow_heap _ _ _ _ _ _ HA.out) Tryd.underlying27 rfl (hdSize Hd.zero)) rfl ⟨none, 0, 0, by rw [hq.out]; rfl, by rw [hq.out]; exact Bs.nil _, below_setRow HW.out (Nat.le_refl _) _⟩
        have dl : decide ((1518 : Int) < (len : Int)) = false := by simp; omega
        have HPf := hide (HPf0.out.trans (if_neg hlong))
        clear hlong HPf0
        obtain ⟨RR, hRRd⟩ : ∃ RR, RR = a14 :: a15 :: a16 :: a17 :: r.take (r.length - 4) := ⟨_, rfl⟩
        rw [← hRRd] at HPf
        have hRR : Hid ((((a0 :: a1 :: a2 :: a3 :: a4 :: a5 :: a6 :: a7 :: a8 :: a9 :: a10 :: a11 :: a12 :: a13 :: a14 :: a15 :: a16 :: a17 :: r).drop 14).take (len - 4 - 14)) = RR) := by
          show _ = _
          rw [hRRd, hrl.out, show 18 + r.length - 4 - 14 = (r.length - 4) + 4 by have := hrl.out; omega]
          rfl
        clear hRRd
        obtain ⟨K0, K1⟩ := k12
        go_wp2_with fail
        refine N12.out.mono ?_
        rintro e wx ⟨rfl, hxx⟩
        obtain rfl := hxx.symm
        have HBt := hB6
        have HAt := HA
        have HWt := HW
        generalize hKM : M = KT at *
        clear hKM hB6 HA HW HP12 c6 c12 c13 c14 c15 c16 c17 f12 f13 f14 f15 f16 f17 HVr N12
        generalize hwt : wr = wt at *
        clear hwt
        have cS : wt.cell? ⟨w1.heap.size, 6, none⟩ = some (.int .u8 a6) := by rw [cell_of_row _ _ _ _ _ _ HBt.out]; rfl
        have cV : wt.cell? ⟨w1.heap.size, 15, none⟩ = some (.int .i64 0) := by rw [cell_of_row _ _ _ _ _ _ HBt.out]; rfl
        have cL : wt.cell? ⟨w1.heap.size, 17, none⟩ = some (.bool false) := by rw [cell_of_row _ _ _ _ _ _ HBt.out]; rfl
        have fL := frozen_of_row wt w1.heap.size 17 _ _ HBt.out
        have c16 : wt.cell? ⟨w1.heap.size, 16, none⟩ = some (.int .i64 0) := by rw [cell_of_row _ _ _ _ _ _ HBt.out]; rfl
        have f16 := frozen_of_row wt w1.heap.size 16 _ _ HBt.out
        have HBs : Hid ((wt.setCell ⟨w1.heap.size, 16, none⟩ (.int .i64 KT)).heap[w1.heap.size]? = some (.cells (Hd.mk a0 a1 a2 a3 a4 a5 a6 a7 a8 a9 a10 a11 false 0 false 0 KT false).row 27 (0, 0))) := heap_setCell_same wt w1.heap.size 16 _ _ _ HBt.out
        have hqs : Below w1.heap.size wt (wt.setCell ⟨w1.heap.size, 16, none⟩ (.int .i64 KT)) := (Below.refl _ _).setCell (p := ⟨w1.heap.size, 16, none⟩) (Nat.le_refl _) _
        have HAs := hide ((hqs.block w.heap.size hz1).trans HAt.out)
        have HWs := hide (HWt.out.trans (hqs.mono (Nat.le_of_lt hz1)))
        have HD := hide (show Bs (wt.setCell ⟨w1.heap.size, 16, none⟩ (.int .i64 KT)) (.slice (some ⟨b, off + 14, none⟩) (len - 4 - 14) (cap - 14)) RR from by
          have := (HV.out.below HWs.out).pieceOf 14 (len - 4) (by omega) (by have := HL.out; omega)
          rwa [hRR.out] at this)
        have hRl := hide (show RR.length = len - 4 - 14 from (Bs.lenB' HD.out).symm)
        clear hqs HBt HAt HWt
        have hl4 : IntKind.i64.wrap ((len : Int) - 4) = (len : Int) - 4 := wrap_i64_id _ (by omega) (by omega)
        by_cases hodd : a6 % 2 = 1
        · have do1 : (a6 % 2 == 1) = true := by simpa using hodd
          have hq := hide (HPf.out.trans (fin_odd hodd))
          clear hodd
          go_wp2_with ((with_reducible change wpList _ _ _ _ _ _); refine wpList_store_row rfl 27 (.tmp 2) (.tmp 91) rfl w.heap.size Hd.zero.row rfl rfl 27 _ HAs.out (hdSize _) rfl (Hd.row_all _) ?_)
          exact bodyPost_ret (results_cell_row3 rfl _ _ w.heap.size 27 _ _ _ rfl (setRow_heap _ _ _ _ _ _ HAs.out) Tryd.underlying27 rfl (hdSize Hd.zero)) rfl ⟨none, 0, 0, by rw [hq.out]; rfl, by rw [hq.out]; exact Bs.nil _, below_setRow HWs.out (Nat.le_refl _) _⟩
        have do1 : (a6 % 2 == 1) = false := by simpa using hodd
        have hv4 : Hid ((0 : Int) ≤ 4094) := by show _ ≤ _; omega
        have Hodd := hide hodd
        clear hodd
        by_cases hk : 1536 ≤ KT
        · have dk : decide (1536 ≤ KT) = true := by simpa using hk
          have hq := hide (HPf.out.trans (fin_type Hodd.out hv4.out hk (by simp; omega)))
          have hll : decide (KT ≤ 1500) = false := by simp; omega
          rw [hll] at hq
          clear hk hll
          go_wp2_with (first | ((with_reducible change wpList _ _ _ _ _ _); refine wpList_load_row rfl 27 (.tmp 5) rfl w1.heap.size rfl 27 _ _ _ HBs.out Tryd.underlying27 rfl (hdSize _) ?_) | ((with_reducible change wpList _ _ _ _ _ _); refine wpList_store_row rfl 27 (.tmp 2) (.tmp 95) rfl w.heap.size (Hd.mk a0 a1 a2 a3 a4 a5 a6 a7 a8 a9 a10 a11 false 0 false 0 KT false).row rfl rfl 27 _ HAs.out (hdSize _) rfl (Hd.row_all _) ?_))
          exact bodyPost_ret (results_cell_row3 rfl _ _ w.heap.size 27 _ _ _ rfl (setRow_heap _ _ _ _ _ _ HAs.out) Tryd.underlying27 rfl (hdSize (Hd.mk a0 a1 a2 a3 a4 a5 a6 a7 a8 a9 a10 a11 false 0 false 0 KT false))) rfl ⟨_, _, _, by rw [hq.out]; rfl, by rw [hq.out]; exact HD.out.setRow_other _ _ (fun a n c e => by cases e; show b ≠ _; omega), below_setRow HWs.out (Nat.le_refl _) _⟩
        have dk : decide (1536 ≤ KT) = false := by simpa using hk
        by_cases hk5 : 1500 < KT
        · have dk5 : decide (1500 < KT) = true := by simpa using hk5
          have hq := hide (HPf.out.trans (fin_gap hk (by simp; omega)))
          clear hk hk5
          go_wp2_with ((with_reducible change wpList _ _ _ _ _ _); refine wpList_store_row rfl 27 (.tmp 2) (.tmp 107) rfl w.heap.size Hd.zero.row rfl rfl 27 _ HAs.out (hdSize _) rfl (Hd.row_all _) ?_)
          exact bodyPost_ret (results_cell_row3 rfl _ _ w.heap.size 27 _ _ _ rfl (setRow_heap _ _ _ _ _ _ HAs.out) Tryd.underlying27 rfl (hdSize Hd.zero)) rfl ⟨none, 0, 0, by rw [hq.out]; rfl, by rw [hq.out]; exact Bs.nil _, below_setRow HWs.out (Nat.le_refl _) _⟩
        have dk5 : decide (1500 < KT) = false := by simpa using hk5
        have hll : decide (KT ≤ 1500) = true := by simp; omega
        rw [hll] at HPf
        have hdI : ((len - 4 - 14 : Nat) : Int) = (len : Int) - 4 - 14 := by omega
        by_cases hkd : (len : Int) - 4 - 14 < KT
        · have dkd : decide (((len - 4 - 14 : Nat) : Int) < KT) = true := by rw [hdI]; simpa using hkd
          have hq := hide (HPf.out.trans (fin_long rfl (by rw [hRl.out, hdI]; exact hkd)))
          clear hk hk5 hkd hll hdI
          go_wp2_with ((with_reducible change wpList _ _ _ _ _ _); refine wpList_store_row rfl 27 (.tmp 2) (.tmp 107) rfl w.heap.size Hd.zero.row rfl rfl 27 _ HAs.out (hdSize _) rfl (Hd.row_all _) ?_)
          exact bodyPost_ret (results_cell_row3 rfl _ _ w.heap.size 27 _ _ _ rfl (setRow_heap _ _ _ _ _ _ HAs.out) Tryd.underlying27 rfl (hdSize Hd.zero)) rfl ⟨none, 0, 0, by rw [hq.out]; rfl, by rw [hq.out]; exact Bs.nil _, below_setRow HWs.out (Nat.le_refl _) _⟩
        have dkd : decide (((len - 4 - 14 : Nat) : Int) < KT) = false := by rw [hdI]; simpa using hkd
        have hq := hide (HPf.out.trans (fin_llc Hodd.out hv4.out rfl K0 (by rw [hRl.out, hdI]; show KT ≤ _; omega)))
        have hkc : KT ≤ ((cap - 14 : Nat) : Int) := by omega
        have hkl : Hid (KT.toNat ≤ RR.length) := by show _ ≤ _; rw [hRl.out]; omega
        clear hk hk5 hkd hll hdI
        go_wp2_with fail
        have HBl : Hid (((wt.setCell ⟨w1.heap.size, 16, none⟩ (.int .i64 KT)).setCell ⟨w1.heap.size, 17, none⟩ (.bool true)).heap[w1.heap.size]? = some (.cells (Hd.mk a0 a1 a2 a3 a4 a5 a6 a7 a8 a9 a10 a11 false 0 false 0 KT true).row 27 (0, 0))) := heap_setCell_same _ w1.heap.size 17 _ _ (.bool true) HBs.out
        have hql : Below w1.heap.size (wt.setCell ⟨w1.heap.size, 16, none⟩ (.int .i64 KT)) ((wt.setCell ⟨w1.heap.size, 16, none⟩ (.int .i64 KT)).setCell ⟨w1.heap.size, 17, none⟩ (.bool true)) := (Below.refl _ _).setCell (p := ⟨w1.heap.size, 17, none⟩) (Nat.le_refl _) _
        have HAl := hide ((hql.block w.heap.size hz1).trans HAs.out)
        have HWl := hide (HWs.out.trans (hql.mono (Nat.le_of_lt hz1)))
        have HDl := hide (HD.out.belowAt (fun a n c e hn => by cases e; show b < _; exact Nat.lt_trans hbl hz1) hql)
        clear hql HBs HAs HWs HD cS cV cL fL c16 f16
        generalize hwl : ((wt.setCell ⟨w1.heap.size, 16, none⟩ (.int .i64 KT)).setCell ⟨w1.heap.size, 17, none⟩ (.bool true)) = wl at *
        clear hwl
        have HBd : Hid (wl.drew.heap[w1.heap.size]? = some (.cells (Hd.mk a0 a1 a2 a3 a4 a5 a6 a7 a8 a9 a10 a11 false 0 false 0 KT true).row 27 (0, 0))) := HBl
        have HAd : Hid (wl.drew.heap[w.heap.size]? = some (.cells Hd.zero.row 27 (0, 0))) := HAl
        have HWd : Hid (Below w.heap.size w wl.drew) := below_drewN HWl.out 1
        have HDd := hide (HDl.out.below (show Below wl.heap.size wl wl.drew from below_drewN (Below.refl _ _) 1))
        have ckd : wl.drew.cell? ⟨w1.heap.size, 16, none⟩ = some (.int .i64 KT) := by rw [cell_of_row _ _ _ _ _ _ HBd.out]; rfl
        clear HBl HAl HWl HDl
        refine wp_region_noPanic ?_
        refine wp_region_held_drew (S := fun W => W.heap[w1.heap.size]? = some (.cells (Hd.mk a0 a1 a2 a3 a4 a5 a6 a7 a8 a9 a10 a11 false 0 false 0 KT true).row 27 (0, 0)) ∧ W.cell? ⟨w1.heap.size, 16, none⟩ = some (.int .i64 KT)) (by kernel_rfl) ⟨HBd.out, ckd⟩ (fun hHeld => ?_)
        generalize hwd : wl.drew = wd at *
        clear hwd
        refine wpAnyH_take (i := 0) (oi := { dst := some 109, op := Op.load 27 (Operand.tmp 5), type := 27, pos := "ref.go:65", after := #[], guard := none }) (v := _) rfl (by kernel_rfl) (by kernel_rfl) (by kernel_rfl) (fun _ _ _ h => h) (yieldsIf_load_row rfl 27 _ rfl w1.heap.size rfl 27 _ _ _ (fun W h => h.1) Tryd.underlying27 rfl (hdSize _)) (by assumption) ?_
        try simp only [Act.put, List.setIfInBounds_toArray, List.set_cons_zero, List.set_cons_succ]
        refine wpAnyH_take (i := 1) (oi := { dst := some 110, op := Op.move (Operand.tmp 9), type := 22, pos := "ref.go:65", after := #[], guard := none }) (v := ?v22) rfl (by kernel_rfl) (by kernel_rfl) (by kernel_rfl) (fun _ _ _ h => h) (Or.inl ⟨by rfl, ?y22⟩) (by assumption) ?r22
        case y22 => (intro w hSw; (try dsimp only at hSw); (try (go_split_ands)); go_simp; try with_reducible rfl)
        try simp only [Act.put, List.setIfInBounds_toArray, List.set_cons_zero, List.set_cons_succ]
        refine wpAnyH_take (i := 2) (oi := { dst := some 111, op := Op.fieldAddr 27 (Operand.tmp 5) 6, type := 0, pos := "ref.go:65", after := #[], guard := none }) (v := ?v23) rfl (by kernel_rfl) (by kernel_rfl) (by kernel_rfl) (fun _ _ _ h => h) (Or.inl ⟨by rfl, ?y23⟩) (by assumption) ?r23
        case y23 => (intro w hSw; (try dsimp only at hSw); (try (go_split_ands)); go_simp; try with_reducible rfl)
        try simp only [Act.put, List.setIfInBounds_toArray, List.set_cons_zero, List.set_cons_succ]
        refine wpAnyH_take (i := 3) (oi := { dst := some 112, op := Op.load 3 (Operand.tmp 111), type := 3, pos := "ref.go:65", after := #[{ on := 2, ground := Ground.data }], guard := none }) (v := ?v24) rfl (by kernel_rfl) (by kernel_rfl) (by kernel_rfl) (fun _ _ _ h => h) (Or.inl ⟨by rfl, ?y24⟩) (by assumption) ?r24
        case y24 => (intro w hSw; (try dsimp only at hSw); (try (go_split_ands)); go_simp; try with_reducible rfl)
        try simp only [Act.put, List.setIfInBounds_toArray, List.set_cons_zero, List.set_cons_succ]
        refine wpAnyH_take (i := 4) (oi := { dst := some 113, op := Op.slice 22 (Operand.tmp 110) none (some (Operand.tmp 112)) none, type := 22, pos := "ref.go:65", after := #[{ on := 1, ground := Ground.data }, { on := 3, ground := Ground.data }], guard := none }) (v := ?v25) rfl (by kernel_rfl) (by kernel_rfl) (by kernel_rfl) (fun _ _ _ h => h) (Or.inl ⟨by rfl, ?y25⟩) (by assumption) ?r25
        case y25 => (intro w hSw; (try dsimp only at hSw); (try (go_split_ands)); go_simp; try with_reducible rfl)
        try simp only [Act.put, List.setIfInBounds_toArray, List.set_cons_zero, List.set_cons_succ]
        refine wpAnyH_ready (rs := [5]) (by kernel_rfl) (by simp) ?_
        refine AllReadyH.cons (o := { dst := none, op := Op.store 27 (Operand.tmp 2) (Operand.tmp 109), type := 0, pos := "ref.go:65", after := #[{ on := 0, ground := Ground.data }, { on := 0, ground := Ground.phase }, { on := 1, ground := Ground.textOnly Departure.lateStores }, { on := 2, ground := Ground.textOnly Departure.lateStores }, { on := 3, ground := Ground.textOnly Departure.lateStores }, { on := 4, ground := Ground.textOnly Departure.lateStoresUnsure }], guard := none }) rfl (fun K hK => ?_) AllReadyH.nil
        refine step_store_row rfl 27 (.tmp 2) (.tmp 109) rfl w.heap.size (Hd.mk a0 a1 a2 a3 a4 a5 a6 a7 a8 a9 a10 a11 false 0 false 0 KT true).row rfl rfl 27 _ HAd.out (hdSize _) rfl (Hd.row_all _) ?_
        have HBe := hide ((Go.setRow_other wd w.heap.size w1.heap.size (Hd.mk a0 a1 a2 a3 a4 a5 a6 a7 a8 a9 a10 a11 false 0 false 0 KT true).row (Nat.ne_of_gt hz1)).trans HBd.out)
        have cke : (wd.setRow w.heap.size (Hd.mk a0 a1 a2 a3 a4 a5 a6 a7 a8 a9 a10 a11 false 0 false 0 KT true).row).cell? ⟨w1.heap.size, 16, none⟩ = some (.int .i64 KT) := by rw [cell_of_row _ _ _ _ _ _ HBe.out]; rfl
        refine hK.out _ _ ⟨HBe.out, cke⟩ (fun hHeld5 => ?_)
        clear hK K
        try simp only [Act.put]
        refine wpAnyH_take (i := 6) (oi := { dst := some 3, op := Op.assign (Operand.tmp 113), type := 22, pos := "ref.go:65", after := #[{ on := 4, ground := Ground.data }, { on := 5, ground := Ground.chain }, { on := 0, ground := Ground.phase }, { on := 1, ground := Ground.phase }, { on := 2, ground := Ground.phase }, { on := 3, ground := Ground.phase }, { on := 4, ground := Ground.phase }, { on := 5, ground := Ground.phase }], guard := none }) (v := ?v26) rfl (by kernel_rfl) (by kernel_rfl) (by kernel_rfl) (fun _ _ _ h => h) (Or.inl ⟨by rfl, ?y26⟩) (by assumption) ?r26
        case y26 => (intro w hSw; (try dsimp only at hSw); (try (go_split_ands)); go_simp; try with_reducible rfl)
        try simp only [Act.put, List.setIfInBounds_toArray, List.set_cons_zero, List.set_cons_succ]
        refine wpAnyH_take (i := 7) (oi := { dst := some 4, op := Op.assign (Operand.const (Value.int IntKind.i64 0)), type := 3, pos := "ref.go:65", after := #[{ on := 6, ground := Ground.chain }, { on := 0, ground := Ground.phase }, { on := 1, ground := Ground.phase }, { on := 2, ground := Ground.phase }, { on := 3, ground := Ground.phase }, { on := 4, ground := Ground.phase }, { on := 5, ground := Ground.phase }, { on := 6, ground := Ground.phase }], guard := none }) (v := ?v27) rfl (by kernel_rfl) (by kernel_rfl) (by kernel_rfl) (fun _ _ _ h => h) (Or.inl ⟨by rfl, ?y27⟩) (by assumption) ?r27
        case y27 => (intro w hSw; (try dsimp only at hSw); (try (go_split_ands)); go_simp; try with_reducible rfl)
        try simp only [Act.put, List.setIfInBounds_toArray, List.set_cons_zero, List.set_cons_succ]
        refine wpAnyH_done (by kernel_rfl) ?_ _
        refine NoPanic.normal ?_
        go_wp2_with fail
        exact bodyPost_ret (results_cell_row3 rfl _ _ w.heap.size 27 _ _ _ rfl (setRow_heap _ _ _ _ _ _ HAd.out) Tryd.underlying27 rfl (hdSize (Hd.mk a0 a1 a2 a3 a4 a5 a6 a7 a8 a9 a10 a11 false 0 false 0 KT true))) rfl ⟨_, _, _, by rw [hq.out]; rfl, by rw [hq.out]; exact (HDd.out.headAny0 KT.toNat hkl.out).setRow_other _ _ (fun a n c e => by cases e; show b ≠ _; omega), below_setRow HWd.out (Nat.le_refl _) _⟩
end Go.Proofs.YtiimppbfigikfaaDoor
