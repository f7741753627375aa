
/-
  What WholeWays asks of a bridge of three (mathematics; Decide in its words). Conditions: those that each theorem names.
-/
import Derived.Test.YtiahiakllpjliaaDoorDr1
import Derived.Test.YtiahiakllpjliaaDoorSm5
import Derived.Test.YtiahiakllpjliaaDoorCame
namespace Go.Proofs.YtiahiakllpjliaaDoor
open Go.RowKit Go.Maps
set_option linter.unusedVariables false
set_option linter.unusedSimpArgs false
set_option maxRecDepth 20000

@[reducible] def stb (b : Int) : M6 := ⟨2, b, 0, 0, 0, 0⟩
theorem stb_wf {b : Int} (h : 0 ≤ b ∧ b ≤ 255) : (stb b).wf := by
  show (0 ≤ (2 : Int) ∧ (2 : Int) ≤ 255) ∧ (0 ≤ b ∧ b ≤ 255) ∧ (0 ≤ (0 : Int) ∧ (0 : Int) ≤ 255) ∧ (0 ≤ (0 : Int) ∧ (0 : Int) ≤ 255) ∧ (0 ≤ (0 : Int) ∧ (0 : Int) ≤ 255) ∧ 0 ≤ (0 : Int) ∧ (0 : Int) ≤ 255
  omega
theorem stb_grp (b : Int) : grpB (stb b) = false := rfl
theorem stb_res (b : Int) : resM (stb b) = false := by simp [resM, resBR]
@[reducible] def wwH (src dst pcp vid : Int) : Hd := ⟨2, dst, 0, 0, 0, 0, 2, src, 0, 0, 0, 0, true, pcp, false, vid, 2048, false⟩
@[reducible] def wwF (vid : Int) : Int → Option (Int × Int) := updK (newF 3) vid (some (7, 0))
section
variable {src dst pcp vid : Int}
theorem ww_check (hv : 2 ≤ vid ∧ vid ≤ 4094) (hp : 0 ≤ pcp ∧ pcp ≤ 7) : checkE (wwH src dst pcp vid) 1 = 0 := by
  have e1 : tagFitsB (wwH src dst pcp vid) = true := by simp [tagFitsB]; omega
  have e2 : typeFitsB (wwH src dst pcp vid) 1 = true := by simp [typeFitsB]
  unfold checkE
  rw [if_neg (by omega), if_neg (by rw [e1]; decide), if_neg (by rw [e2]; simp)]
theorem ww_bytes (hs : 0 ≤ src ∧ src ≤ 255) (hd : 0 ≤ dst ∧ dst ≤ 255) : (wwH src dst pcp vid).bytes := by
  constructor
  · intro z hz; simp [Hd.dst] at hz; omega
  · intro z hz; simp [Hd.src] at hz; omega
theorem ww_set (hv : 2 ≤ vid ∧ vid ≤ 4094) : setB 3 vid 7 0 = true := by
  have e1 : (bits .andNot .i64 0 7 == 0) = true := by decide +kernel
  have e2 : (bits .andNot .i64 7 (allN 3) == 0) = true := by decide +kernel
  have h1 : 1 ≤ vid := by omega
  have h2 : vid ≤ 4094 := hv.2
  unfold setB
  rw [e2, e1]
  simp [vidB, h1, h2]
theorem ww_class (hv : 2 ≤ vid) : classN (List.replicate 3 pvOne) (wwF vid) 0 true pcp vid = (vid, pcp, 0) := by
  unfold classN
  rw [if_pos (by decide), if_neg (by decide), if_neg (by omega)]
  rfl
theorem ww_mem (p : Int) (h : p = 0 ∨ p = 1 ∨ p = 2) : opnB (List.replicate 3 pvOne) (wwF vid) [2, 2, 2] vid p = true := by
  have e1 : memN (wwF vid) vid = 7 := by simp [memN, updK]
  unfold opnB
  rw [e1]
  rcases h with rfl | rfl | rfl <;> decide +kernel
theorem ww_all : opL (opnB (List.replicate 3 pvOne) (wwF vid) [2, 2, 2] vid) 3 = [0, 1, 2] := by
  have hg : ∀ P : Int → Bool, P 0 = true → P 1 = true → P 2 = true → opL P 3 = [0, 1, 2] := fun P h0 h1 h2 => by
    unfold opL
    rw [show (List.range 3).map (fun i : Nat => (i : Int)) = [0, 1, 2] by decide]
    simp [List.filter, h0, h1, h2]
  exact hg _ (ww_mem 0 (by simp)) (ww_mem 1 (by simp)) (ww_mem 2 (by simp))
theorem ww_learn (n : Int) : learnR 9 1000 0 [] vid (stb src) 0 n = (0, 0, [⟨vid, stb src, 0, n⟩]) := by
  simp [learnR, stb_grp, aheadL, kept]
theorem ww_lead (h : src ≠ dst) (n : Int) : leadR (opnB (List.replicate 3 pvOne) (wwF vid) [2, 2, 2] vid) 3 1000 n vid (stb dst) [⟨vid, stb src, 0, n⟩] 0 = ([1, 2], 0) := by
  unfold leadR
  rw [if_neg (by rw [stb_grp]; decide), if_pos (by simp [findR, findB, isB, h])]
  unfold floodR
  rw [ww_all]
  rfl
theorem ww_find : findS (stb dst) (stb src) vid [⟨0, stb dst, vid, 6⟩] = 6 := by
  simp [findS, tellB, List.find?]
theorem ww_plain : plainB (List.replicate 3 pvOne) (wwF vid) vid 2 = false := by
  have e1 : memN (wwF vid) vid = 7 := by simp [memN, updK]
  have e2 : plnN (wwF vid) vid = 0 := by simp [plnN, updK]
  unfold plainB
  rw [e1, e2]
  decide +kernel
theorem ww_add (hv : 2 ≤ vid ∧ vid ≤ 4094) : addR [] ⟨0, stb dst, vid, 6⟩ = (0, [⟨0, stb dst, vid, 6⟩]) := by
  have h1 : mayF ⟨0, stb dst, vid, 6⟩ = true := by simp [mayF]; omega
  unfold addR
  rw [if_neg (by rw [h1]; decide), if_neg (by simp), if_neg (by simp)]
  rfl
theorem ww_st : stateN [2, 2, 2] 0 = 2 := by kernel_rfl
theorem ww_hdr : (wwH src dst pcp vid).row = hdC (stb dst) (stb src) true pcp false vid 2048 false := rfl
/-- All but one block are as they were. -/
def Sam (x : Nat) (w w' : World) : Prop := ∀ b, b < w.heap.size → b ≠ x → w'.heap[b]? = w.heap[b]?
theorem DecideW {K : Nat} {w : World} {g pb mb sb t c : Nat} (h : Br w g pb mb sb (List.replicate 3 pvOne) (wwF vid) c [2, 2, 2]) (hF : Ft w t (.slice none 0 0) 9 1000 0 []) (hK : K ≤ t) (hne : t ≠ g ∧ t ≠ pb ∧ t ≠ mb ∧ t ≠ sb) (hs : 0 ≤ src ∧ src ≤ 255) (hd : 0 ≤ dst ∧ dst ≤ 255) (hsd : src ≠ dst) (hv : 2 ≤ vid ∧ vid ≤ 4094) (n : Int) (hn : timeOk n) :
    Calls Tryd.prog 17 #[.agg (brC g t sb 3), .int .i64 0, .agg (wwH src dst pcp vid).row, .int .i64 n] w fun r w' => ∃ a c', r = .returned (.agg (wayC vid pcp (.slice a 2 c') 0)) ∧ Below K w w' ∧ Sam t w w' := by
  have hv64 : I64G vid := by constructor <;> omega
  have hFo : Fo K (fun b => b < w.heap.size ∧ b ≠ t) w t 9 1000 0 [] := ⟨_, hF, fun k hk => by
    rcases hk with rfl | e
    · exact ⟨hK, fun e => e.2 rfl⟩
    · simp [Value.ownBlock] at e, fun k hk => hk.1, Nat.le_trans hK (Nat.le_of_lt hF.lt)⟩
  refine (Decide_on h hFo (fun k e => by
    have h1 := h.vt.lt
    have h2 := (Array.getElem?_eq_some_iff.1 h.st).1
    rcases e with rfl | rfl | rfl | rfl
    · exact ⟨h1.1, Ne.symm hne.1⟩
    · exact ⟨h1.2.1, Ne.symm hne.2.1⟩
    · exact ⟨h1.2.2, Ne.symm hne.2.2.1⟩
    · exact ⟨h2, Ne.symm hne.2.2.2⟩) ⟨by simp, by simp⟩ (by simp) 0 (wwH src dst pcp vid).row (stb dst) (stb src) true pcp vid (hdC_mac (stb dst) (stb src) true pcp false vid 2048 false) ⟨rfl, by simp [Value.oneCell'], rfl, rfl, rfl⟩ (stb_wf hd) (stb_wf hs) hv64 (pvOne_64 3) n hn ⟨by omega, by omega⟩ (stb_res _) vid pcp hv64 (ww_class hv.1) ww_st 0 0 _ (ww_learn n) [1, 2] 0 (ww_lead hsd n)).mono ?_
  rintro _ w' ⟨v', rfl, hO, _, _, hb, hk⟩
  obtain ⟨a, c', rfl⟩ := hO.shape
  exact ⟨a, c', rfl, hb, fun b h1 h2 => hk b ⟨h1, h2⟩⟩
end
theorem Br.sam {w w' : World} {g pb mb sb x : Nat} {ps : List Pv} {f : Int → Option (Int × Int)} {c : Nat} {sts : List Int} (h : Br w g pb mb sb ps f c sts) (hs : Sam x w w') (hn : g ≠ x ∧ pb ≠ x ∧ mb ≠ x ∧ sb ≠ x) : Br w' g pb mb sb ps f c sts := by
  have h1 := h.vt.lt
  have h2 := (Array.getElem?_eq_some_iff.1 h.st).1
  exact ⟨h.vt.blk fun k e => by
    rcases e with rfl | rfl | rfl
    · exact hs _ h1.1 hn.1
    · exact hs _ h1.2.1 hn.2.1
    · exact hs _ h1.2.2 hn.2.2.1, (hs sb h2 hn.2.2.2).trans h.st, h.few⟩
theorem Ft.sam {w w' : World} {t x : Nat} {room age lost : Int} (h : Ft w t (.slice none 0 0) room age lost []) (hs : Sam x w w') (hn : t ≠ x) : Ft w' t (.slice none 0 0) room age lost [] :=
  h.blk fun k e => by
    rcases e with rfl | e
    · exact hs _ h.lt hn
    · simp [Value.ownBlock] at e
theorem Fst.sam {w w' : World} {t x : Nat} {v : Value} {l : List Sf} (h : Fst w t v l) (hs : Sam x w w') (hn : ∀ k, Fst.foot t v k → x < k) : Fst w' t v l :=
  h.blk fun k e => hs k (h.ltk k e) (by have := hn k e; omega)
/-- Bytes in a block that stays. -/
theorem Bs.kept {w w' : World} {b n c : Nat} {l : List Int} (h : Bs w (.slice (some ⟨b, 0, none⟩) n c) l) (e : w'.heap[b]? = w.heap[b]?) : Bs w' (.slice (some ⟨b, 0, none⟩) n c) l := by
  obtain ⟨h0, a, cap, h1, h2, h3, h4, h5⟩ := h
  refine ⟨h0, a, cap, h1, h2, h3, h4, fun i hi => ?_⟩
  obtain ⟨b', off, h6, h7⟩ := h5 i hi
  simp only [Value.slice.injEq] at h1
  obtain ⟨q1, -, -⟩ := h1
  rw [← q1] at h6
  simp only [Option.some.injEq, Addr.mk.injEq, and_true] at h6
  obtain ⟨rfl, rfl⟩ := h6
  exact ⟨b, 0, q1.symm, (World.cell?_of_block (a := ⟨b, 0 + i, none⟩) e).trans h7⟩
theorem Bs.not_ft {w : World} {b n c t : Nat} {l : List Int} {v : Value} {room age lost : Int} {es : List Fe} (h : Bs w (.slice (some ⟨b, 0, none⟩) n c) l) (hl : 4 ≤ l.length) (hF : Ft w t v room age lost es) : b ≠ t := by
  rintro rfl
  obtain ⟨h0, a, cap, h1, h2, h3, h4, h5⟩ := h
  obtain ⟨b', off, h6, h7⟩ := h5 3 (by omega)
  simp only [Value.slice.injEq] at h1
  obtain ⟨q1, -, -⟩ := h1
  rw [← q1] at h6
  simp only [Option.some.injEq, Addr.mk.injEq, and_true] at h6
  obtain ⟨rfl, rfl⟩ := h6
  rw [cell_of_row _ _ _ _ _ _ hF.row] at h7
  simp at h7
theorem Carr.len {f : List Int} {h : Hd} {l : List Int} (hC : Carr f h l) : 4 ≤ f.length := by have := hC.good.least; omega
theorem Bs.one (w : World) (z : Int) (hz : 0 ≤ z ∧ z ≤ 255) (fr : Nat × Nat) : Bs (w.alloc (.cells #[.int .u8 z] 5 fr)) (.slice (some ⟨w.heap.size, 0, none⟩) 1 1) [z] :=
  Bs.mk_at (by intro y hy; simp at hy; omega) (Nat.le_refl _) (by simp [maxLen]) fun i hi => by
    rw [cell_of_row _ _ _ _ _ _ (heap_alloc_new w _), Nat.zero_add]
    match i, hi with
    | 0, _ => rfl
    | i + 1, h => simp at h
end Go.Proofs.YtiahiakllpjliaaDoor
