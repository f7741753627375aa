/-
  The walk of the statement WholeSeals: whatever the numbers and the cut, it answers true and writes nothing that was there. Condition: the table lies as the program's text lays it.
-/
import Derived.Test.YtjoejbdgiepdcaaDoorSums
import Derived.Test.YtjoejbdgiepdcaaDoorCame
import Derived.Deep.RegionHeld3
import Derived.BigQuiet
import Derived.Deep.QuietTactic
import Derived.Deep.DrawnRows
import Derived.Outline
namespace Go.Proofs.YtjoejbdgiepdcaaDoor
open Go.RowKit
set_option linter.unusedVariables false
set_option linter.unusedSimpArgs false
attribute [local go_sem ↓] Go.wp_at_zero Go.wp_at_succ

/-- Numbers in eight bytes each, behind each other. -/
def L8 (zs : List Int) : List Int := (zs.map fun z => digs z 8).flatten
theorem L8_snoc (zs : List Int) (j : Nat) (h : j < zs.length) : L8 (zs.take (j + 1)) = L8 (zs.take j) ++ digs (zs.getD j 0) 8 := by
  unfold L8
  rw [take_snocD zs j h, List.map_append, List.flatten_append]
  simp
theorem L8_length (zs : List Int) : (L8 zs).length = 8 * zs.length := by
  induction zs with
  | nil => rfl
  | cons z zs ih => unfold L8 at ih ⊢; simp [digs_length, ih]; omega
theorem L8_byte (zs : List Int) : Byte (L8 zs) := by
  induction zs with
  | nil => exact Byte.nil
  | cons z zs ih => exact (digs_byte z 8).append ih
theorem L8_drop (zs : List Int) : ∀ j, j ≤ zs.length → (L8 zs).drop (8 * j) = L8 (zs.drop j) := by
  induction zs with
  | nil => intro j hj; simp [L8]
  | cons z zs ih =>
    intro j hj
    match j with
    | 0 => rfl
    | j + 1 =>
      have e : L8 (z :: zs) = digs z 8 ++ L8 zs := rfl
      rw [e, show 8 * (j + 1) = (digs z 8).length + 8 * j by rw [digs_length]; omega, ← List.drop_drop, List.drop_left]
      exact ih j (by simpa using hj)
theorem L8_at (zs : List Int) (j : Nat) (h : j < zs.length) : ((L8 zs).drop (8 * j)).take 8 = digs (zs.getD j 0) 8 := by
  rw [L8_drop zs j (by omega), List.drop_eq_getElem_cons h]
  show (digs zs[j] 8 ++ L8 (zs.drop (j + 1))).take 8 = _
  rw [List.take_append_of_le_length (by rw [digs_length]; exact Nat.le_refl _), List.take_of_length_le (by rw [digs_length]; exact Nat.le_refl _), List.getD_eq_getElem?_getD, List.getElem?_eq_getElem h]
  rfl

theorem whole_put (w : World) : Calls Tryd.prog 17 #[.int .u64 5, .int .i64 1] w fun e w' => e = .returned (.tuple #[.slice (some ⟨w.heap.size, 0, none⟩) 1 1, .int .i64 0]) ∧ Bs w' (.slice (some ⟨w.heap.size, 0, none⟩) 1 1) [5] ∧ Below w.heap.size w w' :=
  Put_fits 5 1 w (by decide) (by decide) (by decide) (by decide)
theorem whole_seal {w : World} {v : Value} (h : Bs w v [5]) (hT : Tab w) : Calls Tryd.prog 13 #[v] w fun e w' => e = .returned (.slice (some ⟨w.heap.size, 0, none⟩) 5 5) ∧ Below w.heap.size w w' :=
  (Seal_any h hT (by decide)).mono fun _ _ h => ⟨h.1, h.2.2⟩
theorem Put8 (n : Int) (w : World) (h0 : 0 ≤ n) (hn : n < 18446744073709551616) : Calls Tryd.prog 17 #[.int .u64 n, .int .i64 8] w fun e w' => e = .returned (.tuple #[.slice (some ⟨w.heap.size, 0, none⟩) 8 8, .int .i64 0]) ∧ Bs w' (.slice (some ⟨w.heap.size, 0, none⟩) 8 8) (digs n 8) ∧ Below w.heap.size w w' :=
  Put_fits n 8 w h0 (by decide) (by decide) (by have : (256 : Int) ^ 8 = 18446744073709551616 := by decide
                                                omega)
theorem Number8 {w : World} {g : Nat} {l : List Int} (h : Rd w g l 0) (hm : l.length ≤ 1099511627776) (hk : 8 ≤ l.length) : Calls Tryd.prog 19 #[.pointer (some ⟨g, 0, none⟩), .int .i64 8] w fun e w' => e = .returned (.int .u64 (num (l.take 8))) ∧ Rd w' g (l.drop 8) 0 ∧ Below g w w' :=
  RNumber_ok h 8 hm (by decide) (by decide) hk
theorem Join_two {w : World} {v1 v2 : Value} {a b : List Int} (h1 : Bs w v1 a) (h2 : Bs w v2 b) (hm : a.length + b.length ≤ 1099511627776) :
    Calls Tryd.prog 12 #[.slice (some ⟨w.heap.size, 0, none⟩) 2 2] (w.alloc (.cells #[v1, v2] 24)) fun e w' => ∃ v, e = .returned v ∧ Bs w' v (a ++ b) ∧ Below w.heap.size w w' := by
  have hb := BBs.lit (w := w) [v1, v2] [a, b] rfl (by simp [maxLen]) (fun i hi => match i, hi with
    | 0, _ => h1
    | 1, _ => h2)
  refine (Join_any hb (by simp) (by simpa using hm)).mono ?_
  rintro e w' ⟨rfl, h3, h4⟩
  refine ⟨_, rfl, by simpa using h3, ?_⟩
  exact ((Below.refl _ _).alloc (Nat.le_refl _) _).trans (h4.mono (by simp))

/-- What holds with more kept holds with less. -/
theorem wpAnyH_mono {P : Program} {ops : Array Oper} {Q : Exit → Act → World → Prop} {md : Region.Mode} {S S' : World → Prop} (h : ∀ w, S' w → S w) : ∀ (fuel : Nat) (listed : Array Bool) (a : Act) (w : World), wpAnyH P md ops Q S' fuel listed a w → wpAnyH P md ops Q S fuel listed a w
  | 0, _, _, _, hw => hw
  | fuel + 1, _, _, _, hw => ⟨hw.1, fun i hi => wpOp_mono (fun a' w' h' => ⟨h _ h'.1, wpAnyH_mono h fuel _ a' w' h'.2⟩) (hw.2 i hi)⟩

/-- What is left of it from a place on. -/
theorem Bs.tail {w : World} {g n cap : Nat} {l : List Int} (h : Bs w (.slice (some ⟨g, 0, none⟩) n cap) l) (hl : l.length = n) (k : Nat) (hk : k ≤ n) : Bs w (.slice (some ⟨g, k, none⟩) (n - k) (cap - k)) (l.drop k) := by
  obtain ⟨hby, a, cap', e, h1, h2, _, h4⟩ := h
  simp only [Value.slice.injEq] at e
  obtain ⟨rfl, _, rfl⟩ := e
  have e1 : (l.drop k).length = n - k := by simp; omega
  have := Bs.mk_at (w := w) (l := l.drop k) (b := g) (off := k) (cap := cap - k) (hby.drop k) (by omega) (by omega) (fun i hi => by
    rw [e1] at hi
    obtain ⟨b, off, e, hc⟩ := h4 (k + i) (by omega)
    cases e
    rw [Nat.zero_add] at hc
    rw [hc]
    congr 2
    simp [List.getD_eq_getElem?_getD])
  rwa [e1] at this

set_option maxRecDepth 100000 in
set_option maxHeartbeats 4000000 in
theorem Whole1_walk (a : Option Addr) (m cap : Nat) (zs : List Int) (w : World) (hT : Tab w) (cut : Int) (hc1 : -9223372036854775808 ≤ cut) (hc2 : cut ≤ 9223372036854775807) (hm : m ≤ maxLen) (hl : m ≤ zs.length)
    (hz : ∀ i, i < m → (∃ b off, a = some ⟨b, off, none⟩ ∧ w.cell? ⟨b, off + i, none⟩ = some (.int .u64 (zs.getD i 0))) ∧ 0 ≤ zs.getD i 0 ∧ zs.getD i 0 < 18446744073709551616) :
    Calls Tryd.prog 8 #[.slice a m cap, .int .i64 cut] w fun e w' => e = .returned (.bool true) ∧ Below w.heap.size w w' := by
  have HT := hide hT
  have HZ := hide hz
  clear hT hz
  unfold maxLen at hm
  go_enter Tryd.func8, Tryd.ntmps8
  go_wp2_with fail
  refine (whole_put w).mono ?_
  rintro e w1 ⟨rfl, hB1, hb1⟩
  have HT1 := hide (HT.out.later hb1)
  go_wp2_with fail
  refine (whole_seal hB1 HT1.out).mono ?_
  rintro e w2 ⟨rfl, hb2⟩
  have HB2 := hide (hb1.trans (hb2.mono hb1.size))
  clear hB1 hb1 hb2 HT1
  by_cases h6 : 60 < m
  · go_wp2
    go_ret
    exact ⟨rfl, HB2.out⟩
  · go_wp2
    generalize hlen : (zs.take m) = ys at *
    have hyl : ys.length = m := by rw [← hlen]; simp; omega
    have HY : Hid (∀ i, i < m → (∃ b off, a = some ⟨b, off, none⟩ ∧ w.cell? ⟨b, off + i, none⟩ = some (.int .u64 (ys.getD i 0))) ∧ 0 ≤ ys.getD i 0 ∧ ys.getD i 0 < 18446744073709551616) := fun i hi => by
      have e : ys.getD i 0 = zs.getD i 0 := by rw [← hlen]; simp [List.getD_eq_getElem?_getD, hi]
      rw [e]; exact HZ.out i hi
    have HYL := hide hyl
    clear hlen HZ hyl hl
    go_loopw [7, 42] (fun x i wr => ∃ j : Nat, j ≤ m ∧ i = .int .i64 j ∧ Hid (Bs wr x (L8 (ys.take j))) ∧ Hid (Below w.heap.size w wr)) (fun _ i _ => m - (intOf i).toNat)
    case atStart => exact ⟨0, Nat.zero_le _, rfl, Bs.nil _, HB2⟩
    case round =>
      obtain ⟨j, hj, rfl, HX, HBr⟩ := hrel
      clear HB2
      by_cases hlt : j < m
      · obtain ⟨⟨b, off, rfl, hcz⟩, hz1, hz2⟩ := HY.out j hlt
        have hcz1 : wr.cell? ⟨b, off + j, none⟩ = some (.int .u64 (ys.getD j 0)) := by rw [HBr.out.cell (p := ⟨b, off + j, none⟩) (block_lt_of_cell hcz)]; exact hcz
        have hsn := hide (L8_snoc ys j (by rw [HYL.out]; exact hlt))
        have hln : Hid ((L8 (ys.take j)).length ≤ 480) := by
          show (L8 (ys.take j)).length ≤ 480
          rw [L8_length]
          simp
          omega
        clear hcz
        generalize ys.getD j 0 = n at *
        generalize L8 (ys.take j) = lj at *
        obtain ⟨_, ax, capx, hux, _⟩ := HX.out
        subst hux
        go_wp2_with fail
        refine (Put8 n _ hz1 hz2).mono ?_
        rintro e wp ⟨rfl, hBp, hbp⟩
        have HXp := hide (HX.out.below hbp)
        have HBp := hide (HBr.out.trans (hbp.mono HBr.out.size))
        have HPp := hide hBp
        clear hBp hbp
        go_wp2_with fail
        refine (Join_two HXp.out HPp.out (by rw [digs_length]; have := hln.out; omega)).mono ?_
        rintro e wj ⟨vj, rfl, hBj, hbj⟩
        have HJ : Hid (Bs wj vj (L8 (ys.take (j + 1)))) := by show Bs _ _ _; rw [hsn.out]; exact hBj
        have HBj := hide (HBp.out.trans (hbj.mono HBp.out.size))
        clear hBj hbj
        go_wp2
        go_roundw
        case rel => exact ⟨j + 1, by omega, by go_num, HJ, HBj⟩
        case measure => simp [intOf]; omega
      · have hall : L8 (ys.take j) = L8 ys := by rw [List.take_of_length_le (by rw [HYL.out]; omega)]
        rw [hall] at HX
        have hLl : (L8 ys).length = 8 * m := by rw [L8_length, HYL.out]
        have HLl := hide hLl
        clear hall hLl
        obtain ⟨_, ax, capx, hux, _⟩ := HX.out
        subst hux
        have hTr := HT.out.later HBr.out
        go_wp2_with fail
        have hseal := Seal_any HX.out hTr (by rw [HLl.out]; omega)
        rw [HLl.out] at hseal
        rw [HLl.out]
        refine hseal.mono ?_
        clear hseal hTr
        rintro e ws ⟨rfl, hBs, hbs⟩
        have HBs := hide (HBr.out.trans (hbs.mono HBr.out.size))
        have HSs := hide hBs
        have hSl : (sealL (L8 ys)).length = 8 * m + 4 := by rw [sealL_length, HLl.out]
        have HSl := hide hSl
        generalize wr.heap.size = gs at *
        clear hBs hbs hSl
        go_wp2_with fail
        have hop := Open_long HSs.out (HT.out.later HBs.out) (by rw [HSl.out]; omega) (by rw [HSl.out]; omega)
        have htk : (sealL (L8 ys)).take (8 * m) = L8 ys := by
          unfold sealL
          rw [List.take_append_of_le_length (by rw [HLl.out]; exact Nat.le_refl _), List.take_of_length_le (by rw [HLl.out]; exact Nat.le_refl _)]
        rw [HSl.out, show 8 * m + 4 - 4 = 8 * m by omega, htk] at hop
        refine hop.mono ?_
        clear hop htk
        rintro e wo ⟨h3 | h3, hbo⟩
        · obtain ⟨_, rfl, hBo⟩ := h3
          have HBo := hide (HBs.out.trans (hbo.mono HBs.out.size))
          have HSo := hide (HSs.out.below hbo)
          generalize ws.heap.size = go at *
          clear hbo
          go_wp2_with fail
          refine (Read_any hBo).mono ?_
          rintro e wd ⟨rfl, hRd, hbd⟩
          have HBd := hide (HBo.out.trans (hbd.mono HBo.out.size))
          have HSd := hide (HSo.out.below hbd)
          have hgd : w.heap.size ≤ wo.heap.size := HBo.out.size
          have hgsd : gs < wo.heap.size := by
            obtain ⟨_, a', cap', e, _, _, _, h5⟩ := HSo.out
            simp only [Value.slice.injEq] at e
            obtain ⟨b, off, e', hc⟩ := h5 0 (by rw [HSl.out]; omega)
            rw [← e.1] at e'
            cases e'
            exact block_lt_of_cell hc
          have HRd := hide hRd
          generalize wo.heap.size = gd at *
          clear hRd hbd hBo
          have hbl : Bl gd (.slice (some ⟨gs, 0, none⟩) (8 * m + 4) (8 * m + 4)) := fun a n c e hn => by cases e; exact hgsd
          have HBl := hide hbl
          clear hbl HSs HSo HBs HBo HBr HX
          go_wp2
          go_loopw [69] (fun i wr => ∃ j : Nat, j ≤ m ∧ i = .int .i64 j ∧ Hid (Rd wr gd ((L8 ys).drop (8 * j)) 0) ∧ Hid (Bs wr (.slice (some ⟨gs, 0, none⟩) (8 * m + 4) (8 * m + 4)) (sealL (L8 ys))) ∧ Hid (Below w.heap.size w wr)) (fun i _ => m - (intOf i).toNat)
          case atStart => exact ⟨0, Nat.zero_le _, rfl, HRd, HSd, HBd⟩
          case round =>
            clear HRd HSd HBd hj hlt
            obtain ⟨j, hj, rfl, HR, HS, HBr⟩ := hrel
            have hdl : ((L8 ys).drop (8 * j)).length = 8 * m - 8 * j := by rw [List.length_drop, HLl.out]
            have HDL := hide hdl
            clear hdl
            by_cases hlt : j < m
            · obtain ⟨⟨b, off, rfl, hcz⟩, hz1, hz2⟩ := HY.out j hlt
              have hcz1 : wr.cell? ⟨b, off + j, none⟩ = some (.int .u64 (ys.getD j 0)) := by rw [HBr.out.cell (p := ⟨b, off + j, none⟩) (block_lt_of_cell hcz)]; exact hcz
              have hnum : num (((L8 ys).drop (8 * j)).take 8) = ys.getD j 0 := by
                rw [L8_at ys j (by rw [HYL.out]; exact hlt), num_digs _ 8 hz1 (by
                  have : (256 : Int) ^ 8 = 18446744073709551616 := by decide
                  omega)]
              have HNum := hide hnum
              have hself : (ys.getD j 0 != ys.getD j 0) = false := by simp
              clear hcz hnum hself
              generalize ys.getD j 0 = n at *
              go_wp2_with fail
              refine (Number8 HR.out (by rw [HDL.out]; omega) (by rw [HDL.out]; omega)).mono ?_
              rintro e wn ⟨rfl, hRn, hbn⟩
              rw [List.drop_drop, show 8 * j + 8 = 8 * (j + 1) by omega] at hRn
              rw [HNum.out]
              have HRn := hide hRn
              have HSn := hide (HS.out.belowAt HBl.out hbn)
              have HBn := hide (HBr.out.trans (hbn.mono hgd))
              clear hRn hbn
              go_wp2
              go_roundw
              case rel => exact ⟨j + 1, by omega, by go_num, HRn, HSn, HBn⟩
              case measure => simp [intOf]; omega
            · have hd0 : ((L8 ys).drop (8 * j)).length = 0 := by rw [HDL.out]; omega
              have HD0 := hide hd0
              clear hd0
              go_wp2_with fail
              refine (Left_any HR.out).mono ?_
              rw [HD0.out]
              rintro e wl ⟨rfl, rfl⟩
              go_wp2_with fail
              refine (Err_any HR.out).mono ?_
              rintro e wl' ⟨rfl, rfl⟩
              rcases (show cut < 0 ∨ (0 ≤ cut ∧ 8 * (m : Int) + 4 ≤ cut) ∨ (0 ≤ cut ∧ cut < 8 * (m : Int) + 4) from by omega) with hc | ⟨hc, hc'⟩ | ⟨hc, hc'⟩
              · go_wp2
                go_ret
                exact ⟨rfl, HBr.out⟩
              · go_wp2
                go_ret
                exact ⟨rfl, HBr.out⟩
              · obtain ⟨k, rfl⟩ := Int.eq_ofNat_of_zero_le hc
                have hkn : k < 8 * m + 4 := by omega
                have hV := HS.out.tail HSl.out k (by omega)
                have hVl : ((sealL (L8 ys)).drop k).length = 8 * m + 4 - k := by rw [List.length_drop, HSl.out]
                have HVt := hide hV
                have HVl := hide hVl
                generalize (sealL (L8 ys)).drop k = lt at *
                clear hV hVl
                by_cases hsh : 8 * m + 4 - k < 4
                · go_wp2_with fail
                  refine (Open_short HVt.out (by rw [HVl.out]; exact hsh)).mono ?_
                  rintro e wx ⟨rfl, rfl⟩
                  go_wp2_with fail
                  go_quiet (fail)
                  go_wp2
                  go_ret
                  exact ⟨rfl, below_drewN HBr.out _⟩
                · go_wp2_with fail
                  have hop := Open_long HVt.out (HT.out.later HBr.out) (by rw [HVl.out]; omega) (by rw [HVl.out]; omega)
                  rw [HVl.out] at hop
                  refine hop.mono ?_
                  clear hop
                  rintro e wx ⟨h3 | h3, hbx⟩
                  · obtain ⟨hsq, rfl, hBc⟩ := h3
                    have HBx := hide (HBr.out.trans (hbx.mono HBr.out.size))
                    have HVx := hide (HVt.out.below hbx)
                    have hbl2 : (lt.take (8 * m + 4 - k - 4)).length = 8 * m + 4 - k - 4 := by rw [List.length_take, HVl.out]; omega
                    have HB2 := hide hbl2
                    have HBc := hide hBc
                    have HSQ := hide hsq
                    clear hbl2 hBc hsq hbx
                    generalize wl'.heap.size = gx at *
                    go_wp2_with fail
                    obtain ⟨ST, hST⟩ : ∃ S, S = bstr lt := ⟨_, rfl⟩
                    obtain ⟨S2, hS2⟩ : ∃ S, S = bstr lt := ⟨_, rfl⟩
                    have heq : (S2.toList == ST.toList) = true := by rw [hST, hS2]; simp
                    have keep : Hid (∀ W, Below wx.heap.size wx W → (convert 24 9 (.slice (some ⟨gs, k, none⟩) (8 * m + 4 - k) (8 * m + 4 - k))).run Tryd.prog W = .ok (.string ST) W) := fun W hW => by
                      rw [hST]; exact conv_str 24 9 5 Tryd.underlying24 Tryd.underlying5 Tryd.underlying9 (HVx.out.below hW)
                    have hd : Hid (Below wx.heap.size wx wx.drew) := (Below.refl _ _).drew
                    have hTx : Hid (Tab wx.drew) := (HT.out.later HBx.out).later hd.out
                    have hseal : Hid (Calls Tryd.prog 13 #[.slice (some ⟨gx, 0, none⟩) (8 * m + 4 - k - 4) (8 * m + 4 - k - 4)] wx.drew fun e w' => e = .returned (.slice (some ⟨wx.heap.size, 0, none⟩) (8 * m + 4 - k) (8 * m + 4 - k)) ∧ Bs w' (.slice (some ⟨wx.heap.size, 0, none⟩) (8 * m + 4 - k) (8 * m + 4 - k)) lt ∧ Below wx.heap.size wx w') := by
                      have h := Seal_any (HBc.out.below hd.out) hTx.out (by rw [HB2.out]; omega)
                      rw [HB2.out, HSQ.out, show 8 * m + 4 - k - 4 + 4 = 8 * m + 4 - k by omega] at h
                      refine h.mono ?_
                      rintro e w' ⟨h1, h2, h3⟩
                      exact ⟨h1, h2, hd.out.trans h3⟩
                    have HS2 := hide hS2
                    clear hST hS2
                    have hkI : (k : Int) ≤ 8 * (m : Int) + 4 := by omega
                    have hkne : ¬ 8 * m + 4 = k := by omega
                    refine wp_region_noPanic ?_
                    refine wp_region_held_drew (S := (fun W => Below wx.heap.size wx W ∧ (convert 24 9 (.slice (some ⟨gs, k, none⟩) (8 * m + 4 - k) (8 * m + 4 - k))).run Tryd.prog W = .ok (.string ST) W)) (by kernel_rfl) ?_ (fun hHeld => ?_)
                    · exact ⟨hd.out, keep.out _ hd.out⟩
                    refine wpAnyH_take (i := 0) (v := ?v0) rfl (by kernel_rfl) (by kernel_rfl) (by kernel_rfl) (fun _ _ _ h => h) (Or.inl ⟨by rfl, ?y0⟩) (by assumption) ?r0
                    case y0 => (intro w hSw; (try dsimp only at hSw); go_simp; try with_reducible rfl)
                    try simp only [Act.put, List.setIfInBounds_toArray, List.set_cons_zero, List.set_cons_succ]
                    refine wpAnyH_take (i := 1) (v := ?v1) rfl (by kernel_rfl) (by kernel_rfl) (by kernel_rfl) (fun _ _ _ h => h) (Or.inl ⟨by rfl, ?y1⟩) (by assumption) ?r1
                    case y1 => (intro w hSw; (try dsimp only at hSw); go_simp; try with_reducible rfl)
                    try simp only [Act.put, List.setIfInBounds_toArray, List.set_cons_zero, List.set_cons_succ]
                    refine wpAnyH_take (i := 2) (v := ?v2) rfl (by kernel_rfl) (by kernel_rfl) (by kernel_rfl) (fun _ _ _ h => h) (Or.inl ⟨by rfl, ?y2⟩) (by assumption) ?r2
                    case y2 => (intro w hSw; (try dsimp only at hSw); go_simp; try with_reducible rfl)
                    try simp only [Act.put, List.setIfInBounds_toArray, List.set_cons_zero, List.set_cons_succ]
                    refine wpAnyH_take (i := 3) (v := ?v3) rfl (by kernel_rfl) (by kernel_rfl) (by kernel_rfl) (fun _ _ _ h => h) (Or.inl ⟨by rfl, ?y3⟩) (by assumption) ?r3
                    case y3 => (intro w hSw; (try dsimp only at hSw); go_simp; try with_reducible rfl)
                    try simp only [Act.put, List.setIfInBounds_toArray, List.set_cons_zero, List.set_cons_succ]
                    refine wpAnyH_take (i := 6) (v := ?v6) rfl (by kernel_rfl) (by kernel_rfl) (by kernel_rfl) (fun _ _ _ h => h) (Or.inl ⟨by rfl, ?y6⟩) (by assumption) ?r6
                    case y6 => (intro w hSw; (try dsimp only at hSw); go_simp; try with_reducible rfl)
                    try simp only [Act.put, List.setIfInBounds_toArray, List.set_cons_zero, List.set_cons_succ]
                    refine wpAnyH_take (i := 7) (v := ?v7) rfl (by kernel_rfl) (by kernel_rfl) (by kernel_rfl) (fun _ _ _ h => h) (Or.inl ⟨by rfl, ?y7⟩) (by assumption) ?r7
                    case y7 => (intro w hSw; (try dsimp only at hSw); go_simp; try with_reducible rfl)
                    try simp only [Act.put, List.setIfInBounds_toArray, List.set_cons_zero, List.set_cons_succ]
                    refine wpAnyH_take (i := 8) (v := ?v8) rfl (by kernel_rfl) (by kernel_rfl) (by kernel_rfl) (fun _ _ _ h => h) (Or.inl ⟨by rfl, ?y8⟩) (by assumption) ?r8
                    case y8 => (intro w hSw; (try dsimp only at hSw); go_simp; try with_reducible rfl)
                    try simp only [Act.put, List.setIfInBounds_toArray, List.set_cons_zero, List.set_cons_succ]
                    refine wpAnyH_take (i := 9) (v := ?v9) rfl (by kernel_rfl) (by kernel_rfl) (by kernel_rfl) (fun _ _ _ h => h) (Or.inl ⟨by rfl, ?y9⟩) (by assumption) ?r9
                    case y9 => (intro w hSw; (try dsimp only at hSw); go_simp; try with_reducible rfl)
                    try simp only [Act.put, List.setIfInBounds_toArray, List.set_cons_zero, List.set_cons_succ]
                    refine wpAnyH_ready (rs := [4]) (by kernel_rfl) (by simp) ?_
                    refine AllReadyH.cons rfl (fun K hK => ?_) AllReadyH.nil
                    go_simp
                    refine (hseal.out).mono ?_
                    rintro e wy ⟨rfl, hBy, hby2⟩
                    go_wp2_with fail
                    refine hK.out _ _ ?_ (fun hHeld4 => ?_)
                    · exact ⟨hby2, keep.out _ hby2⟩
                    clear hK K
                    try simp only [Act.put, List.setIfInBounds_toArray, List.set_cons_zero, List.set_cons_succ]
                    refine wpAnyH_mono (S' := (fun W => (Below wx.heap.size wx W ∧ (convert 24 9 (.slice (some ⟨gs, k, none⟩) (8 * m + 4 - k) (8 * m + 4 - k))).run Tryd.prog W = .ok (.string ST) W) ∧ (convert 24 9 (.slice (some ⟨wx.heap.size, 0, none⟩) (8 * m + 4 - k) (8 * m + 4 - k))).run Tryd.prog W = .ok (.string S2) W ∧ Below wy.heap.size wy W)) (fun W h => h.1) _ _ _ _ ?_
                    have hconv2 : Hid (∀ W, Below wy.heap.size wy W → (convert 24 9 (.slice (some ⟨wx.heap.size, 0, none⟩) (8 * m + 4 - k) (8 * m + 4 - k))).run Tryd.prog W = .ok (.string S2) W) := fun W hW => by
                      rw [HS2.out]; exact conv_str 24 9 5 Tryd.underlying24 Tryd.underlying5 Tryd.underlying9 (hBy.below hW)
                    have hHeldB : (fun W => (Below wx.heap.size wx W ∧ (convert 24 9 (.slice (some ⟨gs, k, none⟩) (8 * m + 4 - k) (8 * m + 4 - k))).run Tryd.prog W = .ok (.string ST) W) ∧ (convert 24 9 (.slice (some ⟨wx.heap.size, 0, none⟩) (8 * m + 4 - k) (8 * m + 4 - k))).run Tryd.prog W = .ok (.string S2) W ∧ Below wy.heap.size wy W) wy := ⟨hHeld4, hconv2.out _ (Below.refl _ _), Below.refl _ _⟩
                    refine wpAnyH_take (i := 5) (v := ?v5) rfl (by kernel_rfl) (by kernel_rfl) (by kernel_rfl) (fun _ _ _ h => h) (Or.inl ⟨by rfl, ?y5⟩) hHeldB ?r5
                    case y5 => (intro w hSw; (try dsimp only at hSw); go_simp; try with_reducible rfl)
                    try simp only [Act.put, List.setIfInBounds_toArray, List.set_cons_zero, List.set_cons_succ]
                    refine wpAnyH_take (i := 10) (v := ?v10) rfl (by kernel_rfl) (by kernel_rfl) (by kernel_rfl) (fun _ _ _ h => h) (Or.inl ⟨by rfl, ?y10⟩) hHeldB ?r10
                    case y10 => (intro w hSw; (try dsimp only at hSw); go_simp; try with_reducible rfl)
                    try simp only [Act.put, List.setIfInBounds_toArray, List.set_cons_zero, List.set_cons_succ]
                    refine wpAnyH_take (i := 11) (v := ?v11) rfl (by kernel_rfl) (by kernel_rfl) (by kernel_rfl) (fun _ _ _ h => h) (Or.inl ⟨by rfl, ?y11⟩) hHeldB ?r11
                    case y11 => (intro w hSw; (try dsimp only at hSw); go_simp; try with_reducible rfl)
                    try simp only [Act.put, List.setIfInBounds_toArray, List.set_cons_zero, List.set_cons_succ]
                    refine wpAnyH_take (i := 12) (v := ?v12) rfl (by kernel_rfl) (by kernel_rfl) (by kernel_rfl) (fun _ _ _ h => h) (Or.inl ⟨by rfl, ?y12⟩) hHeldB ?r12
                    case y12 => (intro w hSw; (try dsimp only at hSw); go_simp; try with_reducible rfl)
                    try simp only [Act.put, List.setIfInBounds_toArray, List.set_cons_zero, List.set_cons_succ]
                    refine wpAnyH_done (by kernel_rfl) ?_ _
                    refine NoPanic.normal ?_
                    go_wp2
                    go_ret
                    exact ⟨rfl, HBx.out.trans (hby2.mono HBx.out.size)⟩
                  · obtain ⟨_, rfl⟩ := h3
                    have HBx := hide (HBr.out.trans (hbx.mono HBr.out.size))
                    clear hbx
                    go_wp2_with fail
                    go_quiet (fail)
                    go_wp2
                    go_ret
                    exact ⟨rfl, below_drewN HBx.out _⟩
        · exact absurd rfl h3.1
end Go.Proofs.YtjoejbdgiepdcaaDoor
