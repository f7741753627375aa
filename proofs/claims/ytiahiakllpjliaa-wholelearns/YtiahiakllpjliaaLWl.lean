/-
  The walk of WholeLearns. Conditions: those that each theorem names.
-/
import Derived.Test.YtiahiakllpjliaaLrn1
import Derived.Test.YtiahiakllpjliaaFdb16
import Derived.Test.YtiahiakllpjliaaFdb13
import Derived.Test.YtiahiakllpjliaaVlan6
import Derived.Test.YtiahiakllpjliaaInts
import Derived.Test.YtiahiakllpjliaaOpnT
import Derived.BigQuiet
import Derived.Deep.QuietTactic
namespace Go.Proofs.Ytiahiakllpjliaa
open Go.RowKit Go.Maps
set_option linter.unusedVariables false
set_option linter.unusedSimpArgs false
set_option maxRecDepth 20000

theorem nSize (k : Int × Int) : (Try.prog.info? 88).map (·.size) = some (nRow k).size := by kernel_rfl
theorem _root_.Go.RowKit.Below.grownS {B b : Nat} {W w w' : World} (h : Below B W w) (hg : w.grownBy w' (some b)) (hb : B ≤ b) (hB : B ≤ w.heap.size) : Below B W w' :=
  h.trans ⟨hg.os, hg.tape, hg.output, hg.size, fun k hk => hg.block k (by omega) (fun e => by cases e; omega)⟩
/-- The ports behind j of the VLANs. -/
def pvL (zs : List Int) (j : Nat) : List Pv := (List.range 8).map fun i => if i < j then ⟨0, zs.getD i 0, 0, false⟩ else pvOne
theorem pvL_len (zs : List Int) (j : Nat) : (pvL zs j).length = 8 := by simp [pvL]
theorem pvL_get (zs : List Int) (j i : Nat) (hi : i < 8) : (pvL zs j).getD i Pv.zero = if i < j then ⟨0, zs.getD i 0, 0, false⟩ else pvOne := by
  unfold pvL
  rw [List.getD_eq_getElem?_getD, List.getElem?_map, List.getElem?_range hi]
  rfl
theorem pvL_zero (zs : List Int) : pvL zs 0 = List.replicate 8 pvOne := by simp [pvL, List.range_succ]
theorem pvL_set (zs : List Int) (j : Nat) (hj : j < 8) : (pvL zs j).set j ⟨0, zs.getD j 0, 0, false⟩ = pvL zs (j + 1) := by
  apply List.ext_getElem?
  intro i
  rw [List.getElem?_set]
  unfold pvL
  simp only [List.length_map, List.length_range, List.getElem?_map]
  by_cases h : j = i
  · subst h
    rw [if_pos rfl, if_pos hj, List.getElem?_range hj]
    simp
  · rw [if_neg h]
    by_cases hi : i < 8
    · rw [List.getElem?_range hi]
      simp only [Option.map_some]
      by_cases h2 : i < j
      · rw [if_pos h2, if_pos (by omega)]
      · rw [if_neg h2, if_neg (by omega)]
    · rw [List.getElem?_eq_none (by simp; omega)]; rfl
theorem pvL_i64 (zs : List Int) (hz : ∀ i, -9223372036854775808 ≤ zs.getD i 0 ∧ zs.getD i 0 ≤ 9223372036854775807) (j : Nat) : ∀ p ∈ pvL zs j, I64 p.pvid := fun p hp => by
  obtain ⟨i, hi, rfl⟩ := List.mem_map.1 hp
  split
  · exact hz i
  · simp [I64]
/-- The VLAN of a frame. -/
def vidL (zs : List Int) (n : Nat) (p tg : Int) : Int := if tg = 0 then (if p < n then zs.getD p.toNat 0 else 1) else tg
theorem class_is (zs : List Int) (n : Nat) (p tg : Int) (hp : 0 ≤ p ∧ p ≤ 7) (ht : 0 ≤ tg) : classN (pvL zs n) (newF 8) p (decide (0 < tg)) 0 tg = (vidL zs n p tg, 0, 0) := by
  have hh : hasP (pvL zs n).length p = true := by rw [pvL_len]; simp [hasP]; omega
  have hpn : p.toNat < 8 := by omega
  have hg := pvL_get zs n p.toNat hpn
  have hacc : ((pvL zs n).getD p.toNat Pv.zero).acc = 0 ∧ ((pvL zs n).getD p.toNat Pv.zero).flt = false ∧ ((pvL zs n).getD p.toNat Pv.zero).pcp = 0 := by rw [hg]; split <;> exact ⟨rfl, rfl, rfl⟩
  have hpv : ((pvL zs n).getD p.toNat Pv.zero).pvid = if p < n then zs.getD p.toNat 0 else 1 := by
    rw [hg]
    by_cases h : p.toNat < n
    · rw [if_pos h, if_pos (by omega)]
    · rw [if_neg h, if_neg (by omega)]
  unfold classN vidL
  rw [if_pos hh, hpv, hacc.2.2]
  have hP : ∀ nm v q, classP ((pvL zs n).getD p.toNat Pv.zero) (pvL zs n).length (newF 8) p nm v q = (v, q, 0) := fun nm v q => by
    unfold classP takesB
    rw [hacc.1, hacc.2.1]
    simp
  simp only [hP]
  by_cases h0 : tg = 0
  · subst h0; simp
  · rw [if_neg (by simp; omega), if_neg h0, if_neg h0]
set_option maxHeartbeats 32000000 in
theorem Learns_walk (a : Option Addr) (n cap : Nat) (zs : List Int) (b : Option Addr) (n2 cap2 : Nat) (xs : List Th) (W : World) (hI : Hid (Zs W a n zs)) (hn : n ≤ maxLen) (hz : Hid (∀ i, -9223372036854775808 ≤ zs.getD i 0 ∧ zs.getD i 0 ≤ 9223372036854775807)) (hX : Hid (Ths W b n2 xs)) (hn2 : n2 ≤ maxLen) :
    Calls Try.prog 12 #[.slice a n cap, .slice b n2 cap2] W fun r w' => r = .returned (.bool true) ∧ Below W.heap.size W w' := by
  unfold maxLen at hn hn2
  go_enter Try.func12, Try.ntmps12
  go_wp2_with fail
  refine (VNew_any 8 W).mono ?_
  rintro _ w1 ⟨g, pb, mb, rfl, hV, hb1, hl1, hl2, hl3⟩
  have hp8 : portsN 8 = 8 := by decide +kernel
  rw [hp8, ← pvL_zero zs] at hV
  have hV1 := hide hV
  have hB1 := hide hb1
  have hlt := hV.lt
  clear hV hb1 hp8
  go_wp2_with fail
  refine (FoNew (K := W.heap.size) (A := fun k => k = g ∨ k = pb ∨ k = mb) 100 1000 w1 (fun k h => by rcases h with rfl | rfl | rfl <;> omega) hB1.out.size).mono ?_
  rintro _ w2 ⟨rfl, hF, hb2⟩
  have hF2 : Hid (Fo W.heap.size (fun k => k = g ∨ k = pb ∨ k = mb) w2 w1.heap.size 100 1000 0 []) := hF
  have hV2 := hide (hV1.out.below hb2)
  have hB2 := hide (hB1.out.trans (hb2.mono hB1.out.size))
  have hpo := hide (fun w (h : Vt w g pb mb (pvL zs 0) (newF 8) (newC 8)) => Ports_any h)
  rw [pvL_len] at hpo
  clear hF hb2 hV1 hB1
  generalize w1.heap.size = t at *
  clear hlt w1
  have hge : Hid (W.heap.size ≤ g ∧ W.heap.size ≤ pb ∧ W.heap.size ≤ mb) := ⟨hl1, hl2, hl3⟩
  clear hl1 hl2 hl3
  go_wp2_with fail
  refine (hpo.out w2 hV2.out).mono ?_
  rintro _ _ ⟨rfl, rfl⟩
  have hL := hide (FoLearn hF2.out fes_nil 1 ⟨2, 0, 0, 0, 0, 0⟩ 1 0 (by decide) (by decide) (by decide))
  rw [show learnR 100 1000 0 [] 1 ⟨2, 0, 0, 0, 0, 0⟩ 1 0 = (0, 0, [⟨1, ⟨2, 0, 0, 0, 0, 0⟩, 1, 0⟩]) by decide] at hL
  go_wp2_with fail
  refine hL.out.mono ?_
  rintro _ w3 ⟨rfl, hFn, hBn, hKn⟩
  have hF3 : Hid (Fo W.heap.size (fun k => k = g ∨ k = pb ∨ k = mb) w3 t 100 1000 0 [⟨1, ⟨2, 0, 0, 0, 0, 0⟩, 1, 0⟩]) := hFn
  have hV3 := hide (hV2.out.blk (fun k hk => hKn k hk))
  have hB3 := hide (hB2.out.trans hBn)
  clear hL hFn hBn hKn hF2 hV2 hB2 hpo
  have hL := hide (FoFlush hF3.out ⟨by decide, by simp [timeOk, M6.wf]⟩ 1)
  rw [show kept (atB 1) [(⟨1, ⟨2, 0, 0, 0, 0, 0⟩, 1, 0⟩ : Fe)] = [] by decide] at hL
  go_wp2_with fail
  refine hL.out.mono ?_
  rintro _ w4 ⟨rfl, hFn, hBn, hKn⟩
  have hF4 := hide hFn
  have hV4 := hide (hV3.out.blk (fun k hk => hKn k hk))
  have hB4 := hide (hB3.out.trans hBn)
  clear hL hFn hBn hKn hF3 hV3 hB3
  by_cases h8 : 8 < n
  · go_wp2
    go_ret
    exact ⟨rfl, hB4.out⟩
  by_cases h90 : 90 < n2
  · go_wp2
    go_ret
    exact ⟨rfl, hB4.out⟩
  have hd1 : decide ((8 : Int) < (n : Int)) = false := decide_eq_false (by omega)
  have hd2 : decide ((90 : Int) < (n2 : Int)) = false := decide_eq_false (by omega)
  replace h8 : n ≤ 8 := by omega
  replace h90 : n2 ≤ 90 := by omega
  go_wp2_with fail
  go_loopw [56] (fun i wr => ∃ j : Nat, j ≤ n ∧ i = .int .i64 j ∧ Hid (Fo W.heap.size (fun k => k = g ∨ k = pb ∨ k = mb) wr t 100 1000 0 []) ∧ Hid (Vt wr g pb mb (pvL zs j) (newF 8) (newC 8)) ∧ Hid (Below W.heap.size W wr) ∧ Hid (∀ i, i < j → 1 ≤ zs.getD i 0 ∧ zs.getD i 0 ≤ 4094)) (fun i _ => n - (intOf i).toNat)
  case atStart => exact ⟨0, Nat.zero_le _, rfl, hF4, hV4, hB4, fun i hi => by omega⟩
  case round =>
    obtain ⟨j, hj, rfl, hF, hV, hB, hR⟩ := hrel
    clear hF4 hV4 hB4
    by_cases hlt : j < n
    · obtain ⟨ba, off, rfl, hcj⟩ := hI.out.below hB.out j hlt
      generalize hzj : zs.getD j 0 = z at *
      by_cases hz1 : z < 1
      · clear hzj
        go_wp2
        go_ret
        exact ⟨rfl, hB.out⟩
      by_cases hz2 : 4094 < z
      · clear hzj
        go_wp2
        go_ret
        exact ⟨rfl, hB.out⟩
      have hd3 : decide (z < 1) = false := decide_eq_false hz1
      have hd4 : decide (4094 < z) = false := decide_eq_false hz2
      have hS := hide (SetPort_yes hV.out (j : Int) ⟨0, z, 0, false⟩ (by rw [pvL_len]; simp [spE, hasP, mayB, vidB]; omega))
      rw [Int.toNat_natCast, ← hzj, pvL_set zs j (by omega), hzj] at hS
      have hR' : Hid (∀ i, i < j + 1 → 1 ≤ zs.getD i 0 ∧ zs.getD i 0 ≤ 4094) := fun i hi => by
        rcases (show i < j ∨ i = j by omega) with h | rfl
        · exact hR.out i h
        · rw [hzj]; omega
      clear hzj
      go_wp2_with fail
      refine hS.out.mono ?_
      rintro _ w5 ⟨rfl, hVn, hC⟩
      have hV5 := hide hVn
      have hF5 := hide (hF.out.wrote (hC.mono fun k e => .inr (.inl e)))
      have hB5 := hide (hB.out.trans (hC.belowK (K := W.heap.size) (by rintro k rfl; exact hge.out.2.1) hB.out.size))
      clear hVn hC hS hF hV hB hR hcj
      go_wp2
      go_roundw
      case rel => exact ⟨j + 1, by omega, by go_num, hF5, hV5, hB5, hR'⟩
      case measure => simp [intOf]; omega
    · obtain rfl : n = j := by omega
      have hmm := @run_makeMap Try.prog
      go_wp2_with fail
      have hz0 : Hid (Fo W.heap.size (fun k => (k = g ∨ k = pb ∨ k = mb) ∨ k = wr.heap.size) (wr.alloc (.map #[] 0)) t 100 1000 0 []) := hF.out.more (below1 wr (.map #[] 0)) (fun k hk => by
        rcases hk with e | rfl
        · exact .inl e
        · exact .inr ⟨Nat.le_refl _, by rw [World.size_alloc]; omega⟩)
      have hv0 := hide (hV.out.below (below1 wr (.map #[] 0)))
      have hm0 := hide (Mp.made Try.prog nT wr)
      have hb0 := hide (hB.out.trans ((below1 wr (.map #[] 0)).mono hB.out.size))
      have hgB : Hid (g ≠ wr.heap.size ∧ pb ≠ wr.heap.size ∧ mb ≠ wr.heap.size ∧ W.heap.size ≤ wr.heap.size) := by have h1 := hV.out.lt; exact hide ⟨by omega, by omega, by omega, hB.out.size⟩
      have hl0 : Hid (Ln 0 [] (fun _ => none)) := Ln.nil
      clear hF hV hB hmm
      generalize wr.alloc (.map #[] 0) = w5 at *
      generalize wr.heap.size = B at *
      clear wr
      go_loopw [77] (fun i wr => ∃ (j : Nat) (l : List Fe) (f : Int × Int → Option Int) (c : Nat), j ≤ n2 ∧ i = .int .i64 j ∧ Hid (Fo W.heap.size (fun k => (k = g ∨ k = pb ∨ k = mb) ∨ k = B) wr t 100 1000 0 l) ∧ Hid (Vt wr g pb mb (pvL zs n) (newF 8) (newC 8)) ∧ Hid (Mp Try.prog nT wr B c f) ∧ Hid (Ln j l f) ∧ Hid (Below W.heap.size W wr)) (fun i _ => n2 - (intOf i).toNat)
      case atStart => exact ⟨0, [], _, 0, Nat.zero_le _, rfl, hz0, hv0, hm0, hl0, hb0⟩
      case round =>
        obtain ⟨j, l, f, c, hj, rfl, hF, hV, hM, hLn, hB⟩ := hrel
        clear hz0 hv0 hm0 hl0 hb0
        by_cases hlt : j < n2
        · obtain ⟨b0, off, rfl, hrg⟩ := (hX.out.below hB.out).1.at_i j hlt
          have hwf := (hX.out).2 j hlt
          generalize xs.getD j Th.zero = X at *
          obtain ⟨p, tg, last⟩ := X
          obtain ⟨wp1, wt, wl⟩ := hwf
          unfold Th.in64 at wp1 wt wl
          dsimp only at wp1 wt wl
          have hrg' := hide hrg
          clear hrg
          go_wp2_with (first | ((with_reducible change wpList _ _ _ _ _ _); refine wpList_load_mid rfl 84 (.tmp 79) rfl b0 (off + j * 3) rfl (fTh ⟨p, tg, last⟩) _ hrg'.out Try.underlying84 rfl (thLen _) ?_) | ((with_reducible change wpList _ _ _ _ _ _); refine stop_storeB 84 (.tmp 11) (.tmp 80) rfl ?_))
          refine hide (wpList_store_fresh rfl 84 (.tmp 11) (.tmp 80) rfl (fTh ⟨p, tg, last⟩).toArray (fTh Th.zero).toArray rfl rfl 84 (thSize _) rfl (th_all _) ?_)
          intro w6 h6 hb6
          have x0 : w6.cell? ⟨wr.heap.size, 0, none⟩ = some (.int .i64 p) := (cell_of_row _ _ _ _ _ _ h6).trans rfl
          have x1 : w6.cell? ⟨wr.heap.size, 1, none⟩ = some (.int .i64 tg) := (cell_of_row _ _ _ _ _ _ h6).trans rfl
          have x2 : w6.cell? ⟨wr.heap.size, 2, none⟩ = some (.int .i64 last) := (cell_of_row _ _ _ _ _ _ h6).trans rfl
          have hF6 := hide (hF.out.below hb6)
          have hV6 := hide (hV.out.below hb6)
          have hM6 := hide (hM.out.below hb6)
          have hB6 := hide (hB.out.trans (hb6.mono hB.out.size))
          clear hrg' h6 hb6 hF hV hM hB
          generalize wr.heap.size = D at *
          clear wr
          go_wp2_with fail
          go_quiet (fail)
          have hF7 := hide (hF6.out.below (below_drewN (Below.refl w6.heap.size w6) nq))
          have hV7 := hide (hV6.out.below (below_drewN (Below.refl w6.heap.size w6) nq))
          have hM7 := hide (hM6.out.below (below_drewN (Below.refl w6.heap.size w6) nq))
          have hB7 : Hid (Below W.heap.size W (w6.drewN nq)) := below_drewN hB6.out nq
          clear hF6 hV6 hM6 hB6 x0 x1 x2
          generalize w6.drewN nq = w7 at *
          clear w6
          by_cases hq0 : p < 0
          · 
            go_wp2
            go_ret
            exact ⟨rfl, hB7.out⟩
          by_cases hq65 : 7 < p
          · 
            go_wp2
            go_ret
            exact ⟨rfl, hB7.out⟩
          by_cases hq131 : tg < 0
          · 
            go_wp2
            go_ret
            exact ⟨rfl, hB7.out⟩
          by_cases hq199 : 4094 < tg
          · 
            go_wp2
            go_ret
            exact ⟨rfl, hB7.out⟩

          have hdp1 : decide (p < 0) = false := decide_eq_false (by assumption)
          have hdp2 : decide (7 < p) = false := decide_eq_false (by assumption)
          have hdp3 : decide (tg < 0) = false := decide_eq_false (by assumption)
          have hdp4 : decide (4094 < tg) = false := decide_eq_false (by assumption)
          have hin : Hid ((0 ≤ p ∧ p ≤ 7) ∧ 0 ≤ tg ∧ tg ≤ 4094) := hide (by omega)
          have hCl := hide (Class_hdr hV7.out p (decide (0 < tg)) 0 tg (by simp only [I64]; omega) (pvL_i64 zs hz.out n) _ _ _ (class_is zs n p tg hin.out.1 hin.out.2.1))
          have hvr : Hid (1 ≤ vidL zs n p tg ∧ vidL zs n p tg ≤ 4094) := by
            have h := hin.out
            refine hide ?_
            unfold vidL
            split
            · split
              · exact hR.out p.toNat (by omega)
              · omega
            · omega
          have hby : Hid (0 ≤ last % 256 ∧ last % 256 ≤ 255) := hide (by omega)
          go_wp2_with fail
          refine hCl.out.mono ?_
          rintro _ w8 ⟨rfl, hb8⟩
          have hF8 := hide (hF7.out.below hb8)
          have hV8 := hide (hV7.out.below hb8)
          have hM8 := hide (hM7.out.below hb8)
          have hB8 := hide (hB7.out.trans (hb8.mono hB7.out.size))
          clear hCl hb8 hF7 hV7 hM7 hB7
          obtain ⟨l', hEq, hLn'⟩ := hLn.out.learn (by omega) (vidL zs n p tg) (last % 256) p hvr.out hby.out
          have hL := hide (FoLearn hF8.out (hLn.out.fes (by omega)) (vidL zs n p tg) (mB (last % 256)) p 5 (mB_wf hby.out) (by decide) (by decide))
          rw [hEq] at hL
          have hc90 : Hid (c ≤ 90) := by have h1 := hLn.out.count hM8.out; have h2 := hLn.out.len; exact hide (by omega)
          clear hEq
          go_wp2_with fail
          refine hL.out.mono ?_
          rintro _ w9 ⟨rfl, hFn, hBn, hKn⟩
          have hF9 : Hid (Fo W.heap.size (fun k => (k = g ∨ k = pb ∨ k = mb) ∨ k = B) w9 t 100 1000 0 l') := hFn
          have hV9 := hide (hV8.out.blk (fun k hk => hKn k (.inl hk)))
          have hM9 := hM8.out.blk (hKn B (.inr rfl))
          have hB9 := hide (hB8.out.trans hBn)
          obtain ⟨w10, hrun, hmp, hgr⟩ := hM9.put nT_good (vidL zs n p tg, last % 256) ⟨by have := hvr.out; simp only [I64]; omega, hby.out⟩ p (by have := hin.out; simp only [I64]; omega) (by have := hc90.out; unfold maxLen; omega)
          have hrun' : (Instr.mapUpdate 83 (.map (some B)) (.agg (nRow (vidL zs n p tg, last % 256))) (.int .i64 p)).run Try.prog w9 = .ok () w10 := hrun
          have hC10 : Ch (· = B) w9 w10 := Ch.of_grown hgr
          have hF10 := hide (hF9.out.wrote (hC10.mono fun k e => .inr e))
          have hV10 := hide (hV9.out.blk (fun k hk => hC10.block k (by have := hV9.out.lt; rcases hk with rfl | rfl | rfl <;> omega) (by have := hgB.out; rcases hk with rfl | rfl | rfl <;> omega)))
          have hM10 := hide hmp
          have hB10 := hide (hB9.out.trans (hC10.belowK (K := W.heap.size) (by rintro k rfl; exact hgB.out.2.2.2) hB9.out.size))
          have hLf := hide hLn'
          have hZ9 := hide (hI.out.below hB9.out)
          clear hL hFn hBn hKn hF8 hV8 hM8 hB8 hrun hmp hgr hC10 hF9 hV9 hM9 hB9 hLn hLn' hvr
          by_cases h0 : tg = 0
          · by_cases hpn : p < (n : Int)
            · have hvE : vidL zs n p tg = zs.getD p.toNat 0 := by unfold vidL; rw [if_pos h0, if_pos hpn]
              obtain ⟨ba, offa, rfl, hca⟩ := hZ9.out p.toNat (by have := hin.out; omega)
              have hp0 : 0 ≤ p := hin.out.1.1
              rw [hvE] at hrun' hM10 hLf ⊢
              generalize zs.getD p.toNat 0 = v at *
              have hee : (v != v) = false := by simp
              subst h0
              clear hvE hZ9 hin
              go_wp2
              go_roundw
              case rel => exact ⟨j + 1, _, _, _, by omega, by go_num, hF10, hV10, hM10, hLf, hB10⟩
              case measure => simp [intOf]; omega
            · have hvE : vidL zs n p tg = 1 := by unfold vidL; rw [if_pos h0, if_neg hpn]
              rw [hvE] at hrun' hM10 hLf ⊢
              subst h0
              have hpd : decide (p < (n : Int)) = false := decide_eq_false hpn
              clear hvE hZ9 hin
              go_wp2
              go_roundw
              case rel => exact ⟨j + 1, _, _, _, by omega, by go_num, hF10, hV10, hM10, hLf, hB10⟩
              case measure => simp [intOf]; omega
          · have hvE : vidL zs n p tg = tg := by unfold vidL; rw [if_neg h0]
            rw [hvE] at hrun' hM10 hLf ⊢
            have hee : (tg != tg) = false := by simp
            have h0' : (tg == 0) = false := beq_eq_false_iff_ne.2 h0
            clear hvE hZ9 hin
            go_wp2
            go_roundw
            case rel => exact ⟨j + 1, _, _, _, by omega, by go_num, hF10, hV10, hM10, hLf, hB10⟩
            case measure => simp [intOf]; omega
        ·
          obtain rfl : n2 = j := by omega
          go_wp2_with (at_range; refine wpList_Mp_range rfl (.tmp 144) nT_good rfl rfl hM.out ?_; intro w5' hRg0 hg0 hs0)
          have hb5 : Hid (Below wr.heap.size wr w5') := ⟨hg0.os, hg0.tape, hg0.output, hg0.size, fun k hk => hg0.block k hk (by simp)⟩
          replace hRg0 := hide hRg0
          have hcl : Hid (c = l.length) := hLn.out.count hM.out
          have hfe : Hid (Fes l) := hLn.out.fes h90
          clear hg0 hs0 hV hM
          generalize hr : wr.heap.size = r at hRg0
          replace hr := hide hr
          generalize hw0 : wr = w0 at *
          clear hw0 wr
          go_frame
          go_loopw [20] (fun _ wr => ∃ (lf : Int × Int → Bool) (cnt : Nat), Hid (Rg Try.prog nT wr B r c c f lf cnt) ∧ Hid (Below w0.heap.size w0 wr)) (fun _ wr => wr.rangeLeft B r)
          case atStart => exact ⟨_, _, hRg0, hb5⟩
          case round =>
            obtain ⟨lf, cnt, hRg, hb⟩ := hrel
            clear hRg0 hb5
            go_wp2_with (at_next; refine stop_next (.tmp 145) rfl ?_)
            refine hide (wpList_Rg_next rfl (.tmp 145) nT_good rfl rfl hRg.out ?_ ?_)
            · intro hl
              have hF9 := hide (hF.out.below hb.out)
              have hB9 := hide (hB.out.trans (hb.out.mono hB.out.size))
              have hM9 := hide hRg.out.mp
              clear hl hRg
              go_wp2_with fail
              refine (FoAll hF9.out hfe.out).mono ?_
              rintro _ w6 ⟨v', rfl, hS, hFn, hBn, -⟩
              obtain ⟨va, vc, rfl⟩ := hS.shape
              have hln : ∀ ty, (Builtin.len_ #[83] ty #[.map (some B)]).run Try.prog w6 = .ok (.int .i64 c) w6 := fun ty => (hM9.out.below hBn).len nT_good ty
              have hBf := hide (hB9.out.trans (hBn.mono hB9.out.size))
              rw [hcl.out] at hln
              have hee : ((l.length : Int) == (l.length : Int)) = true := by simp
              clear hS hFn hBn hF9 hM9
              go_wp2
              go_ret
              exact ⟨rfl, hBf.out⟩
            · intro x y w6 cnt' hx hy hlx hfx hRg6 hlt2 hgr hsz hen
              have hb6 : Hid (Below w0.heap.size w0 w6) := hb.out.grownS hgr (by have := hr.out; omega) hb.out.size
              obtain ⟨v, bb⟩ := x
              obtain ⟨q1, q2, q3, q4⟩ := hLn.out.find hx hfx
              have hx' := hide hx
              have hFi := hide (fun (w : World) (h : Fo W.heap.size (fun k => (k = g ∨ k = pb ∨ k = mb) ∨ k = B) w t 100 1000 0 l) => FoFind h hfe.out v (mB bb) 6 (mB_wf hx.2) (by decide))
              have hFj := hide (fun (w : World) (h : Fo W.heap.size (fun k => (k = g ∨ k = pb ∨ k = mb) ∨ k = B) w t 100 1000 0 l) => FoFind h hfe.out (v + 5000) (mB bb) 6 (mB_wf hx.2) (by decide))
              rw [q1] at hFi
              rw [q2] at hFj
              have hlt' : Hid (cnt' < wr.rangeLeft B r) := by rw [hRg.out.left_eq]; exact hlt2
              have hRg6' := hide hRg6
              clear hRg hb hlx hfx hRg6 hgr hsz hlt2 hx hy q1 q2
              dsimp only at hen
              go_wp2_with ((with_reducible change wpList _ _ _ _ _ _); refine stop_storeB 88 (.tmp 19) (.tmp 149) rfl ?_)
              refine hide (wpList_store_fresh rfl 88 (.tmp 19) (.tmp 149) rfl (nRow (v, bb)) (nRow (0, 0)) rfl rfl 88 (nSize _) rfl (by simp [Value.oneCell']) ?_)
              intro w7 h7 hb7
              have g0 : w7.cell? ⟨w6.heap.size, 0, none⟩ = some (.int .i64 v) := (cell_of_row _ _ _ _ _ _ h7).trans rfl
              have g1 : w7.cell? ⟨w6.heap.size, 1, none⟩ = some (.int .u8 bb) := (cell_of_row _ _ _ _ _ _ h7).trans rfl
              have hR7 := hide (hRg6'.out.below hb7)
              have hb7' := hide (hb6.out.trans (hb7.mono hb6.out.size))
              clear hRg6' hb6 hb7 h7 hen
              generalize w6.heap.size = G at *
              clear w6
              go_wp2_with fail
              refine (hFi.out _ (hF.out.below hb7'.out)).mono ?_
              rintro _ w8 ⟨rfl, -, hb8⟩
              have hR8 := hide (hR7.out.below hb8)
              have hb8' := hide (hb7'.out.trans (hb8.mono hb7'.out.size))
              have g0' : w8.cell? ⟨G, 0, none⟩ = some (.int .i64 v) := (hb8.cell (p := ⟨G, 0, none⟩) (block_lt_of_cell g0)).trans g0
              have g1' : w8.cell? ⟨G, 1, none⟩ = some (.int .u8 bb) := (hb8.cell (p := ⟨G, 1, none⟩) (block_lt_of_cell g1)).trans g1
              clear hR7 hb7' g0 g1 hb8 hFi
              have hw5 : wrap64 (v + 5000) = v + 5000 := IntWalk.wrap64_in _ (by omega)
              go_wp2_with fail
              refine (hFj.out _ (hF.out.below hb8'.out)).mono ?_
              rintro _ w9 ⟨rfl, -, hb9⟩
              have hR9 := hide (hR8.out.below hb9)
              have hb9' := hide (hb8'.out.trans (hb9.mono hb8'.out.size))
              have hee : (y != y) = false := by simp
              clear hR8 hb8' g0' g1' hb9 hFj
              go_wp2
              go_roundw
              case rel => exact ⟨_, _, hR9, hb9'⟩
              case measure => rw [hR9.out.left_eq]; exact hlt'.out
end Go.Proofs.Ytiahiakllpjliaa
