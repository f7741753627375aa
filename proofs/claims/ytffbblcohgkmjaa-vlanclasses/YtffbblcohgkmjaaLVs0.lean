/-
  VlanSets, walked, given what 'of' comes to. Conditions: those that each theorem names.
-/
import Derived.Test.YtffbblcohgkmjaaVlan7b
import Derived.BigQuiet
import Derived.Deep.QuietTactic
namespace Go.Proofs.Ytffbblcohgkmjaa
open Go.RowKit Go.Maps
set_option linter.unusedVariables false
set_option maxRecDepth 20000

theorem Vt.drewN {w : World} {g pb mb c : Nat} {ps : List Pv} {f : Int → Option (Int × Int)} (h : Vt w g pb mb ps f c) (q : Nat) : Vt (w.drewN q) g pb mb ps f c := h.below (below_drewN (Below.refl _ _) q)
theorem Mp.drewN {κ α : Type} {P : Program} {M : MT κ α} {w : World} {B c : Nat} {f : κ → Option α} (h : Mp P M w B c f) (q : Nat) : Mp P M (w.drewN q) B c f := h.below (below_drewN (Below.refl _ _) q)
theorem stop_next {P : Program} {ops : Array Oper} {rest : List Oper} {o : Oper} {a : Act} {w : World} {Q : Exit → Act → World → Prop} (it : Operand) (_ho : o.op = .next it false) (h : Hid (wpList P ops Q (o :: rest) a w)) : wpList P ops Q (o :: rest) a w := h.out
theorem bit_none (x : Int) (n p : Nat) (hn : n ≤ 16) (h0 : 0 ≤ x) (h : x < 2 ^ n) (hp : n ≤ p) (hp' : p < 16) : bitAt x (p : Int) = false := by
  have h1 : (2 : Int) ^ n ≤ 2 ^ p := by exact_mod_cast Nat.pow_le_pow_right (by decide) hp
  have h2 : x / 2 ^ p = 0 := Int.ediv_eq_zero_of_lt h0 (by omega)
  unfold bitAt
  rw [Int.toNat_natCast, h2]
  decide +kernel
set_option maxHeartbeats 16000000 in
theorem VSets_walk (m v : Int) (b : Option Addr) (L cap : Nat) (xs : List Va) (w : World) (hX : Hid (Vas w b L xs)) (hLm : L ≤ maxLen) (hv : I64 v)
    (hOf : Hid (∀ w' : World, Hid (Vas w' b L xs) → L ≤ 150 → OfIs w' m b L cap)) :
    Calls Try.prog 3 #[.int .i64 m, .slice b L cap, .int .i64 v] w fun r w' => r = .returned (.bool true) ∧ Below w.heap.size w w' := by
  have hO := hide (tells11_any w)
  have hl63 : L ≤ 9223372036854775807 := by simp only [maxLen] at hLm; omega
  replace hv := hide hv
  clear hLm
  go_enter Try.func3, Try.ntmps3
  go_wp2_with fail
  refine hO.out.mono ?_
  rintro e w1 ⟨rfl, hb1⟩
  have hX1 := hide (hX.out.below hb1)
  replace hb1 := hide hb1
  clear hO hX
  by_cases hbig : 150 < L
  · go_wp2
    go_ret
    exact ⟨rfl, hb1.out⟩
  have q9 : decide ((150 : Int) < (L : Int)) = false := decide_eq_false (by omega)
  have hc := hOf.out w1 hX1 (by omega)
  unfold OfIs at hc
  replace hc := hide hc
  clear hOf hX1
  generalize portsN m = n at *
  go_wp2_with fail
  refine hc.out.mono ?_
  rintro e w2 ⟨K0, g, pb, mb, a, s, m1, m2, rfl, ps, f, c, fm, fp, cm, cp, hV, hT, hps, hbig', hpv⟩
  have hn16 : n ≤ 16 := by rw [← hps]; exact hV.tbl.few
  have hB2 : Hid (Below w.heap.size w w2) := hb1.out.later hV.below
  clear hc hb1
  go_wp2_with ((with_reducible change wpList _ _ _ _ _ _); refine stop_storeB 28 (.tmp 8) (.tmp 23) rfl ?_)
  refine hide (wpList_store_fresh rfl 28 (.tmp 8) (.tmp 23) rfl #[.slice (some ⟨s, 0, none⟩) n n, .map (some m1), .map (some m2)] mdZero rfl rfl 28 (mdSize _ _ _ _) rfl (by simp [Value.oneCell']) ?_)
  intro w3 h3 hb3
  have c0 : w3.cell? ⟨w2.heap.size, 0, none⟩ = some (.slice (some ⟨s, 0, none⟩) n n) := (cell_of_row _ _ _ _ _ _ h3).trans rfl
  have c1 : w3.cell? ⟨w2.heap.size, 1, none⟩ = some (.map (some m1)) := (cell_of_row _ _ _ _ _ _ h3).trans rfl
  have c2 : w3.cell? ⟨w2.heap.size, 2, none⟩ = some (.map (some m2)) := (cell_of_row _ _ _ _ _ _ h3).trans rfl
  have hV3 := hide (hV.later hb3)
  have hB3 := hide (hB2.out.later hb3)
  have hEb : Hid (m1 < w2.heap.size ∧ m2 < w2.heap.size ∧ g < w2.heap.size ∧ pb < w2.heap.size ∧ mb < w2.heap.size) := ⟨hV.mm.lt, hV.mp.lt, hV.tbl.lt.1, hV.tbl.lt.2.1, hV.tbl.lt.2.2⟩
  have hE3 : Hid (w2.heap.size < w3.heap.size) := (Array.getElem?_eq_some_iff.1 h3).1
  clear hV hB2 h3 hb3
  generalize w2.heap.size = E at *
  clear w2
  have hP := hide (fun q => Ports_any (hV3.out.tbl.drewN q))
  have hM := hide (fun q => Members_any (hV3.out.tbl.drewN q) v hv.out)
  have hL := hide (fun q => Plain_any (hV3.out.tbl.drewN q) v hv.out)
  have k1 : ∀ q, (Instr.lookup 26 (.map (some m1)) (.int .i64 v) false).run Try.prog (w3.drewN q) = .ok (.int .i64 ((fm v).getD 0)) (w3.drewN q) := fun q => (hV3.out.mm.drewN q).look iT_good v hv.out
  have k2 : ∀ q, (Instr.lookup 26 (.map (some m2)) (.int .i64 v) false).run Try.prog (w3.drewN q) = .ok (.int .i64 ((fp v).getD 0)) (w3.drewN q) := fun q => (hV3.out.mp.drewN q).look iT_good v hv.out
  rw [(hT.mem v).1] at k1
  rw [(hT.mem v).2] at k2
  rw [hps] at hP
  generalize memN f v = mv at *
  generalize plnN f v = lv at *
  have e1 : (mv != mv) = false := by simp
  have e2 : (lv != lv) = false := by simp
  have e3 : ((n : Int) != (n : Int)) = false := by simp
  replace hT := hide hT
  replace hbig' := hide hbig'
  replace hpv := hide hpv
  go_wp2_with fail
  go_quiet (first | (go_at_call 14; exact Calls.quiet_of_same (hP.out _)) | (go_at_call 15; exact Calls.quiet_of_same (hM.out _)) | (go_at_call 16; exact Calls.quiet_of_same (hL.out _)))
  have hV4 := hide (hV3.out.later (below_drewN (Below.refl _ _) nq))
  have hB4 : Hid (Below w.heap.size w (w3.drewN nq)) := below_drewN hB3.out nq
  have d1 : (w3.drewN nq).cell? ⟨E, 1, none⟩ = some (.map (some m1)) := c1
  have d2 : (w3.drewN nq).cell? ⟨E, 2, none⟩ = some (.map (some m2)) := c2
  clear hP hM hL k1 k2 c0 c1 c2 hV3 hB3 e1 e2 e3
  generalize w3.drewN nq = w4 at *
  go_wp2_with (at_range; refine wpList_Mp_range rfl (.tmp 56) iT_good rfl rfl hV4.out.mm ?_; intro w5 hRg0 hg0 hs0)
  have hb5 : Hid (Below w4.heap.size w4 w5) := ⟨hg0.os, hg0.tape, hg0.output, hg0.size, fun k hk => hg0.block k hk (by simp)⟩
  replace hRg0 := hide hRg0
  have hr0 : Hid (w4.heap.size ≤ w4.heap.size) := Nat.le_refl _
  have d2' := hide d2
  clear hg0 hs0 d1 d2
  generalize hr : w4.heap.size = r at hRg0 hr0
  replace hr := hide hr
  go_frame
  go_loopw [10] (fun _ wr => ∃ lf cnt, Hid (Rg Try.prog iT wr m1 r cm cm fm lf cnt) ∧ Hid (Below w4.heap.size w4 wr)) (fun _ wr => wr.rangeLeft m1 r)
  case atStart => exact ⟨_, _, hRg0, hb5⟩
  case round =>
    obtain ⟨lf, cnt, hRg, hb⟩ := hrel
    clear hRg0 hb5
    go_wp2_with (at_next; refine stop_next (.tmp 57) rfl ?_)
    refine hide (wpList_Rg_next rfl (.tmp 57) iT_good rfl rfl hRg.out ?_ ?_)
    · intro hl
      have hfin : Hid (Below w.heap.size w wr) := hB4.out.trans (hb.out.mono hB4.out.size)
      go_wp2
      go_ret
      exact ⟨rfl, hfin.out⟩
    · intro x y w6 cnt' hx hy hlx hfx hRg6 hlt hgr hsz hen
      have hb6 : Hid (Below w4.heap.size w4 w6) := hb.out.grownS hgr (by have := hr.out; omega) hb.out.size
      have hV6 := hide (hV4.out.later hb6.out)
      have d2x : w6.cell? ⟨E, 2, none⟩ = some (.map (some m2)) := by
        have hc := d2'.out
        rw [← hb6.out.cell (p := ⟨E, 2, none⟩) (block_lt_of_cell hc)] at hc
        exact hc
      have hmx : memN f x = y := by rw [← (hT.out.mem x).1, hfx]; rfl
      have hM := hide (fun q => Members_any (hV6.out.tbl.drewN q) x hx)
      have hL := hide (fun q => Plain_any (hV6.out.tbl.drewN q) x hx)
      have k2 : ∀ q, (Instr.lookup 26 (.map (some m2)) (.int .i64 x) false).run Try.prog (w6.drewN q) = .ok (.int .i64 ((fp x).getD 0)) (w6.drewN q) := fun q => (hV6.out.mp.drewN q).look iT_good x hx
      rw [(hT.out.mem x).2] at k2
      rw [hmx] at hM
      have hbit : Hid (∀ j : Nat, j < 16 → (hasP n j && bitAt y j) = bitAt y j) := by
        intro j hj
        by_cases hjn : j < n
        · rw [show hasP n j = true by simp [hasP]; omega, Bool.true_and]
        · rw [show hasP n j = false by simp [hasP]; omega, Bool.false_and]
          have hy0 : 0 ≤ y ∧ y < 2 ^ n := by
            rcases Nat.eq_zero_or_pos n with h0 | h0
            · have := ((hT.out.nul h0).2 x).1
              rw [hfx] at this
              simp at this
              rw [this, h0]
              decide
            · have := ((hT.out.pos h0).2 x).1
              rw [hfx] at this
              cases hfv : f x with
              | none => rw [hfv] at this; cases this
              | some qq =>
                rw [hfv] at this
                simp at this
                rw [this]
                exact hT.out.rng x qq hfv
          exact (bit_none y n j hn16 hy0.1 hy0.2 (by omega) hj).symm
      have hMb := hide (fun q p => Member_any (hV6.out.tbl.drewN q) x p hx)
      rw [hmx, hps] at hMb
      generalize plnN f x = lx at *
      have e1 : (y != y) = false := by simp
      have e2 : (lx != lx) = false := by simp
      replace hen := hide hen
      have hen' := hen.out
      replace hRg6 := hide hRg6
      replace hsz := hide hsz
      have hme : Hid (w6.rangeLeft m1 r < wr.rangeLeft m1 r) := by
        show _ < _
        rw [hRg6.out.left_eq, hRg.out.left_eq]; exact hlt
      clear hgr hlt hlx hfx hmx hV6 hRg hb
      go_wp2_with fail
      go_quiet (first | (go_at_call 15; exact Calls.quiet_of_same (hM.out _)) | (go_at_call 16; exact Calls.quiet_of_same (hL.out _)))
      have hMc := hide (hMb.out nq)
      have hb7 : Hid (Below w4.heap.size w4 (w6.drewN nq)) := below_drewN hb6.out nq
      have hRg7 : Hid (Rg Try.prog iT (w6.drewN nq) m1 r cm cm fm (updK lf x false) cnt') := hRg6.out.blk rfl rfl
      have hme7 : Hid ((w6.drewN nq).rangeLeft m1 r < wr.rangeLeft m1 r) := hme.out
      clear hMb hM hL k2 hen hen' hb6 hRg6 hme hsz d2x
      generalize w6.drewN nq = w7 at *
      go_wp2_with fail
      go_loop [12] (fun p => ∃ z : Int, -1 ≤ z ∧ z ≤ 17 ∧ p = .int .i64 z) (fun p => (17 - intOf p).toNat)
      case atStart => exact ⟨-1, by omega, by omega, rfl⟩
      case round =>
        obtain ⟨z, hz1, hz2, rfl⟩ := hrel
        by_cases hz17 : z < 17
        · rcases (show z = -1 ∨ z = 16 ∨ (0 ≤ z ∧ z < 16) by omega) with rfl | rfl | ⟨hz3, hz4⟩
          · have hM1 := hMc.out (-1)
            rw [show hasP n (-1) = false by simp [hasP], Bool.false_and] at hM1
            replace hM1 := hide hM1
            go_wp2_with (go_at_call 17; refine hM1.out.mono ?_; rintro e w' ⟨rfl, rfl⟩)
            go_round
            case rel => exact ⟨0, by omega, by omega, by go_num⟩
            case measure => simp [intOf]
          · have hM1 := hMc.out 16
            rw [show hasP n 16 = false by simp [hasP]; omega, Bool.false_and] at hM1
            replace hM1 := hide hM1
            go_wp2_with (go_at_call 17; refine hM1.out.mono ?_; rintro e w' ⟨rfl, rfl⟩)
            go_round
            case rel => exact ⟨17, by omega, by omega, by go_num⟩
            case measure => simp [intOf]
          · obtain ⟨j, rfl⟩ := Int.eq_ofNat_of_zero_le hz3
            have hM1 := hMc.out j
            rw [hbit.out j (by omega)] at hM1
            have hmx : ∀ (ts : Array TypeId) (t : TypeId) (w : World), (Builtin.max_ ts t #[.int .i64 (j : Int), .int .i64 0]).run Try.prog w = .ok (.int .i64 (j : Int)) w := fun ts t w => by rw [Go.Lib.run_max_ints]; congr 2; omega
            have hB1 : (bits .and .i64 (y / 2 ^ j) 1 == 1) = bitAt y j := by unfold bitAt; rw [Int.toNat_natCast]
            have hB2 : (bits .and .i64 (y / 2 ^ (j : Int).toNat) 1 == 1) = bitAt y j := rfl
            generalize bitAt y j = bb at *
            replace hM1 := hide hM1
            have hbb : (bb != bb) = false := by simp
            go_wp2_with (go_at_call 17; refine hM1.out.mono ?_; rintro e w' ⟨rfl, rfl⟩)
            go_round
            case rel => exact ⟨(j : Int) + 1, by omega, by omega, by go_num⟩
            case measure => simp [intOf]; omega
        · obtain rfl : z = 17 := by omega
          go_wp2
          go_roundw
          case rel => exact ⟨_, _, hRg7, hb7⟩
          case measure => exact hme7.out
end Go.Proofs.Ytffbblcohgkmjaa
