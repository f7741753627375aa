/-
  The statement PoolPlays, walked. Conditions: none beyond what each theorem names.
-/
import Derived.Test.YtbdolfnnohdmhaaPoolP
import Derived.BigQuiet
import Derived.Deep.QuietTactic
namespace Go.Proofs.Ytbdolfnnohdmhaa
open Go.RowKit Go.Maps
set_option linter.unusedVariables false

set_option maxRecDepth 100000 in
theorem PPlays_far (n : Int) (a : Option Addr) (len cap : Nat) (w : World) (hlen : len ≤ maxLen) (h : 100 < len) :
    Calls Try.prog 9 #[.int .i64 n, .slice a len cap] w fun r w' => r = .returned (.bool true) ∧ Below w.heap.size w w' := by
  unfold maxLen at hlen
  go_enter Try.func9, Try.ntmps9
  go_wp2_with fail
  refine (keeps_any _).mono ?_
  rintro e w1 ⟨rfl, hb1⟩
  go_wp2
  go_ret
  exact ⟨rfl, hb1⟩
set_option maxRecDepth 100000 in
set_option maxHeartbeats 40000000 in
theorem PPlays_near (n : Int) (a : Option Addr) (len cap : Nat) (xs : List Ac) (w : World) (hA : Hid (Acs w a len xs)) (hlen : len ≤ 100) (room : Nat) (hroom : (room : Int) = min (max n 0) 4096) :
    Calls Try.prog 9 #[.int .i64 n, .slice a len cap] w fun r w' => r = .returned (.bool true) ∧ Below w.heap.size w w' := by
  have hN := hide (fun w => New_at n room w hroom)
  obtain ⟨M, hM⟩ : ∃ M, M = if 0 > n then 0 else n := ⟨_, rfl⟩
  have hmx : ∀ (ts : Array TypeId) (t : TypeId) (w : World), (Builtin.max_ ts t #[.int .i64 n, .int .i64 0]).run Try.prog w = .ok (.int .i64 M) w := fun ts t w => by rw [hM, run_max_int2]
  have hmn : ∀ (ts : Array TypeId) (t : TypeId) (w : World), (Builtin.min_ ts t #[.int .i64 M, .int .i64 4096]).run Try.prog w = .ok (.int .i64 (room : Int)) w := fun ts t w => by
    rw [run_min_int2]
    congr 2
    split <;> split at hM <;> omega
  clear hM
  have hrm : room ≤ 4096 := by omega
  have hmm := @run_makeMap Try.prog
  clear hroom
  go_enter Try.func9, Try.ntmps9
  go_wp2_with fail
  refine (keeps_any _).mono ?_
  rintro e w1 ⟨rfl, hb1⟩
  go_wp2_with fail
  refine (hN.out _).mono ?_
  rintro e w2 ⟨rfl, hP2, hb2⟩
  go_wp2_with fail
  refine (Room_any hP2).mono ?_
  rintro e w2' ⟨rfl, he⟩
  obtain rfl := he.symm
  clear he
  rw [List.length_replicate]
  have HS := hide hb1.size
  have HB2 := hide (hb1.trans (hb2.mono hb1.size))
  have HP2 := hide hP2
  clear hb1 hb2 hP2 hmx hmn
  generalize w1.heap.size = B at *
  go_wp2_with fail
  have hBF : B + 1 < w2.heap.size ∧ B < w2.heap.size := HP2.out.lt
  have HPl0 : Hid (Play ((w2.alloc (.map #[] 0)).alloc (.map #[] 0)) (B + 1) B w2.heap.size (w2.heap.size + 1) room (List.replicate room Pc.none) 0 0 (fun _ => 0) (fun _ => ByteArray.empty)) := by
    have hm := HM.made (w2.alloc (.map #[] 0)) room
    simp only [World.size_alloc] at hm
    refine ⟨(HP2.out.below ((Below.refl _ _).alloc (Nat.le_refl _) _)).below ((Below.refl _ _).alloc (Nat.le_refl _) _), hm, (FM.made w2).blk (Below.heap_alloc _ _ _ (by simp)), fun p hp a n c e => ?_, ⟨by omega, by omega, by omega, by omega, by omega⟩⟩
    rw [List.eq_of_mem_replicate hp] at e
    simp at e
  have HW0 : Hid (Below w.heap.size w ((w2.alloc (.map #[] 0)).alloc (.map #[] 0))) := (HB2.out.alloc HB2.out.size _).alloc (by have := HB2.out.size; simp; omega) _
  have hbs : Hid (w.heap.size ≤ B) := HS
  generalize hw3 : (w2.alloc (.map #[] 0)).alloc (.map #[] 0) = w3 at *
  have hBB : B + 1 < w2.heap.size := hBF.1
  clear hw3 HP2 HB2 hBF hmm hN
  generalize w2.heap.size = BF at *
  go_loopw [49] (fun i wr => ∃ j : Nat, j ≤ len ∧ i = .int .i64 j ∧ (∃ (ps : List Pc) (f : Int → Int) (s : Int → ByteArray) (nf nh : Nat), Hid (Play wr (B + 1) B BF (BF + 1) room ps nf nh f s ∧ Tie room ps f s ∧ nf ≤ j ∧ nh ≤ j ∧ sumH ps ≤ j)) ∧ Hid (Below w.heap.size w wr)) (fun i _ => len - (intOf i).toNat)
  case atStart => exact ⟨0, Nat.zero_le _, rfl, ⟨_, _, _, 0, 0, HPl0.out, Tie.start room, Nat.le_refl _, Nat.le_refl _, by rw [sumH_rep room]; exact Nat.le_refl _⟩, HW0⟩
  case round =>
    obtain ⟨j, hj, rfl, ⟨ps, f, s, nf, nh, HR⟩, HB⟩ := hrel
    clear HPl0 HW0
    by_cases hlt : j < len
    · obtain ⟨b0, o0, rfl, c0, c1, c2, hBs, id1, id2⟩ := hA.out j hlt
      have hcl : ∀ o v, w.cell? ⟨b0, o, none⟩ = some v → wr.cell? ⟨b0, o, none⟩ = some v := fun o v h => by rw [HB.out.cell (p := ⟨b0, o, none⟩) (block_lt_of_cell h)]; exact h
      have hrg : wr.rangeAt b0 (o0 + j * 3) [.int .i64 (xs.getD j Ac.none).kind, .int .i64 (xs.getD j Ac.none).id, (xs.getD j Ac.none).v] := fun t v hv => by
        match t, hv with
        | 0, hv => cases hv; exact hcl _ _ c0
        | 1, hv => cases hv; rw [Nat.add_assoc]; exact hcl _ _ c1
        | 2, hv => cases hv; rw [Nat.add_assoc]; exact hcl _ _ c2
      have HBr := hide (hBs.below HB.out)
      generalize (xs.getD j Ac.none).kind = kd at *
      generalize (xs.getD j Ac.none).id = id at *
      generalize (xs.getD j Ac.none).l = bl at *
      generalize (xs.getD j Ac.none).v = bv at *
      obtain ⟨ba, bn, bc, rfl, hbn⟩ : ∃ a n c, bv = .slice a n c ∧ n = bl.length := by
        obtain ⟨_, a', c', e, _⟩ := hBs
        exact ⟨a', _, c', e, rfl⟩
      have Hbn := hide hbn
      have HBo := hide hBs
      clear c0 c1 c2 hBs hcl hbn
      go_wp2_with (first | ((with_reducible change wpList _ _ _ _ _ _); refine wpList_load_mid rfl 44 (.tmp 51) rfl b0 (o0 + j * 3) rfl _ _ hrg Try.underlying44 rfl actSize ?_) | ((with_reducible change wpList _ _ _ _ _ _); refine wpList_store_freshP rfl 44 (.tmp 10) (.tmp 52) rfl #[.int .i64 kd, .int .i64 id, .slice ba bn bc] _ rfl rfl 44 actSize rfl (by simp [Value.oneCell']) ?_; intro w4 hGa hb4; refine unhide ?_))
      obtain ⟨hPl, hTie, hnf, hnh, hsum⟩ := HR.out
      have HPl := hide (hPl.below hb4)
      have HB4 := hide (HB.out.trans (hb4.mono HB.out.size))
      have HBv := hide (HBr.out.below hb4)
      have HTie := hide hTie
      have Hsum := hide hsum
      have hg1 : w4.cell? ⟨wr.heap.size, 0, none⟩ = some (.int .i64 kd) := (cell_of_row _ _ _ _ _ _ hGa).trans rfl
      have hg2 : w4.cell? ⟨wr.heap.size, 1, none⟩ = some (.int .i64 id) := (cell_of_row _ _ _ _ _ _ hGa).trans rfl
      have hg3 : w4.cell? ⟨wr.heap.size, 2, none⟩ = some (.slice ba bn bc) := (cell_of_row _ _ _ _ _ _ hGa).trans rfl
      have HGa := hide hGa
      have hga : Hid (BF + 1 < wr.heap.size ∧ B + 1 < wr.heap.size) := ⟨hPl.hm.lt, hPl.pl.lt.1⟩
      have hwf := hide (wfI id1 id2)
      have hlk := HPl.out.hm.look id hwf.out
      have hgs : Hid (w.heap.size ≤ wr.heap.size) := HB.out.size
      have hdec : decide (0 < f id) = decide (0 < f id) := rfl
      clear hPl hTie hsum hGa hb4 HB HBr HR hrg hA hdec
      generalize wr.heap.size = ga at *
      by_cases hbl : 100 < bl.length
      · have hbl' : (100 : Int) < (bn : Int) := by have := Hbn.out; omega
        refine hide ?_
        go_wp2
        go_ret
        exact ⟨rfl, HB4.out⟩
      have hbl' : (bn : Int) ≤ 100 := by have := Hbn.out; omega
      refine hide ?_
      by_cases hk : kd = 0
      · as_aux_lemma =>
          subst hk
          have Hsum1 := hide (Nat.le_succ_of_le Hsum.out)
          have Hsum0 := Hsum
          clear Hsum
          have Hsum := Hsum1
          have hnf0 := hnf
          have hnh0 := hnh
          replace hnf : nf ≤ j + 1 := by omega
          replace hnh : nh ≤ j + 1 := by omega
          clear Hsum1
          by_cases hfull : ∀ t, t < ps.length → 0 < (ps.getD t Pc.none).h
          · have htk := hide (Take_full HPl.out.pl (.slice ba bn bc) hfull)
            go_wp2_with fail
            refine htk.out.mono ?_
            rintro e w4' ⟨rfl, he⟩
            obtain rfl := he.symm
            clear he htk
            go_wp2_with (at_range; refine wpList_HM_range rfl _ rfl (BF + 1) nh f room rfl HPl.out.hm ?_; intro wy left0 cnt0 hHR0 hz hg5 hs5; refine unhide ?_)
            have hb5 : Below w4.heap.size w4 wy := (Below.refl _ _).grown hg5 (Nat.le_refl _) (fun k e => by cases e)
            have HHR0 := hide hHR0
            have HZ0 := hide hz
            have HB5 := hide hb5
            clear hHR0 hz hg5 hs5 hb5
            generalize hrb : w4.heap.size = rb at *
            have HRb := hide hrb
            clear hrb
            refine hide ?_
            go_wp2_with fail
            go_loopw [14] (fun u wt => ∃ (left : Lit → Bool) (cnt : Nat), u = .int .i64 (soFar room left (fun k => if 0 < f k then 1 else 0)) ∧ Hid (HR wt (BF + 1) rb nh f room left cnt) ∧ Hid (Below rb w4 wt)) (fun _ wt => wt.rangeLeft (BF + 1) rb)
            case atStart => exact ⟨left0, cnt0, by rw [soFar_start room left0 _ (fun k hk => by rw [HZ0.out k hk]; rfl)], HHR0, HB5⟩
            case round =>
              obtain ⟨left, cnt, rfl, HHR, HBt⟩ := hrel
              clear HHR0 HB5 HZ0
              obtain ⟨_, k3, k4⟩ := HTie.out.count left (j + 1) Hsum.out
              have k4' : soFar room left (fun k => if 0 < f k then 1 else 0) ≤ 4096 := by omega
              have hst := hide (fun x hl h0 hR => soFar_step room left (fun k => if 0 < f k then 1 else 0) x hl h0 hR)
              have hen' := hide (fun hl => soFar_end room left (fun k => if 0 < f k then 1 else 0) hl)
              clear k4
              generalize hU1 : soFar room left (fun k => if 0 < f k then 1 else 0) = U1 at *
              clear hU1
              go_wp2_with (at_next; refine wpList_HR_next rfl _ rfl (BF + 1) rb nh f room left cnt rfl HHR.out ?_ ?_)
              · intro hl0
                refine unhide ?_
                have hU2 : U1 = (usedN ps : Int) := (hen'.out hl0).trans HTie.out.sums.2
                subst hU2
                have HPl8 := hide (HPl.out.below (by rw [HRb.out]; exact HBt.out))
                have HB8 : Hid (Below w.heap.size w wr) := HB4.out.trans (HBt.out.mono (by rw [← HRb.out]; exact HB4.out.size))
                have HBw := HBt
                clear hst hen' HBt HHR k3 k4'
                have hus : usedN ps = room := by rw [usedN_all ps hfull, HTie.out.len]
                rw [hus]
                clear HPl HB4 hg1 hg2 hg3 hlk HGa HBv hus HBw
                rename World => w8
                have HPl := HPl8
                have HB4 := HB8
                clear HPl8 HB8
                refine hide ?_
                go_wp2_with (at_range; refine wpList_HM_range rfl _ rfl (BF + 1) nh f room rfl HPl.out.hm ?_; intro w5 left0 cnt0 hHR0 hz hg5 hs5; refine unhide ?_)
                have hb5 : Below w8.heap.size w8 w5 := (Below.refl _ _).grown hg5 (Nat.le_refl _) (fun k e => by cases e)
                have HHR0 := hide hHR0
                have HZ0 := hide hz
                have HB5 := hide hb5
                clear hHR0 hz hg5 hs5 hb5
                generalize hr4 : w8.heap.size = r4 at *
                have HR4 := hide hr4
                clear hr4
                refine hide ?_
                go_wp2_with fail
                go_loopw [23, 24] (fun x u wt => ∃ (left : Lit → Bool) (cnt : Nat), x = .int .i64 (soFar room left f) ∧ u = .int .i64 (soFar room left (fun k => if 0 < f k then 1 else 0)) ∧ Hid (HR wt (BF + 1) r4 nh f room left cnt) ∧ Hid (Below r4 w8 wt)) (fun _ _ wt => wt.rangeLeft (BF + 1) r4)
                case atStart => exact ⟨left0, cnt0, by rw [soFar_start room left0 f HZ0.out], by rw [soFar_start room left0 _ (fun k hk => by rw [HZ0.out k hk]; rfl)], HHR0, HB5⟩
                case round =>
                  obtain ⟨left, cnt, rfl, rfl, HHR, HBt⟩ := hrel
                  clear HHR0 HB5 HZ0
                  obtain ⟨⟨k1, k2⟩, k3, k4⟩ := HTie.out.count left (j + 1) Hsum.out
                  have hj1 : j + 1 ≤ 101 := by omega
                  have k2' : soFar room left f ≤ 101 := by omega
                  have k4' : soFar room left (fun k => if 0 < f k then 1 else 0) ≤ 4096 := by omega
                  have hst := hide (fun x hl h0 hR => And.intro (soFar_step room left f x hl h0 hR) (soFar_step room left (fun k => if 0 < f k then 1 else 0) x hl h0 hR))
                  have hen' := hide (fun hl => And.intro (soFar_end room left f hl) (soFar_end room left (fun k => if 0 < f k then 1 else 0) hl))
                  clear k2 k4
                  generalize hA1 : soFar room left f = A1 at *
                  generalize hU1 : soFar room left (fun k => if 0 < f k then 1 else 0) = U1 at *
                  clear hA1 hU1
                  go_wp2_with (at_next; refine wpList_HR_next rfl _ rfl (BF + 1) r4 nh f room left cnt rfl HHR.out ?_ ?_)
                  · intro hl0
                    refine unhide ?_
                    have hE := hen'.out hl0
                    have hA2 : A1 = (sumH ps : Int) := hE.1.trans HTie.out.sums.1
                    have hU2 : U1 = (usedN ps : Int) := hE.2.trans HTie.out.sums.2
                    subst hA2 hU2
                    have HPlt := hide (HPl.out.below (by rw [HR4.out]; exact HBt.out))
                    have HBf : Hid (Below w.heap.size w wr) := HB4.out.trans (HBt.out.mono (by rw [← HR4.out]; exact HB4.out.size))
                    have hUs := hide (Used_any HPlt.out.pl)
                    have hHs := hide (Holds_any HPlt.out.pl (by have := Hsum.out; omega))
                    clear hst hen' hE HBt HHR k1 k3 k2' k4'
                    refine hide ?_
                    go_wp2_with fail
                    refine hUs.out.mono ?_
                    rintro e w7 ⟨rfl, he⟩
                    obtain rfl := he.symm
                    clear he
                    go_wp2_with fail
                    refine hHs.out.mono ?_
                    rintro e w7 ⟨rfl, he⟩
                    obtain rfl := he.symm
                    clear he
                    go_wp2
                    go_roundw
                    case rel => exact ⟨j + 1, by omega, by go_num, ⟨ps, f, s, nf, nh, HPlt.out, HTie.out, hnf, hnh, Hsum.out⟩, HBf⟩
                    case measure => simp [intOf]; omega
                  · intro x w6 cnt6 hlx hx0 hxR hHR6 hlt6 hg6 hs6 hent
                    refine unhide ?_
                    obtain ⟨q1, q2⟩ := HTie.out.held x hx0 hxR (j + 1) Hsum.out
                    have q3 : f x ≤ 101 := by omega
                    have hS2 := hst.out x hlx hx0 hxR
                    have HBt6 : Hid (Below r4 w8 w6) := HBt.out.grown hg6 (by rw [← HR4.out]; exact HBt.out.size) (fun k e => by cases e; exact Nat.le_refl _)
                    have HHR6 := hide hHR6
                    have Hlt6 : Hid (w6.rangeLeft (BF + 1) r4 < wr.rangeLeft (BF + 1) r4) := by show _ < _; rw [hHR6.left_eq, HHR.out.left_eq]; exact hlt6
                    have HS2 := hide hS2
                    clear hst hen' hHR6 hlt6 hg6 hs6 q2 HBt HHR hS2
                    generalize hlf : (fun z : Lit => left z && !z.sameKey (.int .i64 x)) = left' at *
                    clear hlf
                    refine hide ?_
                    by_cases hp : 0 < f x
                    · rw [if_pos hp] at HS2
                      go_wp2
                      go_roundw
                      case rel => exact ⟨left', cnt6, by rw [HS2.out.1], by rw [HS2.out.2], HHR6, HBt6⟩
                      case measure => exact Hlt6.out
                    · rw [if_neg hp] at HS2
                      have hp0 : f x = 0 := by omega
                      go_wp2
                      go_roundw
                      case rel => exact ⟨left', cnt6, by rw [HS2.out.1, hp0, Int.add_zero], by rw [HS2.out.2, Int.add_zero], HHR6, HBt6⟩
                      case measure => exact Hlt6.out
              · intro x wz cnt6 hlx hx0 hxR hHR6 hlt6 hg6 hs6 hent
                refine unhide ?_
                have hS2 := hst.out x hlx hx0 hxR
                have HBt6 : Hid (Below rb w4 wz) := HBt.out.grown hg6 (by rw [← HRb.out]; exact HBt.out.size) (fun k e => by cases e; exact Nat.le_refl _)
                have HHR6 := hide hHR6
                have Hlt6 : Hid (wz.rangeLeft (BF + 1) rb < wr.rangeLeft (BF + 1) rb) := by show _ < _; rw [hHR6.left_eq, HHR.out.left_eq]; exact hlt6
                have HS2 := hide hS2
                clear hst hen' hHR6 hlt6 hg6 hs6 HBt HHR hS2
                generalize hlf : (fun z : Lit => left z && !z.sameKey (.int .i64 x)) = left' at *
                clear hlf
                refine hide ?_
                by_cases hp : 0 < f x
                · rw [if_pos hp] at HS2
                  go_wp2
                  go_roundw
                  case rel => exact ⟨left', cnt6, by rw [HS2.out], HHR6, HBt6⟩
                  case measure => exact Hlt6.out
                · rw [if_neg hp] at HS2
                  go_wp2
                  go_roundw
                  case rel => exact ⟨left', cnt6, by rw [HS2.out, Int.add_zero], HHR6, HBt6⟩
                  case measure => exact Hlt6.out
          · obtain ⟨k, hkl, hk0, hlow⟩ := lowest ps hfull
            clear hfull
            have htk := hide (Take_at HPl.out.pl (.slice ba bn bc) bl HBv.out (by omega) k hkl hlow hk0)
            go_wp2_with fail
            refine htk.out.mono ?_
            rintro e w5 ⟨rfl, v5, hP5, hbut5, hfr5⟩
            clear htk
            have HPl5 := hide (HPl.out.pool hP5 hbut5 (fun p hp hnp a n c e => by
              rcases List.mem_or_eq_of_mem_set hp with hp' | rfl
              · exact absurd hp' hnp
              · have h1 := hfr5 a n c e
                have h2 := HPl.out.hm.lt
                exact ⟨by omega, by omega⟩))
            have HB5w : Hid (Below w.heap.size w w5) := But.below HB4.out hbut5 hbs.out HB4.out.size
            have hg5a : w5.heap[ga]? = some (.cells #[.int .i64 0, .int .i64 id, .slice ba bn bc] 44 (0, 0)) := (hbut5.block ga (block_lt_of_cell hg2) (by have := hga.out.2; omega)).trans HGa.out
            have HG5 := hide hg5a
            clear hg5a hP5 hbut5 hfr5
            go_wp2_with (at_range; refine wpList_HM_range rfl _ rfl (BF + 1) nh f room rfl HPl5.out.hm ?_; intro wy left0 cnt0 hHR0 hz hg5 hs5; refine unhide ?_)
            have hb5 : Below w5.heap.size w5 wy := (Below.refl _ _).grown hg5 (Nat.le_refl _) (fun k e => by cases e)
            have HHR0 := hide hHR0
            have HZ0 := hide hz
            have HB5 := hide hb5
            clear hHR0 hz hg5 hs5 hb5
            generalize hrb : w5.heap.size = rb at *
            have HRb := hide hrb
            clear hrb
            refine hide ?_
            go_wp2_with fail
            go_loopw [14] (fun u wt => ∃ (left : Lit → Bool) (cnt : Nat), u = .int .i64 (soFar room left (fun k => if 0 < f k then 1 else 0)) ∧ Hid (HR wt (BF + 1) rb nh f room left cnt) ∧ Hid (Below rb w5 wt)) (fun _ wt => wt.rangeLeft (BF + 1) rb)
            case atStart => exact ⟨left0, cnt0, by rw [soFar_start room left0 _ (fun k hk => by rw [HZ0.out k hk]; rfl)], HHR0, HB5⟩
            case round =>
              obtain ⟨left, cnt, rfl, HHR, HBt⟩ := hrel
              clear HHR0 HB5 HZ0
              obtain ⟨_, k3, k4⟩ := HTie.out.count left (j + 1) Hsum.out
              have k4' : soFar room left (fun k => if 0 < f k then 1 else 0) ≤ 4096 := by omega
              have hst := hide (fun x hl h0 hR => soFar_step room left (fun k => if 0 < f k then 1 else 0) x hl h0 hR)
              have hen' := hide (fun hl => soFar_end room left (fun k => if 0 < f k then 1 else 0) hl)
              clear k4
              generalize hU1 : soFar room left (fun k => if 0 < f k then 1 else 0) = U1 at *
              clear hU1
              go_wp2_with (at_next; refine wpList_HR_next rfl _ rfl (BF + 1) rb nh f room left cnt rfl HHR.out ?_ ?_)
              · intro hl0
                refine unhide ?_
                have hU2 : U1 = (usedN ps : Int) := (hen'.out hl0).trans HTie.out.sums.2
                subst hU2
                have HPl8 := hide (HPl5.out.below (by rw [HRb.out]; exact HBt.out))
                have HB8 : Hid (Below w.heap.size w wr) := HB5w.out.trans (HBt.out.mono (by rw [← HRb.out]; exact HB5w.out.size))
                have HBw := HBt
                clear hst hen' HBt HHR k3 k4'
                have hul : (usedN ps : Int) < (room : Int) := by have := usedN_lt ps k hkl hk0; rw [HTie.out.len] at this; omega
                generalize usedN ps = UU at *
                refine hide ?_
                go_wp2_with fail
                go_loop [17] (fun i => ∃ t : Nat, t ≤ k ∧ i = .int .i64 t) (fun i => k - (intOf i).toNat)
                case atStart => exact ⟨0, Nat.zero_le _, rfl⟩
                case round =>
                  obtain ⟨t, ht, rfl⟩ := hrel
                  have hkr : k < room := by rw [← HTie.out.len]; exact hkl
                  have hlt8 := HPl8.out.hm.look t (wfI (by omega) (by omega))
                  rcases (show t < k ∨ t = k by omega) with htk | rfl
                  · have hft : 0 < f t := by rw [HTie.out.holds t (by omega)]; have := hlow t htk; omega
                    go_wp2
                    go_round
                    case rel => exact ⟨t + 1, by omega, by go_num⟩
                    case measure => simp [intOf]; omega
                  · have hf0 : f t = 0 := by rw [HTie.out.holds t hkr, hk0]; rfl
                    have hq8 : wr.cell? ⟨ga, 2, none⟩ = some (.slice ba bn bc) := by
                      rw [HBw.out.cell (p := ⟨ga, 2, none⟩) (by rw [← HRb.out]; exact (Array.getElem?_eq_some_iff.1 HG5.out).1)]
                      exact (cell_of_row _ _ _ _ _ _ HG5.out).trans rfl
                    have hcv : (convert 42 9 (.slice ba bn bc)).run Try.prog wr = .ok (.string (bstr bl)) wr := conv_str 42 9 5 Try.underlying42 Try.underlying5 Try.underlying9 (HBo.out.below HB8.out)
                    have hwt := wfI (n := (t : Int)) (by omega) (by omega)
                    obtain ⟨w9a, hr9, hPl9, hg9⟩ := HPl8.out.putF t (bstr bl) hwt (by rw [bstr_size]; unfold maxLen; omega) (by unfold maxLen; omega)
                    obtain ⟨w6, hr6, hPl6, hg6⟩ := hPl9.putH t 1 hwt (wfI (by decide) (by decide)) (by omega) (by omega) (by unfold maxLen; omega)
                    have hT6 : Tie room (ps.set t ⟨v5, bl, 1⟩) (upd f t 1) (upd s t (bstr bl)) := HTie.out.set t ⟨v5, bl, 1⟩ hkr (upd s t (bstr bl)) (fun i hi => by simp [upd, show ¬ ((i : Int) = (t : Int)) by omega]) (fun _ => by simp [upd]) (by show bl.length ≤ 100; omega)
                    have hS6 : sumH (ps.set t ⟨v5, bl, 1⟩) ≤ j + 1 := by
                      have h1 := sumH_set ps t ⟨v5, bl, 1⟩ hkl
                      have h2 := Hsum0.out
                      simp only at h1
                      omega
                    have HB6 : Hid (Below w.heap.size w w6) := by
                      have h9 := HB8.out.grown hg9 HB8.out.size (fun i e => by cases e; have := hbs.out; omega)
                      exact h9.grown hg6 h9.size (fun i e => by cases e; have := hbs.out; omega)
                    generalize bstr bl = SB at *
                    have HPl6 := hide hPl6
                    have HT6 := hide hT6
                    have HS6 := hide hS6
                    generalize ps.set t ⟨v5, bl, 1⟩ = ps2 at *
                    clear hPl9 hPl6 hg9 hg6 hT6 hS6 HPl HPl5 HPl8 HTie Hsum Hsum0 HB4 HB5w HB8 HBw hlow
                    have HPl := HPl6
                    have HTie := HT6
                    have Hsum := HS6
                    have HB4 := HB6
                    clear HPl6 HT6 HS6 HB6
                    generalize upd f (t : Int) 1 = f2 at *
                    generalize upd s (t : Int) SB = s2 at *
                    replace hnf : nf + 1 ≤ j + 1 := by omega
                    replace hnh : nh + 1 ≤ j + 1 := by omega
                    go_wp2_with (at_range; refine wpList_HM_range rfl _ rfl (BF + 1) (nh + 1) f2 room rfl HPl.out.hm ?_; intro w5 left0 cnt0 hHR0 hz hg5 hs5; refine unhide ?_)
                    have hb5 : Below w6.heap.size w6 w5 := (Below.refl _ _).grown hg5 (Nat.le_refl _) (fun k e => by cases e)
                    have HHR0 := hide hHR0
                    have HZ0 := hide hz
                    have HB5 := hide hb5
                    clear hHR0 hz hg5 hs5 hb5
                    generalize hr4 : w6.heap.size = r4 at *
                    have HR4 := hide hr4
                    clear hr4
                    refine hide ?_
                    go_wp2_with fail
                    go_loopw [23, 24] (fun x u wt => ∃ (left : Lit → Bool) (cnt : Nat), x = .int .i64 (soFar room left f2) ∧ u = .int .i64 (soFar room left (fun k => if 0 < f2 k then 1 else 0)) ∧ Hid (HR wt (BF + 1) r4 (nh + 1) f2 room left cnt) ∧ Hid (Below r4 w6 wt)) (fun _ _ wt => wt.rangeLeft (BF + 1) r4)
                    case atStart => exact ⟨left0, cnt0, by rw [soFar_start room left0 f2 HZ0.out], by rw [soFar_start room left0 _ (fun k hk => by rw [HZ0.out k hk]; rfl)], HHR0, HB5⟩
                    case round =>
                      obtain ⟨left, cnt, rfl, rfl, HHR, HBt⟩ := hrel
                      clear HHR0 HB5 HZ0
                      obtain ⟨⟨k1, k2⟩, k3, k4⟩ := HTie.out.count left (j + 1) Hsum.out
                      have hj1 : j + 1 ≤ 101 := by omega
                      have k2' : soFar room left f2 ≤ 101 := by omega
                      have k4' : soFar room left (fun k => if 0 < f2 k then 1 else 0) ≤ 4096 := by omega
                      have hst := hide (fun x hl h0 hR => And.intro (soFar_step room left f2 x hl h0 hR) (soFar_step room left (fun k => if 0 < f2 k then 1 else 0) x hl h0 hR))
                      have hen' := hide (fun hl => And.intro (soFar_end room left f2 hl) (soFar_end room left (fun k => if 0 < f2 k then 1 else 0) hl))
                      clear k2 k4
                      generalize hA1 : soFar room left f2 = A1 at *
                      generalize hU1 : soFar room left (fun k => if 0 < f2 k then 1 else 0) = U1 at *
                      clear hA1 hU1
                      go_wp2_with (at_next; refine wpList_HR_next rfl _ rfl (BF + 1) r4 (nh + 1) f2 room left cnt rfl HHR.out ?_ ?_)
                      · intro hl0
                        refine unhide ?_
                        have hE := hen'.out hl0
                        have hA2 : A1 = (sumH ps2 : Int) := hE.1.trans HTie.out.sums.1
                        have hU2 : U1 = (usedN ps2 : Int) := hE.2.trans HTie.out.sums.2
                        subst hA2 hU2
                        have HPlt := hide (HPl.out.below (by rw [HR4.out]; exact HBt.out))
                        have HBf : Hid (Below w.heap.size w wr) := HB4.out.trans (HBt.out.mono (by rw [← HR4.out]; exact HB4.out.size))
                        have hUs := hide (Used_any HPlt.out.pl)
                        have hHs := hide (Holds_any HPlt.out.pl (by have := Hsum.out; omega))
                        clear hst hen' hE HBt HHR k1 k3 k2' k4'
                        refine hide ?_
                        go_wp2_with fail
                        refine hUs.out.mono ?_
                        rintro e w7 ⟨rfl, he⟩
                        obtain rfl := he.symm
                        clear he
                        go_wp2_with fail
                        refine hHs.out.mono ?_
                        rintro e w7 ⟨rfl, he⟩
                        obtain rfl := he.symm
                        clear he
                        go_wp2
                        go_roundw
                        case rel => exact ⟨j + 1, by omega, by go_num, ⟨ps2, f2, s2, nf + 1, nh + 1, HPlt.out, HTie.out, hnf, hnh, Hsum.out⟩, HBf⟩
                        case measure => simp [intOf]; omega
                      · intro x w9 cnt6 hlx hx0 hxR hHR6 hlt6 hg6 hs6 hent
                        refine unhide ?_
                        obtain ⟨q1, q2⟩ := HTie.out.held x hx0 hxR (j + 1) Hsum.out
                        have q3 : f2 x ≤ 101 := by omega
                        have hS2 := hst.out x hlx hx0 hxR
                        have HBt6 : Hid (Below r4 w6 w9) := HBt.out.grown hg6 (by rw [← HR4.out]; exact HBt.out.size) (fun k e => by cases e; exact Nat.le_refl _)
                        have HHR6 := hide hHR6
                        have Hlt6 : Hid (w9.rangeLeft (BF + 1) r4 < wr.rangeLeft (BF + 1) r4) := by show _ < _; rw [hHR6.left_eq, HHR.out.left_eq]; exact hlt6
                        have HS2 := hide hS2
                        clear hst hen' hHR6 hlt6 hg6 hs6 q2 HBt HHR hS2
                        generalize hlf : (fun z : Lit => left z && !z.sameKey (.int .i64 x)) = left' at *
                        clear hlf
                        refine hide ?_
                        by_cases hp : 0 < f2 x
                        · rw [if_pos hp] at HS2
                          go_wp2
                          go_roundw
                          case rel => exact ⟨left', cnt6, by rw [HS2.out.1], by rw [HS2.out.2], HHR6, HBt6⟩
                          case measure => exact Hlt6.out
                        · rw [if_neg hp] at HS2
                          have hp0 : f2 x = 0 := by omega
                          go_wp2
                          go_roundw
                          case rel => exact ⟨left', cnt6, by rw [HS2.out.1, hp0, Int.add_zero], by rw [HS2.out.2, Int.add_zero], HHR6, HBt6⟩
                          case measure => exact Hlt6.out
              · intro x wz cnt6 hlx hx0 hxR hHR6 hlt6 hg6 hs6 hent
                refine unhide ?_
                have hS2 := hst.out x hlx hx0 hxR
                have HBt6 : Hid (Below rb w5 wz) := HBt.out.grown hg6 (by rw [← HRb.out]; exact HBt.out.size) (fun k e => by cases e; exact Nat.le_refl _)
                have HHR6 := hide hHR6
                have Hlt6 : Hid (wz.rangeLeft (BF + 1) rb < wr.rangeLeft (BF + 1) rb) := by show _ < _; rw [hHR6.left_eq, HHR.out.left_eq]; exact hlt6
                have HS2 := hide hS2
                clear hst hen' hHR6 hlt6 hg6 hs6 HBt HHR hS2
                generalize hlf : (fun z : Lit => left z && !z.sameKey (.int .i64 x)) = left' at *
                clear hlf
                refine hide ?_
                by_cases hp : 0 < f x
                · rw [if_pos hp] at HS2
                  go_wp2
                  go_roundw
                  case rel => exact ⟨left', cnt6, by rw [HS2.out], HHR6, HBt6⟩
                  case measure => exact Hlt6.out
                · rw [if_neg hp] at HS2
                  go_wp2
                  go_roundw
                  case rel => exact ⟨left', cnt6, by rw [HS2.out, Int.add_zero], HHR6, HBt6⟩
                  case measure => exact Hlt6.out
      by_cases hk1 : kd = 1
      · as_aux_lemma =>
          subst hk1
          have hth := HTie.out.has HPl.out.hm id
          cases hd : decide (0 < f id)
          · have hno := hide (Hold_no HPl.out.pl id (by rw [hth, hd]))
            have Hsum1 := hide (Nat.le_succ_of_le Hsum.out)
            clear Hsum
            have Hsum := Hsum1
            replace hnf : nf ≤ j + 1 := by omega
            replace hnh : nh ≤ j + 1 := by omega
            clear Hsum1 hth
            go_wp2_with fail
            refine hno.out.mono ?_
            rintro e w4' ⟨rfl, he⟩
            obtain rfl := he.symm
            clear he hno
            go_wp2_with (at_range; refine wpList_HM_range rfl _ rfl (BF + 1) nh f room rfl HPl.out.hm ?_; intro w5 left0 cnt0 hHR0 hz hg5 hs5; refine unhide ?_)
            have hb5 : Below w4.heap.size w4 w5 := (Below.refl _ _).grown hg5 (Nat.le_refl _) (fun k e => by cases e)
            have HHR0 := hide hHR0
            have HZ0 := hide hz
            have HB5 := hide hb5
            clear hHR0 hz hg5 hs5 hb5
            generalize hr4 : w4.heap.size = r4 at *
            have HR4 := hide hr4
            clear hr4
            refine hide ?_
            go_wp2_with fail
            go_loopw [23, 24] (fun x u wt => ∃ (left : Lit → Bool) (cnt : Nat), x = .int .i64 (soFar room left f) ∧ u = .int .i64 (soFar room left (fun k => if 0 < f k then 1 else 0)) ∧ Hid (HR wt (BF + 1) r4 nh f room left cnt) ∧ Hid (Below r4 w4 wt)) (fun _ _ wt => wt.rangeLeft (BF + 1) r4)
            case atStart => exact ⟨left0, cnt0, by rw [soFar_start room left0 f HZ0.out], by rw [soFar_start room left0 _ (fun k hk => by rw [HZ0.out k hk]; rfl)], HHR0, HB5⟩
            case round =>
              obtain ⟨left, cnt, rfl, rfl, HHR, HBt⟩ := hrel
              clear HHR0 HB5 HZ0
              obtain ⟨⟨k1, k2⟩, k3, k4⟩ := HTie.out.count left (j + 1) Hsum.out
              have hj1 : j + 1 ≤ 101 := by omega
              have k2' : soFar room left f ≤ 101 := by omega
              have k4' : soFar room left (fun k => if 0 < f k then 1 else 0) ≤ 4096 := by omega
              have hst := hide (fun x hl h0 hR => And.intro (soFar_step room left f x hl h0 hR) (soFar_step room left (fun k => if 0 < f k then 1 else 0) x hl h0 hR))
              have hen' := hide (fun hl => And.intro (soFar_end room left f hl) (soFar_end room left (fun k => if 0 < f k then 1 else 0) hl))
              clear k2 k4
              generalize hA1 : soFar room left f = A1 at *
              generalize hU1 : soFar room left (fun k => if 0 < f k then 1 else 0) = U1 at *
              clear hA1 hU1
              go_wp2_with (at_next; refine wpList_HR_next rfl _ rfl (BF + 1) r4 nh f room left cnt rfl HHR.out ?_ ?_)
              · intro hl0
                refine unhide ?_
                have hE := hen'.out hl0
                have hA2 : A1 = (sumH ps : Int) := hE.1.trans HTie.out.sums.1
                have hU2 : U1 = (usedN ps : Int) := hE.2.trans HTie.out.sums.2
                subst hA2 hU2
                have HPlt := hide (HPl.out.below (by rw [HR4.out]; exact HBt.out))
                have HBf : Hid (Below w.heap.size w wr) := HB4.out.trans (HBt.out.mono (by rw [← HR4.out]; exact HB4.out.size))
                have hUs := hide (Used_any HPlt.out.pl)
                have hHs := hide (Holds_any HPlt.out.pl (by have := Hsum.out; omega))
                clear hst hen' hE HBt HHR k1 k3 k2' k4'
                refine hide ?_
                go_wp2_with fail
                refine hUs.out.mono ?_
                rintro e w7 ⟨rfl, he⟩
                obtain rfl := he.symm
                clear he
                go_wp2_with fail
                refine hHs.out.mono ?_
                rintro e w7 ⟨rfl, he⟩
                obtain rfl := he.symm
                clear he
                go_wp2
                go_roundw
                case rel => exact ⟨j + 1, by omega, by go_num, ⟨ps, f, s, nf, nh, HPlt.out, HTie.out, hnf, hnh, Hsum.out⟩, HBf⟩
                case measure => simp [intOf]; omega
              · intro x w6 cnt6 hlx hx0 hxR hHR6 hlt6 hg6 hs6 hent
                refine unhide ?_
                obtain ⟨q1, q2⟩ := HTie.out.held x hx0 hxR (j + 1) Hsum.out
                have q3 : f x ≤ 101 := by omega
                have hS2 := hst.out x hlx hx0 hxR
                have HBt6 : Hid (Below r4 w4 w6) := HBt.out.grown hg6 (by rw [← HR4.out]; exact HBt.out.size) (fun k e => by cases e; exact Nat.le_refl _)
                have HHR6 := hide hHR6
                have Hlt6 : Hid (w6.rangeLeft (BF + 1) r4 < wr.rangeLeft (BF + 1) r4) := by show _ < _; rw [hHR6.left_eq, HHR.out.left_eq]; exact hlt6
                have HS2 := hide hS2
                clear hst hen' hHR6 hlt6 hg6 hs6 q2 HBt HHR hS2
                generalize hlf : (fun z : Lit => left z && !z.sameKey (.int .i64 x)) = left' at *
                clear hlf
                refine hide ?_
                by_cases hp : 0 < f x
                · rw [if_pos hp] at HS2
                  go_wp2
                  go_roundw
                  case rel => exact ⟨left', cnt6, by rw [HS2.out.1], by rw [HS2.out.2], HHR6, HBt6⟩
                  case measure => exact Hlt6.out
                · rw [if_neg hp] at HS2
                  have hp0 : f x = 0 := by omega
                  go_wp2
                  go_roundw
                  case rel => exact ⟨left', cnt6, by rw [HS2.out.1, hp0, Int.add_zero], by rw [HS2.out.2, Int.add_zero], HHR6, HBt6⟩
                  case measure => exact Hlt6.out
          · obtain ⟨k, rfl, hkl, hk0⟩ := has_index (hth.trans hd)
            have hkr : k < room := by rw [← HTie.out.len]; exact hkl
            have hle := HTie.out.held k (by omega) (by omega) j Hsum.out
            have hhh := HTie.out.holds k hkr
            have hyes := hide (Hold_yes HPl.out.pl k (hth.trans hd) (by omega))
            obtain ⟨hT2, hS2⟩ := HTie.out.hold k hkr hk0
            have HT2 := hide hT2
            have HS2 : Hid (sumH (ps.set k ⟨(ps.getD k Pc.none).v, (ps.getD k Pc.none).l, (ps.getD k Pc.none).h + 1⟩) ≤ j + 1) := by show _ ≤ _; have := Hsum.out; omega
            have hf1 := hle.1
            have hf2 : f k ≤ 100 := by omega
            clear hth hT2 hS2 hhh hle
            go_wp2_with fail
            refine hyes.out.mono ?_
            rintro e w5 ⟨rfl, hP5, hbut5⟩
            have hPl5 := HPl.out.pool hP5 hbut5 (fun p hp hnp a n c e => by
              rcases List.mem_or_eq_of_mem_set hp with hp' | rfl
              · exact absurd hp' hnp
              · exact HPl.out.apart _ (getD_mem hkl) a n c e)
            have hlk5 := hPl5.hm.look k hwf.out
            obtain ⟨w6, hrun6, hPl6, hg6⟩ := hPl5.putH k (f k + 1) hwf.out (wfI (by omega) (by omega)) (by omega) (by omega) (by unfold maxLen; omega)
            have hq5 : w5.cell? ⟨ga, 1, none⟩ = some (.int .i64 k) := (World.cell?_of_block (w := w4) (a := ⟨ga, 1, none⟩) (hbut5.block ga (block_lt_of_cell hg2) (by have := hga.out.2; show ga ≠ B; omega))).trans hg2
            have HPl6 := hide hPl6
            have HB6 : Hid (Below w.heap.size w w6) := by
              have h5 : Below w.heap.size w w5 := But.below HB4.out hbut5 hbs.out HB4.out.size
              exact h5.grown hg6 h5.size (fun t e => by cases e; have := hbs.out; omega)
            generalize (ps.set k ⟨(ps.getD k Pc.none).v, (ps.getD k Pc.none).l, (ps.getD k Pc.none).h + 1⟩) = ps2 at *
            clear hyes hP5 hbut5 hPl5 hPl6 hg6 HPl HTie Hsum HB4
            have HPl := HPl6
            have HTie := HT2
            have Hsum := HS2
            have HB4 := HB6
            replace hnf : nf ≤ j + 1 := by omega
            replace hnh : nh + 1 ≤ j + 1 := by omega
            clear HPl6 HT2 HS2 HB6
            generalize upd f k (f k + 1) = f2 at *
            go_wp2_with (at_range; refine wpList_HM_range rfl _ rfl (BF + 1) (nh + 1) f2 room rfl HPl.out.hm ?_; intro w5 left0 cnt0 hHR0 hz hg5 hs5; refine unhide ?_)
            have hb5 : Below w6.heap.size w6 w5 := (Below.refl _ _).grown hg5 (Nat.le_refl _) (fun k e => by cases e)
            have HHR0 := hide hHR0
            have HZ0 := hide hz
            have HB5 := hide hb5
            clear hHR0 hz hg5 hs5 hb5
            generalize hr4 : w6.heap.size = r4 at *
            have HR4 := hide hr4
            clear hr4
            refine hide ?_
            go_wp2_with fail
            go_loopw [23, 24] (fun x u wt => ∃ (left : Lit → Bool) (cnt : Nat), x = .int .i64 (soFar room left f2) ∧ u = .int .i64 (soFar room left (fun k => if 0 < f2 k then 1 else 0)) ∧ Hid (HR wt (BF + 1) r4 (nh + 1) f2 room left cnt) ∧ Hid (Below r4 w6 wt)) (fun _ _ wt => wt.rangeLeft (BF + 1) r4)
            case atStart => exact ⟨left0, cnt0, by rw [soFar_start room left0 f2 HZ0.out], by rw [soFar_start room left0 _ (fun k hk => by rw [HZ0.out k hk]; rfl)], HHR0, HB5⟩
            case round =>
              obtain ⟨left, cnt, rfl, rfl, HHR, HBt⟩ := hrel
              clear HHR0 HB5 HZ0
              obtain ⟨⟨k1, k2⟩, k3, k4⟩ := HTie.out.count left (j + 1) Hsum.out
              have hj1 : j + 1 ≤ 101 := by omega
              have k2' : soFar room left f2 ≤ 101 := by omega
              have k4' : soFar room left (fun k => if 0 < f2 k then 1 else 0) ≤ 4096 := by omega
              have hst := hide (fun x hl h0 hR => And.intro (soFar_step room left f2 x hl h0 hR) (soFar_step room left (fun k => if 0 < f2 k then 1 else 0) x hl h0 hR))
              have hen' := hide (fun hl => And.intro (soFar_end room left f2 hl) (soFar_end room left (fun k => if 0 < f2 k then 1 else 0) hl))
              clear k2 k4
              generalize hA1 : soFar room left f2 = A1 at *
              generalize hU1 : soFar room left (fun k => if 0 < f2 k then 1 else 0) = U1 at *
              clear hA1 hU1
              go_wp2_with (at_next; refine wpList_HR_next rfl _ rfl (BF + 1) r4 (nh + 1) f2 room left cnt rfl HHR.out ?_ ?_)
              · intro hl0
                refine unhide ?_
                have hE := hen'.out hl0
                have hA2 : A1 = (sumH ps2 : Int) := hE.1.trans HTie.out.sums.1
                have hU2 : U1 = (usedN ps2 : Int) := hE.2.trans HTie.out.sums.2
                subst hA2 hU2
                have HPlt := hide (HPl.out.below (by rw [HR4.out]; exact HBt.out))
                have HBf : Hid (Below w.heap.size w wr) := HB4.out.trans (HBt.out.mono (by rw [← HR4.out]; exact HB4.out.size))
                have hUs := hide (Used_any HPlt.out.pl)
                have hHs := hide (Holds_any HPlt.out.pl (by have := Hsum.out; omega))
                clear hst hen' hE HBt HHR k1 k3 k2' k4'
                refine hide ?_
                go_wp2_with fail
                refine hUs.out.mono ?_
                rintro e w7 ⟨rfl, he⟩
                obtain rfl := he.symm
                clear he
                go_wp2_with fail
                refine hHs.out.mono ?_
                rintro e w7 ⟨rfl, he⟩
                obtain rfl := he.symm
                clear he
                go_wp2
                go_roundw
                case rel => exact ⟨j + 1, by omega, by go_num, ⟨ps2, f2, s, nf, nh + 1, HPlt.out, HTie.out, hnf, hnh, Hsum.out⟩, HBf⟩
                case measure => simp [intOf]; omega
              · intro x w9 cnt6 hlx hx0 hxR hHR6 hlt6 hg6 hs6 hent
                refine unhide ?_
                obtain ⟨q1, q2⟩ := HTie.out.held x hx0 hxR (j + 1) Hsum.out
                have q3 : f2 x ≤ 101 := by omega
                have hS2 := hst.out x hlx hx0 hxR
                have HBt6 : Hid (Below r4 w6 w9) := HBt.out.grown hg6 (by rw [← HR4.out]; exact HBt.out.size) (fun k e => by cases e; exact Nat.le_refl _)
                have HHR6 := hide hHR6
                have Hlt6 : Hid (w9.rangeLeft (BF + 1) r4 < wr.rangeLeft (BF + 1) r4) := by show _ < _; rw [hHR6.left_eq, HHR.out.left_eq]; exact hlt6
                have HS2 := hide hS2
                clear hst hen' hHR6 hlt6 hg6 hs6 q2 HBt HHR hS2
                generalize hlf : (fun z : Lit => left z && !z.sameKey (.int .i64 x)) = left' at *
                clear hlf
                refine hide ?_
                by_cases hp : 0 < f2 x
                · rw [if_pos hp] at HS2
                  go_wp2
                  go_roundw
                  case rel => exact ⟨left', cnt6, by rw [HS2.out.1], by rw [HS2.out.2], HHR6, HBt6⟩
                  case measure => exact Hlt6.out
                · rw [if_neg hp] at HS2
                  have hp0 : f2 x = 0 := by omega
                  go_wp2
                  go_roundw
                  case rel => exact ⟨left', cnt6, by rw [HS2.out.1, hp0, Int.add_zero], by rw [HS2.out.2, Int.add_zero], HHR6, HBt6⟩
                  case measure => exact Hlt6.out
      by_cases hk2 : kd = 2
      · as_aux_lemma =>
          subst hk2
          have hth := HTie.out.has HPl.out.hm id
          cases hd : decide (0 < f id)
          · have hno := hide (Drop_no HPl.out.pl id (by rw [hth, hd]))
            have Hsum1 := hide (Nat.le_succ_of_le Hsum.out)
            clear Hsum
            have Hsum := Hsum1
            replace hnf : nf ≤ j + 1 := by omega
            replace hnh : nh ≤ j + 1 := by omega
            clear Hsum1 hth
            go_wp2_with fail
            refine hno.out.mono ?_
            rintro e w4' ⟨rfl, he⟩
            obtain rfl := he.symm
            clear he hno
            go_wp2_with (at_range; refine wpList_HM_range rfl _ rfl (BF + 1) nh f room rfl HPl.out.hm ?_; intro w5 left0 cnt0 hHR0 hz hg5 hs5; refine unhide ?_)
            have hb5 : Below w4.heap.size w4 w5 := (Below.refl _ _).grown hg5 (Nat.le_refl _) (fun k e => by cases e)
            have HHR0 := hide hHR0
            have HZ0 := hide hz
            have HB5 := hide hb5
            clear hHR0 hz hg5 hs5 hb5
            generalize hr4 : w4.heap.size = r4 at *
            have HR4 := hide hr4
            clear hr4
            refine hide ?_
            go_wp2_with fail
            go_loopw [23, 24] (fun x u wt => ∃ (left : Lit → Bool) (cnt : Nat), x = .int .i64 (soFar room left f) ∧ u = .int .i64 (soFar room left (fun k => if 0 < f k then 1 else 0)) ∧ Hid (HR wt (BF + 1) r4 nh f room left cnt) ∧ Hid (Below r4 w4 wt)) (fun _ _ wt => wt.rangeLeft (BF + 1) r4)
            case atStart => exact ⟨left0, cnt0, by rw [soFar_start room left0 f HZ0.out], by rw [soFar_start room left0 _ (fun k hk => by rw [HZ0.out k hk]; rfl)], HHR0, HB5⟩
            case round =>
              obtain ⟨left, cnt, rfl, rfl, HHR, HBt⟩ := hrel
              clear HHR0 HB5 HZ0
              obtain ⟨⟨k1, k2⟩, k3, k4⟩ := HTie.out.count left (j + 1) Hsum.out
              have hj1 : j + 1 ≤ 101 := by omega
              have k2' : soFar room left f ≤ 101 := by omega
              have k4' : soFar room left (fun k => if 0 < f k then 1 else 0) ≤ 4096 := by omega
              have hst := hide (fun x hl h0 hR => And.intro (soFar_step room left f x hl h0 hR) (soFar_step room left (fun k => if 0 < f k then 1 else 0) x hl h0 hR))
              have hen' := hide (fun hl => And.intro (soFar_end room left f hl) (soFar_end room left (fun k => if 0 < f k then 1 else 0) hl))
              clear k2 k4
              generalize hA1 : soFar room left f = A1 at *
              generalize hU1 : soFar room left (fun k => if 0 < f k then 1 else 0) = U1 at *
              clear hA1 hU1
              go_wp2_with (at_next; refine wpList_HR_next rfl _ rfl (BF + 1) r4 nh f room left cnt rfl HHR.out ?_ ?_)
              · intro hl0
                refine unhide ?_
                have hE := hen'.out hl0
                have hA2 : A1 = (sumH ps : Int) := hE.1.trans HTie.out.sums.1
                have hU2 : U1 = (usedN ps : Int) := hE.2.trans HTie.out.sums.2
                subst hA2 hU2
                have HPlt := hide (HPl.out.below (by rw [HR4.out]; exact HBt.out))
                have HBf : Hid (Below w.heap.size w wr) := HB4.out.trans (HBt.out.mono (by rw [← HR4.out]; exact HB4.out.size))
                have hUs := hide (Used_any HPlt.out.pl)
                have hHs := hide (Holds_any HPlt.out.pl (by have := Hsum.out; omega))
                clear hst hen' hE HBt HHR k1 k3 k2' k4'
                refine hide ?_
                go_wp2_with fail
                refine hUs.out.mono ?_
                rintro e w7 ⟨rfl, he⟩
                obtain rfl := he.symm
                clear he
                go_wp2_with fail
                refine hHs.out.mono ?_
                rintro e w7 ⟨rfl, he⟩
                obtain rfl := he.symm
                clear he
                go_wp2
                go_roundw
                case rel => exact ⟨j + 1, by omega, by go_num, ⟨ps, f, s, nf, nh, HPlt.out, HTie.out, hnf, hnh, Hsum.out⟩, HBf⟩
                case measure => simp [intOf]; omega
              · intro x w6 cnt6 hlx hx0 hxR hHR6 hlt6 hg6 hs6 hent
                refine unhide ?_
                obtain ⟨q1, q2⟩ := HTie.out.held x hx0 hxR (j + 1) Hsum.out
                have q3 : f x ≤ 101 := by omega
                have hS2 := hst.out x hlx hx0 hxR
                have HBt6 : Hid (Below r4 w4 w6) := HBt.out.grown hg6 (by rw [← HR4.out]; exact HBt.out.size) (fun k e => by cases e; exact Nat.le_refl _)
                have HHR6 := hide hHR6
                have Hlt6 : Hid (w6.rangeLeft (BF + 1) r4 < wr.rangeLeft (BF + 1) r4) := by show _ < _; rw [hHR6.left_eq, HHR.out.left_eq]; exact hlt6
                have HS2 := hide hS2
                clear hst hen' hHR6 hlt6 hg6 hs6 q2 HBt HHR hS2
                generalize hlf : (fun z : Lit => left z && !z.sameKey (.int .i64 x)) = left' at *
                clear hlf
                refine hide ?_
                by_cases hp : 0 < f x
                · rw [if_pos hp] at HS2
                  go_wp2
                  go_roundw
                  case rel => exact ⟨left', cnt6, by rw [HS2.out.1], by rw [HS2.out.2], HHR6, HBt6⟩
                  case measure => exact Hlt6.out
                · rw [if_neg hp] at HS2
                  have hp0 : f x = 0 := by omega
                  go_wp2
                  go_roundw
                  case rel => exact ⟨left', cnt6, by rw [HS2.out.1, hp0, Int.add_zero], by rw [HS2.out.2, Int.add_zero], HHR6, HBt6⟩
                  case measure => exact Hlt6.out
          · obtain ⟨k, rfl, hkl, hk0⟩ := has_index (hth.trans hd)
            have hkr : k < room := by rw [← HTie.out.len]; exact hkl
            have hle := HTie.out.held k (by omega) (by omega) j Hsum.out
            have hhh := HTie.out.holds k hkr
            have hyes := hide (Drop_yes HPl.out.pl k (hth.trans hd) (by omega))
            obtain ⟨hT2, hS2⟩ := HTie.out.drop k hkr hk0
            have HT2 := hide hT2
            have HS2 : Hid (sumH (ps.set k (dropPc (ps.getD k Pc.none))) ≤ j + 1) := by show _ ≤ _; have := Hsum.out; omega
            have hf1 := hle.1
            have hf2 : f k ≤ 100 := by omega
            clear hth hT2 hS2 hhh hle
            go_wp2_with fail
            refine hyes.out.mono ?_
            rintro e w5 ⟨rfl, hP5, hbut5⟩
            have hPl5 := HPl.out.pool hP5 hbut5 (fun p hp hnp a n c e => by
              rcases List.mem_or_eq_of_mem_set hp with hp' | rfl
              · exact absurd hp' hnp
              · unfold dropPc at e
                split at e
                · simp at e
                · exact HPl.out.apart _ (getD_mem hkl) a n c e)
            have hlk5 := hPl5.hm.look k hwf.out
            obtain ⟨w6, hrun6, hPl6, hg6⟩ := hPl5.putH k (f k - 1) hwf.out (wfI (by omega) (by omega)) (by omega) (by omega) (by unfold maxLen; omega)
            have hq5 : w5.cell? ⟨ga, 1, none⟩ = some (.int .i64 k) := (World.cell?_of_block (w := w4) (a := ⟨ga, 1, none⟩) (hbut5.block ga (block_lt_of_cell hg2) (by have := hga.out.2; show ga ≠ B; omega))).trans hg2
            have HPl6 := hide hPl6
            have HB6 : Hid (Below w.heap.size w w6) := by
              have h5 : Below w.heap.size w w5 := But.below HB4.out hbut5 hbs.out HB4.out.size
              exact h5.grown hg6 h5.size (fun t e => by cases e; have := hbs.out; omega)
            generalize (ps.set k (dropPc (ps.getD k Pc.none))) = ps2 at *
            clear hyes hP5 hbut5 hPl5 hPl6 hg6 HPl HTie Hsum HB4
            have HPl := HPl6
            have HTie := HT2
            have Hsum := HS2
            have HB4 := HB6
            replace hnf : nf ≤ j + 1 := by omega
            replace hnh : nh + 1 ≤ j + 1 := by omega
            clear HPl6 HT2 HS2 HB6
            generalize upd f k (f k - 1) = f2 at *
            go_wp2_with (at_range; refine wpList_HM_range rfl _ rfl (BF + 1) (nh + 1) f2 room rfl HPl.out.hm ?_; intro w5 left0 cnt0 hHR0 hz hg5 hs5; refine unhide ?_)
            have hb5 : Below w6.heap.size w6 w5 := (Below.refl _ _).grown hg5 (Nat.le_refl _) (fun k e => by cases e)
            have HHR0 := hide hHR0
            have HZ0 := hide hz
            have HB5 := hide hb5
            clear hHR0 hz hg5 hs5 hb5
            generalize hr4 : w6.heap.size = r4 at *
            have HR4 := hide hr4
            clear hr4
            refine hide ?_
            go_wp2_with fail
            go_loopw [23, 24] (fun x u wt => ∃ (left : Lit → Bool) (cnt : Nat), x = .int .i64 (soFar room left f2) ∧ u = .int .i64 (soFar room left (fun k => if 0 < f2 k then 1 else 0)) ∧ Hid (HR wt (BF + 1) r4 (nh + 1) f2 room left cnt) ∧ Hid (Below r4 w6 wt)) (fun _ _ wt => wt.rangeLeft (BF + 1) r4)
            case atStart => exact ⟨left0, cnt0, by rw [soFar_start room left0 f2 HZ0.out], by rw [soFar_start room left0 _ (fun k hk => by rw [HZ0.out k hk]; rfl)], HHR0, HB5⟩
            case round =>
              obtain ⟨left, cnt, rfl, rfl, HHR, HBt⟩ := hrel
              clear HHR0 HB5 HZ0
              obtain ⟨⟨k1, k2⟩, k3, k4⟩ := HTie.out.count left (j + 1) Hsum.out
              have hj1 : j + 1 ≤ 101 := by omega
              have k2' : soFar room left f2 ≤ 101 := by omega
              have k4' : soFar room left (fun k => if 0 < f2 k then 1 else 0) ≤ 4096 := by omega
              have hst := hide (fun x hl h0 hR => And.intro (soFar_step room left f2 x hl h0 hR) (soFar_step room left (fun k => if 0 < f2 k then 1 else 0) x hl h0 hR))
              have hen' := hide (fun hl => And.intro (soFar_end room left f2 hl) (soFar_end room left (fun k => if 0 < f2 k then 1 else 0) hl))
              clear k2 k4
              generalize hA1 : soFar room left f2 = A1 at *
              generalize hU1 : soFar room left (fun k => if 0 < f2 k then 1 else 0) = U1 at *
              clear hA1 hU1
              go_wp2_with (at_next; refine wpList_HR_next rfl _ rfl (BF + 1) r4 (nh + 1) f2 room left cnt rfl HHR.out ?_ ?_)
              · intro hl0
                refine unhide ?_
                have hE := hen'.out hl0
                have hA2 : A1 = (sumH ps2 : Int) := hE.1.trans HTie.out.sums.1
                have hU2 : U1 = (usedN ps2 : Int) := hE.2.trans HTie.out.sums.2
                subst hA2 hU2
                have HPlt := hide (HPl.out.below (by rw [HR4.out]; exact HBt.out))
                have HBf : Hid (Below w.heap.size w wr) := HB4.out.trans (HBt.out.mono (by rw [← HR4.out]; exact HB4.out.size))
                have hUs := hide (Used_any HPlt.out.pl)
                have hHs := hide (Holds_any HPlt.out.pl (by have := Hsum.out; omega))
                clear hst hen' hE HBt HHR k1 k3 k2' k4'
                refine hide ?_
                go_wp2_with fail
                refine hUs.out.mono ?_
                rintro e w7 ⟨rfl, he⟩
                obtain rfl := he.symm
                clear he
                go_wp2_with fail
                refine hHs.out.mono ?_
                rintro e w7 ⟨rfl, he⟩
                obtain rfl := he.symm
                clear he
                go_wp2
                go_roundw
                case rel => exact ⟨j + 1, by omega, by go_num, ⟨ps2, f2, s, nf, nh + 1, HPlt.out, HTie.out, hnf, hnh, Hsum.out⟩, HBf⟩
                case measure => simp [intOf]; omega
              · intro x w9 cnt6 hlx hx0 hxR hHR6 hlt6 hg6 hs6 hent
                refine unhide ?_
                obtain ⟨q1, q2⟩ := HTie.out.held x hx0 hxR (j + 1) Hsum.out
                have q3 : f2 x ≤ 101 := by omega
                have hS2 := hst.out x hlx hx0 hxR
                have HBt6 : Hid (Below r4 w6 w9) := HBt.out.grown hg6 (by rw [← HR4.out]; exact HBt.out.size) (fun k e => by cases e; exact Nat.le_refl _)
                have HHR6 := hide hHR6
                have Hlt6 : Hid (w9.rangeLeft (BF + 1) r4 < wr.rangeLeft (BF + 1) r4) := by show _ < _; rw [hHR6.left_eq, HHR.out.left_eq]; exact hlt6
                have HS2 := hide hS2
                clear hst hen' hHR6 hlt6 hg6 hs6 q2 HBt HHR hS2
                generalize hlf : (fun z : Lit => left z && !z.sameKey (.int .i64 x)) = left' at *
                clear hlf
                refine hide ?_
                by_cases hp : 0 < f2 x
                · rw [if_pos hp] at HS2
                  go_wp2
                  go_roundw
                  case rel => exact ⟨left', cnt6, by rw [HS2.out.1], by rw [HS2.out.2], HHR6, HBt6⟩
                  case measure => exact Hlt6.out
                · rw [if_neg hp] at HS2
                  have hp0 : f2 x = 0 := by omega
                  go_wp2
                  go_roundw
                  case rel => exact ⟨left', cnt6, by rw [HS2.out.1, hp0, Int.add_zero], by rw [HS2.out.2, Int.add_zero], HHR6, HBt6⟩
                  case measure => exact Hlt6.out
      by_cases hk3 : kd = 3
      · as_aux_lemma =>
          subst hk3
          have hth := HTie.out.has HPl.out.hm id
          have Hsum1 := hide (Nat.le_succ_of_le Hsum.out)
          clear Hsum
          have Hsum := Hsum1
          replace hnf : nf ≤ j + 1 := by omega
          replace hnh : nh ≤ j + 1 := by omega
          clear Hsum1
          cases hd : decide (0 < f id)
          · have hno := hide (Get_no HPl.out.pl id (by rw [hth, hd]))
            have hsz := hide (Size_any HPl.out.pl id)
            rw [hth, hd] at hsz
            simp only [Bool.false_eq_true, if_false] at hsz
            clear hth
            go_wp2_with fail
            refine hno.out.mono ?_
            rintro e w4' ⟨rfl, he⟩
            obtain rfl := he.symm
            clear he hno
            go_wp2_with fail
            refine hsz.out.mono ?_
            rintro e w4' ⟨rfl, he⟩
            obtain rfl := he.symm
            clear he hsz
            go_wp2_with fail
            go_loop [205] (fun i => i = .int .i64 0) (fun _ => 0)
            case atStart => rfl
            case round =>
              obtain rfl := hrel
              go_wp2_with (at_range; refine wpList_HM_range rfl _ rfl (BF + 1) nh f room rfl HPl.out.hm ?_; intro w5 left0 cnt0 hHR0 hz hg5 hs5; refine unhide ?_)
              have hb5 : Below w4.heap.size w4 w5 := (Below.refl _ _).grown hg5 (Nat.le_refl _) (fun k e => by cases e)
              have HHR0 := hide hHR0
              have HZ0 := hide hz
              have HB5 := hide hb5
              clear hHR0 hz hg5 hs5 hb5
              generalize hr4 : w4.heap.size = r4 at *
              have HR4 := hide hr4
              clear hr4
              refine hide ?_
              go_wp2_with fail
              go_loopw [23, 24] (fun x u wt => ∃ (left : Lit → Bool) (cnt : Nat), x = .int .i64 (soFar room left f) ∧ u = .int .i64 (soFar room left (fun k => if 0 < f k then 1 else 0)) ∧ Hid (HR wt (BF + 1) r4 nh f room left cnt) ∧ Hid (Below r4 w4 wt)) (fun _ _ wt => wt.rangeLeft (BF + 1) r4)
              case atStart => exact ⟨left0, cnt0, by rw [soFar_start room left0 f HZ0.out], by rw [soFar_start room left0 _ (fun k hk => by rw [HZ0.out k hk]; rfl)], HHR0, HB5⟩
              case round =>
                obtain ⟨left, cnt, rfl, rfl, HHR, HBt⟩ := hrel
                clear HHR0 HB5 HZ0
                obtain ⟨⟨k1, k2⟩, k3, k4⟩ := HTie.out.count left (j + 1) Hsum.out
                have hj1 : j + 1 ≤ 101 := by omega
                have k2' : soFar room left f ≤ 101 := by omega
                have k4' : soFar room left (fun k => if 0 < f k then 1 else 0) ≤ 4096 := by omega
                have hst := hide (fun x hl h0 hR => And.intro (soFar_step room left f x hl h0 hR) (soFar_step room left (fun k => if 0 < f k then 1 else 0) x hl h0 hR))
                have hen' := hide (fun hl => And.intro (soFar_end room left f hl) (soFar_end room left (fun k => if 0 < f k then 1 else 0) hl))
                clear k2 k4
                generalize hA1 : soFar room left f = A1 at *
                generalize hU1 : soFar room left (fun k => if 0 < f k then 1 else 0) = U1 at *
                clear hA1 hU1
                go_wp2_with (at_next; refine wpList_HR_next rfl _ rfl (BF + 1) r4 nh f room left cnt rfl HHR.out ?_ ?_)
                · intro hl0
                  refine unhide ?_
                  have hE := hen'.out hl0
                  have hA2 : A1 = (sumH ps : Int) := hE.1.trans HTie.out.sums.1
                  have hU2 : U1 = (usedN ps : Int) := hE.2.trans HTie.out.sums.2
                  subst hA2 hU2
                  have HPlt := hide (HPl.out.below (by rw [HR4.out]; exact HBt.out))
                  have HBf : Hid (Below w.heap.size w wr) := HB4.out.trans (HBt.out.mono (by rw [← HR4.out]; exact HB4.out.size))
                  have hUs := hide (Used_any HPlt.out.pl)
                  have hHs := hide (Holds_any HPlt.out.pl (by have := Hsum.out; omega))
                  clear hst hen' hE HBt HHR k1 k3 k2' k4'
                  refine hide ?_
                  go_wp2_with fail
                  refine hUs.out.mono ?_
                  rintro e w7 ⟨rfl, he⟩
                  obtain rfl := he.symm
                  clear he
                  go_wp2_with fail
                  refine hHs.out.mono ?_
                  rintro e w7 ⟨rfl, he⟩
                  obtain rfl := he.symm
                  clear he
                  go_wp2
                  go_roundw
                  case rel => exact ⟨j + 1, by omega, by go_num, ⟨ps, f, s, nf, nh, HPlt.out, HTie.out, hnf, hnh, Hsum.out⟩, HBf⟩
                  case measure => simp [intOf]; omega
                · intro x w6 cnt6 hlx hx0 hxR hHR6 hlt6 hg6 hs6 hent
                  refine unhide ?_
                  obtain ⟨q1, q2⟩ := HTie.out.held x hx0 hxR (j + 1) Hsum.out
                  have q3 : f x ≤ 101 := by omega
                  have hS2 := hst.out x hlx hx0 hxR
                  have HBt6 : Hid (Below r4 w4 w6) := HBt.out.grown hg6 (by rw [← HR4.out]; exact HBt.out.size) (fun k e => by cases e; exact Nat.le_refl _)
                  have HHR6 := hide hHR6
                  have Hlt6 : Hid (w6.rangeLeft (BF + 1) r4 < wr.rangeLeft (BF + 1) r4) := by show _ < _; rw [hHR6.left_eq, HHR.out.left_eq]; exact hlt6
                  have HS2 := hide hS2
                  clear hst hen' hHR6 hlt6 hg6 hs6 q2 HBt HHR hS2
                  generalize hlf : (fun z : Lit => left z && !z.sameKey (.int .i64 x)) = left' at *
                  clear hlf
                  refine hide ?_
                  by_cases hp : 0 < f x
                  · rw [if_pos hp] at HS2
                    go_wp2
                    go_roundw
                    case rel => exact ⟨left', cnt6, by rw [HS2.out.1], by rw [HS2.out.2], HHR6, HBt6⟩
                    case measure => exact Hlt6.out
                  · rw [if_neg hp] at HS2
                    have hp0 : f x = 0 := by omega
                    go_wp2
                    go_roundw
                    case rel => exact ⟨left', cnt6, by rw [HS2.out.1, hp0, Int.add_zero], by rw [HS2.out.2, Int.add_zero], HHR6, HBt6⟩
                    case measure => exact Hlt6.out
          · obtain ⟨k, rfl, hkl, hk0⟩ := has_index (hth.trans hd)
            have hkr : k < room := by rw [← HTie.out.len]; exact hkl
            have hsh := HTie.out.short k hkr
            have htx := HTie.out.text k hkr hk0
            have hyes := hide (Get_yes HPl.out.pl k (hth.trans hd) (by omega))
            have hsz := hide (fun W (hP : Pl W (B + 1) B ps) => Size_any hP k)
            rw [hth, hd] at hsz
            simp only [if_true, Int.toNat_natCast] at hsz
            generalize (ps.getD k Pc.none).l = L at *
            clear hth
            go_wp2_with fail
            refine hyes.out.mono ?_
            rintro e w5 ⟨v5, rfl, hO5, hb5⟩
            have hV5 := hO5.bs
            obtain ⟨a5, m5, c5, rfl, hm5⟩ : ∃ a n c, v5 = .slice a n c ∧ n = L.length := by
              obtain ⟨_, a', c', e, _⟩ := hV5
              exact ⟨a', _, c', e, rfl⟩
            have HPl5 := hide (HPl.out.below hb5)
            have hlk5 := HPl5.out.hm.look k hwf.out
            have hfm5 := HPl5.out.fm.look k hwf.out
            obtain ⟨S, hS⟩ : ∃ S, S = bstr L := ⟨_, rfl⟩
            rw [htx, ← hS] at hfm5
            have q5 : (convert 42 9 (.slice a5 m5 c5)).run Try.prog w5 = .ok (.string S) w5 := by rw [hS]; exact conv_str 42 9 5 Try.underlying42 Try.underlying5 Try.underlying9 hV5
            have hq5 : w5.cell? ⟨ga, 1, none⟩ = some (.int .i64 k) := (hb5.cell (p := ⟨ga, 1, none⟩) (block_lt_of_cell hg2)).trans hg2
            have hs5 := hide (hsz.out w5 HPl5.out.pl)
            rw [← hm5] at hs5
            have HO5 := hide hO5
            have HW5 := hide hb5
            have Hm5 := hide hm5
            have hm5' : (m5 : Int) ≤ 100 := by omega
            clear hyes hsz hO5 hb5 hV5 hS htx hm5 hsh
            go_wp2_with fail
            refine hs5.out.mono ?_
            rintro e w5' ⟨rfl, he⟩
            obtain rfl := he.symm
            clear he hs5 hlk5 hfm5 q5 hq5
            go_wp2_with fail
            generalize hr4' : w4.heap.size = R4 at *
            have HR4' := hide hr4'
            clear hr4'
            go_loopw [205] (fun i wu => ∃ t : Nat, t ≤ m5 ∧ i = .int .i64 t ∧ (∃ l', Hid (Own wu R4 (.slice a5 m5 c5) l')) ∧ Hid (Below R4 w4 wu)) (fun i _ => m5 - (intOf i).toNat)
            case atStart => exact ⟨0, Nat.zero_le _, rfl, ⟨_, HO5⟩, HW5⟩
            case round =>
              obtain ⟨t, ht, rfl, ⟨l', HO⟩, HW⟩ := hrel
              clear HO5 HW5
              by_cases hlt2 : t < m5
              · obtain ⟨g5, rfl⟩ : ∃ g, a5 = some ⟨g, 0, none⟩ := by
                  rcases HO.out.form with ⟨e, _⟩ | ⟨g, cc, e, _⟩
                  · simp only [Value.slice.injEq] at e; omega
                  · simp only [Value.slice.injEq] at e; exact ⟨g, e.1⟩
                obtain ⟨hc, hz, _, hB5⟩ := HO.out.cell t hlt2
                have hby := HO.out.1.getD t
                have HO' := hide (HO.out.set t hlt2 ((l'.getD t 0 + 1) % 256) (by omega))
                have HW' := hide (HW.out.setCell (p := ⟨g5, t, none⟩) hB5 (.int .u8 ((l'.getD t 0 + 1) % 256)))
                generalize l'.getD t 0 = y at *
                generalize l'.set t ((y + 1) % 256) = l'' at *
                clear HO HW
                go_wp2
                go_roundw
                case rel => exact ⟨t + 1, by omega, by go_num, ⟨l'', HO'⟩, HW'⟩
                case measure => simp [intOf]; omega
              · clear HO
                have HPl8 := hide (HPl.out.below (by rw [HR4'.out]; exact HW.out))
                have HB8 : Hid (Below w.heap.size w wr) := HB4.out.trans (HW.out.mono (by rw [← HR4'.out]; exact HB4.out.size))
                clear HPl HPl5 HB4 HW hg1 hg2 hg3 hlk HGa HBv
                rename World => w8
                have HPl := HPl8
                have HB4 := HB8
                clear HPl8 HB8
                go_wp2_with (at_range; refine wpList_HM_range rfl _ rfl (BF + 1) nh f room rfl HPl.out.hm ?_; intro w5 left0 cnt0 hHR0 hz hg5 hs5; refine unhide ?_)
                have hb5 : Below w8.heap.size w8 w5 := (Below.refl _ _).grown hg5 (Nat.le_refl _) (fun k e => by cases e)
                have HHR0 := hide hHR0
                have HZ0 := hide hz
                have HB5 := hide hb5
                clear hHR0 hz hg5 hs5 hb5
                generalize hr4 : w8.heap.size = r4 at *
                have HR4 := hide hr4
                clear hr4
                refine hide ?_
                go_wp2_with fail
                go_loopw [23, 24] (fun x u wt => ∃ (left : Lit → Bool) (cnt : Nat), x = .int .i64 (soFar room left f) ∧ u = .int .i64 (soFar room left (fun k => if 0 < f k then 1 else 0)) ∧ Hid (HR wt (BF + 1) r4 nh f room left cnt) ∧ Hid (Below r4 w8 wt)) (fun _ _ wt => wt.rangeLeft (BF + 1) r4)
                case atStart => exact ⟨left0, cnt0, by rw [soFar_start room left0 f HZ0.out], by rw [soFar_start room left0 _ (fun k hk => by rw [HZ0.out k hk]; rfl)], HHR0, HB5⟩
                case round =>
                  obtain ⟨left, cnt, rfl, rfl, HHR, HBt⟩ := hrel
                  clear HHR0 HB5 HZ0
                  obtain ⟨⟨k1, k2⟩, k3, k4⟩ := HTie.out.count left (j + 1) Hsum.out
                  have hj1 : j + 1 ≤ 101 := by omega
                  have k2' : soFar room left f ≤ 101 := by omega
                  have k4' : soFar room left (fun k => if 0 < f k then 1 else 0) ≤ 4096 := by omega
                  have hst := hide (fun x hl h0 hR => And.intro (soFar_step room left f x hl h0 hR) (soFar_step room left (fun k => if 0 < f k then 1 else 0) x hl h0 hR))
                  have hen' := hide (fun hl => And.intro (soFar_end room left f hl) (soFar_end room left (fun k => if 0 < f k then 1 else 0) hl))
                  clear k2 k4
                  generalize hA1 : soFar room left f = A1 at *
                  generalize hU1 : soFar room left (fun k => if 0 < f k then 1 else 0) = U1 at *
                  clear hA1 hU1
                  go_wp2_with (at_next; refine wpList_HR_next rfl _ rfl (BF + 1) r4 nh f room left cnt rfl HHR.out ?_ ?_)
                  · intro hl0
                    refine unhide ?_
                    have hE := hen'.out hl0
                    have hA2 : A1 = (sumH ps : Int) := hE.1.trans HTie.out.sums.1
                    have hU2 : U1 = (usedN ps : Int) := hE.2.trans HTie.out.sums.2
                    subst hA2 hU2
                    have HPlt := hide (HPl.out.below (by rw [HR4.out]; exact HBt.out))
                    have HBf : Hid (Below w.heap.size w wr) := HB4.out.trans (HBt.out.mono (by rw [← HR4.out]; exact HB4.out.size))
                    have hUs := hide (Used_any HPlt.out.pl)
                    have hHs := hide (Holds_any HPlt.out.pl (by have := Hsum.out; omega))
                    clear hst hen' hE HBt HHR k1 k3 k2' k4'
                    refine hide ?_
                    go_wp2_with fail
                    refine hUs.out.mono ?_
                    rintro e w7 ⟨rfl, he⟩
                    obtain rfl := he.symm
                    clear he
                    go_wp2_with fail
                    refine hHs.out.mono ?_
                    rintro e w7 ⟨rfl, he⟩
                    obtain rfl := he.symm
                    clear he
                    go_wp2
                    go_roundw
                    case rel => exact ⟨j + 1, by omega, by go_num, ⟨ps, f, s, nf, nh, HPlt.out, HTie.out, hnf, hnh, Hsum.out⟩, HBf⟩
                    case measure => simp [intOf]; omega
                  · intro x w6 cnt6 hlx hx0 hxR hHR6 hlt6 hg6 hs6 hent
                    refine unhide ?_
                    obtain ⟨q1, q2⟩ := HTie.out.held x hx0 hxR (j + 1) Hsum.out
                    have q3 : f x ≤ 101 := by omega
                    have hS2 := hst.out x hlx hx0 hxR
                    have HBt6 : Hid (Below r4 w8 w6) := HBt.out.grown hg6 (by rw [← HR4.out]; exact HBt.out.size) (fun k e => by cases e; exact Nat.le_refl _)
                    have HHR6 := hide hHR6
                    have Hlt6 : Hid (w6.rangeLeft (BF + 1) r4 < wr.rangeLeft (BF + 1) r4) := by show _ < _; rw [hHR6.left_eq, HHR.out.left_eq]; exact hlt6
                    have HS2 := hide hS2
                    clear hst hen' hHR6 hlt6 hg6 hs6 q2 HBt HHR hS2
                    generalize hlf : (fun z : Lit => left z && !z.sameKey (.int .i64 x)) = left' at *
                    clear hlf
                    refine hide ?_
                    by_cases hp : 0 < f x
                    · rw [if_pos hp] at HS2
                      go_wp2
                      go_roundw
                      case rel => exact ⟨left', cnt6, by rw [HS2.out.1], by rw [HS2.out.2], HHR6, HBt6⟩
                      case measure => exact Hlt6.out
                    · rw [if_neg hp] at HS2
                      have hp0 : f x = 0 := by omega
                      go_wp2
                      go_roundw
                      case rel => exact ⟨left', cnt6, by rw [HS2.out.1, hp0, Int.add_zero], by rw [HS2.out.2, Int.add_zero], HHR6, HBt6⟩
                      case measure => exact Hlt6.out
      have e0 : (kd == 0) = false := by simpa using hk
      have e1 : (kd == 1) = false := by simpa using hk1
      have e2 : (kd == 2) = false := by simpa using hk2
      have e3 : (kd == 3) = false := by simpa using hk3
      clear hk hk1 hk2 hk3
      have Hsum1 := hide (Nat.le_succ_of_le Hsum.out)
      clear Hsum
      have Hsum := Hsum1
      replace hnf : nf ≤ j + 1 := by omega
      replace hnh : nh ≤ j + 1 := by omega
      clear Hsum1
      go_wp2_with (at_range; refine wpList_HM_range rfl _ rfl (BF + 1) nh f room rfl HPl.out.hm ?_; intro w5 left0 cnt0 hHR0 hz hg5 hs5; refine unhide ?_)
      have hb5 : Below w4.heap.size w4 w5 := (Below.refl _ _).grown hg5 (Nat.le_refl _) (fun k e => by cases e)
      have HHR0 := hide hHR0
      have HZ0 := hide hz
      have HB5 := hide hb5
      clear hHR0 hz hg5 hs5 hb5
      generalize hr4 : w4.heap.size = r4 at *
      have HR4 := hide hr4
      clear hr4
      refine hide ?_
      go_wp2_with fail
      go_loopw [23, 24] (fun x u wt => ∃ (left : Lit → Bool) (cnt : Nat), x = .int .i64 (soFar room left f) ∧ u = .int .i64 (soFar room left (fun k => if 0 < f k then 1 else 0)) ∧ Hid (HR wt (BF + 1) r4 nh f room left cnt) ∧ Hid (Below r4 w4 wt)) (fun _ _ wt => wt.rangeLeft (BF + 1) r4)
      case atStart => exact ⟨left0, cnt0, by rw [soFar_start room left0 f HZ0.out], by rw [soFar_start room left0 _ (fun k hk => by rw [HZ0.out k hk]; rfl)], HHR0, HB5⟩
      case round =>
        obtain ⟨left, cnt, rfl, rfl, HHR, HBt⟩ := hrel
        clear HHR0 HB5 HZ0
        obtain ⟨⟨k1, k2⟩, k3, k4⟩ := HTie.out.count left (j + 1) Hsum.out
        have hj1 : j + 1 ≤ 101 := by omega
        have k2' : soFar room left f ≤ 101 := by omega
        have k4' : soFar room left (fun k => if 0 < f k then 1 else 0) ≤ 4096 := by omega
        have hst := hide (fun x hl h0 hR => And.intro (soFar_step room left f x hl h0 hR) (soFar_step room left (fun k => if 0 < f k then 1 else 0) x hl h0 hR))
        have hen' := hide (fun hl => And.intro (soFar_end room left f hl) (soFar_end room left (fun k => if 0 < f k then 1 else 0) hl))
        clear k2 k4
        generalize hA1 : soFar room left f = A1 at *
        generalize hU1 : soFar room left (fun k => if 0 < f k then 1 else 0) = U1 at *
        clear hA1 hU1
        go_wp2_with (at_next; refine wpList_HR_next rfl _ rfl (BF + 1) r4 nh f room left cnt rfl HHR.out ?_ ?_)
        · intro hl0
          refine unhide ?_
          have hE := hen'.out hl0
          have hA2 : A1 = (sumH ps : Int) := hE.1.trans HTie.out.sums.1
          have hU2 : U1 = (usedN ps : Int) := hE.2.trans HTie.out.sums.2
          subst hA2 hU2
          have HPlt := hide (HPl.out.below (by rw [HR4.out]; exact HBt.out))
          have HBf : Hid (Below w.heap.size w wr) := HB4.out.trans (HBt.out.mono (by rw [← HR4.out]; exact HB4.out.size))
          have hUs := hide (Used_any HPlt.out.pl)
          have hHs := hide (Holds_any HPlt.out.pl (by have := Hsum.out; omega))
          clear hst hen' hE HBt HHR k1 k3 k2' k4'
          refine hide ?_
          go_wp2_with fail
          refine hUs.out.mono ?_
          rintro e w7 ⟨rfl, he⟩
          obtain rfl := he.symm
          clear he
          go_wp2_with fail
          refine hHs.out.mono ?_
          rintro e w7 ⟨rfl, he⟩
          obtain rfl := he.symm
          clear he
          go_wp2
          go_roundw
          case rel => exact ⟨j + 1, by omega, by go_num, ⟨ps, f, s, nf, nh, HPlt.out, HTie.out, hnf, hnh, Hsum.out⟩, HBf⟩
          case measure => simp [intOf]; omega
        · intro x w6 cnt6 hlx hx0 hxR hHR6 hlt6 hg6 hs6 hent
          refine unhide ?_
          obtain ⟨q1, q2⟩ := HTie.out.held x hx0 hxR (j + 1) Hsum.out
          have q3 : f x ≤ 101 := by omega
          have hS2 := hst.out x hlx hx0 hxR
          have HBt6 : Hid (Below r4 w4 w6) := HBt.out.grown hg6 (by rw [← HR4.out]; exact HBt.out.size) (fun k e => by cases e; exact Nat.le_refl _)
          have HHR6 := hide hHR6
          have Hlt6 : Hid (w6.rangeLeft (BF + 1) r4 < wr.rangeLeft (BF + 1) r4) := by show _ < _; rw [hHR6.left_eq, HHR.out.left_eq]; exact hlt6
          have HS2 := hide hS2
          clear hst hen' hHR6 hlt6 hg6 hs6 q2 HBt HHR hS2
          generalize hlf : (fun z : Lit => left z && !z.sameKey (.int .i64 x)) = left' at *
          clear hlf
          refine hide ?_
          by_cases hp : 0 < f x
          · rw [if_pos hp] at HS2
            go_wp2
            go_roundw
            case rel => exact ⟨left', cnt6, by rw [HS2.out.1], by rw [HS2.out.2], HHR6, HBt6⟩
            case measure => exact Hlt6.out
          · rw [if_neg hp] at HS2
            have hp0 : f x = 0 := by omega
            go_wp2
            go_roundw
            case rel => exact ⟨left', cnt6, by rw [HS2.out.1, hp0, Int.add_zero], by rw [HS2.out.2, Int.add_zero], HHR6, HBt6⟩
            case measure => exact Hlt6.out
    · go_wp2
      go_ret
      exact ⟨rfl, HB.out⟩
theorem PPlays_walk (n : Int) (a : Option Addr) (len cap : Nat) (xs : List Ac) (w : World) (hA : Acs w a len xs) (hm : len ≤ maxLen) :
    Calls Try.prog 9 #[.int .i64 n, .slice a len cap] w fun r w' => r = .returned (.bool true) ∧ Below w.heap.size w w' := by
  by_cases h : 100 < len
  · exact PPlays_far n a len cap w hm h
  · exact PPlays_near n a len cap xs w hA (by omega) (min (max n 0) 4096).toNat (by omega)
end Go.Proofs.Ytbdolfnnohdmhaa
