/-
  The walk of the statement OctetPacks: whatever the pairs, it answers true and writes nothing that was there.
-/
import Derived.Test.YtjoejbdgiepdcaaGets
import Derived.BigQuiet
import Derived.Deep.QuietTactic
namespace Go.Proofs.Ytjoejbdgiepdcaa
open Go.RowKit

/-- What octet.Bits answers. -/
def bitsR (n a b : Int) : Int := if a < 0 ∨ 64 < b ∨ b ≤ a then 0 else n / 2 ^ a.toNat % 2 ^ (b - a).toNat
theorem Bits_any (n a b : Int) (w : World) (h0 : 0 ≤ n) (hn : n < 18446744073709551616) :
    Calls Try.prog 17 #[.int .u64 n, .int .i64 a, .int .i64 b] w fun e w' => e = .returned (.int .u64 (bitsR n a b)) ∧ w' = w := by
  unfold bitsR
  split
  · rename_i h
    exact Bits_out n a b w h
  · rename_i h
    obtain ⟨a, rfl⟩ := Int.eq_ofNat_of_zero_le (show 0 ≤ a by omega)
    obtain ⟨b, rfl⟩ := Int.eq_ofNat_of_zero_le (show 0 ≤ b by omega)
    have := Bits_in n a b w h0 hn (by omega) (by omega)
    rw [show ((b : Int) - a).toNat = b - a by omega, Int.toNat_natCast]
    exact this

/-- The pair that was packed last is had back. -/
theorem bitsR_last (P P' n A : Int) (s : Nat) (hA : 0 ≤ A) (hAs : A + s ≤ 64) (hn : 0 ≤ n) (hns : n < 2 ^ s) (h : P / 2 ^ A.toNat = P' * 2 ^ s + n) : bitsR P A (A + s) = n ∧ P / 2 ^ (A + s).toNat = P' := by
  constructor
  · unfold bitsR
    split
    · have : s = 0 := by omega
      subst this
      simp at hns
      omega
    · rw [show (A + s - A).toNat = s by omega, h, Int.add_comm, Int.add_mul_emod_self_right]
      exact Int.emod_eq_of_lt hn hns
  · rw [show (A + s).toNat = A.toNat + s by omega, Int.pow_add, ← Int.ediv_ediv_of_nonneg (Int.le_of_lt (pow2_pos _)), h, Int.add_comm, Int.add_mul_ediv_right _ _ (Int.ne_of_gt (pow2_pos s)), Int.ediv_eq_zero_of_lt hn hns]
    omega
theorem bitsR_rest (P A : Int) (h : P / 2 ^ A.toNat = 0) : bitsR P A 64 = 0 := by
  unfold bitsR
  split
  · rfl
  · rw [h]; simp

theorem pk_prefix (ps : List (Int × Int)) (st : Int × Int) (h : pk ps = some st) (j : Nat) : ∃ st', pk (ps.take j) = some st' := by
  cases e : pk (ps.take j) with
  | none => rw [pk_none ps j e] at h; cases h
  | some st' => exact ⟨st', rfl⟩
theorem Prs.below {w w' : World} {v : Value} {ps : List (Int × Int)} (h : Prs w v ps) (hb : Below w.heap.size w w') : Prs w' v ps := by
  obtain ⟨h0, a, cap, rfl, h4⟩ := h
  refine ⟨h0, a, cap, rfl, fun i hi => ?_⟩
  obtain ⟨b, off, e, hc, hc'⟩ := h4 i hi
  exact ⟨b, off, e, by rw [hb.cell (p := ⟨b, off + i * 2, none⟩) (block_lt_of_cell hc)]; exact hc, by rw [hb.cell (p := ⟨b, off + i * 2 + 1, none⟩) (block_lt_of_cell hc')]; exact hc'⟩

set_option maxRecDepth 100000 in
set_option maxHeartbeats 4000000 in
theorem Packs_walk {v : Value} {ps : List (Int × Int)} {w : World} (hv : Prs w v ps) (hl : ps.length ≤ maxLen) :
    Calls Try.prog 6 #[v] w fun e w' => e = .returned (.bool true) ∧ Below w.heap.size w w' := by
  have HV := hide hv
  obtain ⟨hw, a, cap, rfl, ha⟩ := hv
  unfold maxLen at hl
  by_cases h7 : 70 < ps.length
  · clear ha hw
    go_enter Try.func6, Try.ntmps6
    go_wp2_with fail
    refine (lays_any w).mono ?_
    rintro e w1 ⟨rfl, hb1⟩
    go_wp2
    go_ret
    exact ⟨rfl, hb1⟩
  · have HW := hide hw
    have HA := hide ha
    clear hw ha
    go_enter Try.func6, Try.ntmps6
    go_wp2_with fail
    refine (lays_any w).mono ?_
    rintro e w1 ⟨rfl, hb1⟩
    have hv1 := HV.out.below hb1
    go_wp2_with fail
    refine (Pack_any hv1 (by omega)).mono ?_
    rintro e w2 ⟨rfl, hb2⟩
    have HB := hide (hb1.trans (hb2.mono hb1.size))
    clear hb1 hb2 hv1 HV
    generalize hlen : ps.length = m at *
    have HL := hide hlen
    clear hlen
    cases hps : pk ps with
    | none =>
      have HPS := hide hps
      rw [pkRes_none hps]
      clear hps
      go_wp2
      go_loopw [5, 6, 24] (fun x y i wr => ∃ j : Nat, j ≤ m ∧ i = .int .i64 j ∧ y = .bool true ∧ (∃ P L : Int, Hid (pk (ps.take j) = some (P, L)) ∧ x = .int .u64 (64 - L)) ∧ Hid (Below w.heap.size w wr)) (fun _ _ i _ => m - (intOf i).toNat)
      case atStart => exact ⟨0, Nat.zero_le _, rfl, rfl, ⟨0, 64, rfl, rfl⟩, HB⟩
      case round =>
        obtain ⟨j, hj, rfl, rfl, ⟨P, L, HP, rfl⟩, HBr⟩ := hrel
        clear HB
        by_cases hlt : j < m
        · obtain ⟨b, off, rfl, hc0, hc1⟩ := HA.out j hlt
          have hd0 : wr.cell? ⟨b, off + j * 2, none⟩ = some (.int .u64 (ps.getD j (0, 0)).1) := by rw [HBr.out.cell (p := ⟨b, off + j * 2, none⟩) (block_lt_of_cell hc0)]; exact hc0
          have hd1 : wr.cell? ⟨b, off + j * 2 + 1, none⟩ = some (.int .u64 (ps.getD j (0, 0)).2) := by rw [HBr.out.cell (p := ⟨b, off + j * 2 + 1, none⟩) (block_lt_of_cell hc1)]; exact hc1
          have hr := HW.out (ps.getD j (0, 0)) (by rw [List.getD_eq_getElem?_getD, List.getElem?_eq_getElem (by rw [HL.out]; exact hlt)]; exact List.getElem_mem _)
          have hst : Hid (∀ st, pk (ps.take j) = some st → pk (ps.take (j + 1)) = pkStep st (ps.getD j (0, 0))) := fun st e => by
            rw [pk_take_succ ps j (by rw [HL.out]; exact hlt), e]; rfl
          clear hc0 hc1
          generalize ps.getD j (0, 0) = p at *
          obtain ⟨n, s⟩ := p
          simp only at hd0 hd1 hr
          obtain ⟨⟨hr1, hr2⟩, hr3, hr4⟩ := hr
          have hok := pk_ok ps HW.out j (by rw [HL.out]; exact hj) _ HP.out
          obtain ⟨k1, k2, k3, k4⟩ := hok
          simp only at k1 k2 k3 k4
          obtain ⟨s, rfl⟩ := Int.eq_ofNat_of_zero_le hr3
          have hst2 := hst.out _ HP.out
          have HPK : Hid (pkStep (P, L) (n, (s : Int)) = none → pk ps = none) := fun e => pk_none ps (j + 1) (by rw [hst2, e])
          have HST := hide hst2
          clear hst2 hst k3 k4 hr4 hr3
          rcases (show (64 < s) ∨ (s < 64 ∧ n / 2 ^ s ≠ 0) ∨ (s < 64 ∧ n / 2 ^ s = 0 ∧ L < s) ∨ (s = 64 ∧ L < s) ∨ (s < 64 ∧ n / 2 ^ s = 0 ∧ (s : Int) ≤ L) ∨ (s = 64 ∧ (s : Int) ≤ L) from by omega) with hs | ⟨hs, hz⟩ | ⟨hs, hz, hs2⟩ | ⟨hs, hs2⟩ | ⟨hs, hz, hs2⟩ | ⟨hs, hs2⟩
          · have hN : pk ps = none := HPK.out (by unfold pkStep; rw [if_pos (.inl (by simp only; omega))])
            have HN := hide hN
            clear hN
            go_wp2
            go_ret
            exact ⟨rfl, HBr.out.alloc HBr.out.size _⟩
          · have hN : pk ps = none := HPK.out (by unfold pkStep; rw [if_pos (.inr (by simpa using hz))])
            have hz' : (n / 2 ^ s != 0) = true := by simp [hz]
            clear hz
            have HN := hide hN
            clear hN
            go_wp2
            go_ret
            exact ⟨rfl, HBr.out.alloc HBr.out.size _⟩
          · have hN : pk ps = none := HPK.out (by unfold pkStep; rw [if_pos (.inl (by simp only; omega))])
            have hz' : (n / 2 ^ s != 0) = false := by simp [hz]
            clear hz
            have HN := hide hN
            clear hN
            go_wp2
            go_ret
            exact ⟨rfl, HBr.out.alloc HBr.out.size _⟩
          · have hN : pk ps = none := HPK.out (by unfold pkStep; rw [if_pos (.inl (by simp only; omega))])
            have hs3 : 64 ≤ s := by omega
            have hs4 : s ≤ 64 := by omega
            clear hs
            have HN := hide hN
            clear hN
            go_wp2
            go_ret
            exact ⟨rfl, HBr.out.alloc HBr.out.size _⟩
          · have hN : Hid (pk (ps.take (j + 1)) = some (P * 2 ^ s + n, L - s)) := by
              show pk (ps.take (j + 1)) = _
              rw [HST.out]; unfold pkStep; rw [if_neg (by simp [hz]; omega)]; simp
            have hz' : (n / 2 ^ s != 0) = false := by simp [hz]
            clear hz
            go_wp2
            go_roundw
            case rel => exact ⟨j + 1, by omega, by go_num, rfl, ⟨_, _, hN, by congr 1; omega⟩, HBr.out.alloc HBr.out.size _⟩
            case measure => simp [intOf]; omega
          · have hz : n / 2 ^ s = 0 := by rw [hs]; exact Int.ediv_eq_zero_of_lt hr1 (by omega)
            have hN : Hid (pk (ps.take (j + 1)) = some (P * 2 ^ s + n, L - s)) := by
              show pk (ps.take (j + 1)) = _
              rw [HST.out]; unfold pkStep; rw [if_neg (by simp [hz]; omega)]; simp
            have hs3 : 64 ≤ s := by omega
            have hs4 : s ≤ 64 := by omega
            clear hs hz
            go_wp2
            go_roundw
            case rel => exact ⟨j + 1, by omega, by go_num, rfl, ⟨_, _, hN, by congr 1; omega⟩, HBr.out.alloc HBr.out.size _⟩
            case measure => simp [intOf]; omega
        · have hfin : pk ps = some (P, L) := by
            have := HP.out
            rwa [List.take_of_length_le (by rw [HL.out]; omega)] at this
          rw [HPS.out] at hfin
          cases hfin
    | some st =>
      obtain ⟨PP, LL⟩ := st
      have HPS := hide hps
      rw [pkRes_some hps]
      clear hps
      go_wp2
      go_loopw [5, 6, 24] (fun x y i wr => ∃ j : Nat, j ≤ m ∧ i = .int .i64 j ∧ y = .bool true ∧ (∃ P L : Int, Hid (pk (ps.take j) = some (P, L)) ∧ x = .int .u64 (64 - L)) ∧ Hid (Below w.heap.size w wr)) (fun _ _ i _ => m - (intOf i).toNat)
      case atStart => exact ⟨0, Nat.zero_le _, rfl, rfl, ⟨0, 64, rfl, rfl⟩, HB⟩
      case round =>
        obtain ⟨j, hj, rfl, rfl, ⟨P, L, HP, rfl⟩, HBr⟩ := hrel
        clear HB
        by_cases hlt : j < m
        · obtain ⟨b, off, rfl, hc0, hc1⟩ := HA.out j hlt
          have hd0 : wr.cell? ⟨b, off + j * 2, none⟩ = some (.int .u64 (ps.getD j (0, 0)).1) := by rw [HBr.out.cell (p := ⟨b, off + j * 2, none⟩) (block_lt_of_cell hc0)]; exact hc0
          have hd1 : wr.cell? ⟨b, off + j * 2 + 1, none⟩ = some (.int .u64 (ps.getD j (0, 0)).2) := by rw [HBr.out.cell (p := ⟨b, off + j * 2 + 1, none⟩) (block_lt_of_cell hc1)]; exact hc1
          have hr := HW.out (ps.getD j (0, 0)) (by rw [List.getD_eq_getElem?_getD, List.getElem?_eq_getElem (by rw [HL.out]; exact hlt)]; exact List.getElem_mem _)
          have hst : Hid (∀ st, pk (ps.take j) = some st → pk (ps.take (j + 1)) = pkStep st (ps.getD j (0, 0))) := fun st e => by
            rw [pk_take_succ ps j (by rw [HL.out]; exact hlt), e]; rfl
          clear hc0 hc1
          generalize ps.getD j (0, 0) = p at *
          obtain ⟨n, s⟩ := p
          simp only at hd0 hd1 hr
          obtain ⟨⟨hr1, hr2⟩, hr3, hr4⟩ := hr
          have hok := pk_ok ps HW.out j (by rw [HL.out]; exact hj) _ HP.out
          obtain ⟨k1, k2, k3, k4⟩ := hok
          simp only at k1 k2 k3 k4
          obtain ⟨s, rfl⟩ := Int.eq_ofNat_of_zero_le hr3
          have hst2 := hst.out _ HP.out
          have HPK : Hid (pkStep (P, L) (n, (s : Int)) = none → pk ps = none) := fun e => pk_none ps (j + 1) (by rw [hst2, e])
          have HST := hide hst2
          clear hst2 hst k3 k4 hr4 hr3
          rcases (show (64 < s) ∨ (s < 64 ∧ n / 2 ^ s ≠ 0) ∨ (s < 64 ∧ n / 2 ^ s = 0 ∧ L < s) ∨ (s = 64 ∧ L < s) ∨ (s < 64 ∧ n / 2 ^ s = 0 ∧ (s : Int) ≤ L) ∨ (s = 64 ∧ (s : Int) ≤ L) from by omega) with hs | ⟨hs, hz⟩ | ⟨hs, hz, hs2⟩ | ⟨hs, hs2⟩ | ⟨hs, hz, hs2⟩ | ⟨hs, hs2⟩
          · have hN : pk ps = none := HPK.out (by unfold pkStep; rw [if_pos (.inl (by simp only; omega))])
            rw [HPS.out] at hN
            cases hN
          · have hN : pk ps = none := HPK.out (by unfold pkStep; rw [if_pos (.inr (by simpa using hz))])
            have hz' : (n / 2 ^ s != 0) = true := by simp [hz]
            clear hz
            rw [HPS.out] at hN
            cases hN
          · have hN : pk ps = none := HPK.out (by unfold pkStep; rw [if_pos (.inl (by simp only; omega))])
            have hz' : (n / 2 ^ s != 0) = false := by simp [hz]
            clear hz
            rw [HPS.out] at hN
            cases hN
          · have hN : pk ps = none := HPK.out (by unfold pkStep; rw [if_pos (.inl (by simp only; omega))])
            have hs3 : 64 ≤ s := by omega
            have hs4 : s ≤ 64 := by omega
            clear hs
            rw [HPS.out] at hN
            cases hN
          · have hN : Hid (pk (ps.take (j + 1)) = some (P * 2 ^ s + n, L - s)) := by
              show pk (ps.take (j + 1)) = _
              rw [HST.out]; unfold pkStep; rw [if_neg (by simp [hz]; omega)]; simp
            have hz' : (n / 2 ^ s != 0) = false := by simp [hz]
            clear hz
            go_wp2
            go_roundw
            case rel => exact ⟨j + 1, by omega, by go_num, rfl, ⟨_, _, hN, by congr 1; omega⟩, HBr.out.alloc HBr.out.size _⟩
            case measure => simp [intOf]; omega
          · have hz : n / 2 ^ s = 0 := by rw [hs]; exact Int.ediv_eq_zero_of_lt hr1 (by omega)
            have hN : Hid (pk (ps.take (j + 1)) = some (P * 2 ^ s + n, L - s)) := by
              show pk (ps.take (j + 1)) = _
              rw [HST.out]; unfold pkStep; rw [if_neg (by simp [hz]; omega)]; simp
            have hs3 : 64 ≤ s := by omega
            have hs4 : s ≤ 64 := by omega
            clear hs hz
            go_wp2
            go_roundw
            case rel => exact ⟨j + 1, by omega, by go_num, rfl, ⟨_, _, hN, by congr 1; omega⟩, HBr.out.alloc HBr.out.size _⟩
            case measure => simp [intOf]; omega
        · have hfin : pk ps = some (P, L) := by
            have := HP.out
            rwa [List.take_of_length_le (by rw [HL.out]; omega)] at this
          rw [HPS.out] at hfin
          cases hfin
          have hokF := pk_ok ps HW.out m (by rw [HL.out]; exact Nat.le_refl _) (PP, LL) (by rw [List.take_of_length_le (by rw [HL.out]; exact Nat.le_refl _)]; exact HPS.out)
          have hPlt := hokF.lt
          obtain ⟨f1, f2, f3, _⟩ := hokF
          simp only at f1 f2 f3 hPlt
          clear HP
          go_wp2
          go_loopw [9, 10] (fun x i wr => ∃ t : Nat, t ≤ m ∧ i = .int .i64 ((t : Int) - 1) ∧ (∃ Pt Lt : Int, Hid (pk (ps.take t) = some (Pt, Lt)) ∧ LL ≤ Lt ∧ Lt ≤ 64 ∧ x = .int .i64 (Lt - LL) ∧ Hid (PP / 2 ^ (Lt - LL).toNat = Pt)) ∧ Hid (Below w.heap.size w wr)) (fun _ i _ => (intOf i + 1).toNat)
          case atStart => exact ⟨m, Nat.le_refl _, rfl, ⟨PP, LL, by show pk (ps.take m) = _; rw [List.take_of_length_le (by rw [HL.out]; exact Nat.le_refl _)]; exact HPS.out, Int.le_refl _, f2, by simp, by show PP / 2 ^ (LL - LL).toNat = PP; simp⟩, HBr⟩
          case round =>
            clear HBr hj hlt
            obtain ⟨t, ht, rfl, ⟨Pt, Lt, HPt, g1, g2, rfl, HQ⟩, HBt⟩ := hrel
            by_cases ht0 : t = 0
            · have h00 : Pt = 0 ∧ Lt = 64 := by
                have := HPt.out
                rw [ht0] at this
                simp [pk] at this
                omega
              have hq := HQ.out
              obtain ⟨rfl, rfl⟩ := h00
              have hbz : (bitsR PP (64 - LL) 64 == 0) = true := by rw [bitsR_rest PP (64 - LL) hq]; rfl
              clear hq
              go_wp2_with (go_at_call 17; refine (Bits_any PP (64 - LL) 64 _ f3 hPlt).mono ?_; rintro e wz ⟨rfl, rfl⟩)
              go_ret
              exact ⟨rfl, HBt.out⟩
            · obtain ⟨t, rfl⟩ : ∃ t', t = t' + 1 := ⟨t - 1, by omega⟩
              obtain ⟨⟨P', L'⟩, hp'⟩ := pk_prefix ps _ HPS.out t
              have hcc := HA.out t (by omega)
              have hr := HW.out (ps.getD t (0, 0)) (by rw [List.getD_eq_getElem?_getD, List.getElem?_eq_getElem (by rw [HL.out]; omega)]; exact List.getElem_mem _)
              have hst := HPt.out
              rw [pk_take_succ ps t (by rw [HL.out]; omega), hp'] at hst
              have hok' := pk_ok ps HW.out t (by rw [HL.out]; omega) _ hp'
              obtain ⟨b, off, rfl, hc0, hc1⟩ := hcc
              have hd0 : wr.cell? ⟨b, off + t * 2, none⟩ = some (.int .u64 (ps.getD t (0, 0)).1) := by rw [HBt.out.cell (p := ⟨b, off + t * 2, none⟩) (block_lt_of_cell hc0)]; exact hc0
              have hd1 : wr.cell? ⟨b, off + t * 2 + 1, none⟩ = some (.int .u64 (ps.getD t (0, 0)).2) := by rw [HBt.out.cell (p := ⟨b, off + t * 2 + 1, none⟩) (block_lt_of_cell hc1)]; exact hc1
              clear hc0 hc1
              generalize ps.getD t (0, 0) = q at *
              obtain ⟨n, s⟩ := q
              simp only at hd0 hd1 hr
              obtain ⟨⟨hr1, hr2⟩, hr3, hr4⟩ := hr
              obtain ⟨_, hns, hsl, he⟩ := pkStep_ok (P', L') (n, s) (Pt, Lt) hok' hr1 hr3 hst
              obtain ⟨k1, k2, _, _⟩ := hok'
              obtain ⟨s, rfl⟩ := Int.eq_ofNat_of_zero_le hr3
              simp only [Int.toNat_natCast, Prod.mk.injEq] at hns hsl he k1 k2
              obtain ⟨he1, he2⟩ := he
              have hlast := bitsR_last PP P' n (Lt - LL) s (by omega) (by omega) hr1 hns (by rw [HQ.out]; exact he1)
              have hbe : (bitsR PP (Lt - LL) (Lt - LL + s) != n) = false := by rw [hlast.1]; simp
              have HQ2 : Hid (PP / 2 ^ (L' - LL).toNat = P') := by
                have := hlast.2
                rwa [show Lt - LL + s = L' - LL by omega] at this
              have HE := hide he2
              have HP' := hide hp'
              have hsb : s ≤ 64 := by omega
              have hLt : Lt + s ≤ 64 := by omega
              clear hlast he1 he2 hst hns hsl hp' hr2 hr4 hr3
              go_wp2_with fail
              go_quiet ((go_at_call 17; exact Calls.quiet_of_same (Bits_any PP (Lt - LL) (Lt - LL + s) _ f3 hPlt)))
              go_wp2
              go_roundw
              case rel => exact ⟨t, by omega, by congr 1, ⟨P', L', HP', by have := HE.out; omega, k2, by congr 1; have := HE.out; omega, HQ2⟩, below_drewN HBt.out _⟩
              case measure => simp [intOf]
end Go.Proofs.Ytjoejbdgiepdcaa
