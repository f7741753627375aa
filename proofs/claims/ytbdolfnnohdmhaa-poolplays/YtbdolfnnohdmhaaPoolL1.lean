/-
  The walk of the statement PoolFull: whatever the numbers, it answers true and writes nothing that was there.
-/
import Derived.Test.YtbdolfnnohdmhaaKeeps
namespace Go.Proofs.Ytbdolfnnohdmhaa
open Go.RowKit

theorem usedN_all : ∀ ps : List Pc, (∀ t, t < ps.length → 0 < (ps.getD t Pc.none).h) → usedN ps = ps.length
  | [], _ => rfl
  | p :: ps, h => by
    have h0 : 0 < p.h := h 0 (by simp)
    have := usedN_all ps (fun t ht => h (t + 1) (by simpa using ht))
    simp only [usedN, List.length_cons, this]
    rw [if_neg (by omega)]
    omega
theorem getD_set_same (ps : List Pc) (k : Nat) (p : Pc) (h : k < ps.length) : (ps.set k p).getD k Pc.none = p := by simp [List.getD_eq_getElem?_getD, h]
theorem getD_set_other (ps : List Pc) (k t : Nat) (p : Pc) (h : k ≠ t) : (ps.set k p).getD t Pc.none = ps.getD t Pc.none := by simp [List.getD_eq_getElem?_getD, h]
theorem getD_rep (n t : Nat) : (List.replicate n Pc.none).getD t Pc.none = Pc.none := by
  rw [List.getD_eq_getElem?_getD, List.getElem?_replicate]; split <;> rfl

set_option maxHeartbeats 1000000 in
theorem Full_walk (n f : Int) (w : World) (hf2 : f ≤ 9223372036854775807) :
    Calls Try.prog 11 #[.int .i64 n, .int .i64 f] w fun r w' => r = .returned (.bool true) ∧ Below w.heap.size w w' := by
  rcases (show n < 1 ∨ (1 ≤ n ∧ 300 < n) ∨ (1 ≤ n ∧ n ≤ 300 ∧ f < 0) ∨ (1 ≤ n ∧ n ≤ 300 ∧ 0 ≤ f) by omega) with h1 | ⟨h1, h2⟩ | ⟨h1, h2, h3⟩ | ⟨h1, h2, h3⟩
  iterate 3
    · go_enter Try.func11, Try.ntmps11
      go_wp2_with fail
      refine (keeps_any _).mono ?_
      rintro e w1 ⟨rfl, hb1⟩
      go_wp2
      go_ret
      exact ⟨rfl, hb1⟩
  obtain ⟨n, rfl⟩ := Int.eq_ofNat_of_zero_le (show 0 ≤ n by omega)
  obtain ⟨f, rfl⟩ := Int.eq_ofNat_of_zero_le h3
  go_enter Try.func11, Try.ntmps11
  go_wp2_with fail
  refine (keeps_any _).mono ?_
  rintro e w1 ⟨rfl, hb1⟩
  go_wp2_with fail
  refine (New_at (n : Int) n w1 (by omega)).mono ?_
  rintro e w2 ⟨rfl, hP2, hb2⟩
  have HS := hide hb1.size
  have HP2 := hide hP2
  have HB2 := hide (hb1.trans (hb2.mono hb1.size))
  clear hb1 hb2 hP2
  generalize w1.heap.size = B at *
  go_wp2
  go_loopw [28] (fun i wr => ∃ j : Nat, j ≤ n ∧ i = .int .i64 j ∧ (∃ ps, Hid (Pl wr (B + 1) B ps ∧ ps.length = n ∧ (∀ t, t < j → (ps.getD t Pc.none).h = 1) ∧ (∀ t, j ≤ t → (ps.getD t Pc.none).h = 0))) ∧ Hid (Below w.heap.size w wr)) (fun i _ => n - (intOf i).toNat)
  case atStart => exact ⟨0, Nat.zero_le _, rfl, ⟨_, HP2.out, List.length_replicate, fun t ht => by omega, fun t _ => by rw [getD_rep]⟩, HB2⟩
  case round =>
    obtain ⟨j, hj, rfl, ⟨ps, HR⟩, HB⟩ := hrel
    clear HP2 HB2
    by_cases hlt : j < n
    · have hx : (0 : Int) ≤ (j : Int) % 256 ∧ (j : Int) % 256 ≤ 255 := by omega
      go_wp2_with fail
      generalize (j : Int) % 256 = x at *
      obtain ⟨hP, hl, hA, hZ⟩ := HR.out
      have hb0 := (Below.refl wr.heap.size wr).alloc (Nat.le_refl _) (.cells #[.int .u8 x] 5)
      have hB0 := HB.out.alloc HB.out.size (.cells #[.int .u8 x] 5)
      have hL : Bs (wr.alloc (.cells #[.int .u8 x] 5)) (.slice (some ⟨wr.heap.size, 0, none⟩) 1 1) [x] := Bs.litP wr [x] (by intro z hz; simp at hz; subst hz; exact hx) (by simp [maxLen]) (0, 0)
      refine (Take_at (hP.below hb0) _ [x] hL (by simp) j (by omega) (fun t ht => by rw [hA t ht]; exact Nat.one_pos) (hZ j (Nat.le_refl _))).mono ?_
      rintro e w3 ⟨rfl, v3, hP3, hbut3, _⟩
      have HB3 := hide (But.below hB0 hbut3 HS.out hB0.size)
      have HR3 : Hid (Pl w3 (B + 1) B (ps.set j ⟨v3, [x], 1⟩) ∧ (ps.set j ⟨v3, [x], 1⟩).length = n ∧ (∀ t, t < j + 1 → ((ps.set j ⟨v3, [x], 1⟩).getD t Pc.none).h = 1) ∧ (∀ t, j + 1 ≤ t → ((ps.set j ⟨v3, [x], 1⟩).getD t Pc.none).h = 0)) := by
        refine ⟨hP3, by rw [List.length_set]; exact hl, fun t ht => ?_, fun t ht => ?_⟩
        · rcases (show t = j ∨ t < j by omega) with rfl | h
          · rw [getD_set_same _ _ _ (by omega)]
          · rw [getD_set_other _ _ _ _ (by omega), hA t h]
        · rw [getD_set_other _ _ _ _ (by omega), hZ t (by omega)]
      clear hP hl hA hZ hb0 hB0 hL hP3 hbut3 HR hx HB
      generalize ps.set j ⟨v3, [x], 1⟩ = qs at *
      go_wp2
      go_roundw
      case rel => exact ⟨j + 1, by omega, by go_num, ⟨qs, HR3⟩, HB3⟩
      case measure => simp [intOf]; omega
    · obtain rfl : j = n := by omega
      obtain ⟨hP, hl, hA, _⟩ := HR.out
      have HP := hide hP
      have HA := hide hA
      have HL := hide hl
      clear hP hA hl HR
      go_wp2_with fail
      refine (Take_full HP.out _ (fun t ht => by rw [HA.out t (by rw [← HL.out]; exact ht)]; exact Nat.one_pos)).mono ?_
      rintro e wr' ⟨rfl, he⟩
      obtain rfl := he.symm
      clear he
      obtain ⟨k, hfk, hk⟩ : ∃ k : Nat, (f : Int) % (j : Int) = (k : Int) ∧ k < j := ⟨f % j, by simp, Nat.mod_lt _ (by omega)⟩
      have kc := fun (w : World) (C : Array Value) (n c : Nat) => Lib.run_convert_bytes_const (P := Try.prog) w 42 5 C n c Try.underlying42 Try.underlying5
      have hkh : (ps.getD k Pc.none).h = 1 := HA.out k hk
      have hkl : k < ps.length := by rw [HL.out]; exact hk
      have HD := hide (Drop_yes HP.out k (by rw [hasB_nat, hkh]; rfl) (by rw [hkh]; decide))
      rw [dropPc, if_pos hkh] at HD
      clear hkh
      go_wp2_with fail
      refine HD.out.mono ?_
      rintro e w4 ⟨rfl, hP4, hbut4⟩
      have HP4 := hide hP4
      have HB4 := hide (But.below HB.out hbut4 HS.out HB.out.size)
      clear hP4 hbut4 HD HB HP
      go_wp2_with fail
      have hb0 := (Below.refl w4.heap.size w4).alloc (Nat.le_refl _) (.cells #[.int .u8 120] 5 (1, 2))
      have hB0 := HB4.out.alloc HB4.out.size (.cells #[.int .u8 120] 5 (1, 2))
      have hL : Bs (w4.alloc (.cells #[.int .u8 120] 5 (1, 2))) (.slice (some ⟨w4.heap.size, 0, none⟩) 1 1) [120] := Bs.litP w4 [120] (by intro z hz; simp at hz; omega) (by simp [maxLen]) (1, 2)
      refine (Take_at (HP4.out.below hb0) _ [120] hL (by simp) k (by rw [List.length_set]; exact hkl) (fun t ht => by rw [getD_set_other _ _ _ _ (by omega), HA.out t (by omega)]; exact Nat.one_pos) (by rw [getD_set_same _ _ _ hkl])).mono ?_
      rintro e w5 ⟨rfl, v5, hP5, hbut5, _⟩
      have HB5 := hide (But.below hB0 hbut5 HS.out hB0.size)
      rw [List.set_set] at hP5
      have hU := Used_any hP5
      rw [usedN_all _ (by
        intro t ht
        rcases (show k = t ∨ k ≠ t by omega) with rfl | h
        · rw [getD_set_same _ _ _ hkl]; exact Nat.one_pos
        · rw [getD_set_other _ _ _ _ h, HA.out t (by rw [← HL.out]; simpa using ht)]; exact Nat.one_pos), List.length_set, HL.out] at hU
      have HU := hide hU
      clear hb0 hB0 hL hP5 hbut5 HP4 HB4 kc hU
      go_wp2_with fail
      refine HU.out.mono ?_
      rintro e w5' ⟨rfl, rfl⟩
      go_wp2
      go_ret
      exact ⟨rfl, HB5.out⟩
end Go.Proofs.Ytbdolfnnohdmhaa
