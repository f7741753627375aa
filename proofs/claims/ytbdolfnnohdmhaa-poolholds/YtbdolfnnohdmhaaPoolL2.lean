/-
  The walk of the statement PoolHolds: whatever the bytes and the number, it answers true and writes nothing that was there.
-/
import Derived.Test.YtbdolfnnohdmhaaPoolL1
import Derived.Test.YtbdolfnnohdmhaaCame
namespace Go.Proofs.Ytbdolfnnohdmhaa
open Go.RowKit

theorem Holds_far (a : Option Addr) (len cap : Nat) (m : Int) (w : World) (hlen : len ≤ maxLen) (h : 200 < len ∨ m < 0 ∨ 200 < m) :
    Calls Try.prog 12 #[.slice a len cap, .int .i64 m] w fun r w' => r = .returned (.bool true) ∧ Below w.heap.size w w' := by
  unfold maxLen at hlen
  rcases (show 200 < (len : Int) ∨ ((len : Int) ≤ 200 ∧ m < 0) ∨ ((len : Int) ≤ 200 ∧ 0 ≤ m ∧ 200 < m) by omega) with h1 | ⟨h1, h2⟩ | ⟨h1, h2, h3⟩
  all_goals
    clear h
    go_enter Try.func12, Try.ntmps12
    go_wp2_with fail
    refine (keeps_any _).mono ?_
    rintro e w1 ⟨rfl, hb1⟩
    go_wp2
    go_ret
    exact ⟨rfl, hb1⟩
set_option maxHeartbeats 1000000 in
theorem Holds_near (a : Option Addr) (len cap m : Nat) (l : List Int) (w : World) (hB : Bs w (.slice a len cap) l) (hll : l.length = len) (hlen : len ≤ 200) (hm : m ≤ 200) :
    Calls Try.prog 12 #[.slice a len cap, .int .i64 m] w fun r w' => r = .returned (.bool true) ∧ Below w.heap.size w w' := by
  have HV := hide hB
  have HL := hide hll
  clear hB hll
  go_enter Try.func12, Try.ntmps12
  go_wp2_with fail
  refine (keeps_any _).mono ?_
  rintro e w1 ⟨rfl, hb1⟩
  go_wp2_with fail
  refine (New_at 2 2 w1 (by decide)).mono ?_
  rintro e w2 ⟨rfl, hP2, hb2⟩
  have HS := hide hb1.size
  have HP2 := hide hP2
  have HB2 := hide (hb1.trans (hb2.mono hb1.size))
  clear hb1 hb2 hP2
  generalize w1.heap.size = B at *
  go_wp2_with fail
  refine (Take_at HP2.out _ l (HV.out.below HB2.out) (by rw [HL.out]; omega) 0 (by simp) (by simp) (by simp)).mono ?_
  rintro e w3 ⟨rfl, v, hP3, hbut3, _⟩
  have HP3 : Hid (Pl w3 (B + 1) B [⟨v, l, 1⟩, Pc.none]) := hP3
  have HB3 := hide (But.below HB2.out hbut3 HS.out HB2.out.size)
  clear hP3 hbut3 HP2 HB2
  go_wp2
  go_loopw [34] (fun i wr => ∃ j : Nat, j ≤ m ∧ i = .int .i64 j ∧ Hid (Pl wr (B + 1) B [⟨v, l, j + 1⟩, Pc.none]) ∧ Hid (Below w.heap.size w wr)) (fun i _ => m - (intOf i).toNat)
  case atStart => exact ⟨0, Nat.zero_le _, rfl, HP3, HB3⟩
  case round =>
    obtain ⟨j, hj, rfl, HP, HB⟩ := hrel
    clear HP3 HB3
    by_cases hlt : j < m
    · go_wp2_with fail
      refine (Hold_yes HP.out 0 (by simp [hasB]) (by simp; omega)).mono ?_
      rintro e w4 ⟨rfl, hP4, hbut4⟩
      have HP4 : Hid (Pl w4 (B + 1) B [⟨v, l, j + 1 + 1⟩, Pc.none]) := hP4
      have HB4 := hide (But.below HB.out hbut4 HS.out HB.out.size)
      clear hP4 hbut4
      go_wp2
      go_roundw
      case rel => exact ⟨j + 1, by omega, by go_num, HP4, HB4⟩
      case measure => simp [intOf]; omega
    · obtain rfl : j = m := by omega
      have hu : Bs w (.slice a len cap) l := HV.out
      obtain ⟨S, hS⟩ : ∃ S, S = bstr l := ⟨_, rfl⟩
      have HSt := hide hS
      clear hS hu
      go_wp2
      go_loopw [43] (fun i wr => ∃ t : Nat, t ≤ j + 1 ∧ i = .int .i64 t ∧ (∃ p, Hid (Pl wr (B + 1) B [p, Pc.none]) ∧ Hid (p = if t = j + 1 then Pc.none else ⟨v, l, j + 1 - t⟩)) ∧ Hid (Below w.heap.size w wr)) (fun i _ => j + 1 - (intOf i).toNat)
      case atStart => exact ⟨0, Nat.zero_le _, rfl, ⟨⟨v, l, j + 1⟩, HP, hide (by rw [if_neg (by omega)]; rfl)⟩, HB⟩
      case round =>
        obtain ⟨t, ht, rfl, ⟨p, HQ, Hp⟩, HB'⟩ := hrel
        clear HP HB
        by_cases hlt2 : t < j + 1
        · have hp := Hp.out
          rw [if_neg (by omega)] at hp
          subst hp
          have ht' : (t : Int) < (j : Int) + 1 := by omega
          go_wp2_with fail
          refine (Get_yes HQ.out 0 (by simp [hasB]; omega) (by simp [HL.out]; omega)).mono ?_
          rintro e w5 ⟨v5, rfl, hO5, hb5⟩
          have hV5 : Bs w5 v5 l := hO5.bs
          have HQ5 := hide (HQ.out.below hb5)
          have HB5 := hide (HB'.out.trans (hb5.mono HB'.out.size))
          clear hO5 hb5 HQ HB'
          have q5 : (convert 42 9 v5).run Try.prog w5 = .ok (.string S) w5 := by rw [HSt.out]; exact conv_str 42 9 5 Try.underlying42 Try.underlying5 Try.underlying9 hV5
          have q6 : (convert 42 9 (.slice a len cap)).run Try.prog w5 = .ok (.string S) w5 := by rw [HSt.out]; exact conv_str 42 9 5 Try.underlying42 Try.underlying5 Try.underlying9 (HV.out.below HB5.out)
          have hH5 := Holds_any HQ5.out (by simp [sumH]; omega)
          rw [show sumH [⟨v, l, j + 1 - t⟩, Pc.none] = j + 1 - t by simp [sumH], show ((j + 1 - t : Nat) : Int) = (j : Int) + 1 - (t : Int) by omega] at hH5
          have HH5 := hide hH5
          clear hV5 hH5
          go_wp2_with fail
          refine HH5.out.mono ?_
          rintro e w5' ⟨rfl, rfl⟩
          clear q5 q6
          go_wp2_with fail
          refine (Drop_yes HQ5.out 0 (by simp [hasB]; omega) (by simp; omega)).mono ?_
          rintro e w6 ⟨rfl, hP6, hbut6⟩
          have HB6 := hide (But.below HB5.out hbut6 HS.out HB5.out.size)
          have HP6 : Hid (Pl w6 (B + 1) B [dropPc ⟨v, l, j + 1 - t⟩, Pc.none]) := hP6
          have He6 : Hid (dropPc ⟨v, l, j + 1 - t⟩ = if t + 1 = j + 1 then Pc.none else ⟨v, l, j + 1 - (t + 1)⟩) := by
            show _ = _
            unfold dropPc
            by_cases h : t + 1 = j + 1
            · rw [if_pos (show j + 1 - t = 1 by omega), if_pos h]
            · rw [if_neg (show ¬ j + 1 - t = 1 by omega), if_neg h]
              rfl
          clear hP6 hbut6 HQ5 HB5 HH5
          generalize dropPc ⟨v, l, j + 1 - t⟩ = p6 at *
          go_wp2
          go_roundw
          case rel => exact ⟨t + 1, by omega, by go_num, ⟨p6, HP6, He6⟩, HB6⟩
          case measure => simp [intOf]; omega
        · obtain rfl : t = j + 1 := by omega
          have hp := Hp.out
          rw [if_pos rfl] at hp
          subst hp
          clear hlt2 ht
          go_wp2_with fail
          refine (Get_no HQ.out 0 rfl).mono ?_
          rintro e w5 ⟨rfl, rfl⟩
          go_wp2_with fail
          refine (Used_any HQ.out).mono ?_
          rintro e w5' ⟨rfl, rfl⟩
          go_wp2_with fail
          refine (Hold_no HQ.out 0 rfl).mono ?_
          rintro e w5' ⟨rfl, rfl⟩
          go_wp2_with fail
          refine (Size_any HQ.out 0).mono ?_
          rintro e w5' ⟨rfl, rfl⟩
          go_wp2
          go_ret
          exact ⟨rfl, HB'.out⟩
theorem PHolds_walk (a : Option Addr) (len cap : Nat) (m : Int) (l : List Int) (w : World) (hB : Bs w (.slice a len cap) l) (hll : l.length = len) :
    Calls Try.prog 12 #[.slice a len cap, .int .i64 m] w fun r w' => r = .returned (.bool true) ∧ Below w.heap.size w w' := by
  by_cases h : 200 < len ∨ m < 0 ∨ 200 < m
  · refine Holds_far a len cap m w ?_ h
    obtain ⟨_, a', c', e, h1, h2, _⟩ := hB
    simp only [Value.slice.injEq] at e
    omega
  · obtain ⟨m, rfl⟩ := Int.eq_ofNat_of_zero_le (show 0 ≤ m by omega)
    exact Holds_near a len cap m l w hB hll (by omega) (by omega)
end Go.Proofs.Ytbdolfnnohdmhaa
