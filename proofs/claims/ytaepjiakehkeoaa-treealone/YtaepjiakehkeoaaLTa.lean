/-
  The walk of TreeAlone. Conditions: none.
-/
import Derived.Test.YtaepjiakehkeoaaTree25
namespace Go.Proofs.Ytaepjiakehkeoaa
open Go.RowKit
set_option linter.unusedVariables false
set_option maxRecDepth 100000

def edgeP (p : Tp) (e : Bool) : Tp := { p with edge := e }
def A0 (e : Bool) : Tt := linkT (newT 7 [edgeP (portP 1) e]) 0 true
def wantA (e : Bool) (s : Nat) : Int := if e = true ∨ 30 ≤ s then 2 else if 15 ≤ s then 1 else 0
theorem A_false : ∀ s, s < 101 → ((tickN (A0 false) s).at 0).state = wantA false s := by decide
theorem A_true : ∀ s, s < 101 → ((tickN (A0 true) s).at 0).state = wantA true s := by decide
theorem A_len (e : Bool) (s : Nat) : (tickN (A0 e) s).ps.length = 1 := by rw [tickN_len]; cases e <;> rfl
theorem edge_ok (e : Bool) : ∀ i, i < [edgeP (portP 1) e].length → ([edgeP (portP 1) e].getD i Tp.zero).b.wf := fun i hi => by
  have hi' : i < 1 := hi
  obtain rfl : i = 0 := by omega
  exact portP_wf 1 (by simp [I64])
set_option maxHeartbeats 4000000 in
theorem Ta_walk (ed : Bool) (s : Int) (w : World) : Calls Try.prog 10 #[.bool ed, .int .i64 s] w fun e w' => e = .returned (.bool true) ∧ Below w.heap.size w w' := by
  go_enter Try.func10, Try.ntmps10
  go_wp2_with fail
  refine (grows_any _).mono ?_
  rintro e w0 ⟨rfl, hb0⟩
  replace hb0 := hide hb0
  by_cases h0 : s < 0
  · go_wp2
    go_ret
    exact ⟨rfl, hb0.out⟩
  by_cases h1 : s > 100
  · go_wp2
    go_ret
    exact ⟨rfl, hb0.out⟩
  obtain ⟨n, rfl⟩ := Int.eq_ofNat_of_zero_le (show 0 ≤ s by omega)
  have hb1 := hide (below1 w0 (.cells #[.int .i64 1] 3))
  have hF0 : Fl (w0.alloc (.cells #[.int .i64 1] 3)) w0.heap.size 3 fI [1] [] := heap_alloc_new _ _
  have hp := hide (ports_any (some ⟨w0.heap.size, 0, none⟩) 1 1 [1] (w0.alloc (.cells #[.int .i64 1] 3)) (by omega) hF0.ins)
  clear hF0
  go_wp2_with fail
  refine hp.out.mono ?_
  rintro e w1 ⟨v1, rfl, hS1, hB1, hF1⟩
  obtain ⟨pb, cap, sp, rfl, hFl, hc1, hc2⟩ := hS1.at_i (by simp)
  have hFl' : Fl w1 pb 50 fT ([portP 1].set 0 (portP 1)) sp := hFl
  have hE := hide (hFl'.put wide_T 8 (.bool ed) (edgeP (portP 1) ed) (by simp) (by omega) rfl)
  rw [show [portP 1].set 0 (edgeP (portP 1) ed) = [edgeP (portP 1) ed] from rfl] at hE
  have c8 := (hFl.tp 0 (by simp)).c8
  have z8 := hFl.frozen (0 * 16 + 8)
  simp only [Nat.zero_mul, Nat.zero_add] at c8 z8 hE
  have hpl : w0.heap.size + 1 ≤ pb := by have := hF1 pb rfl; rw [World.size_alloc] at this; exact this
  have hB2 : Hid (Below w.heap.size w (w1.setCell ⟨pb, 8, none⟩ (.bool ed))) := (hb0.out.later (hb1.out.later hB1)).setCell (p := ⟨pb, 8, none⟩) (by have := hb0.out.size; show w.heap.size ≤ pb; omega) _
  have hcap : 1 ≤ cap := hc1
  have hl1 : ([1].map portP).length = 1 := rfl
  rw [hl1]
  clear hp hb1 hB1 hF1 hS1 hFl hFl' hc1 hl1 hb0
  go_wp2_with fail
  generalize w1.setCell ⟨pb, 8, none⟩ (.bool ed) = w2 at *
  have hT2 : Hid (Tps w2 (some ⟨pb, 0, none⟩) 1 [edgeP (portP 1) ed]) := ⟨rfl, fun i hi => ⟨pb, 0, rfl, by rw [Nat.zero_add]; exact hE.out.tp i hi, edge_ok ed i hi⟩⟩
  refine (ONew 7 (some ⟨pb, 0, none⟩) 1 cap [edgeP (portP 1) ed] w2 (fun k => k < w.heap.size) (fun k hk => Nat.lt_of_lt_of_le hk hB2.out.size) (by simp [U64]) (by omega) hcap (by simp) hT2).mono ?_
  rintro e w3 ⟨tb, rfl, hO3, hb3⟩
  have hB3 := hide (hB2.out.later hb3)
  replace hO3 := hide hO3
  clear hB2 hb3 hE hT2 c8 z8
  go_wp2_with fail
  refine (OLink hO3.out (by omega) 0 true).mono ?_
  rintro e w4 ⟨rfl, hO4, hK4⟩
  have hB4 := hide (hK4.below hB3.out (fun k hk => hk))
  replace hO4 := hide hO4
  have hG : Hid (linkT (newT 7 [edgeP (portP 1) ed]) 0 true = tickN (A0 ed) 0) := rfl
  rw [hG.out] at hO4
  clear hK4 hB3 hO3 hG
  go_wp2_with fail
  go_loopw [27] (fun i wr => ∃ j : Nat, j ≤ n ∧ i = .int .i64 j ∧ Hid (Ow wr tb (fun k => k < w.heap.size) (0 + 40 + 40 * j) (tickN (A0 ed) j)) ∧ Hid (Below w.heap.size w wr)) (fun i _ => n - (intOf i).toNat)
  case atStart => exact ⟨0, Nat.zero_le _, rfl, hO4, hB4⟩
  case round =>
    obtain ⟨j, hj, rfl, hO, hB⟩ := hrel
    clear hO4 hB4
    by_cases hlt : j < n
    · go_wp2_with fail
      refine (OTick hO.out (by omega)).mono ?_
      rintro e w5 ⟨rfl, hO5, hK5⟩
      have hB5 := hide (hK5.below hB.out (fun k hk => hk))
      replace hO5 := hide hO5
      clear hK5 hO hB
      go_wp2
      go_round
      case rel => exact ⟨j + 1, by omega, by go_num, hO5, hB5⟩
      case measure => simp [intOf]; omega
    · obtain rfl : n = j := by omega
      have hs := hide (OState hO.out 0)
      have e1 : (if 0 ≤ (0 : Int) ∧ (0 : Int) < (tickN (A0 ed) n).ps.length then ((tickN (A0 ed) n).at (0 : Int).toNat).state else 0) = wantA ed n := by
        rw [if_pos (by rw [A_len]; decide)]
        cases ed
        · exact A_false n (by omega)
        · exact A_true n (by omega)
      rw [e1] at hs
      clear e1 hO hlt hj
      cases ed
      · by_cases h30 : 30 ≤ n
        · have hw : wantA false n = 2 := by unfold wantA; rw [if_pos (.inr h30)]
          rw [hw] at hs
          clear hw
          go_wp2_with fail
          refine hs.out.mono ?_
          rintro e w5 ⟨rfl, rfl⟩
          clear hs
          go_wp2
          go_ret
          exact ⟨rfl, hB.out⟩
        · by_cases h15 : 15 ≤ n
          · have hw : wantA false n = 1 := by unfold wantA; rw [if_neg (by simp; omega), if_pos h15]
            rw [hw] at hs
            clear hw
            go_wp2_with fail
            refine hs.out.mono ?_
            rintro e w5 ⟨rfl, rfl⟩
            clear hs
            go_wp2
            go_ret
            exact ⟨rfl, hB.out⟩
          · have hw : wantA false n = 0 := by unfold wantA; rw [if_neg (by simp; omega), if_neg h15]
            rw [hw] at hs
            clear hw
            go_wp2_with fail
            refine hs.out.mono ?_
            rintro e w5 ⟨rfl, rfl⟩
            clear hs
            go_wp2
            go_ret
            exact ⟨rfl, hB.out⟩
      · have hw : wantA true n = 2 := by unfold wantA; rw [if_pos (.inl rfl)]
        rw [hw] at hs
        clear hw
        by_cases h15 : 15 ≤ n
        · go_wp2_with fail
          refine hs.out.mono ?_
          rintro e w5 ⟨rfl, rfl⟩
          clear hs
          go_wp2
          go_ret
          exact ⟨rfl, hB.out⟩
        · go_wp2_with fail
          refine hs.out.mono ?_
          rintro e w5 ⟨rfl, rfl⟩
          clear hs
          go_wp2
          go_ret
          exact ⟨rfl, hB.out⟩
end Go.Proofs.Ytaepjiakehkeoaa
