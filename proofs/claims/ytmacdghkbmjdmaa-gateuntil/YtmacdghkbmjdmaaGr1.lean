/-
  The document's own State (of layer 16), and that gate's is the same. Conditions: those that each theorem names.
-/
import Derived.Test.YtmacdghkbmjdmaaGt9
namespace Go.Proofs.Ytmacdghkbmjdmaa
open Go.RowKit
set_option linter.unusedVariables false
set_option maxRecDepth 20000

/-- Where an entry begins, if the cycle is long enough. -/
def preN (es : List En) : Nat → Int
  | 0 => 0
  | i + 1 => preN es i + (es.getD i En.zero).ns
theorem preN_le {es : List En} (h : ∀ j, j < es.length → 1 ≤ (es.getD j En.zero).ns ∧ (es.getD j En.zero).ns ≤ 1000000000) : ∀ (d j : Nat), j + d ≤ es.length → preN es j ≤ preN es (j + d)
  | 0, j, _ => Int.le_refl _
  | d + 1, j, hj => by
    have := preN_le h d j (by omega)
    have := (h (j + d) (by omega)).1
    rw [← Nat.add_assoc, preN]
    omega
theorem preN_in {es : List En} (h : ∀ j, j < es.length → 1 ≤ (es.getD j En.zero).ns ∧ (es.getD j En.zero).ns ≤ 1000000000) : ∀ (j : Nat), j ≤ es.length → 0 ≤ preN es j ∧ preN es j ≤ 1000000000 * (j : Int)
  | 0, _ => by simp [preN]
  | j + 1, hj => by
    have := preN_in h j (by omega)
    have := h j (by omega)
    rw [preN]
    omega
theorem find_at {es : List En} {c at0 : Int} (h : ∀ j, j < es.length → 1 ≤ (es.getD j En.zero).ns ∧ (es.getD j En.zero).ns ≤ 1000000000) {i : Nat} (hi : i < es.length) (h1 : preN es i ≤ at0) (h2 : ∀ k, i < k → k < es.length → at0 < preN es k) (hc : at0 < c) :
    ∀ (d j : Nat), j + d = i → ∃ q, findL c (fun q => decide (at0 < q.e)) (preN es j) (es.drop j) = some q ∧ q.op = (es.getD i En.zero).op
  | 0, j, hj => by
    obtain rfl : j = i := hj
    have hlt : at0 < (if j + 1 = es.length then c else min (preN es j + (es.getD j En.zero).ns) c) := by
      split
      · exact hc
      · have := h2 (j + 1) (by omega) (by omega)
        rw [preN] at this
        omega
    rw [findL_drop hi, if_neg (by omega)]
    generalize (if j + 1 = es.length then c else min (preN es j + (es.getD j En.zero).ns) c) = en at *
    rw [if_pos (by simpa using hlt)]
    exact ⟨_, rfl, rfl⟩
  | d + 1, j, hj => by
    have hle := preN_le h d (j + 1) (by omega)
    rw [show j + 1 + d = i by omega] at hle
    have hle0 := preN_le h (d + 1) j (by omega)
    rw [show j + (d + 1) = i by omega] at hle0
    have he : (if j + 1 = es.length then c else min (preN es j + (es.getD j En.zero).ns) c) = preN es (j + 1) := by
      rw [if_neg (by omega)]
      rw [preN] at hle ⊢
      omega
    rw [findL_drop (by omega), if_neg (by omega), he, if_neg (by simp; omega)]
    exact find_at h hi h1 h2 hc d (j + 1) (by omega)
theorem state_at {L : Ls} (hm : L.may = true) {t : Int} (ht : L.base ≤ t) {i : Nat} (hi : i < L.es.length) (h1 : preN L.es i ≤ intoN L t) (h2 : ∀ k, i < k → k < L.es.length → intoN L t < preN L.es k) : (L.es.getD i En.zero).op = stateN L t := by
  obtain ⟨q, h3, h4⟩ := find_at (c := L.cyc) (fun j hj => (Ls.entry hm hj).2) hi h1 h2 (intoN_in hm t).2 i 0 (by omega)
  rw [List.drop_zero] at h3
  unfold stateN
  rw [if_neg (by omega)]
  rw [show preN L.es 0 = 0 from rfl] at h3
  rw [h3, Option.getD_some, h4]
set_option maxHeartbeats 4000000 in
theorem RState_any {L : Ls} {a : Option Addr} {cap : Nat} {w : World} (hE : Ent w a L.es) (hm : L.may = true) (t : Int) (ht2 : t ≤ 9223372036854775807) :
    Calls Try.prog 24 #[.agg (lRow L a L.es.length cap), .int .i64 t] w fun r w' => r = .returned (.int .i64 (stateN L t)) ∧ Below w.heap.size w w' := by
  have hb1 := below1 w (.cells (lRow L a L.es.length cap) 47)
  have hr1 := heap_alloc_new w (.cells (lRow L a L.es.length cap) 47)
  obtain ⟨⟨m1, m2⟩, ⟨a1, a2⟩, ⟨y1, y2⟩, -, -⟩ := L.may_iff.1 hm
  have c0 : (w.alloc (.cells (lRow L a L.es.length cap) 47)).cell? ⟨w.heap.size, 0, none⟩ = some (.int .i64 L.base) := (cell_of_row _ _ _ _ _ _ hr1).trans rfl
  have c1 : (w.alloc (.cells (lRow L a L.es.length cap) 47)).cell? ⟨w.heap.size, 1, none⟩ = some (.int .i64 L.cyc) := (cell_of_row _ _ _ _ _ _ hr1).trans rfl
  have c3 : (w.alloc (.cells (lRow L a L.es.length cap) 47)).cell? ⟨w.heap.size, 3, none⟩ = some (.slice a L.es.length cap) := (cell_of_row _ _ _ _ _ _ hr1).trans rfl
  have hEn := hE.below hb1 (fun _ => by simp)
  by_cases hlt : t < L.base
  · have hV : Hid (stateN L t = 255) := if_pos hlt
    generalize stateN L t = V at *
    generalize lRow L a L.es.length cap = R at *
    generalize L.base = ba at *
    replace hb1 := hide hb1
    clear hr1 hE c1 c3 hEn
    go_enter Try.func24, Try.ntmps24
    go_wp2
    go_ret
    exact ⟨ret_i64 hV.out.symm, hb1.out⟩
  have hcl : Hid (∀ i, i < L.es.length → ∃ b off, a = some ⟨b, off, none⟩ ∧ (w.alloc (.cells (lRow L a L.es.length cap) 47)).cell? ⟨b, off + i * 2, none⟩ = some (.int .i64 (L.es.getD i En.zero).op) ∧ (w.alloc (.cells (lRow L a L.es.length cap) 47)).cell? ⟨b, off + i * 2 + 1, none⟩ = some (.int .i64 (L.es.getD i En.zero).ns)) := fun i hi => by
    obtain ⟨b, off, e, hrg⟩ := hEn.at_i i hi
    exact ⟨b, off, e, hrg 0 _ rfl, hrg 1 _ rfl⟩
  have hs := hide (fun i (hi : i < L.es.length) h1 h2 => @state_at L hm t (by omega) i hi h1 h2)
  have hpi := hide (preN_in (es := L.es) (fun j hj => (Ls.entry hm hj).2))
  have hnx : Hid (∀ i, preN L.es (i + 1) = preN L.es i + (L.es.getD i En.zero).ns) := fun i => rfl
  have hen := hide (fun j (hj : j < L.es.length) => (Ls.entry hm hj).2)
  obtain ⟨i1, i2⟩ := intoN_in hm t
  have hin : Hid ((t - L.base) % L.cyc = intoN L t) := rfl
  have hp0 : Hid (preN L.es 0 = 0) := rfl
  generalize intoN L t = at0 at *
  generalize preN L.es = pre at *
  generalize lRow L a L.es.length cap = R at *
  generalize hge : L.es.getD = ge at *
  generalize stateN L t = V at *
  generalize hn : L.es.length = n at *
  replace hn := hide hn
  replace hge := hide hge
  replace hb1 := hide hb1
  clear hr1 hE hEn hm
  generalize L.base = ba at *
  generalize L.cyc = cy at *
  obtain ⟨b0, off0, e0, k0, k1⟩ := hcl.out (n - 1) (by omega)
  have hn1 : ((n - 1 : Nat) : Int) = (n : Int) - 1 := by omega
  have hN1 : n - 1 < n := by omega
  subst e0
  go_enter Try.func24, Try.ntmps24
  go_wp2_with fail
  rw [hin.out]
  generalize w.alloc (.cells R 47) = w1 at *
  clear k0 k1 c0 c1 hin
  go_loop [7] (fun x => ∃ m : Nat, m < n ∧ x = .int .i64 m ∧ Hid (∀ k, m < k → k < n → at0 < pre k)) (fun x => (intOf x).toNat)
  case atStart => exact ⟨n - 1, hN1, by rw [hn1], hide (fun k h1 h2 => by omega)⟩
  case round =>
    obtain ⟨m, hmn, rfl, hgt⟩ := hrel
    go_wp2_with fail
    go_loop [8, 9] (fun x y => ∃ k : Nat, k ≤ m ∧ y = .int .i64 k ∧ x = .int .i64 (pre k)) (fun _ y => m - (intOf y).toNat)
    case atStart => exact ⟨0, Nat.zero_le _, rfl, by rw [hp0.out]⟩
    case round =>
      obtain ⟨k, hk, rfl, rfl⟩ := hrel
      by_cases hkm : k < m
      · obtain ⟨b1, off1, e1, k0, k1⟩ := hcl.out k (by omega)
        simp only [Option.some.injEq, Addr.mk.injEq, and_true] at e1
        obtain ⟨rfl, rfl⟩ := e1
        have q1 := hpi.out k (by omega)
        have q2 := hen.out k (by omega)
        have hS := hide (hnx.out k)
        generalize (ge k En.zero).ns = ns at *
        generalize pre k = pk at *
        generalize hpk1 : pre (k + 1) = pk1 at *
        replace hpk1 := hide hpk1
        have hkn : k < n := by omega
        clear k0
        go_wp2
        go_round
        case rel => exact ⟨k + 1, by omega, by go_num, by rw [hpk1.out, hS.out]⟩
        case measure => simp [intOf]; omega
      · obtain rfl : k = m := by omega
        have q1 := hpi.out k (by omega)
        by_cases hle : pre k ≤ at0
        · obtain ⟨b1, off1, e1, k0, k1⟩ := hcl.out k hmn
          simp only [Option.some.injEq, Addr.mk.injEq, and_true] at e1
          obtain ⟨rfl, rfl⟩ := e1
          have hV := hide (hs.out k hmn hle hgt.out)
          generalize (ge k En.zero).op = op at *
          generalize pre k = pk at *
          clear k1
          go_wp2
          go_ret
          exact ⟨ret_i64 hV.out, hb1.out⟩
        · have hk0 : 0 < k := by
            rcases Nat.eq_zero_or_pos k with rfl | h
            · rw [hp0.out] at hle; omega
            · exact h
          have hgt2 : Hid (∀ k', k - 1 < k' → k' < n → at0 < pre k') := fun k' h1 h2 => by
            rcases (show k < k' ∨ k' = k by omega) with h | rfl
            · exact hgt.out k' h h2
            · omega
          have hk1 : Hid (((k - 1 : Nat) : Int) = (k : Int) - 1) := by show _ = _; omega
          generalize hpk : pre k = pk at *
          replace hpk := hide hpk
          go_wp2
          go_round
          case rel => exact ⟨k - 1, by omega, by rw [hk1.out], hgt2⟩
          case measure => simp [intOf]; omega
end Go.Proofs.Ytmacdghkbmjdmaa
