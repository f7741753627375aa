
/-
  A contract of octet.Pack. Condition: no more than 2^40 pairs.
-/
import Derived.Test.YtiahiakllpjliaaDoorBit
import Derived.BigQuiet
import Derived.Deep.QuietTactic
namespace Go.Proofs.YtiahiakllpjliaaDoor
open Go.RowKit

/-- Pairs of numbers of 64 bits each. -/
def Wide (ps : List (Int × Int)) : Prop := ∀ p ∈ ps, (0 ≤ p.1 ∧ p.1 < 18446744073709551616) ∧ 0 ≤ p.2 ∧ p.2 < 18446744073709551616
/-- The value v is a slice of pairs of numbers. -/
def Prs (w : World) (v : Value) (ps : List (Int × Int)) : Prop :=
  Wide ps ∧ ∃ a cap, v = .slice a ps.length cap ∧
    ∀ i, i < ps.length → ∃ b off, a = some ⟨b, off, none⟩ ∧ w.cell? ⟨b, off + i * 2, none⟩ = some (.int .u64 (ps.getD i (0, 0)).1) ∧ w.cell? ⟨b, off + i * 2 + 1, none⟩ = some (.int .u64 (ps.getD i (0, 0)).2)

/-- What is packed, and how many bits are left; none: one has no room. -/
def pkStep (st : Int × Int) (p : Int × Int) : Option (Int × Int) := if st.2 < p.2 ∨ p.1 / 2 ^ p.2.toNat ≠ 0 then none else some (st.1 * 2 ^ p.2.toNat + p.1, st.2 - p.2)
def pk (ps : List (Int × Int)) : Option (Int × Int) := ps.foldlM pkStep (0, 64)

/-- What Pack answers. -/
def pkRes (ps : List (Int × Int)) : Value := match pk ps with | some st => .tuple #[.int .u64 st.1, .int .i64 0] | none => .tuple #[.int .u64 0, .int .i64 1]
theorem pkRes_some {ps : List (Int × Int)} {P L : Int} (h : pk ps = some (P, L)) : pkRes ps = .tuple #[.int .u64 P, .int .i64 0] := by unfold pkRes; rw [h]
theorem pkRes_none {ps : List (Int × Int)} (h : pk ps = none) : pkRes ps = .tuple #[.int .u64 0, .int .i64 1] := by unfold pkRes; rw [h]

theorem pk_take_succ (ps : List (Int × Int)) (j : Nat) (h : j < ps.length) : pk (ps.take (j + 1)) = (pk (ps.take j)).bind fun st => pkStep st (ps.getD j (0, 0)) := by
  rw [List.take_succ_eq_append_getElem h, pk, List.foldlM_append, List.getD_eq_getElem?_getD, List.getElem?_eq_getElem h]
  simp [pk]
theorem pk_none (ps : List (Int × Int)) (j : Nat) (h : pk (ps.take j) = none) : pk ps = none := by
  have e : ps = ps.take j ++ ps.drop j := (List.take_append_drop j ps).symm
  rw [e, pk, List.foldlM_append]
  rw [pk] at h
  simp [h]
/-- What is packed has just the bits that are taken. -/
def PkOk (st : Int × Int) : Prop := 0 ≤ st.2 ∧ st.2 ≤ 64 ∧ 0 ≤ st.1 ∧ st.1 < 2 ^ (64 - st.2).toNat
theorem pkStep_ok (st p st' : Int × Int) (h : PkOk st) (h0 : 0 ≤ p.1) (h2 : 0 ≤ p.2) (e : pkStep st p = some st') : PkOk st' ∧ p.1 < 2 ^ p.2.toNat ∧ p.2 ≤ st.2 ∧ st' = (st.1 * 2 ^ p.2.toNat + p.1, st.2 - p.2) := by
  unfold pkStep at e
  split at e
  · cases e
  · rename_i hc
    cases e
    obtain ⟨hc1, hc2⟩ := not_or.1 hc
    have hc2' : p.1 / 2 ^ p.2.toNat = 0 := Decidable.not_not.1 hc2
    have hpp := pow2_pos p.2.toNat
    have hlt : p.1 < 2 ^ p.2.toNat := by
      have := Int.lt_mul_ediv_self_add (x := p.1) hpp
      rw [hc2'] at this
      omega
    obtain ⟨a, b, c, d⟩ := h
    refine ⟨⟨by simp; omega, by simp; omega, ?_, ?_⟩, hlt, by omega, rfl⟩
    · have := Int.mul_nonneg c (Int.le_of_lt hpp)
      simp only; omega
    · simp only
      have e1 : (64 - (st.2 - p.2)).toNat = (64 - st.2).toNat + p.2.toNat := by omega
      rw [e1, Int.pow_add]
      have h1 : st.1 + 1 ≤ 2 ^ (64 - st.2).toNat := by omega
      have h2 := Int.mul_le_mul_of_nonneg_right h1 (Int.le_of_lt hpp)
      rw [Int.add_mul] at h2
      omega
theorem pk_ok (ps : List (Int × Int)) (hw : Wide ps) : ∀ j, j ≤ ps.length → ∀ st, pk (ps.take j) = some st → PkOk st := by
  intro j
  induction j with
  | zero => intro _ st h; simp [pk] at h; subst h; exact ⟨by decide, by decide, by decide, by decide⟩
  | succ j ih =>
    intro hj st h
    rw [pk_take_succ ps j (by omega)] at h
    cases hp : pk (ps.take j) with
    | none => rw [hp] at h; cases h
    | some st0 =>
      rw [hp] at h
      have hm : ps.getD j (0, 0) ∈ ps := by
        rw [List.getD_eq_getElem?_getD, List.getElem?_eq_getElem (by omega)]; exact List.getElem_mem _
      have := hw _ hm
      exact (pkStep_ok st0 _ st (ih (by omega) st0 hp) this.1.1 this.2.1 h).1

theorem or_shift (P n : Int) (s : Nat) (h0 : 0 ≤ P) (hn : 0 ≤ n) (hns : n < 2 ^ s) (h : P * 2 ^ s + n < 18446744073709551616) :
    bits .or .u64 (IntKind.u64.wrap (P * 2 ^ s)) n = P * 2 ^ s + n := by
  have hm := Int.mul_nonneg h0 (Int.le_of_lt (pow2_pos s))
  rw [IntKind.wrap_u64, Int.emod_eq_of_lt hm (by omega), u64_or _ _ hm (by omega) hn (by omega)]
  obtain ⟨P, rfl⟩ := Int.eq_ofNat_of_zero_le h0
  obtain ⟨n, rfl⟩ := Int.eq_ofNat_of_zero_le hn
  have e1 : ((P : Int) * 2 ^ s) = ((P * 2 ^ s : Nat) : Int) := by push_cast; rfl
  have hns' : n < 2 ^ s := by exact_mod_cast hns
  rw [e1, Int.toNat_natCast, Int.toNat_natCast, nat_join s _ _ (Nat.mul_mod_left _ _) hns']
  push_cast
  rfl
theorem PkOk.lt {st : Int × Int} (h : PkOk st) : st.1 < 18446744073709551616 := by
  obtain ⟨a, b, c, d⟩ := h
  have h1 : (2 : Int) ^ (64 - st.2).toNat ≤ 2 ^ 64 := by
    have : (2 : Nat) ^ (64 - st.2).toNat ≤ 2 ^ 64 := Nat.pow_le_pow_right (by decide) (by omega)
    exact_mod_cast this
  have h3 : (2 : Int) ^ 64 = 18446744073709551616 := by decide
  omega

theorem Pack_at (a : Option Addr) (cap m : Nat) (ps : List (Int × Int)) (w : World) (hm : m ≤ 1099511627776) (hL : ps.length = m) (hw : Wide ps)
    (ha : ∀ i, i < m → ∃ b off, a = some ⟨b, off, none⟩ ∧ w.cell? ⟨b, off + i * 2, none⟩ = some (.int .u64 (ps.getD i (0, 0)).1) ∧ w.cell? ⟨b, off + i * 2 + 1, none⟩ = some (.int .u64 (ps.getD i (0, 0)).2)) :
    Calls Tryd.prog 49 #[.slice a m cap] w fun e w' => e = .returned (pkRes ps) ∧ Below w.heap.size w w' := by
  have HL := hide hL
  have HW := hide hw
  clear hL hw
  go_enter Tryd.func49, Tryd.ntmps49
  go_wp2
  go_loopw [4, 5, 12] (fun x y i wr => ∃ j : Nat, j ≤ m ∧ i = .int .i64 j ∧ (∃ P L : Int, Hid (pk (ps.take j) = some (P, L)) ∧ x = .int .u64 P ∧ y = .int .u64 L) ∧ Below w.heap.size w wr) (fun _ _ i _ => m - (intOf i).toNat)
  case atStart => exact ⟨0, Nat.zero_le _, rfl, ⟨0, 64, rfl, rfl, rfl⟩, Below.refl _ _⟩
  case round =>
    obtain ⟨j, hj, rfl, ⟨P, L, HP, rfl, rfl⟩, hbl⟩ := hrel
    by_cases hlt : j < m
    · obtain ⟨b, off, rfl, hc0, hc1⟩ := ha j hlt
      have hd0 : wr.cell? ⟨b, off + j * 2, none⟩ = some (.int .u64 (ps.getD j (0, 0)).1) := by rw [hbl.cell (p := ⟨b, off + j * 2, none⟩) (block_lt_of_cell hc0)]; exact hc0
      have hd1 : wr.cell? ⟨b, off + j * 2 + 1, none⟩ = some (.int .u64 (ps.getD j (0, 0)).2) := by rw [hbl.cell (p := ⟨b, off + j * 2 + 1, none⟩) (block_lt_of_cell hc1)]; exact hc1
      have hr := HW.out (ps.getD j (0, 0)) (by rw [List.getD_eq_getElem?_getD, List.getElem?_eq_getElem (by rw [HL.out]; exact hlt)]; exact List.getElem_mem _)
      have hst : Hid (∀ st, pk (ps.take j) = some st → pk (ps.take (j + 1)) = pkStep st (ps.getD j (0, 0))) := fun st e => by
        rw [pk_take_succ ps j (by rw [HL.out]; exact hlt), e]; rfl
      clear hc0 hc1 ha
      generalize ps.getD j (0, 0) = p at *
      obtain ⟨n, s⟩ := p
      simp only at hd0 hd1 hr
      obtain ⟨⟨hr1, hr2⟩, hr3, hr4⟩ := hr
      have hok := pk_ok ps HW.out j (by rw [HL.out]; exact hj) _ HP.out
      obtain ⟨k1, k2, k3, k4⟩ := hok
      simp only at k1 k2 k3 k4
      obtain ⟨s, rfl⟩ := Int.eq_ofNat_of_zero_le hr3
      by_cases hL : L < (s : Int)
      · have hN : Hid (pk ps = none) := pk_none ps (j + 1) (by rw [hst.out _ HP.out]; unfold pkStep; rw [if_pos (.inl hL)])
        go_wp2
        go_quiet (fail)
        go_wp2
        go_ret2
        exact ⟨by rw [pkRes_none hN.out]; rfl, below_drewN (hbl.alloc hbl.size _) _⟩
      · have hs64 : s ≤ 64 := by omega
        by_cases hz : n / 2 ^ s = 0
        · have hz' : (n / 2 ^ s != 0) = false := by simp [hz]
          have hstep : pkStep (P, L) (n, (s : Int)) = some (P * 2 ^ s + n, L - s) := by
            unfold pkStep
            rw [if_neg (by simp [hz]; omega)]
            simp
          have hgo := pkStep_ok _ _ _ ⟨k1, k2, k3, k4⟩ hr1 (by simp) hstep
          have hor := hide (or_shift P n s k3 hr1 (by simpa using hgo.2.1) hgo.1.lt)
          have HN : Hid (pk (ps.take (j + 1)) = some (P * 2 ^ s + n, L - s)) := by
            have := hst.out _ HP.out
            rw [hstep] at this
            exact this
          clear hz k4 hr2 hr4 hst hgo hstep
          go_wp2
          go_quiet (fail)
          go_wp2
          rw [hor.out]
          go_roundw
          case rel => exact ⟨j + 1, by omega, by go_num, ⟨_, _, HN, rfl, rfl⟩, below_drewN (hbl.alloc hbl.size _) _⟩
          case measure => simp [intOf]; omega
        · have hz' : (n / 2 ^ s != 0) = true := by simp [hz]
          have hN : Hid (pk ps = none) := pk_none ps (j + 1) (by rw [hst.out _ HP.out]; unfold pkStep; rw [if_pos (.inr (by simpa using hz))])
          clear hz
          go_wp2
          go_quiet (fail)
          go_wp2
          go_ret2
          exact ⟨by rw [pkRes_none hN.out]; rfl, below_drewN (hbl.alloc hbl.size _) _⟩
    · go_wp2
      go_ret2
      have hjm : j = m := by omega
      have := HP.out
      rw [List.take_of_length_le (by rw [HL.out]; omega)] at this
      exact ⟨by rw [pkRes_some this]; rfl, hbl⟩
theorem Pack_any {v : Value} {ps : List (Int × Int)} {w : World} (hv : Prs w v ps) (hm : ps.length ≤ 1099511627776) :
    Calls Tryd.prog 49 #[v] w fun e w' => e = .returned (pkRes ps) ∧ Below w.heap.size w w' := by
  obtain ⟨hw, a, cap, rfl, h⟩ := hv
  exact Pack_at a cap _ ps w hm rfl hw h
end Go.Proofs.YtiahiakllpjliaaDoor
