/-
  A contract of bpdu.numbers: each number in as many bytes as it says, behind each other. Conditions: those that each theorem names.
-/
import Derived.Test.YtmakaadmjgakaaaDoorBp5
namespace Go.Proofs.YtmakaadmjgakaaaDoor
open Go.RowKit
set_option linter.unusedVariables false

/-- Each pair's number in so many bytes. -/
def nsL (ps : List (Int × Int)) : List Int := (ps.map fun p => digs p.1 p.2.toNat).flatten
theorem nsL_succ (ps : List (Int × Int)) (j : Nat) (h : j < ps.length) : nsL (ps.take (j + 1)) = nsL (ps.take j) ++ digs (ps.getD j (0, 0)).1 (ps.getD j (0, 0)).2.toNat := by
  unfold nsL
  rw [List.take_succ_eq_append_getElem h, List.map_append, List.flatten_append, List.getD_eq_getElem?_getD, List.getElem?_eq_getElem h]
  simp
theorem nsL_byte (ps : List (Int × Int)) : Byte (nsL ps) := by
  intro z hz
  unfold nsL at hz
  simp only [List.mem_flatten, List.mem_map] at hz
  obtain ⟨l, ⟨p, _, rfl⟩, hz⟩ := hz
  exact digs_byte _ _ z hz
theorem nsL_len (ps : List (Int × Int)) (h : ∀ p ∈ ps, p.2 ≤ 8) : (nsL ps).length ≤ 8 * ps.length := by
  induction ps with
  | nil => simp [nsL]
  | cons p r ih =>
    have h1 := h p (by simp)
    have h2 := ih (fun q hq => h q (by simp [hq]))
    rw [show nsL (p :: r) = digs p.1 p.2.toNat ++ nsL r from rfl, List.length_append, digs_length, List.length_cons]
    omega
/-- All have room. -/
def Room (ps : List (Int × Int)) : Prop := ∀ p ∈ ps, 0 ≤ p.1 ∧ 1 ≤ p.2 ∧ p.2 ≤ 8 ∧ p.1 < 256 ^ p.2.toNat

set_option maxRecDepth 20000 in
theorem numbers_at (a : Option Addr) (cap m : Nat) (ps : List (Int × Int)) (w : World) (hm : m ≤ 1000) (hL : ps.length = m) (hw : Wide ps) (hR : Room ps)
    (ha : ∀ i, i < m → ∃ b off, a = some ⟨b, off, none⟩ ∧ w.cell? ⟨b, off + i * 2, none⟩ = some (.int .u64 (ps.getD i (0, 0)).1) ∧ w.cell? ⟨b, off + i * 2 + 1, none⟩ = some (.int .u64 (ps.getD i (0, 0)).2)) :
    Calls Tryd.prog 70 #[.slice a m cap] w fun e w' => ∃ va n c, e = .returned (.slice va n c) ∧ Bs w' (.slice va n c) (nsL ps) ∧ Below w.heap.size w w' := by
  have HL := hide hL
  have HR := hide hR
  have HA := hide ha
  clear hL hw hR ha
  go_enter Tryd.func70, Tryd.ntmps70
  go_wp2
  go_loopw [3, 10] (fun v i wr => ∃ j : Nat, j ≤ m ∧ i = .int .i64 j ∧ (∃ va n c, v = .slice va n c ∧ Hid (Bs wr (.slice va n c) (nsL (ps.take j)))) ∧ Hid (Below w.heap.size w wr)) (fun _ i _ => m - (intOf i).toNat)
  case atStart => exact ⟨0, Nat.zero_le _, rfl, ⟨none, 0, 0, rfl, Bs.nil _⟩, Below.refl _ _⟩
  case round =>
    obtain ⟨j, hj, rfl, ⟨va, n, c, rfl, HB⟩, HW⟩ := hrel
    by_cases hlt : j < m
    · obtain ⟨b, off, rfl, hc0, hc1⟩ := HA.out j hlt
      have hd0 : wr.cell? ⟨b, off + j * 2, none⟩ = some (.int .u64 (ps.getD j (0, 0)).1) := by rw [HW.out.cell (p := ⟨b, off + j * 2, none⟩) (block_lt_of_cell hc0)]; exact hc0
      have hd1 : wr.cell? ⟨b, off + j * 2 + 1, none⟩ = some (.int .u64 (ps.getD j (0, 0)).2) := by rw [HW.out.cell (p := ⟨b, off + j * 2 + 1, none⟩) (block_lt_of_cell hc1)]; exact hc1
      have hr := HR.out (ps.getD j (0, 0)) (by rw [List.getD_eq_getElem?_getD, List.getElem?_eq_getElem (by rw [HL.out]; exact hlt)]; exact List.getElem_mem _)
      have hsucc := hide (nsL_succ ps j (by rw [HL.out]; exact hlt))
      have hlen : Hid ((nsL (ps.take j)).length ≤ 8000) := by
        have h1 := nsL_len (ps.take j) (fun p hp => (HR.out p (List.mem_of_mem_take hp)).2.2.1)
        have h2 : (ps.take j).length ≤ j := by simp; omega
        show (nsL (ps.take j)).length ≤ 8000
        omega
      clear hc0 hc1
      generalize ps.getD j (0, 0) = p at *
      obtain ⟨x, s⟩ := p
      simp only at hd0 hd1 hr hsucc
      obtain ⟨hr1, hr2, hr3, hr4⟩ := hr
      obtain ⟨s, rfl⟩ := Int.eq_ofNat_of_zero_le (show 0 ≤ s by omega)
      simp only [Int.toNat_natCast] at hr4 hsucc
      have hPut := hide (fun w => Put_fits x s w hr1 (by omega) (by omega) hr4)
      clear hr4
      have hr2' : (1 : Int) ≤ (s : Int) := hr2
      go_wp2_with fail
      refine (hPut.out _).mono ?_
      rintro e w1 ⟨rfl, hB1, hb1⟩
      simp only [World.size_alloc] at hB1
      have hW1 := hide (HW.out.later ((below1 _ _).later hb1))
      have HB1 := hide (HB.out.below ((below1 _ _).later hb1))
      clear hb1
      go_wp2_with fail
      have hJ := Join_two w1.heap.size _ rfl HB1.out hB1 rfl (by rw [List.length_append, digs_length]; have := hlen.out; omega)
      refine hJ.mono ?_
      rintro e w2 ⟨rfl, hB2, hb2⟩
      have hW2 := hide (hW1.out.later hb2)
      have HB2 : Hid (Bs w2 (.slice (some ⟨w1.heap.size + 1, 0, none⟩) (nsL (ps.take j) ++ digs x s).length (nsL (ps.take j) ++ digs x s).length) (nsL (ps.take (j + 1)))) := by
        show Bs _ _ _
        rw [hsucc.out]; exact hB2
      clear hB1 hB2 hb2 hJ HB1 hW1
      generalize (nsL (ps.take j) ++ digs x s).length = ln at *
      go_wp2
      go_roundw
      case rel => exact ⟨j + 1, by omega, by go_num, ⟨_, _, _, rfl, HB2⟩, hW2⟩
      case measure => simp [intOf]; omega
    · obtain rfl : j = m := by omega
      have hfin := HB.out
      rw [List.take_of_length_le (by rw [HL.out]; exact Nat.le_refl _)] at hfin
      go_wp2
      go_ret
      exact ⟨va, n, c, rfl, hfin, HW.out⟩
theorem numbers_any {v : Value} {ps : List (Int × Int)} {w : World} (hv : Prs w v ps) (hm : ps.length ≤ 1000) (hR : Room ps) :
    Calls Tryd.prog 70 #[v] w fun e w' => ∃ va n c, e = .returned (.slice va n c) ∧ Bs w' (.slice va n c) (nsL ps) ∧ Below w.heap.size w w' := by
  obtain ⟨hw, a, cap, rfl, h⟩ := hv
  exact numbers_at a cap _ ps w hm rfl hw hR h
end Go.Proofs.YtmakaadmjgakaaaDoor
