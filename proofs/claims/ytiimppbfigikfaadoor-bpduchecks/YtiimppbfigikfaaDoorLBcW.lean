/-
  The statement BpduChecks, walked: all cases together. Condition: the table lies as the program's text lays it ('Tab').
-/
import Derived.Test.YtiimppbfigikfaaDoorLBc1
import Derived.Test.YtiimppbfigikfaaDoorLBc2
import Derived.Test.YtiimppbfigikfaaDoorLBc3
import Derived.Test.YtiimppbfigikfaaDoorLBc4
import Derived.Test.YtiimppbfigikfaaDoorFlatB
namespace Go.Proofs.YtiimppbfigikfaaDoor
open Go.RowKit
set_option linter.unusedVariables false

theorem nums_role {b : Bp} (h : b.role < 0 ∨ 3 < b.role) : numsB b = false := by
  unfold numsB
  rw [decide_eq_false (by omega)]; rfl
theorem nums_cost {b : Bp} (h : 4294967296 ≤ b.cost) : numsB b = false := by
  unfold numsB
  rw [decide_eq_false (by omega)]; rfl
theorem nums_port {b : Bp} (h : b.port < 0 ∨ 65536 ≤ b.port) : numsB b = false := by
  have e : pairB b.port = false := by unfold pairB; exact decide_eq_false (by omega)
  simp [numsB, Bp.five, e]
theorem BChecks_walk (b : Bp) (w : World) (hT : Tab w) (hW : b.wf) :
    Calls Tryd.prog 13 #[.agg b.row] w fun e w' => e = .returned (.bool true) ∧ Below w.heap.size w w' := by
  obtain ⟨kind, root, cost, bridge, port, change, ack, proposal, agreement, learning, forwarding, role, age, maxAge, hello, delay⟩ := b
  by_cases k0 : kind < 0
  · exact BC1 kind root cost bridge port role age maxAge hello delay change ack proposal agreement learning forwarding w hT hW (by simpa using k0) (by unfold bcheckE; rw [if_pos (.inl k0)])
  by_cases k2 : 2 < kind
  · exact BC2 kind root cost bridge port role age maxAge hello delay change ack proposal agreement learning forwarding w hT hW (by simpa using k0) (by simpa using k2) (by unfold bcheckE; rw [if_pos (.inr (by simp; omega))])
  rcases (show kind = 0 ∨ kind = 1 ∨ kind = 2 by omega) with rfl | rfl | rfl
  · cases proposal
    case true => exact BK00 root cost bridge port role age maxAge hello delay change ack agreement learning forwarding w hT hW (bcheck_bad (.inl rfl) (.inr ⟨rfl, by simp [tellsB]⟩))
    cases agreement
    case true => exact BK01 root cost bridge port role age maxAge hello delay change ack learning forwarding w hT hW (bcheck_bad (.inl rfl) (.inr ⟨rfl, by simp [tellsB]⟩))
    cases learning
    case true => exact BK02 root cost bridge port role age maxAge hello delay change ack forwarding w hT hW (bcheck_bad (.inl rfl) (.inr ⟨rfl, by simp [tellsB]⟩))
    cases forwarding
    case true => exact BK03 root cost bridge port role age maxAge hello delay change ack w hT hW (bcheck_bad (.inl rfl) (.inr ⟨rfl, by simp [tellsB]⟩))
    by_cases r0 : role = 0
    case neg => exact BK04 root cost bridge port role age maxAge hello delay change ack w hT hW (by simpa using r0) (bcheck_bad (.inl rfl) (.inr ⟨rfl, by simp [tellsB, r0]⟩))
    subst r0
    by_cases c0 : 4294967296 ≤ cost
    · exact BK05 root cost bridge port age maxAge hello delay change ack w hT hW (by simpa using c0) (bcheck_bad (.inl rfl) (.inl (nums_cost c0)))
    by_cases p0 : port < 0
    · exact BK06 root cost bridge port age maxAge hello delay change ack w hT hW (by simpa using c0) (by simpa using p0) (bcheck_bad (.inl rfl) (.inl (nums_port (.inl p0))))
    by_cases p1 : 65536 ≤ port
    · exact BK07 root cost bridge port age maxAge hello delay change ack w hT hW (by simpa using c0) (by simpa using p0) (by simpa using p1) (bcheck_bad (.inl rfl) (.inl (nums_port (.inr p1))))
    exact BK08 root cost bridge port age maxAge hello delay change ack _ w hT hW (by simpa using c0) (by simpa using p0) (by simpa using p1) rfl (bcheck_nb (.inl rfl) (by simp [tellsB]) (by simp) (by simp) (by simp; omega) (by simp; omega) (by simp; omega))
  · by_cases r0 : role < 0
    · exact BK10 root cost bridge port role age maxAge hello delay change ack proposal agreement learning forwarding w hT hW (by simpa using r0) (bcheck_bad (.inr rfl) (.inl (nums_role (.inl r0))))
    by_cases r1 : 3 < role
    · exact BK11 root cost bridge port role age maxAge hello delay change ack proposal agreement learning forwarding w hT hW (by simpa using r0) (by simpa using r1) (bcheck_bad (.inr rfl) (.inl (nums_role (.inr r1))))
    by_cases c0 : 4294967296 ≤ cost
    · exact BK12 root cost bridge port role age maxAge hello delay change ack proposal agreement learning forwarding w hT hW (by simpa using r0) (by simpa using r1) (by simpa using c0) (bcheck_bad (.inr rfl) (.inl (nums_cost c0)))
    by_cases p0 : port < 0
    · exact BK13 root cost bridge port role age maxAge hello delay change ack proposal agreement learning forwarding w hT hW (by simpa using r0) (by simpa using r1) (by simpa using c0) (by simpa using p0) (bcheck_bad (.inr rfl) (.inl (nums_port (.inl p0))))
    by_cases p1 : 65536 ≤ port
    · exact BK14 root cost bridge port role age maxAge hello delay change ack proposal agreement learning forwarding w hT hW (by simpa using r0) (by simpa using r1) (by simpa using c0) (by simpa using p0) (by simpa using p1) (bcheck_bad (.inr rfl) (.inl (nums_port (.inr p1))))
    exact BK15 root cost bridge port role age maxAge hello delay change ack proposal agreement learning forwarding _ w hT hW (by simpa using r0) (by simpa using r1) (by simpa using c0) (by simpa using p0) (by simpa using p1) rfl (bcheck_nb (.inr rfl) (by simp) (by simp; omega) (by simp; omega) (by simp; omega) (by simp; omega) (by simp; omega))
  · by_cases hne : Bp.mk 2 root cost bridge port change ack proposal agreement learning forwarding role age maxAge hello delay = Bp.bare
    · simp only [Bp.mk.injEq, true_and] at hne
      obtain ⟨rfl, rfl, rfl, rfl, rfl, rfl, rfl, rfl, rfl, rfl, rfl, rfl, rfl, rfl, rfl⟩ := hne
      exact BC3 w hT hW (by decide)
    · exact BC4 root cost bridge port role age maxAge hello delay change ack proposal agreement learning forwarding w hT hW hne (by unfold bcheckE; rw [if_neg (by simp), if_pos rfl, if_neg hne])
end Go.Proofs.YtiimppbfigikfaaDoor
