/-
  The head of layer 7's statements ('waits'). Conditions: none.
-/
import Derived.Test.YtjfjohbibkidhaaRing7
namespace Go.Proofs.Ytjfjohbibkidhaa
open Go.RowKit
set_option linter.unusedVariables false

@[reducible] def wb : Nat → Nat := fun k => bndN ([0, 2, 0, 0, 0, 0, 0, 0].getD k 0)
@[reducible] def wf0 : Nat → List Int := fun _ => []
@[reducible] def wf1 : Nat → List Int := updN wf0 1 [5]
@[reducible] def wf2 : Nat → List Int := updN wf1 1 [5, 6]
@[reducible] def wf3 : Nat → List Int := updN wf2 1 [6]
@[reducible] def wl0 : Nat → Nat := fun _ => 0
@[reducible] def wl1 : Nat → Nat := updN wl0 1 1
@[reducible] def wl2 : Nat → Nat := updN wl1 0 1
theorem waits_any (w : World) : Calls Try.prog 14 #[] w fun r w' => r = .returned (.bool true) ∧ Below w.heap.size w w' := by
  have k0 := hide (RNew w w (Below.refl _ _) 0 2 0 0 0 0 0 0)
  have k1 := hide (fun (g : Nat) (w' : World) (h : Rg w w' g wf0 wb wl0) => (RPush_ok h 1 (by decide) 5 (by decide) (by decide) : Calls Try.prog 16 #[.pointer (some ⟨g, 0, none⟩), .int .i64 1, .int .i64 5] w' fun e w2 => e = .returned (.int .i64 0) ∧ Rg w w2 g wf1 wb wl0))
  have k2 := hide (fun (g : Nat) (w' : World) (h : Rg w w' g wf1 wb wl0) => (RPush_ok h 1 (by decide) 6 (by decide) (by decide) : Calls Try.prog 16 #[.pointer (some ⟨g, 0, none⟩), .int .i64 1, .int .i64 6] w' fun e w2 => e = .returned (.int .i64 0) ∧ Rg w w2 g wf2 wb wl0))
  have k3 := hide (fun (g : Nat) (w' : World) (h : Rg w w' g wf2 wb wl0) => (RPush_full h 1 (by decide) 7 (by decide) (by decide) (by decide) : Calls Try.prog 16 #[.pointer (some ⟨g, 0, none⟩), .int .i64 1, .int .i64 7] w' fun e w2 => e = .returned (.int .i64 20) ∧ Rg w w2 g wf2 wb wl1))
  have k4 := hide (fun (g : Nat) (w' : World) (h : Rg w w' g wf2 wb wl1) => (RPush_full h 0 (by decide) 1 (by decide) (by decide) (by decide) : Calls Try.prog 16 #[.pointer (some ⟨g, 0, none⟩), .int .i64 0, .int .i64 1] w' fun e w2 => e = .returned (.int .i64 20) ∧ Rg w w2 g wf2 wb wl2))
  have k5 := hide (fun (g : Nat) (w' : World) => Push_range (some ⟨g, 0, none⟩) 8 1 w' (by decide))
  have k6 := hide (fun (g : Nat) (w' : World) (h : Rg w w' g wf2 wb wl2) => (RHead_yes h 1 (by decide) 5 [6] (by decide) : Calls Try.prog 17 #[.pointer (some ⟨g, 0, none⟩), .int .i64 1] w' fun e w2 => e = .returned (.tuple #[.int .i64 5, .int .i64 0]) ∧ w2 = w'))
  have k7 := hide (fun (g : Nat) (w' : World) (h : Rg w w' g wf2 wb wl2) => (RPop_yes h 1 (by decide) 5 [6] (by decide) : Calls Try.prog 18 #[.pointer (some ⟨g, 0, none⟩), .int .i64 1] w' fun e w2 => e = .returned (.tuple #[.int .i64 5, .int .i64 0]) ∧ Rg w w2 g wf3 wb wl2))
  have k8 := hide (fun (g : Nat) (w' : World) (h : Rg w w' g wf3 wb wl2) => (RPop_no h 0 (by decide) (by decide) : Calls Try.prog 18 #[.pointer (some ⟨g, 0, none⟩), .int .i64 0] w' fun e w2 => e = .returned (.tuple #[.int .i64 0, .int .i64 21]) ∧ w2 = w'))
  have k9 := hide (fun (g : Nat) (w' : World) (h : Rg w w' g wf3 wb wl2) => (RLen h 1 (by decide) : Calls Try.prog 21 #[.pointer (some ⟨g, 0, none⟩), .int .i64 1] w' fun e w2 => e = .returned (.int .i64 1) ∧ w2 = w'))
  have k10 := hide (fun (g : Nat) (w' : World) (h : Rg w w' g wf3 wb wl2) => (RLost h 1 (by decide) : Calls Try.prog 22 #[.pointer (some ⟨g, 0, none⟩), .int .i64 1] w' fun e w2 => e = .returned (.int .i64 1) ∧ w2 = w'))
  have k11 := hide (fun (g : Nat) (w' : World) (h : Rg w w' g wf3 wb wl2) => (RAll h (by decide) : Calls Try.prog 35 #[.pointer (some ⟨g, 0, none⟩)] w' fun e w2 => e = .returned (.int .i64 1) ∧ w2 = w'))
  have k12 := hide (fun (g : Nat) (w' : World) (h : Rg w w' g wf3 wb wl2) => (RWaits h : Calls Try.prog 24 #[.pointer (some ⟨g, 0, none⟩)] w' fun e w2 => e = .returned (.int .i64 2) ∧ w2 = w'))
  have k13 := hide (fun (g : Nat) (w' : World) (h : Rg w w' g wf3 wb wl2) => (RList h 1 (by decide) (by decide) : Calls Try.prog 23 #[.pointer (some ⟨g, 0, none⟩), .int .i64 1] w' fun e w2 => ∃ a c, e = .returned (.slice a 1 c) ∧ Qe w2 (.slice a 1 c) [6] ∧ Rg w w2 g wf3 wb wl2))
  have k14 := hide (fun (g : Nat) (w' : World) (h : Rg w w' g wf3 wb wl2) => (RFlush h (by decide) : Calls Try.prog 19 #[.pointer (some ⟨g, 0, none⟩)] w' fun e w2 => ∃ a c, e = .returned (.slice a 1 c) ∧ Qe w2 (.slice a 1 c) [6] ∧ Rg w w2 g wf0 wb wl2))
  go_enter Try.func14, Try.ntmps14
  go_wp2_with fail
  refine k0.out.mono ?_
  rintro e w1 ⟨rfl, h⟩
  replace h := hide h
  generalize w.heap.size + 1 = g at *
  go_wp2_with fail
  refine (k1.out _ _ h.out).mono ?_
  rintro e w2 ⟨rfl, h⟩
  replace h := hide h
  go_wp2_with fail
  refine (k2.out _ _ h.out).mono ?_
  rintro e w3 ⟨rfl, h⟩
  replace h := hide h
  go_wp2_with fail
  refine (k3.out _ _ h.out).mono ?_
  rintro e w4 ⟨rfl, h⟩
  replace h := hide h
  go_wp2_with fail
  refine (k4.out _ _ h.out).mono ?_
  rintro e w5 ⟨rfl, h⟩
  replace h := hide h
  go_wp2_with fail
  refine (k5.out _ _).mono ?_
  rintro e w6 ⟨rfl, rfl⟩
  go_wp2_with fail
  refine (k6.out _ _ h.out).mono ?_
  rintro e w7 ⟨rfl, rfl⟩
  go_wp2_with fail
  refine (k7.out _ _ h.out).mono ?_
  rintro e w8 ⟨rfl, h⟩
  replace h := hide h
  go_wp2_with fail
  refine (k8.out _ _ h.out).mono ?_
  rintro e w9 ⟨rfl, rfl⟩
  go_wp2_with fail
  refine (k9.out _ _ h.out).mono ?_
  rintro e w10 ⟨rfl, rfl⟩
  go_wp2_with fail
  refine (k10.out _ _ h.out).mono ?_
  rintro e w11 ⟨rfl, rfl⟩
  go_wp2_with fail
  refine (k11.out _ _ h.out).mono ?_
  rintro e w12 ⟨rfl, rfl⟩
  go_wp2_with fail
  refine (k12.out _ _ h.out).mono ?_
  rintro e w13 ⟨rfl, rfl⟩
  go_wp2_with fail
  refine (k13.out _ _ h.out).mono ?_
  rintro e w14 ⟨a, c, rfl, _, h⟩
  replace h := hide h
  go_wp2_with fail
  refine (k14.out _ _ h.out).mono ?_
  rintro e w15 ⟨a, c, rfl, _, h⟩
  replace h := hide h
  go_wp2
  go_ret
  exact ⟨rfl, h.out.bel⟩
end Go.Proofs.Ytjfjohbibkidhaa
