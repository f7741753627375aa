/-
  Contracts of gate's Check, into, lets, Start, goesOn, and of the functions that they make. Conditions: those that each theorem names.
-/
import Derived.Test.YtmacdghkbmjdmaaGt1
namespace Go.Proofs.Ytmacdghkbmjdmaa
open Go.RowKit
set_option linter.unusedVariables false
set_option maxRecDepth 20000

theorem GCheck_any (L : Ls) (a : Option Addr) (cap : Nat) (w : World) (hE : Ent w a L.es) (hn : L.es.length ≤ maxLen) :
    Calls Try.prog 30 #[.agg (lRow L a L.es.length cap)] w fun e w' => e = .returned (.int .i64 (if L.may = true then 0 else 30)) ∧ Below w.heap.size w w' := by
  have hb := hide (below1 w (.cells (lRow L a L.es.length cap) 47))
  have hI := hide L.may_iff
  have hC : Hid (L.es.length ≤ 100000 → Calls Try.prog 45 #[.slice a L.es.length cap, .func (.func 46) #[] #[]] (w.alloc (.cells (lRow L a L.es.length cap) 47)) fun r w' => r = .returned (.bool (L.es.any badE)) ∧ Below (w.alloc (.cells (lRow L a L.es.length cap) 47)).heap.size (w.alloc (.cells (lRow L a L.es.length cap) 47)) w') :=
    fun hl => Contains_any (hE.below (below1 w _) (fun _ => by simp)) hl
  generalize L.may = x at *
  generalize L.es.any badE = y at *
  clear hE
  unfold maxLen at hn
  generalize L.es.length = n at *
  obtain ⟨ba, cy, ex, es⟩ := L
  simp only [lRow] at hb hC hI ⊢
  by_cases h0 : (n : Int) = 0
  · obtain rfl : x = false := by rw [Bool.eq_false_iff]; intro hx; have := hI.out.1 hx; omega
    have h0' : n = 0 := by omega
    subst h0'
    clear hI hC
    simp only [Bool.false_eq_true, if_false]
    go_enter Try.func30, Try.ntmps30
    go_wp2
    go_ret
    exact ⟨rfl, hb.out⟩
  have h0q : ((n : Int) == 0) = false := by rw [beq_eq_false_iff_ne]; exact h0
  by_cases h1 : (64 : Int) < (n : Int)
  · obtain rfl : x = false := by rw [Bool.eq_false_iff]; intro hx; have := hI.out.1 hx; omega
    clear hI hC
    simp only [Bool.false_eq_true, if_false]
    go_enter Try.func30, Try.ntmps30
    go_wp2
    go_ret
    exact ⟨rfl, hb.out⟩
  have h1q : decide ((64 : Int) < (n : Int)) = false := decide_eq_false h1
  by_cases h2 : ba < 0
  · obtain rfl : x = false := by rw [Bool.eq_false_iff]; intro hx; have := hI.out.1 hx; omega
    clear hI hC
    simp only [Bool.false_eq_true, if_false]
    go_enter Try.func30, Try.ntmps30
    go_wp2
    go_ret
    exact ⟨rfl, hb.out⟩
  by_cases h3 : 4611686018427387904 ≤ ba
  · obtain rfl : x = false := by rw [Bool.eq_false_iff]; intro hx; have := hI.out.1 hx; omega
    clear hI hC
    simp only [Bool.false_eq_true, if_false]
    go_enter Try.func30, Try.ntmps30
    go_wp2
    go_ret
    exact ⟨rfl, hb.out⟩
  by_cases h4 : cy < 1
  · obtain rfl : x = false := by rw [Bool.eq_false_iff]; intro hx; have := hI.out.1 hx; omega
    clear hI hC
    simp only [Bool.false_eq_true, if_false]
    go_enter Try.func30, Try.ntmps30
    go_wp2
    go_ret
    exact ⟨rfl, hb.out⟩
  by_cases h5 : 1000000000 < cy
  · obtain rfl : x = false := by rw [Bool.eq_false_iff]; intro hx; have := hI.out.1 hx; omega
    clear hI hC
    simp only [Bool.false_eq_true, if_false]
    go_enter Try.func30, Try.ntmps30
    go_wp2
    go_ret
    exact ⟨rfl, hb.out⟩
  by_cases h6 : ex < 0
  · obtain rfl : x = false := by rw [Bool.eq_false_iff]; intro hx; have := hI.out.1 hx; omega
    clear hI hC
    simp only [Bool.false_eq_true, if_false]
    go_enter Try.func30, Try.ntmps30
    go_wp2
    go_ret
    exact ⟨rfl, hb.out⟩
  by_cases h7 : 1000000000 < ex
  · obtain rfl : x = false := by rw [Bool.eq_false_iff]; intro hx; have := hI.out.1 hx; omega
    clear hI hC
    simp only [Bool.false_eq_true, if_false]
    go_enter Try.func30, Try.ntmps30
    go_wp2
    go_ret
    exact ⟨rfl, hb.out⟩
  have hCC := hide (hC.out (by omega))
  clear hC
  cases y
  · obtain rfl : x = true := hI.out.2 ⟨by omega, by omega, by omega, by omega, rfl⟩
    clear hI
    simp only [if_true]
    go_enter Try.func30, Try.ntmps30
    go_wp2_with fail
    refine hCC.out.mono ?_
    rintro _ w1 ⟨rfl, hb1⟩
    have hB := hide (hb.out.later hb1)
    clear hCC hb hb1
    go_wp2
    go_ret
    exact ⟨rfl, hB.out⟩
  · obtain rfl : x = false := by rw [Bool.eq_false_iff]; intro hx; have := (hI.out.1 hx).2.2.2.2; simp at this
    clear hI
    simp only [Bool.false_eq_true, if_false]
    go_enter Try.func30, Try.ntmps30
    go_wp2_with fail
    refine hCC.out.mono ?_
    rintro _ w1 ⟨rfl, hb1⟩
    have hB := hide (hb.out.later hb1)
    clear hCC hb hb1
    go_wp2
    go_ret
    exact ⟨rfl, hB.out⟩
/-- How far a time is into its cycle. -/
def intoN (L : Ls) (t : Int) : Int := (t - L.base) % L.cyc
theorem into_any (L : Ls) (a : Option Addr) (n cap : Nat) (t : Int) (w : World) (hc : 1 ≤ L.cyc ∧ L.cyc ≤ 1000000000) (hb : 0 ≤ L.base) (ht : L.base ≤ t) (ht2 : t ≤ 9223372036854775807) :
    Calls Try.prog 38 #[.agg (lRow L a n cap), .int .i64 t] w fun e w' => e = .returned (.int .i64 (intoN L t)) ∧ Below w.heap.size w w' := by
  have hB := hide (below1 w (.cells (lRow L a n cap) 47))
  have hV : Hid (intoN L t = (t - L.base) % L.cyc) := rfl
  generalize intoN L t = V at *
  obtain ⟨ba, cy, ex, es⟩ := L
  simp only [lRow] at *
  have hmx : ∀ (ts : Array TypeId) (t : TypeId) (w : World), (Builtin.max_ ts t #[.int .i64 cy, .int .i64 1]).run Try.prog w = .ok (.int .i64 cy) w := fun ts t w => by rw [Go.Lib.run_max_ints, show max cy 1 = cy by omega]
  go_enter Try.func38, Try.ntmps38
  go_wp2
  go_ret
  exact ⟨ret_i64 (by rw [hV.out]), hB.out⟩
end Go.Proofs.Ytmacdghkbmjdmaa
