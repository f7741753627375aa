/-
  A gate's list in numbers ('Ls') and as it came in; contracts of mayNotBe, slices.IndexFunc, slices.ContainsFunc, Check. Conditions: those that each theorem names.
-/
import Derived.Test.YtmacdghkbmjdmaaOpnB
import Derived.Test.YtmacdghkbmjdmaaLawsC
import Derived.Test.YtmacdghkbmjdmaaSls
import Derived.Lib.MinMax
import Derived.IntWalk
namespace Go.Proofs.Ytmacdghkbmjdmaa
open Go.RowKit
set_option linter.unusedVariables false
set_option maxRecDepth 20000

structure En where
  (op ns : Int)
@[reducible] def En.zero : En := ⟨0, 0⟩
instance : Inhabited En := ⟨En.zero⟩
@[reducible] def fEn (e : En) : List Value := [.int .i64 e.op, .int .i64 e.ns]
theorem wide_En : Wide fEn 2 := ⟨fun _ => rfl, fun x u hu => by simp at hu; rcases hu with rfl | rfl <;> rfl⟩
theorem enLen (e : En) : (Try.prog.info? 52).map (·.size) = some (fEn e).length := by kernel_rfl
theorem enSize (e : En) : (Try.prog.info? 52).map (·.size) = some (fEn e).toArray.size := by kernel_rfl
theorem en_all (e : En) : (fEn e).toArray.all (·.oneCell') = true := by simp [Value.oneCell']
/-- A list: from when on, how long, by how much longer, its entries. -/
structure Ls where
  (base cyc ext : Int) (es : List En)
/-- The entries in memory. -/
@[reducible] def Ent (w : World) (a : Option Addr) (es : List En) : Prop := RowsIn w a es.length fEn 2 En.zero es
@[reducible] def lRow (L : Ls) (a : Option Addr) (n cap : Nat) : Array Value := #[.int .i64 L.base, .int .i64 L.cyc, .int .i64 L.ext, .slice a n cap]
theorem lSize (L : Ls) (a : Option Addr) (n cap : Nat) : (Try.prog.info? 47).map (·.size) = some (lRow L a n cap).size := by kernel_rfl
theorem l_all (L : Ls) (a : Option Addr) (n cap : Nat) : (lRow L a n cap).all (·.oneCell') = true := by simp [Value.oneCell']
/-- May an entry not be? -/
def badE (e : En) : Bool := decide (e.op < 0) || decide (255 < e.op) || decide (e.ns < 1) || decide (1000000000 < e.ns)
theorem badE_iff (e : En) : badE e = true ↔ e.op < 0 ∨ 255 < e.op ∨ e.ns < 1 ∨ 1000000000 < e.ns := by simp [badE, or_assoc]
theorem mayNotBe_any (e : En) (w : World) : Calls Try.prog 46 #[.agg (fEn e).toArray] w fun r w' => r = .returned (.bool (badE e)) ∧ Below w.heap.size w w' := by
  have hb := hide (below1 w (.cells (fEn e).toArray 52))
  have hI := badE_iff e
  generalize badE e = x at *
  obtain ⟨o, n⟩ := e
  dsimp only at hI
  simp only [fEn] at hb ⊢
  by_cases h0 : o < 0
  · obtain rfl : x = true := hI.2 (.inl h0)
    clear hI
    go_enter Try.func46, Try.ntmps46
    go_wp2
    go_ret
    exact ⟨rfl, hb.out⟩
  by_cases h1 : 255 < o
  · obtain rfl : x = true := hI.2 (.inr (.inl h1))
    clear hI
    go_enter Try.func46, Try.ntmps46
    go_wp2
    go_ret
    exact ⟨rfl, hb.out⟩
  by_cases h2 : n < 1
  · obtain rfl : x = true := hI.2 (.inr (.inr (.inl h2)))
    clear hI
    go_enter Try.func46, Try.ntmps46
    go_wp2
    go_ret
    exact ⟨rfl, hb.out⟩
  by_cases h3 : 1000000000 < n
  · obtain rfl : x = true := hI.2 (.inr (.inr (.inr h3)))
    clear hI
    go_enter Try.func46, Try.ntmps46
    go_wp2
    go_ret
    exact ⟨rfl, hb.out⟩
  · obtain rfl : x = false := by rw [Bool.eq_false_iff]; intro hx; have := hI.1 hx; omega
    clear hI
    go_enter Try.func46, Try.ntmps46
    go_wp2
    go_ret
    exact ⟨rfl, hb.out⟩
theorem go_bad (args : Array Value) (w : World) : (callFunc 46 args).run Try.prog w = .ok (.enter 46 args) w := by
  simp [callFunc, go_sem, Try.func46]
  rfl
theorem Index_any {w : World} {a : Option Addr} {cap : Nat} {es : List En} (h : Ent w a es) (hl : es.length ≤ 100000) :
    Calls Try.prog 52 #[.slice a es.length cap, .func (.func 46) #[] #[]] w fun r w' => ∃ i : Int, r = .returned (.int .i64 i) ∧ Below w.heap.size w w' ∧ decide (0 ≤ i) = es.any badE := by
  have hS := hide h
  have hgo := go_bad
  generalize hL : es.length = L at *
  replace hL := hide hL
  clear h
  go_enter Try.func52, Try.ntmps52
  go_wp2
  go_loopw [8] (fun i wr => ∃ j : Nat, j ≤ L ∧ i = .int .i64 j ∧ Hid (Below w.heap.size w wr) ∧ Hid ((es.take j).any badE = false)) (fun i _ => L - (intOf i).toNat)
  case atStart => exact ⟨0, Nat.zero_le _, rfl, Below.refl _ _, hide (by simp)⟩
  case round =>
    obtain ⟨j, hj, rfl, hB, hno⟩ := hrel
    by_cases hlt : j < L
    · obtain ⟨b, off, rfl, hrg⟩ := (hS.out.below hB.out (fun _ => by simp)).at_i j (by rw [hL.out]; exact hlt)
      replace hrg := hide hrg
      have htk : Hid ((es.take (j + 1)).any badE = badE (es.getD j En.zero)) := by
        have hjl : j < es.length := by rw [hL.out]; exact hlt
        show _ = _
        rw [List.take_add_one, List.any_append, hno.out, Bool.false_or, List.getD_eq_getElem?_getD, List.getElem?_eq_getElem hjl]
        simp
      have hany : Hid (badE (es.getD j En.zero) = true → es.any badE = true) := fun hx => by
        have hjl : j < es.length := by rw [hL.out]; exact hlt
        rw [List.any_eq_true]
        refine ⟨es.getD j En.zero, ?_, hx⟩
        rw [List.getD_eq_getElem?_getD, List.getElem?_eq_getElem hjl]
        exact List.getElem_mem _
      generalize hee : es.getD j En.zero = e at *
      have hcall := hide (fun w => mayNotBe_any e w)
      generalize badE e = pe at *
      go_wp2_with ((with_reducible change wpList _ _ _ _ _ _); refine wpList_load_mid rfl 52 (.tmp 14) rfl b (off + j * 2) rfl (fEn e) _ hrg.out Try.underlying52 rfl (enLen _) ?_)
      refine (hcall.out _).mono ?_
      rintro r w2 ⟨rfl, hb2⟩
      have hB2 : Hid (Below w.heap.size w w2) := hB.out.later hb2
      clear hcall hrg hb2 hee
      cases pe
      · go_wp2
        go_roundw
        case rel => exact ⟨j + 1, by omega, by go_num, hB2, htk.out⟩
        case measure => simp [intOf]; omega
      · have hA := hide (hany.out rfl)
        clear hany htk
        go_wp2
        go_ret
        exact ⟨_, rfl, hB2.out, by rw [hA.out]; simp⟩
    · obtain rfl : j = L := by omega
      have hA : Hid (es.any badE = false) := by have := hno.out; rw [List.take_of_length_le (by rw [hL.out]; omega)] at this; exact this
      go_wp2
      go_ret
      exact ⟨_, rfl, hB.out, by rw [hA.out]; simp⟩
theorem Contains_any {w : World} {a : Option Addr} {cap : Nat} {es : List En} (h : Ent w a es) (hl : es.length ≤ 100000) :
    Calls Try.prog 45 #[.slice a es.length cap, .func (.func 46) #[] #[]] w fun r w' => r = .returned (.bool (es.any badE)) ∧ Below w.heap.size w w' := by
  have hI := hide (Index_any (cap := cap) h hl)
  generalize es.any badE = x at *
  go_enter Try.func45, Try.ntmps45
  go_wp2_with fail
  refine hI.out.mono ?_
  rintro _ w1 ⟨i, rfl, hb1, hx⟩
  have hB := hide hb1
  replace hx := hide hx
  clear hI hb1 h
  go_wp2
  go_ret
  exact ⟨ret_bool hx.out, hB.out⟩
/-- May a list be? -/
def Ls.may (L : Ls) : Bool := decide (1 ≤ L.es.length) && decide (L.es.length ≤ 64) && decide (0 ≤ L.base) && decide (L.base < 4611686018427387904) && decide (1 ≤ L.cyc) && decide (L.cyc ≤ 1000000000) && decide (0 ≤ L.ext) && decide (L.ext ≤ 1000000000) && !L.es.any badE
theorem Ls.may_iff (L : Ls) : L.may = true ↔ (1 ≤ L.es.length ∧ L.es.length ≤ 64) ∧ (0 ≤ L.base ∧ L.base < 4611686018427387904) ∧ (1 ≤ L.cyc ∧ L.cyc ≤ 1000000000) ∧ (0 ≤ L.ext ∧ L.ext ≤ 1000000000) ∧ L.es.any badE = false := by
  simp only [Ls.may, Bool.and_eq_true, decide_eq_true_eq, Bool.not_eq_true']
  constructor
  · rintro ⟨⟨⟨⟨⟨⟨⟨⟨h1, h2⟩, h3⟩, h4⟩, h5⟩, h6⟩, h7⟩, h8⟩, h9⟩
    exact ⟨⟨h1, h2⟩, ⟨h3, h4⟩, ⟨h5, h6⟩, ⟨h7, h8⟩, h9⟩
  · rintro ⟨⟨h1, h2⟩, ⟨h3, h4⟩, ⟨h5, h6⟩, ⟨h7, h8⟩, h9⟩
    exact ⟨⟨⟨⟨⟨⟨⟨⟨h1, h2⟩, h3⟩, h4⟩, h5⟩, h6⟩, h7⟩, h8⟩, h9⟩
end Go.Proofs.Ytmacdghkbmjdmaa
