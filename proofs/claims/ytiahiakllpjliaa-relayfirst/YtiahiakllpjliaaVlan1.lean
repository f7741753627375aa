/-
  A table of VLANs in memory ('Vt'), and the contracts of its small calls. Conditions: those that each theorem names.
-/
import Derived.Test.YtiahiakllpjliaaGMap
import Derived.Test.YtiahiakllpjliaaSls
import Derived.Test.YtiahiakllpjliaaLawsC
namespace Go.Proofs.Ytiahiakllpjliaa
open Go.RowKit Go.Maps
set_option linter.unusedVariables false
set_option maxRecDepth 20000

/-- What a port asks of frames. -/
structure Pv where
  (acc pvid pcp : Int) (flt : Bool)
@[reducible] def Pv.zero : Pv := ⟨0, 0, 0, false⟩
@[reducible] def fPv (p : Pv) : List Value := [.int .i64 p.acc, .int .i64 p.pvid, .int .i64 p.pcp, .bool p.flt]
theorem wide_Pv : Wide fPv 4 := ⟨fun _ => rfl, fun x u hu => by simp at hu; rcases hu with rfl | rfl | rfl | rfl <;> rfl⟩
@[reducible] def twoV (p : Int × Int) : Value := .agg #[.int .i64 p.1, .int .i64 p.2]
/-- The map of groups by numbers. -/
@[reducible] def gT : MT Int (Int × Int) :=
  { t := 101, k := 3, e := 105, R := twoElem, kv := .int .i64, kl := .int .i64, okk := I64, ev := twoV, ed := fun p => .agg [.lit (.int .i64 p.1), .lit (.int .i64 p.2)], oka := fun _ => True, d0 := (0, 0) }
theorem gT_good : gT.Good Try.prog where
  ht := Try.underlying101
  keyed := int_keyed Try.underlying3
  kmk k hk := keyOf_int_mk Try.underlying3 (wfI hk.1 hk.2)
  kinv := kinv_int Try.underlying3
  kinj a b _ _ h := by simpa using h
  emk a _ := rfl
  einv v y h := by obtain ⟨p, h1, h2⟩ := twoElem_inv v y h; exact ⟨p, trivial, h1, h2⟩
  einj a b h := by
    simp only [DataW.agg.injEq, List.cons.injEq, DataW.lit.injEq, Lit.int.injEq, true_and, and_true] at h
    exact Prod.ext h.1 h.2
  zero w := by kernel_rfl
  zok := trivial
/-- A table in memory: its own cells lie in block g, its ports in pb, its VLANs in mb. -/
structure Vt (w : World) (g pb mb : Nat) (ps : List Pv) (f : Int → Option (Int × Int)) (c : Nat) : Prop where
  few : ps.length ≤ 16
  at_g : w.heap[g]? = some (.cells #[.slice (some ⟨pb, 0, none⟩) ps.length ps.length, .map (some mb)] 103 (0, 0))
  fl : Fl w pb 82 fPv ps []
  mp : Mp Try.prog gT w mb c f
  ne : g ≠ pb ∧ g ≠ mb ∧ pb ≠ mb
section
variable {w : World} {g pb mb c : Nat} {ps : List Pv} {f : Int → Option (Int × Int)}
theorem Vt.c0 (h : Vt w g pb mb ps f c) : w.cell? ⟨g, 0, none⟩ = some (.slice (some ⟨pb, 0, none⟩) ps.length ps.length) := cell_of_row _ _ _ _ _ _ h.at_g
theorem Vt.c1 (h : Vt w g pb mb ps f c) : w.cell? ⟨g, 1, none⟩ = some (.map (some mb)) := cell_of_row _ _ _ _ _ _ h.at_g
theorem Vt.lt (h : Vt w g pb mb ps f c) : g < w.heap.size ∧ pb < w.heap.size ∧ mb < w.heap.size := ⟨(Array.getElem?_eq_some_iff.1 h.at_g).1, h.fl.lt, h.mp.lt⟩
theorem Vt.blk (h : Vt w g pb mb ps f c) {w' : World} (hb : ∀ k, k = g ∨ k = pb ∨ k = mb → w'.heap[k]? = w.heap[k]?) : Vt w' g pb mb ps f c :=
  ⟨h.few, by rw [hb g (.inl rfl)]; exact h.at_g, h.fl.blk (hb pb (.inr (.inl rfl))), h.mp.blk (hb mb (.inr (.inr rfl))), h.ne⟩
theorem Vt.below (h : Vt w g pb mb ps f c) {w' : World} (hb : Below w.heap.size w w') : Vt w' g pb mb ps f c :=
  h.blk fun k hk => hb.block k (by
    have := h.lt
    rcases hk with rfl | rfl | rfl
    · exact this.1
    · exact this.2.1
    · exact this.2.2)
end
def vidB (v : Int) : Bool := decide (1 ≤ v) && decide (v ≤ 4094)
theorem isVid_any (v : Int) (w : World) : Calls Try.prog 45 #[.int .i64 v] w fun r w' => r = .returned (.bool (vidB v)) ∧ w' = w := by
  unfold vidB
  by_cases h : 1 ≤ v
  · go_enter Try.func45, Try.ntmps45
    go_wp2
    go_ret
    exact ⟨by simp [h], rfl⟩
  · go_enter Try.func45, Try.ntmps45
    go_wp2
    go_ret
    exact ⟨by rw [decide_eq_false (show ¬ 1 ≤ v by omega)]; rfl, rfl⟩
def allN (n : Nat) : Int := 2 ^ n - 1
theorem allN_wrap {n : Nat} (h : n ≤ 16) : wrap64 (wrap64 (2 ^ n) - 1) = allN n := by
  have h1 : (2 : Int) ^ n ≤ 2 ^ 16 := by exact_mod_cast Nat.pow_le_pow_right (by decide) h
  have h2 : (0 : Int) < 2 ^ n := by exact_mod_cast Nat.two_pow_pos n
  have h3 : (2 : Int) ^ 16 = 65536 := by decide
  unfold allN
  rw [h3] at h1
  generalize (2 : Int) ^ n = x at *
  rw [IntWalk.wrap64_in x (by omega), IntWalk.wrap64_in _ (by omega)]
theorem all_any {w : World} {g pb mb c : Nat} {ps : List Pv} {f : Int → Option (Int × Int)} (h : Vt w g pb mb ps f c) :
    Calls Try.prog 46 #[.pointer (some ⟨g, 0, none⟩)] w fun r w' => r = .returned (.int .i64 (allN ps.length)) ∧ w' = w := by
  have hg := h.c0
  have hf := h.few
  clear h
  generalize ps.length = n at *
  go_enter Try.func46, Try.ntmps46
  go_wp2
  go_ret
  refine ⟨?_, rfl⟩
  rw [← allN_wrap hf]
  rfl
def hasP (n : Nat) (p : Int) : Bool := decide (0 ≤ p) && decide (p < n)
theorem vhas_any {w : World} {g pb mb c : Nat} {ps : List Pv} {f : Int → Option (Int × Int)} (h : Vt w g pb mb ps f c) (p : Int) :
    Calls Try.prog 58 #[.pointer (some ⟨g, 0, none⟩), .int .i64 p] w fun r w' => r = .returned (.bool (hasP ps.length p)) ∧ w' = w := by
  have hg := h.c0
  have hf := h.few
  clear h
  generalize ps.length = n at *
  unfold hasP
  by_cases h : 0 ≤ p
  · go_enter Try.func58, Try.ntmps58
    go_wp2
    go_ret
    exact ⟨by simp [h], rfl⟩
  · go_enter Try.func58, Try.ntmps58
    go_wp2
    go_ret
    exact ⟨by rw [decide_eq_false (show ¬ 0 ≤ p by omega)]; rfl, rfl⟩
theorem Ports_any {w : World} {g pb mb c : Nat} {ps : List Pv} {f : Int → Option (Int × Int)} (h : Vt w g pb mb ps f c) :
    Calls Try.prog 34 #[.pointer (some ⟨g, 0, none⟩)] w fun r w' => r = .returned (.int .i64 ps.length) ∧ w' = w := by
  have hg := h.c0
  clear h
  generalize ps.length = n at *
  go_enter Try.func34, Try.ntmps34
  go_wp2
  go_ret
  exact ⟨rfl, rfl⟩
theorem grp_0 (a b : Int) (w : World) : (Instr.field 105 (.agg #[.int .i64 a, .int .i64 b]) 0).run Try.prog w = .ok (.int .i64 a) w := by
  simp [Instr.field, run_underlying Try.underlying105, go_sem, asAgg]
theorem grp_1 (a b : Int) (w : World) : (Instr.field 105 (.agg #[.int .i64 a, .int .i64 b]) 1).run Try.prog w = .ok (.int .i64 b) w := by
  simp [Instr.field, run_underlying Try.underlying105, go_sem, asAgg]
def memN (f : Int → Option (Int × Int)) (v : Int) : Int := ((f v).getD (0, 0)).1
def plnN (f : Int → Option (Int × Int)) (v : Int) : Int := ((f v).getD (0, 0)).2
theorem Members_any {w : World} {g pb mb c : Nat} {ps : List Pv} {f : Int → Option (Int × Int)} (h : Vt w g pb mb ps f c) (v : Int) (hv : I64 v) :
    Calls Try.prog 72 #[.pointer (some ⟨g, 0, none⟩), .int .i64 v] w fun r w' => r = .returned (.int .i64 (memN f v)) ∧ w' = w := by
  have hg := h.c1
  have hL : (Instr.lookup 101 (.map (some mb)) (.int .i64 v) false).run Try.prog w = .ok (twoV ((f v).getD (0, 0))) w := h.mp.look gT_good v hv
  unfold memN
  generalize (f v).getD (0, 0) = q at *
  obtain ⟨a, b⟩ := q
  dsimp only [twoV] at hL
  have hF := grp_0 a b
  clear h hv
  go_enter Try.func72, Try.ntmps72
  go_wp2
  go_ret
  exact ⟨rfl, rfl⟩
/-- Bit p of x. -/
def bitAt (x p : Int) : Bool := bits .and .i64 (x / 2 ^ p.toNat) 1 == 1
theorem Member_any {w : World} {g pb mb c : Nat} {ps : List Pv} {f : Int → Option (Int × Int)} (h : Vt w g pb mb ps f c) (v p : Int) (hv : I64 v) :
    Calls Try.prog 61 #[.pointer (some ⟨g, 0, none⟩), .int .i64 v, .int .i64 p] w fun r w' => r = .returned (.bool (hasP ps.length p && bitAt (memN f v) p)) ∧ w' = w := by
  have hH := hide (vhas_any h p)
  have hM := hide (Members_any h v hv)
  have hf := h.few
  have hp : hasP ps.length p = true → 0 ≤ p ∧ p < 16 := fun e => by simp [hasP] at e; omega
  generalize memN f v = x at *
  generalize hasP ps.length p = b at *
  clear h hv hf
  cases b
  · clear hM hp
    go_enter Try.func61, Try.ntmps61
    go_wp2_with (go_at_call 58; refine hH.out.mono ?_; rintro e w' ⟨rfl, rfl⟩)
    go_ret
    exact ⟨rfl, rfl⟩
  · obtain ⟨hp0, hp1⟩ := hp rfl
    clear hp
    go_enter Try.func61, Try.ntmps61
    go_wp2_with (first | (go_at_call 58; refine hH.out.mono ?_; rintro e w' ⟨rfl, rfl⟩) | (go_at_call 72; refine hM.out.mono ?_; rintro e w' ⟨rfl, rfl⟩))
    go_ret
    exact ⟨rfl, rfl⟩
def mayB (p : Pv) : Bool := decide (0 ≤ p.acc) && decide (p.acc ≤ 2) && vidB p.pvid && decide (0 ≤ p.pcp) && decide (p.pcp ≤ 7)
end Go.Proofs.Ytiahiakllpjliaa
