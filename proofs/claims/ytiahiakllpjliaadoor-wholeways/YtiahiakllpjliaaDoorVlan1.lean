import Derived.Test.YtiahiakllpjliaaDoorGMap
import Derived.Test.YtiahiakllpjliaaDoorSls
import Derived.Test.YtiahiakllpjliaaDoorLawsC
/-
  A table of VLANs in memory ('Vt'), and the contracts of its small calls. Conditions: those that each theorem names.
-/
namespace Go.Proofs.YtiahiakllpjliaaDoor
open Go.RowKit Go.Maps
set_option linter.unusedVariables false
set_option maxRecDepth 20000

/-- What a port asks of frames. -/
structure Pv where
  (acc pvid pcp : Int) (flt : Bool)
@[reducible] def Pv.zero : Pv := ⟨0, 0, 0, false⟩
@[reducible] def fPv (p : Pv) : List Value := [.int .i64 p.acc, .int .i64 p.pvid, .int .i64 p.pcp, .bool p.flt]
theorem wide_Pv : WideF fPv 4 := ⟨fun _ => rfl, fun x u hu => by simp at hu; rcases hu with rfl | rfl | rfl | rfl <;> rfl⟩
@[reducible] def twoV (p : Int × Int) : Value := .agg #[.int .i64 p.1, .int .i64 p.2]
/-- The map of groups by numbers. -/
@[reducible] def gT : MT Int (Int × Int) :=
  { t := 66, k := 3, e := 70, R := twoElem, kv := .int .i64, kl := .int .i64, okk := I64G, ev := twoV, ed := fun p => .agg [.lit (.int .i64 p.1), .lit (.int .i64 p.2)], oka := fun _ => True, d0 := (0, 0) }
theorem gT_good : gT.Good Tryd.prog where
  ht := Tryd.underlying66
  keyed := int_keyed Tryd.underlying3
  kmk k hk := keyOf_int_mk Tryd.underlying3 (wfI hk.1 hk.2)
  kinv := kinv_int Tryd.underlying3
  kinj a b _ _ h := by simpa using h
  emk a _ := rfl
  einv v y h := by obtain ⟨p, h1, h2⟩ := twoElem_inv v y h; exact ⟨p, trivial, h1, h2⟩
  einj a b h := by
    simp only [DataW.agg.injEq, List.cons.injEq, DataW.lit.injEq, Lit.int.injEq, true_and, and_true] at h
    exact Prod.ext h.1 h.2
  zero w := by kernel_rfl
  zok := trivial
/-- A table in memory: its own cells lie in block g, its ports in pb, its VLANs in mb. -/
structure Vt (w : World) (g pb mb : Nat) (ps : List Pv) (f : Int → Option (Int × Int)) (c : Nat) : Prop where
  few : ps.length ≤ 16
  at_g : w.heap[g]? = some (.cells #[.slice (some ⟨pb, 0, none⟩) ps.length ps.length, .map (some mb)] 68 (0, 0))
  fl : Fl w pb 85 fPv ps []
  mp : Mp Tryd.prog gT w mb c f
  ne : g ≠ pb ∧ g ≠ mb ∧ pb ≠ mb
section
variable {w : World} {g pb mb c : Nat} {ps : List Pv} {f : Int → Option (Int × Int)}
theorem Vt.c0 (h : Vt w g pb mb ps f c) : w.cell? ⟨g, 0, none⟩ = some (.slice (some ⟨pb, 0, none⟩) ps.length ps.length) := cell_of_row _ _ _ _ _ _ h.at_g
theorem Vt.c1 (h : Vt w g pb mb ps f c) : w.cell? ⟨g, 1, none⟩ = some (.map (some mb)) := cell_of_row _ _ _ _ _ _ h.at_g
theorem Vt.lt (h : Vt w g pb mb ps f c) : g < w.heap.size ∧ pb < w.heap.size ∧ mb < w.heap.size := ⟨(Array.getElem?_eq_some_iff.1 h.at_g).1, h.fl.lt, h.mp.lt⟩
theorem Vt.blk (h : Vt w g pb mb ps f c) {w' : World} (hb : ∀ k, k = g ∨ k = pb ∨ k = mb → w'.heap[k]? = w.heap[k]?) : Vt w' g pb mb ps f c :=
  ⟨h.few, by rw [hb g (.inl rfl)]; exact h.at_g, h.fl.blk (hb pb (.inr (.inl rfl))), h.mp.blk (hb mb (.inr (.inr rfl))), h.ne⟩
theorem Vt.below (h : Vt w g pb mb ps f c) {w' : World} (hb : Below w.heap.size w w') : Vt w' g pb mb ps f c :=
  h.blk fun k hk => hb.block k (by
    have := h.lt
    rcases hk with rfl | rfl | rfl
    · exact this.1
    · exact this.2.1
    · exact this.2.2)
end
def vidB (v : Int) : Bool := decide (1 ≤ v) && decide (v ≤ 4094)
theorem isVid_any (v : Int) (w : World) : Calls Tryd.prog 22 #[.int .i64 v] w fun r w' => r = .returned (.bool (vidB v)) ∧ w' = w := by
  unfold vidB
  by_cases h : 1 ≤ v
  · go_enter Tryd.func22, Tryd.ntmps22
    go_wp2
    go_ret
    exact ⟨by simp [h], rfl⟩
  · go_enter Tryd.func22, Tryd.ntmps22
    go_wp2
    go_ret
    exact ⟨by rw [decide_eq_false (show ¬ 1 ≤ v by omega)]; rfl, rfl⟩
def allN (n : Nat) : Int := 2 ^ n - 1
theorem allN_wrap {n : Nat} (h : n ≤ 16) : wrap64 (wrap64 (2 ^ n) - 1) = allN n := by
  have h1 : (2 : Int) ^ n ≤ 2 ^ 16 := by exact_mod_cast Nat.pow_le_pow_right (by decide) h
  have h2 : (0 : Int) < 2 ^ n := by exact_mod_cast Nat.two_pow_pos n
  have h3 : (2 : Int) ^ 16 = 65536 := by decide
  unfold allN
  rw [h3] at h1
  generalize (2 : Int) ^ n = x at *
  rw [IntWalk.wrap64_in x (by omega), IntWalk.wrap64_in _ (by omega)]
theorem all_any {w : World} {g pb mb c : Nat} {ps : List Pv} {f : Int → Option (Int × Int)} (h : Vt w g pb mb ps f c) :
    Calls Tryd.prog 23 #[.pointer (some ⟨g, 0, none⟩)] w fun r w' => r = .returned (.int .i64 (allN ps.length)) ∧ w' = w := by
  have hg := h.c0
  have hf := h.few
  clear h
  generalize ps.length = n at *
  go_enter Tryd.func23, Tryd.ntmps23
  go_wp2
  go_ret
  refine ⟨?_, rfl⟩
  rw [← allN_wrap hf]
  rfl
def hasP (n : Nat) (p : Int) : Bool := decide (0 ≤ p) && decide (p < n)
theorem vhas_any {w : World} {g pb mb c : Nat} {ps : List Pv} {f : Int → Option (Int × Int)} (h : Vt w g pb mb ps f c) (p : Int) :
    Calls Tryd.prog 59 #[.pointer (some ⟨g, 0, none⟩), .int .i64 p] w fun r w' => r = .returned (.bool (hasP ps.length p)) ∧ w' = w := by
  have hg := h.c0
  have hf := h.few
  clear h
  generalize ps.length = n at *
  unfold hasP
  by_cases h : 0 ≤ p
  · go_enter Tryd.func59, Tryd.ntmps59
    go_wp2
    go_ret
    exact ⟨by simp [h], rfl⟩
  · go_enter Tryd.func59, Tryd.ntmps59
    go_wp2
    go_ret
    exact ⟨by rw [decide_eq_false (show ¬ 0 ≤ p by omega)]; rfl, rfl⟩
theorem Ports_any {w : World} {g pb mb c : Nat} {ps : List Pv} {f : Int → Option (Int × Int)} (h : Vt w g pb mb ps f c) :
    Calls Tryd.prog 14 #[.pointer (some ⟨g, 0, none⟩)] w fun r w' => r = .returned (.int .i64 ps.length) ∧ w' = w := by
  have hg := h.c0
  clear h
  generalize ps.length = n at *
  go_enter Tryd.func14, Tryd.ntmps14
  go_wp2
  go_ret
  exact ⟨rfl, rfl⟩
theorem grp_0 (a b : Int) (w : World) : (Instr.field 70 (.agg #[.int .i64 a, .int .i64 b]) 0).run Tryd.prog w = .ok (.int .i64 a) w := by
  simp [Instr.field, run_underlying Tryd.underlying70, go_sem, asAgg]
theorem grp_1 (a b : Int) (w : World) : (Instr.field 70 (.agg #[.int .i64 a, .int .i64 b]) 1).run Tryd.prog w = .ok (.int .i64 b) w := by
  simp [Instr.field, run_underlying Tryd.underlying70, go_sem, asAgg]
def memN (f : Int → Option (Int × Int)) (v : Int) : Int := ((f v).getD (0, 0)).1
def plnN (f : Int → Option (Int × Int)) (v : Int) : Int := ((f v).getD (0, 0)).2
theorem Members_any {w : World} {g pb mb c : Nat} {ps : List Pv} {f : Int → Option (Int × Int)} (h : Vt w g pb mb ps f c) (v : Int) (hv : I64G v) :
    Calls Tryd.prog 70 #[.pointer (some ⟨g, 0, none⟩), .int .i64 v] w fun r w' => r = .returned (.int .i64 (memN f v)) ∧ w' = w := by
  have hg := h.c1
  have hL : (Instr.lookup 66 (.map (some mb)) (.int .i64 v) false).run Tryd.prog w = .ok (twoV ((f v).getD (0, 0))) w := h.mp.look gT_good v hv
  unfold memN
  generalize (f v).getD (0, 0) = q at *
  obtain ⟨a, b⟩ := q
  dsimp only [twoV] at hL
  have hF := grp_0 a b
  clear h hv
  go_enter Tryd.func70, Tryd.ntmps70
  go_wp2
  go_ret
  exact ⟨rfl, rfl⟩
theorem Plain_any {w : World} {g pb mb c : Nat} {ps : List Pv} {f : Int → Option (Int × Int)} (h : Vt w g pb mb ps f c) (v : Int) (hv : I64G v) :
    Calls Tryd.prog 52 #[.pointer (some ⟨g, 0, none⟩), .int .i64 v] w fun r w' => r = .returned (.int .i64 (plnN f v)) ∧ w' = w := by
  have hg := h.c1
  have hL : (Instr.lookup 66 (.map (some mb)) (.int .i64 v) false).run Tryd.prog w = .ok (twoV ((f v).getD (0, 0))) w := h.mp.look gT_good v hv
  unfold plnN
  generalize (f v).getD (0, 0) = q at *
  obtain ⟨a, b⟩ := q
  dsimp only [twoV] at hL
  have hF := grp_1 a b
  clear h hv
  go_enter Tryd.func52, Tryd.ntmps52
  go_wp2
  go_ret
  exact ⟨rfl, rfl⟩
/-- Bit p of x. -/
def bitAt (x p : Int) : Bool := bits .and .i64 (x / 2 ^ p.toNat) 1 == 1
theorem Member_any {w : World} {g pb mb c : Nat} {ps : List Pv} {f : Int → Option (Int × Int)} (h : Vt w g pb mb ps f c) (v p : Int) (hv : I64G v) :
    Calls Tryd.prog 51 #[.pointer (some ⟨g, 0, none⟩), .int .i64 v, .int .i64 p] w fun r w' => r = .returned (.bool (hasP ps.length p && bitAt (memN f v) p)) ∧ w' = w := by
  have hH := hide (vhas_any h p)
  have hM := hide (Members_any h v hv)
  have hf := h.few
  have hp : hasP ps.length p = true → 0 ≤ p ∧ p < 16 := fun e => by simp [hasP] at e; omega
  generalize memN f v = x at *
  generalize hasP ps.length p = b at *
  clear h hv hf
  cases b
  · clear hM hp
    go_enter Tryd.func51, Tryd.ntmps51
    go_wp2_with (go_at_call 59; refine hH.out.mono ?_; rintro e w' ⟨rfl, rfl⟩)
    go_ret
    exact ⟨rfl, rfl⟩
  · obtain ⟨hp0, hp1⟩ := hp rfl
    clear hp
    go_enter Tryd.func51, Tryd.ntmps51
    go_wp2_with (first | (go_at_call 59; refine hH.out.mono ?_; rintro e w' ⟨rfl, rfl⟩) | (go_at_call 70; refine hM.out.mono ?_; rintro e w' ⟨rfl, rfl⟩))
    go_ret
    exact ⟨rfl, rfl⟩
def mayB (p : Pv) : Bool := decide (0 ≤ p.acc) && decide (p.acc ≤ 2) && vidB p.pvid && decide (0 ≤ p.pcp) && decide (p.pcp ≤ 7)
end Go.Proofs.YtiahiakllpjliaaDoor

/-
  Contracts of the table's other calls: SetPort, Set, New, Classify. Conditions: those that each theorem names.
-/
namespace Go.Proofs.YtiahiakllpjliaaDoor
open Go.RowKit Go.Maps
set_option linter.unusedVariables false
set_option maxRecDepth 20000

def takesB (p : Pv) (n : Bool) : Bool := if p.acc = 1 then n else if p.acc = 2 then !n else true
theorem takes_any (p : Pv) (n : Bool) (w : World) : Calls Tryd.prog 60 #[.agg (fPv p).toArray, .bool n] w fun r w' => r = .returned (.bool (takesB p n)) ∧ Below w.heap.size w w' := by
  obtain ⟨a, v, q, fl⟩ := p
  unfold takesB
  dsimp only [fPv]
  have hB : Hid (∀ o, Below w.heap.size w (w.alloc o)) := fun o => below1 w o
  by_cases h1 : a = 1
  · subst h1
    rw [if_pos rfl]
    go_enter Tryd.func60, Tryd.ntmps60
    go_wp2
    go_ret
    exact ⟨rfl, hB.out _⟩
  · rw [if_neg h1]
    by_cases h2 : a = 2
    · subst h2
      rw [if_pos rfl]
      go_enter Tryd.func60, Tryd.ntmps60
      go_wp2
      go_ret
      exact ⟨rfl, hB.out _⟩
    · rw [if_neg h2]
      go_enter Tryd.func60, Tryd.ntmps60
      go_wp2
      go_ret
      exact ⟨rfl, hB.out _⟩
theorem pvSize (p : Pv) : (Tryd.prog.info? 85).map (·.size) = some (fPv p).toArray.size := by kernel_rfl
theorem pv_all (p : Pv) : (fPv p).toArray.all (·.oneCell') = true := by simp [Value.oneCell']
/-- What SetPort answers. -/
def spE (n : Nat) (i : Int) (p : Pv) : Bool := hasP n i && mayB p
section
variable {w : World} {g pb mb c : Nat} {ps : List Pv} {f : Int → Option (Int × Int)}
theorem Vt.setPort (h : Vt w g pb mb ps f c) (k : Nat) (hk : k < ps.length) (p : Pv) : Vt (w.setCells pb (k * 4) (fPv p)) g pb mb (ps.set k p) f c ∧ Ch (· = pb) w (w.setCells pb (k * 4) (fPv p)) := by
  have hn := h.ne
  have ho := fun k (e : k ≠ pb) => heap_setCells_other pb (fPv p) (k := k) (w := w) (o := 0)
  refine ⟨⟨by rw [List.length_set]; exact h.few, ?_, h.fl.setn wide_Pv Pv.zero k 0 (fPv p) p hk (by simp) rfl, h.mp.blk (heap_setCells_other pb _ _ _ mb (Ne.symm hn.2.2)), hn⟩, Ch.setCells _ _ _ _⟩
  rw [heap_setCells_other pb _ _ _ g hn.1, List.length_set]
  exact h.at_g
end
end Go.Proofs.YtiahiakllpjliaaDoor

/-
  Contracts of the table's Set and Classify. Conditions: those that each theorem names.
-/
namespace Go.Proofs.YtiahiakllpjliaaDoor
open Go.RowKit Go.Maps
set_option linter.unusedVariables false
set_option maxRecDepth 20000

/-- May these be a VLAN's members? -/
def setB (n : Nat) (v m p : Int) : Bool := vidB v && (bits .andNot .i64 m (allN n) == 0) && (bits .andNot .i64 p m == 0)
section
variable {w : World} {g pb mb c : Nat} {ps : List Pv} {f : Int → Option (Int × Int)}
theorem Set_bad (h : Vt w g pb mb ps f c) (v m p : Int) (hE : setB ps.length v m p = false) :
    Calls Tryd.prog 8 #[.pointer (some ⟨g, 0, none⟩), .int .i64 v, .int .i64 m, .int .i64 p] w fun r w' => r = .returned (.int .i64 1) ∧ w' = w := by
  have hV := hide (isVid_any v w)
  have hA := hide (all_any h)
  unfold setB at hE
  clear h
  generalize allN ps.length = M at *
  generalize vidB v = b at *
  cases b
  · clear hE hA
    go_enter Tryd.func8, Tryd.ntmps8
    go_wp2_with (go_at_call 22; refine hV.out.mono ?_; rintro e w' ⟨rfl, rfl⟩)
    go_ret
    exact ⟨rfl, rfl⟩
  · rw [Bool.true_and] at hE
    by_cases h1 : bits .andNot .i64 m M = 0
    · rw [h1] at hE
      have h2 : (bits .andNot .i64 p m == 0) = false := by simpa using hE
      clear hE
      go_enter Tryd.func8, Tryd.ntmps8
      go_wp2_with (first | (go_at_call 22; refine hV.out.mono ?_; rintro e w' ⟨rfl, rfl⟩) | (go_at_call 23; refine hA.out.mono ?_; rintro e w' ⟨rfl, rfl⟩))
      go_ret
      exact ⟨rfl, rfl⟩
    · clear hE
      have h2 : (bits .andNot .i64 m M == 0) = false := by simpa using h1
      go_enter Tryd.func8, Tryd.ntmps8
      go_wp2_with (first | (go_at_call 22; refine hV.out.mono ?_; rintro e w' ⟨rfl, rfl⟩) | (go_at_call 23; refine hA.out.mono ?_; rintro e w' ⟨rfl, rfl⟩))
      go_ret
      exact ⟨rfl, rfl⟩
theorem Vt.map (h : Vt w g pb mb ps f c) {w' : World} {c' : Nat} {f' : Int → Option (Int × Int)} (hg : w.grownBy w' (some mb)) (hm : Mp Tryd.prog gT w' mb c' f') : Vt w' g pb mb ps f' c' :=
  ⟨h.few, by rw [hg.block g h.lt.1 (by simpa using h.ne.2.1)]; exact h.at_g, h.fl.blk (hg.block pb h.lt.2.1 (by simpa using h.ne.2.2)), hm, h.ne⟩
theorem vid_64 {v : Int} (h : vidB v = true) : I64G v := by
  simp [vidB] at h; exact ⟨by omega, by omega⟩
theorem Set_del (h : Vt w g pb mb ps f c) (v p : Int) (hE : setB ps.length v 0 p = true) :
    Calls Tryd.prog 8 #[.pointer (some ⟨g, 0, none⟩), .int .i64 v, .int .i64 0, .int .i64 p] w fun r w' => r = .returned (.int .i64 0) ∧ Vt w' g pb mb ps (updK f v none) (if (f v).isSome then c - 1 else c) ∧ Ch (· = mb) w w' := by
  have hV := hide (isVid_any v w)
  have hA := hide (all_any h)
  unfold setB at hE
  simp only [Bool.and_eq_true, beq_iff_eq] at hE
  obtain ⟨⟨h0, h1⟩, h2⟩ := hE
  obtain ⟨w', hr, hm, hgr⟩ := h.mp.del gT_good v (vid_64 h0) 0
  have hr' : (Builtin.delete_ #[66, 3] 0 #[.map (some mb), .int .i64 v]).run Tryd.prog w = .ok (.tuple #[]) w' := hr
  have hc1 := h.c1
  have hO := hide (h.map hgr hm)
  have hC := hide (Ch.of_grown hgr)
  rw [h0] at hV
  clear h hr hm hgr h0
  generalize allN ps.length = M at *
  generalize (if (f v).isSome then c - 1 else c) = c' at *
  go_enter Tryd.func8, Tryd.ntmps8
  go_wp2_with (first | (go_at_call 22; refine hV.out.mono ?_; rintro e w' ⟨rfl, rfl⟩) | (go_at_call 23; refine hA.out.mono ?_; rintro e w' ⟨rfl, rfl⟩))
  go_ret
  exact ⟨rfl, hO.out, hC.out⟩
theorem grpSize (q1 q2 : Int) : (Tryd.prog.info? 70).map (·.size) = some (#[Value.int .i64 q1, .int .i64 q2] : Array Value).size := by kernel_rfl
theorem Set_full (h : Vt w g pb mb ps f c) (v m p : Int) (hE : setB ps.length v m p = true) (hm : m ≠ 0) (hf : (f v).isSome = false) (hc : 64 ≤ c) (hc' : c ≤ 1000) :
    Calls Tryd.prog 8 #[.pointer (some ⟨g, 0, none⟩), .int .i64 v, .int .i64 m, .int .i64 p] w fun r w' => r = .returned (.int .i64 20) ∧ Below w.heap.size w w' := by
  have hV := hide (isVid_any v w)
  have hA := hide (all_any h)
  unfold setB at hE
  simp only [Bool.and_eq_true, beq_iff_eq] at hE
  obtain ⟨⟨h0, h1⟩, h2⟩ := hE
  have hL : (Instr.lookup 66 (.map (some mb)) (.int .i64 v) true).run Tryd.prog w = .ok (.tuple #[twoV ((f v).getD (0, 0)), .bool (f v).isSome]) w := h.mp.lookok gT_good v (vid_64 h0)
  have hH := hide h
  have hc1 := h.c1
  rw [hf] at hL
  rw [h0] at hV
  have hm' : (m == 0) = false := beq_eq_false_iff_ne.2 hm
  clear h h0
  generalize allN ps.length = M at *
  generalize (f v).getD (0, 0) = q at *
  obtain ⟨q1, q2⟩ := q
  dsimp only [twoV] at hL
  go_enter Tryd.func8, Tryd.ntmps8
  go_wp2_with (first | (go_at_call 22; refine hV.out.mono ?_; rintro e w' ⟨rfl, rfl⟩) | (go_at_call 23; refine hA.out.mono ?_; rintro e w' ⟨rfl, rfl⟩) | ((with_reducible change wpList _ _ _ _ _ _); refine stop_storeB 70 (.tmp 9) (.tmp 41) rfl ?_))
  refine hide (wpList_store_fresh rfl 70 (.tmp 9) (.tmp 41) rfl #[.int .i64 q1, .int .i64 q2] #[.int .i64 0, .int .i64 0] rfl rfl 70 (grpSize _ _) rfl (by simp [Value.oneCell']) ?_)
  intro w3 h3 hb3
  have hc1 := (hH.out.below hb3).c1
  have hN : (Builtin.len_ #[66] 3 #[.map (some mb)]).run Tryd.prog w3 = .ok (.int .i64 c) w3 := (hH.out.below hb3).mp.len gT_good _
  clear hH hL hA hV
  go_wp2
  go_ret
  exact ⟨rfl, hb3⟩
theorem Set_ok (h : Vt w g pb mb ps f c) (v m p : Int) (hE : setB ps.length v m p = true) (hm : m ≠ 0) (hf : (f v).isSome = true ∨ c < 64) (hc' : c ≤ 1000) :
    Calls Tryd.prog 8 #[.pointer (some ⟨g, 0, none⟩), .int .i64 v, .int .i64 m, .int .i64 p] w fun r w' => r = .returned (.int .i64 0) ∧ Vt w' g pb mb ps (updK f v (some (m, p))) (if (f v).isSome then c else c + 1) ∧ Ch (· = mb) w w' := by
  have hV := hide (isVid_any v w)
  have hA := hide (all_any h)
  unfold setB at hE
  simp only [Bool.and_eq_true, beq_iff_eq] at hE
  obtain ⟨⟨h0, h1⟩, h2⟩ := hE
  have hL : (Instr.lookup 66 (.map (some mb)) (.int .i64 v) true).run Tryd.prog w = .ok (.tuple #[twoV ((f v).getD (0, 0)), .bool (f v).isSome]) w := h.mp.lookok gT_good v (vid_64 h0)
  have hP : Hid (∀ w3, Below w.heap.size w w3 → ∃ w', (Instr.mapUpdate 66 (.map (some mb)) (.int .i64 v) (.agg #[.int .i64 m, .int .i64 p])).run Tryd.prog w3 = .ok () w' ∧ Vt w' g pb mb ps (updK f v (some (m, p))) (if (f v).isSome then c else c + 1) ∧ Ch (· = mb) w w') := by
    intro w3 hb3
    have h3 := h.below hb3
    obtain ⟨w', r1, r2, r3⟩ := h3.mp.put gT_good v (vid_64 h0) (m, p) trivial (by simp [maxLen]; omega)
    exact ⟨w', r1, h3.map r3 r2, (Ch.of_below hb3).trans (Ch.of_grown r3)⟩
  have hH := hide h
  have hc1 := h.c1
  rw [h0] at hV
  have hm' : (m == 0) = false := beq_eq_false_iff_ne.2 hm
  clear h h0
  generalize allN ps.length = M at *
  generalize (f v).getD (0, 0) = q at *
  obtain ⟨q1, q2⟩ := q
  dsimp only [twoV] at hL
  generalize (if (f v).isSome then c else c + 1) = c' at *
  generalize (f v).isSome = fv at *
  go_enter Tryd.func8, Tryd.ntmps8
  go_wp2_with (first | (go_at_call 22; refine hV.out.mono ?_; rintro e w' ⟨rfl, rfl⟩) | (go_at_call 23; refine hA.out.mono ?_; rintro e w' ⟨rfl, rfl⟩) | ((with_reducible change wpList _ _ _ _ _ _); refine stop_storeB 70 (.tmp 9) (.tmp 41) rfl ?_))
  refine hide (wpList_store_fresh rfl 70 (.tmp 9) (.tmp 41) rfl #[.int .i64 q1, .int .i64 q2] #[.int .i64 0, .int .i64 0] rfl rfl 70 (grpSize _ _) rfl (by simp [Value.oneCell']) ?_)
  intro w3 h3 hb3
  have hc1 := (hH.out.below hb3).c1
  have hN : (Builtin.len_ #[66] 3 #[.map (some mb)]).run Tryd.prog w3 = .ok (.int .i64 c) w3 := (hH.out.below hb3).mp.len gT_good _
  obtain ⟨w4, hU, hO, hC⟩ := hP.out w3 hb3
  replace hO := hide hO
  replace hC := hide hC
  clear hH hL hA hV hP hb3 h3
  cases fv
  · have hc64 : c < 64 := by simpa using hf
    clear hf
    go_wp2
    go_ret
    exact ⟨rfl, hO.out, hC.out⟩
  · clear hf
    go_wp2
    go_ret
    exact ⟨rfl, hO.out, hC.out⟩
end
end Go.Proofs.YtiahiakllpjliaaDoor
