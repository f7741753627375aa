/-
  Contracts of gate's Next, Start, first, Until, From. Conditions: those that each theorem names.
-/
import Derived.Test.YtmacdghkbmjdmaaGt4
namespace Go.Proofs.Ytmacdghkbmjdmaa
open Go.RowKit
set_option linter.unusedVariables false
set_option maxRecDepth 20000

theorem findL_in {c : Int} {p : Pi → Bool} : ∀ {es : List En} {b : Int} {q : Pi}, 0 ≤ b → (∀ e ∈ es, badE e = false) → findL c p b es = some q → (b ≤ q.b ∧ q.b < c) ∧ (q.e ≤ c) ∧ (0 ≤ q.op ∧ q.op ≤ 255) ∧ p q = true
  | [], b, q, hb, he, h => by simp [findL] at h
  | e :: r, b, q, hb, he, h => by
    have hbe := he e (by simp)
    have hbe' : ¬ (e.op < 0 ∨ 255 < e.op ∨ e.ns < 1 ∨ 1000000000 < e.ns) := by rw [← badE_iff, hbe]; simp
    rw [findL] at h
    by_cases h0 : c ≤ b
    · rw [if_pos h0] at h; simp at h
    · rw [if_neg h0] at h
      have hle : (if r.isEmpty = true then c else min (b + e.ns) c) ≤ c := by split <;> omega
      have hge : b ≤ (if r.isEmpty = true then c else min (b + e.ns) c) := by split <;> omega
      generalize (if r.isEmpty = true then c else min (b + e.ns) c) = en at *
      by_cases hp : p ⟨b, en, e.op⟩ = true
      · rw [if_pos hp] at h
        simp only [Option.some.injEq] at h
        subst h
        exact ⟨⟨Int.le_refl _, by show b < c; omega⟩, hle, ⟨by show 0 ≤ e.op; omega, by show e.op ≤ 255; omega⟩, hp⟩
      · rw [if_neg hp] at h
        have := findL_in (by omega) (fun e' he' => he e' (by simp [he'])) h
        exact ⟨⟨by omega, this.1.2⟩, this.2.1, this.2.2.1, this.2.2.2⟩
theorem Ls.good {L : Ls} (h : L.may = true) : ∀ e ∈ L.es, badE e = false := fun e he => by
  have := (List.any_eq_false.1 (L.may_iff.1 h).2.2.2.2) e he
  simpa using this
def nextN (L : Ls) (t : Int) : Int := if t < L.base then L.base else match findL L.cyc (fun q => decide (intoN L t < q.b)) 0 L.es with | none => t - intoN L t + L.cyc | some q => t - intoN L t + q.b
theorem intoN_in {L : Ls} (h : L.may = true) (t : Int) : 0 ≤ intoN L t ∧ intoN L t < L.cyc := by
  obtain ⟨-, -, ⟨y1, y2⟩, -, -⟩ := L.may_iff.1 h
  exact ⟨Int.emod_nonneg _ (by omega), Int.emod_lt_of_pos _ (by omega)⟩
set_option maxHeartbeats 4000000 in
theorem Next_any {L : Ls} {a : Option Addr} {cap : Nat} {w : World} (hE : Ent w a L.es) (hm : L.may = true) (t : Int) (ht2 : t ≤ 9223372034000000000) :
    Calls Try.prog 31 #[.agg (lRow L a L.es.length cap), .int .i64 t] w fun r w' => r = .returned (.int .i64 (nextN L t)) ∧ Below w.heap.size w w' := by
  have hb1 := below1 w (.cells (lRow L a L.es.length cap) 47)
  have hr1 := heap_alloc_new w (.cells (lRow L a L.es.length cap) 47)
  obtain ⟨-, ⟨a1, a2⟩, ⟨y1, y2⟩, -, -⟩ := L.may_iff.1 hm
  have hV : Hid (nextN L t = if t < L.base then L.base else match findL L.cyc (fun q => decide (intoN L t < q.b)) 0 L.es with | none => t - intoN L t + L.cyc | some q => t - intoN L t + q.b) := rfl
  generalize nextN L t = V at *
  have hz := lSize L a L.es.length cap
  have c0 : (w.alloc (.cells (lRow L a L.es.length cap) 47)).cell? ⟨w.heap.size, 0, none⟩ = some (.int .i64 L.base) := (cell_of_row _ _ _ _ _ _ hr1).trans rfl
  have hc1 : Hid (∀ w', Below (w.alloc (.cells (lRow L a L.es.length cap) 47)).heap.size (w.alloc (.cells (lRow L a L.es.length cap) 47)) w' → w'.cell? ⟨w.heap.size, 1, none⟩ = some (.int .i64 L.cyc)) := fun w' hb => (cell_of_row _ _ _ _ _ _ (heap_kept hb hr1)).trans rfl
  by_cases hlt : t < L.base
  · rw [if_pos hlt] at hV
    obtain rfl : V = L.base := hV.out
    clear hc1
    generalize lRow L a L.es.length cap = R at *
    generalize L.base = ba at *
    replace hb1 := hide hb1
    clear hr1 hV hE
    go_enter Try.func31, Try.ntmps31
    go_wp2
    go_ret
    exact ⟨rfl, hb1.out⟩
  rw [if_neg hlt] at hV
  have hin := hide (fun w => into_any L a L.es.length cap t w ⟨y1, y2⟩ a1 (by omega) (by omega))
  have hfi : Hid (∀ w', Below w.heap.size w w' → ∀ c, w'.cell? ⟨c, 0, none⟩ = some (.int .i64 (intoN L t)) → Calls Try.prog 36 #[.agg (lRow L a L.es.length cap), .func (.func 47) #[] #[.pointer (some ⟨c, 0, none⟩)]] w' fun r w'' => r = .returned (.tuple #[.agg (fPi ((findL L.cyc (fun q => decide (intoN L t < q.b)) 0 L.es).getD Pi.zero)).toArray, .bool (findL L.cyc (fun q => decide (intoN L t < q.b)) 0 L.es).isSome]) ∧ Below w'.heap.size w' w'') :=
    fun w' hb c hc => Find_any (hE.below hb (fun _ => by simp)) hm ⟨(next_cl hc).1, fun w'' h q _ => (next_cl hc).2 w'' h q trivial⟩
  obtain ⟨i1, i2⟩ := intoN_in hm t
  have hfb : Hid (∀ q, findL L.cyc (fun q => decide (intoN L t < q.b)) 0 L.es = some q → 0 ≤ q.b ∧ q.b < L.cyc) := fun q hq => by have := findL_in (Int.le_refl 0) (Ls.good hm) hq; omega
  generalize intoN L t = at0 at *
  generalize findL L.cyc (fun q => decide (at0 < q.b)) 0 L.es = FO at *
  generalize hR : lRow L a L.es.length cap = R at *
  clear hR hE hm
  replace hr1 := hide hr1
  replace hb1 := hide hb1
  generalize L.base = ba at *
  generalize L.cyc = cy at *
  go_enter Try.func31, Try.ntmps31
  go_wp2_with ((with_reducible change wpList _ _ _ _ _ _); refine wpList_load_row rfl 47 (.tmp 2) rfl w.heap.size rfl 47 _ _ _ hr1.out Try.underlying47 rfl hz ?_)
  refine (hin.out _).mono ?_
  rintro _ w2 ⟨rfl, hb2⟩
  generalize w.alloc (.cells R 47) = w1 at *
  have hr2 := heap_kept hb2 hr1.out
  have hbA := below1 w2 (.cells #[.int .i64 at0] 2)
  have hrA := hide (heap_kept hbA hr2)
  have hcA : Hid ((w2.alloc (.cells #[.int .i64 at0] 2)).cell? ⟨w2.heap.size, 0, none⟩ = some (.int .i64 at0)) := (cell_of_row _ _ _ _ _ _ (heap_alloc_new w2 _)).trans rfl
  have hb1A := hide (hb2.later hbA)
  have hF := hide (hfi.out _ (hb1.out.later hb1A.out) w2.heap.size hcA.out)
  clear hin hfi hr1 hr2 hb2 hbA c0
  go_wp2_with ((with_reducible change wpList _ _ _ _ _ _); refine wpList_load_row rfl 47 (.tmp 2) rfl w.heap.size rfl 47 _ _ _ hrA.out Try.underlying47 rfl hz ?_)
  refine hF.out.mono ?_
  rintro _ w3 ⟨rfl, hb3⟩
  have hc3 : Hid (w3.cell? ⟨w2.heap.size, 0, none⟩ = some (.int .i64 at0)) := (hb3.cell (p := ⟨w2.heap.size, 0, none⟩) (block_lt_of_cell hcA.out)).trans hcA.out
  have hB3 := hide (hb1A.out.later hb3)
  generalize w2.alloc (.cells #[.int .i64 at0] 2) = wA at *
  generalize w2.heap.size = C at *
  clear hrA hcA hF hb3 hb1A
  go_wp2_with ((with_reducible change wpList _ _ _ _ _ _); refine stop_storeB 69 (.tmp 6) (.tmp 21) rfl ?_)
  refine hide (wpList_store_fresh rfl 69 (.tmp 6) (.tmp 21) rfl (fPi (FO.getD Pi.zero)).toArray (fPi Pi.zero).toArray rfl rfl 69 (piSize _) rfl (pi_all _) ?_)
  intro w4 h4 hb4
  have d0 : w4.cell? ⟨w3.heap.size, 0, none⟩ = some (.int .i64 (FO.getD Pi.zero).b) := (cell_of_row _ _ _ _ _ _ h4).trans rfl
  have dC : w4.cell? ⟨C, 0, none⟩ = some (.int .i64 at0) := (hb4.cell (p := ⟨C, 0, none⟩) (block_lt_of_cell hc3.out)).trans hc3.out
  have hB4 := hB3.out.later hb4
  have dc := hc1.out w4 hB4
  have hBw := hide (hb1.out.later hB4)
  clear h4 hb4 hc3 hB3 hc1 hb1 hB4
  cases FO with
  | none =>
    obtain rfl : V = t - at0 + cy := hV.out
    go_wp2
    go_ret
    exact ⟨rfl, hBw.out⟩
  | some q =>
    obtain ⟨qb, qe, qo⟩ := q
    obtain rfl : V = t - at0 + qb := hV.out
    obtain ⟨q1, q2⟩ := hfb.out _ rfl
    simp only [Option.getD_some] at d0 q1 q2
    go_wp2
    go_ret
    exact ⟨rfl, hBw.out⟩
def startN (L : Ls) (t : Int) : Int := if t ≤ L.base then L.base else if intoN L t = 0 then t else t - intoN L t + L.cyc
theorem Start_any {L : Ls} {a : Option Addr} {cap : Nat} {w : World} (hm : L.may = true) (t : Int) (ht2 : t ≤ 9223372034000000000) :
    Calls Try.prog 28 #[.agg (lRow L a L.es.length cap), .int .i64 t] w fun r w' => r = .returned (.int .i64 (startN L t)) ∧ Below w.heap.size w w' := by
  have hb1 := below1 w (.cells (lRow L a L.es.length cap) 47)
  have hr1 := heap_alloc_new w (.cells (lRow L a L.es.length cap) 47)
  obtain ⟨-, ⟨a1, a2⟩, ⟨y1, y2⟩, -, -⟩ := L.may_iff.1 hm
  have hV : Hid (startN L t = if t ≤ L.base then L.base else if intoN L t = 0 then t else t - intoN L t + L.cyc) := rfl
  generalize startN L t = V at *
  have hz := lSize L a L.es.length cap
  have c0 : (w.alloc (.cells (lRow L a L.es.length cap) 47)).cell? ⟨w.heap.size, 0, none⟩ = some (.int .i64 L.base) := (cell_of_row _ _ _ _ _ _ hr1).trans rfl
  have hc1 : Hid (∀ w', Below (w.alloc (.cells (lRow L a L.es.length cap) 47)).heap.size (w.alloc (.cells (lRow L a L.es.length cap) 47)) w' → w'.cell? ⟨w.heap.size, 1, none⟩ = some (.int .i64 L.cyc)) := fun w' hb => (cell_of_row _ _ _ _ _ _ (heap_kept hb hr1)).trans rfl
  by_cases hlt : t ≤ L.base
  · rw [if_pos hlt] at hV
    obtain rfl : V = L.base := hV.out
    clear hc1
    generalize lRow L a L.es.length cap = R at *
    generalize L.base = ba at *
    replace hb1 := hide hb1
    clear hr1 hV
    go_enter Try.func28, Try.ntmps28
    go_wp2
    go_ret
    exact ⟨rfl, hb1.out⟩
  rw [if_neg hlt] at hV
  have hin := hide (fun w => into_any L a L.es.length cap t w ⟨y1, y2⟩ a1 (by omega) (by omega))
  obtain ⟨i1, i2⟩ := intoN_in hm t
  generalize intoN L t = at0 at *
  generalize hR : lRow L a L.es.length cap = R at *
  clear hR hm
  replace hr1 := hide hr1
  replace hb1 := hide hb1
  generalize L.base = ba at *
  generalize L.cyc = cy at *
  go_enter Try.func28, Try.ntmps28
  go_wp2_with ((with_reducible change wpList _ _ _ _ _ _); refine wpList_load_row rfl 47 (.tmp 2) rfl w.heap.size rfl 47 _ _ _ hr1.out Try.underlying47 rfl hz ?_)
  refine (hin.out _).mono ?_
  rintro _ w2 ⟨rfl, hb2⟩
  have dc := hc1.out w2 hb2
  have hBw := hide (hb1.out.later hb2)
  clear hin hr1 hb2 hc1 c0 hb1
  by_cases h0 : at0 = 0
  · subst h0
    obtain rfl : V = t := hV.out.trans (if_pos rfl)
    go_wp2
    go_ret
    exact ⟨rfl, hBw.out⟩
  · obtain rfl : V = t - at0 + cy := hV.out.trans (if_neg h0)
    have h0q : (at0 == 0) = false := by rw [beq_eq_false_iff_ne]; exact h0
    go_wp2
    go_ret
    exact ⟨rfl, hBw.out⟩
def secN (x : Int) (o : Option Pi) : Int := match o with | some q => x + q.b | none => -1
/-- The first time, from t on, whose set s tells; -1: there is none. -/
def firstN (L : Ls) (t : Int) (s : Int → Bool) : Int :=
  if t < L.base ∧ s 255 = true then t else
    match findL L.cyc (fun q => decide (intoN L (max t L.base) < q.e) && s q.op) 0 L.es with
    | some q => max t L.base - intoN L (max t L.base) + max q.b (intoN L (max t L.base))
    | none => secN (max t L.base - intoN L (max t L.base) + L.cyc) (findL L.cyc (fun q => s q.op) 0 L.es)
set_option maxHeartbeats 8000000 in
theorem first_any {L : Ls} {a : Option Addr} {cap : Nat} {w : World} {F : FuncId} {caps : Array Value} {s : Int → Bool} (hE : Ent w a L.es) (hm : L.may = true) (hs : OCl w F caps s (fun o => 0 ≤ o ∧ o ≤ 255)) (t : Int) (ht1 : -9223372036854775808 ≤ t) (ht2 : t ≤ 9223372034000000000) :
    Calls Try.prog 39 #[.agg (lRow L a L.es.length cap), .int .i64 t, .func (.func F) #[] caps] w fun r w' => r = .returned (.int .i64 (firstN L t s)) ∧ Below w.heap.size w w' := by
  have hb1 : Below w.heap.size w ((w.alloc (.cells (lRow L a L.es.length cap) 47)).alloc (.cells #[.func (.func F) #[] caps] 76)) := (below1 _ _).later (below1 _ _)
  have hr1 : ((w.alloc (.cells (lRow L a L.es.length cap) 47)).alloc (.cells #[.func (.func F) #[] caps] 76)).heap[w.heap.size]? = some (.cells (lRow L a L.es.length cap) 47 (0, 0)) := heap_kept (below1 _ _) (heap_alloc_new w _)
  have hs1 : ((w.alloc (.cells (lRow L a L.es.length cap) 47)).alloc (.cells #[.func (.func F) #[] caps] 76)).cell? ⟨w.heap.size + 1, 0, none⟩ = some (.func (.func F) #[] caps) := by
    have := heap_alloc_new (w.alloc (.cells (lRow L a L.es.length cap) 47)) (.cells #[.func (.func F) #[] caps] 76)
    rw [World.size_alloc] at this
    exact (cell_of_row _ _ _ _ _ _ this).trans rfl
  --BODY
  obtain ⟨-, ⟨a1, a2⟩, ⟨y1, y2⟩, -, -⟩ := L.may_iff.1 hm
  have hV : Hid (firstN L t s = if t < L.base ∧ s 255 = true then t else
      match findL L.cyc (fun q => decide (intoN L (max t L.base) < q.e) && s q.op) 0 L.es with
      | some q => max t L.base - intoN L (max t L.base) + max q.b (intoN L (max t L.base))
      | none => secN (max t L.base - intoN L (max t L.base) + L.cyc) (findL L.cyc (fun q => s q.op) 0 L.es)) := rfl
  generalize firstN L t s = V at *
  have hz := lSize L a L.es.length cap
  have c0 : ((w.alloc (.cells (lRow L a L.es.length cap) 47)).alloc (.cells #[.func (.func F) #[] caps] 76)).cell? ⟨w.heap.size, 0, none⟩ = some (.int .i64 L.base) := (cell_of_row _ _ _ _ _ _ hr1).trans rfl
  have hc1 : Hid (∀ w', Below ((w.alloc (.cells (lRow L a L.es.length cap) 47)).alloc (.cells #[.func (.func F) #[] caps] 76)).heap.size ((w.alloc (.cells (lRow L a L.es.length cap) 47)).alloc (.cells #[.func (.func F) #[] caps] 76)) w' → w'.cell? ⟨w.heap.size, 1, none⟩ = some (.int .i64 L.cyc)) := fun w' hb => (cell_of_row _ _ _ _ _ _ (heap_kept hb hr1)).trans rfl
  have hT : L.base ≤ max t L.base ∧ max t L.base ≤ 9223372034000000000 := by omega
  have hin := hide (fun w => into_any L a L.es.length cap (max t L.base) w ⟨y1, y2⟩ a1 hT.1 (by omega))
  have hf1 : Hid (∀ w', Below w.heap.size w w' → ∀ c x y, w'.cell? ⟨c, 0, none⟩ = some (.int .i64 (intoN L (max t L.base))) → w'.cell? ⟨x, 0, none⟩ = some (.func (.func 49) #[] #[.pointer (some ⟨c, 0, none⟩)]) → w'.cell? ⟨y, 0, none⟩ = some (.func (.func F) #[] caps) → Calls Try.prog 36 #[.agg (lRow L a L.es.length cap), .func (.func 50) #[] #[.pointer (some ⟨x, 0, none⟩), .pointer (some ⟨y, 0, none⟩)]] w' fun r w'' => r = .returned (.tuple #[.agg (fPi ((findL L.cyc (fun q => decide (intoN L (max t L.base) < q.e) && s q.op) 0 L.es).getD Pi.zero)).toArray, .bool (findL L.cyc (fun q => decide (intoN L (max t L.base) < q.e) && s q.op) 0 L.es).isSome]) ∧ Below w'.heap.size w' w'') :=
    fun w' hb c x y hc hx hy => Find_any (hE.below hb (fun _ => by simp)) hm (first1_cl hx hy (goes_cl hc) (hs.later hb))
  have hf2 : Hid (∀ w', Below w.heap.size w w' → ∀ y, w'.cell? ⟨y, 0, none⟩ = some (.func (.func F) #[] caps) → Calls Try.prog 36 #[.agg (lRow L a L.es.length cap), .func (.func 51) #[] #[.pointer (some ⟨y, 0, none⟩)]] w' fun r w'' => r = .returned (.tuple #[.agg (fPi ((findL L.cyc (fun q => s q.op) 0 L.es).getD Pi.zero)).toArray, .bool (findL L.cyc (fun q => s q.op) 0 L.es).isSome]) ∧ Below w'.heap.size w' w'') :=
    fun w' hb y hy => Find_any (hE.below hb (fun _ => by simp)) hm (first2_cl hy (hs.later hb))
  obtain ⟨i1, i2⟩ := intoN_in hm (max t L.base)
  have hb1f : Hid (∀ q, findL L.cyc (fun q => decide (intoN L (max t L.base) < q.e) && s q.op) 0 L.es = some q → 0 ≤ q.b ∧ q.b < L.cyc) := fun q hq => by have := (findL_in (Int.le_refl 0) (Ls.good hm) hq).1; omega
  have hb2f : Hid (∀ q, findL L.cyc (fun q => s q.op) 0 L.es = some q → 0 ≤ q.b ∧ q.b < L.cyc) := fun q hq => by have := (findL_in (Int.le_refl 0) (Ls.good hm) hq).1; omega
  have hsc := hide (hs.2 ((w.alloc (.cells (lRow L a L.es.length cap) 47)).alloc (.cells #[.func (.func F) #[] caps] 76)) hb1 255 (by decide))
  have hgo := hs.1
  have hmx : ∀ (ts : Array TypeId) (ty : TypeId) (w : World), (Builtin.max_ ts ty #[.int .i64 t, .int .i64 L.base]).run Try.prog w = .ok (.int .i64 (max t L.base)) w := fun ts ty w => by rw [Go.Lib.run_max_ints]
  generalize findL L.cyc (fun q => s q.op) 0 L.es = FO2 at *
  generalize findL L.cyc (fun q => decide (intoN L (max t L.base) < q.e) && s q.op) 0 L.es = FO1 at *
  generalize intoN L (max t L.base) = at0 at *
  generalize hTT : max t L.base = T at *
  replace hTT := hide hTT
  generalize hR : lRow L a L.es.length cap = R at *
  clear hR hE hm hs
  replace hr1 := hide hr1
  replace hs1 := hide hs1
  replace hb1 := hide hb1
  generalize L.base = ba at *
  generalize L.cyc = cy at *
  generalize s 255 = s255 at *
  go_enter Try.func39, Try.ntmps39
  by_cases hlt : t < ba
  rotate_left
  · have hcond : Hid (¬ (t < ba ∧ s255 = true)) := fun h => hlt h.1
    have hbv := hide (Below.refl ((w.alloc (.cells R 47)).alloc (.cells #[.func (.func F) #[] caps] 76)).heap.size ((w.alloc (.cells R 47)).alloc (.cells #[.func (.func F) #[] caps] 76)))
    clear hsc
    have hrv := hide (heap_kept hbv.out hr1.out)
    go_wp2_with ((with_reducible change wpList _ _ _ _ _ _); refine wpList_load_row rfl 47 (.tmp 3) rfl w.heap.size rfl 47 _ _ _ hrv.out Try.underlying47 rfl hz ?_)
    refine (hin.out _).mono ?_
    rintro _ w2 ⟨rfl, hb2⟩
    have hb2v := hide (hbv.out.later hb2)
    clear hin hrv hb2 hbv c0
    go_wp2_with fail
    refine (goesOn_any at0 _).mono ?_
    rintro _ w3 ⟨c, rfl, hcx, hb3⟩
    have hb3v := hide (hb2v.out.later hb3)
    have hbA := below1 w3 (.cells #[.func (.func 49) #[] #[.pointer (some ⟨c, 0, none⟩)]] 72)
    have hxA : Hid ((w3.alloc (.cells #[.func (.func 49) #[] #[.pointer (some ⟨c, 0, none⟩)]] 72)).cell? ⟨w3.heap.size, 0, none⟩ = some (.func (.func 49) #[] #[.pointer (some ⟨c, 0, none⟩)])) := (cell_of_row _ _ _ _ _ _ (heap_alloc_new w3 _)).trans rfl
    have hcA : Hid ((w3.alloc (.cells #[.func (.func 49) #[] #[.pointer (some ⟨c, 0, none⟩)]] 72)).cell? ⟨c, 0, none⟩ = some (.int .i64 at0)) := (hbA.cell (p := ⟨c, 0, none⟩) (block_lt_of_cell hcx)).trans hcx
    have hbAv := hide (hb3v.out.later hbA)
    have hrA := hide (heap_kept hbAv.out hr1.out)
    have hyA : Hid ((w3.alloc (.cells #[.func (.func 49) #[] #[.pointer (some ⟨c, 0, none⟩)]] 72)).cell? ⟨w.heap.size + 1, 0, none⟩ = some (.func (.func F) #[] caps)) := (hbAv.out.cell (p := ⟨w.heap.size + 1, 0, none⟩) (block_lt_of_cell hs1.out)).trans hs1.out
    have hF := hide (hf1.out _ (hb1.out.later hbAv.out) c w3.heap.size (w.heap.size + 1) hcA.out hxA.out hyA.out)
    clear hf1 hb2v hb3v hb3 hcx hbA hxA hcA hyA
    go_wp2_with ((with_reducible change wpList _ _ _ _ _ _); refine wpList_load_row rfl 47 (.tmp 3) rfl w.heap.size rfl 47 _ _ _ hrA.out Try.underlying47 rfl hz ?_)
    refine hF.out.mono ?_
    rintro _ w4 ⟨rfl, hb4⟩
    have hb4v := hide (hbAv.out.later hb4)
    clear hF hrA hb4 hbAv
    generalize w3.alloc (.cells #[.func (.func 49) #[] #[.pointer (some ⟨c, 0, none⟩)]] 72) = wA at *
    generalize w3.heap.size = X at *
    clear wA w3 w2
    go_wp2_with ((with_reducible change wpList _ _ _ _ _ _); refine stop_storeB 69 (.tmp 9) (.tmp 35) rfl ?_)
    refine hide (wpList_store_fresh rfl 69 (.tmp 9) (.tmp 35) rfl (fPi (FO1.getD Pi.zero)).toArray (fPi Pi.zero).toArray rfl rfl 69 (piSize _) rfl (pi_all _) ?_)
    intro w5 h5 hb5
    have d0 : w5.cell? ⟨w4.heap.size, 0, none⟩ = some (.int .i64 (FO1.getD Pi.zero).b) := (cell_of_row _ _ _ _ _ _ h5).trans rfl
    have hb5v := hide (hb4v.out.later hb5)
    clear h5 hb5 hb4v
    generalize w4.heap.size = E at *
    clear w4
    cases FO1 with
    | some q =>
      obtain ⟨qb, qe, qo⟩ := q
      obtain ⟨q1, q2⟩ := hb1f.out _ rfl
      simp only [Option.getD_some] at d0 q1 q2
      have hV2 : Hid (V = T - at0 + max qb at0) := hV.out.trans (if_neg hcond.out)
      have hmq : ∀ (ts : Array TypeId) (ty : TypeId) (w : World), (Builtin.max_ ts ty #[.int .i64 qb, .int .i64 at0]).run Try.prog w = .ok (.int .i64 (max qb at0)) w := fun ts ty w => by rw [Go.Lib.run_max_ints]
      have hmb : 0 ≤ max qb at0 ∧ max qb at0 ≤ 1000000000 := by omega
      generalize max qb at0 = mq at *
      have hBw := hide (hb1.out.later hb5v.out)
      clear hf2 hb1f hb2f hb5v hb1 hr1 hV
      go_wp2
      go_ret
      exact ⟨ret_i64 (by rw [hV2.out]), hBw.out⟩
    | none =>
      have hV2 : Hid (V = secN (T - at0 + cy) FO2) := hV.out.trans (if_neg hcond.out)
      have hr5 := hide (heap_kept hb5v.out hr1.out)
      have hy5 : Hid (w5.cell? ⟨w.heap.size + 1, 0, none⟩ = some (.func (.func F) #[] caps)) := (hb5v.out.cell (p := ⟨w.heap.size + 1, 0, none⟩) (block_lt_of_cell hs1.out)).trans hs1.out
      have hF := hide (hf2.out _ (hb1.out.later hb5v.out) (w.heap.size + 1) hy5.out)
      clear hf2 hb1f hV hy5 d0
      go_wp2_with ((with_reducible change wpList _ _ _ _ _ _); refine wpList_load_row rfl 47 (.tmp 3) rfl w.heap.size rfl 47 _ _ _ hr5.out Try.underlying47 rfl hz ?_)
      refine hF.out.mono ?_
      rintro _ w6 ⟨rfl, hb6⟩
      have hb6v := hide (hb5v.out.later hb6)
      clear hF hr5 hb6 hb5v
      go_wp2_with ((with_reducible change wpList _ _ _ _ _ _); refine stop_storeB 69 (.tmp 11) (.tmp 50) rfl ?_)
      refine hide (wpList_store_fresh rfl 69 (.tmp 11) (.tmp 50) rfl (fPi (FO2.getD Pi.zero)).toArray (fPi Pi.zero).toArray rfl rfl 69 (piSize _) rfl (pi_all _) ?_)
      intro w7 h7 hb7
      have d0 : w7.cell? ⟨w6.heap.size, 0, none⟩ = some (.int .i64 (FO2.getD Pi.zero).b) := (cell_of_row _ _ _ _ _ _ h7).trans rfl
      have hb7v := hb6v.out.later hb7
      have dc := hc1.out w7 hb7v
      have hBw := hide (hb1.out.later hb7v)
      clear h7 hb7 hb6v hb7v hc1 hb1 hr1 hs1
      cases FO2 with
      | none =>
        obtain rfl : V = -1 := hV2.out
        clear dc d0
        go_wp2
        go_ret
        exact ⟨rfl, hBw.out⟩
      | some q =>
        obtain ⟨qb, qe, qo⟩ := q
        obtain ⟨q1, q2⟩ := hb2f.out _ rfl
        simp only [Option.getD_some] at d0 q1 q2
        obtain rfl : V = T - at0 + cy + qb := hV2.out
        go_wp2
        go_ret
        exact ⟨rfl, hBw.out⟩
  · cases s255
    rotate_left
    · obtain rfl : V = t := hV.out.trans (if_pos ⟨hlt, rfl⟩)
      clear hf1 hf2 hin hb1f hb2f hV hc1
      go_wp2_with fail
      refine hsc.out.mono ?_
      rintro _ w2 ⟨rfl, hb2⟩
      have hBw := hide (hb1.out.later hb2)
      clear hsc hb2 hr1 hb1 hs1
      go_wp2
      go_ret
      exact ⟨rfl, hBw.out⟩
    · have hcond : Hid (¬ (t < ba ∧ false = true)) := fun h => by simp at h
      go_wp2_with fail
      refine hsc.out.mono ?_
      rintro _ wv ⟨rfl, hb2⟩
      have hbv := hide hb2
      have c0v := (hb2.cell (p := ⟨w.heap.size, 0, none⟩) (block_lt_of_cell c0)).trans c0
      clear hsc hb2 c0
      have c0 := c0v
      clear c0v
      have hrv := hide (heap_kept hbv.out hr1.out)
      go_wp2_with ((with_reducible change wpList _ _ _ _ _ _); refine wpList_load_row rfl 47 (.tmp 3) rfl w.heap.size rfl 47 _ _ _ hrv.out Try.underlying47 rfl hz ?_)
      refine (hin.out _).mono ?_
      rintro _ w2 ⟨rfl, hb2⟩
      have hb2v := hide (hbv.out.later hb2)
      clear hin hrv hb2 hbv c0
      go_wp2_with fail
      refine (goesOn_any at0 _).mono ?_
      rintro _ w3 ⟨c, rfl, hcx, hb3⟩
      have hb3v := hide (hb2v.out.later hb3)
      have hbA := below1 w3 (.cells #[.func (.func 49) #[] #[.pointer (some ⟨c, 0, none⟩)]] 72)
      have hxA : Hid ((w3.alloc (.cells #[.func (.func 49) #[] #[.pointer (some ⟨c, 0, none⟩)]] 72)).cell? ⟨w3.heap.size, 0, none⟩ = some (.func (.func 49) #[] #[.pointer (some ⟨c, 0, none⟩)])) := (cell_of_row _ _ _ _ _ _ (heap_alloc_new w3 _)).trans rfl
      have hcA : Hid ((w3.alloc (.cells #[.func (.func 49) #[] #[.pointer (some ⟨c, 0, none⟩)]] 72)).cell? ⟨c, 0, none⟩ = some (.int .i64 at0)) := (hbA.cell (p := ⟨c, 0, none⟩) (block_lt_of_cell hcx)).trans hcx
      have hbAv := hide (hb3v.out.later hbA)
      have hrA := hide (heap_kept hbAv.out hr1.out)
      have hyA : Hid ((w3.alloc (.cells #[.func (.func 49) #[] #[.pointer (some ⟨c, 0, none⟩)]] 72)).cell? ⟨w.heap.size + 1, 0, none⟩ = some (.func (.func F) #[] caps)) := (hbAv.out.cell (p := ⟨w.heap.size + 1, 0, none⟩) (block_lt_of_cell hs1.out)).trans hs1.out
      have hF := hide (hf1.out _ (hb1.out.later hbAv.out) c w3.heap.size (w.heap.size + 1) hcA.out hxA.out hyA.out)
      clear hf1 hb2v hb3v hb3 hcx hbA hxA hcA hyA
      go_wp2_with ((with_reducible change wpList _ _ _ _ _ _); refine wpList_load_row rfl 47 (.tmp 3) rfl w.heap.size rfl 47 _ _ _ hrA.out Try.underlying47 rfl hz ?_)
      refine hF.out.mono ?_
      rintro _ w4 ⟨rfl, hb4⟩
      have hb4v := hide (hbAv.out.later hb4)
      clear hF hrA hb4 hbAv
      generalize w3.alloc (.cells #[.func (.func 49) #[] #[.pointer (some ⟨c, 0, none⟩)]] 72) = wA at *
      generalize w3.heap.size = X at *
      clear wA w3 w2
      go_wp2_with ((with_reducible change wpList _ _ _ _ _ _); refine stop_storeB 69 (.tmp 9) (.tmp 35) rfl ?_)
      refine hide (wpList_store_fresh rfl 69 (.tmp 9) (.tmp 35) rfl (fPi (FO1.getD Pi.zero)).toArray (fPi Pi.zero).toArray rfl rfl 69 (piSize _) rfl (pi_all _) ?_)
      intro w5 h5 hb5
      have d0 : w5.cell? ⟨w4.heap.size, 0, none⟩ = some (.int .i64 (FO1.getD Pi.zero).b) := (cell_of_row _ _ _ _ _ _ h5).trans rfl
      have hb5v := hide (hb4v.out.later hb5)
      clear h5 hb5 hb4v
      generalize w4.heap.size = E at *
      clear w4
      cases FO1 with
      | some q =>
        obtain ⟨qb, qe, qo⟩ := q
        obtain ⟨q1, q2⟩ := hb1f.out _ rfl
        simp only [Option.getD_some] at d0 q1 q2
        have hV2 : Hid (V = T - at0 + max qb at0) := hV.out.trans (if_neg hcond.out)
        have hmq : ∀ (ts : Array TypeId) (ty : TypeId) (w : World), (Builtin.max_ ts ty #[.int .i64 qb, .int .i64 at0]).run Try.prog w = .ok (.int .i64 (max qb at0)) w := fun ts ty w => by rw [Go.Lib.run_max_ints]
        have hmb : 0 ≤ max qb at0 ∧ max qb at0 ≤ 1000000000 := by omega
        generalize max qb at0 = mq at *
        have hBw := hide (hb1.out.later hb5v.out)
        clear hf2 hb1f hb2f hb5v hb1 hr1 hV
        go_wp2
        go_ret
        exact ⟨ret_i64 (by rw [hV2.out]), hBw.out⟩
      | none =>
        have hV2 : Hid (V = secN (T - at0 + cy) FO2) := hV.out.trans (if_neg hcond.out)
        have hr5 := hide (heap_kept hb5v.out hr1.out)
        have hy5 : Hid (w5.cell? ⟨w.heap.size + 1, 0, none⟩ = some (.func (.func F) #[] caps)) := (hb5v.out.cell (p := ⟨w.heap.size + 1, 0, none⟩) (block_lt_of_cell hs1.out)).trans hs1.out
        have hF := hide (hf2.out _ (hb1.out.later hb5v.out) (w.heap.size + 1) hy5.out)
        clear hf2 hb1f hV hy5 d0
        go_wp2_with ((with_reducible change wpList _ _ _ _ _ _); refine wpList_load_row rfl 47 (.tmp 3) rfl w.heap.size rfl 47 _ _ _ hr5.out Try.underlying47 rfl hz ?_)
        refine hF.out.mono ?_
        rintro _ w6 ⟨rfl, hb6⟩
        have hb6v := hide (hb5v.out.later hb6)
        clear hF hr5 hb6 hb5v
        go_wp2_with ((with_reducible change wpList _ _ _ _ _ _); refine stop_storeB 69 (.tmp 11) (.tmp 50) rfl ?_)
        refine hide (wpList_store_fresh rfl 69 (.tmp 11) (.tmp 50) rfl (fPi (FO2.getD Pi.zero)).toArray (fPi Pi.zero).toArray rfl rfl 69 (piSize _) rfl (pi_all _) ?_)
        intro w7 h7 hb7
        have d0 : w7.cell? ⟨w6.heap.size, 0, none⟩ = some (.int .i64 (FO2.getD Pi.zero).b) := (cell_of_row _ _ _ _ _ _ h7).trans rfl
        have hb7v := hb6v.out.later hb7
        have dc := hc1.out w7 hb7v
        have hBw := hide (hb1.out.later hb7v)
        clear h7 hb7 hb6v hb7v hc1 hb1 hr1 hs1
        cases FO2 with
        | none =>
          obtain rfl : V = -1 := hV2.out
          clear dc d0
          go_wp2
          go_ret
          exact ⟨rfl, hBw.out⟩
        | some q =>
          obtain ⟨qb, qe, qo⟩ := q
          obtain ⟨q1, q2⟩ := hb2f.out _ rfl
          simp only [Option.getD_some] at d0 q1 q2
          obtain rfl : V = T - at0 + cy + qb := hV2.out
          go_wp2
          go_ret
          exact ⟨rfl, hBw.out⟩
def untilN (L : Ls) (k t : Int) : Int := firstN L t (fun o => !letB o k)
theorem Until_any {L : Ls} {a : Option Addr} {cap : Nat} {w : World} (hE : Ent w a L.es) (hm : L.may = true) (k : Int) (hk : 0 ≤ k ∧ k ≤ 7) (t : Int) (ht1 : -9223372036854775808 ≤ t) (ht2 : t ≤ 9223372034000000000) :
    Calls Try.prog 25 #[.agg (lRow L a L.es.length cap), .int .i64 k, .int .i64 t] w fun r w' => r = .returned (.int .i64 (untilN L k t)) ∧ Below w.heap.size w w' := by
  have hb1 : Below w.heap.size w ((w.alloc (.cells (lRow L a L.es.length cap) 47)).alloc (.cells #[.int .i64 k] 3)) := (below1 _ _).later (below1 _ _)
  have hr1 : ((w.alloc (.cells (lRow L a L.es.length cap) 47)).alloc (.cells #[.int .i64 k] 3)).heap[w.heap.size]? = some (.cells (lRow L a L.es.length cap) 47 (0, 0)) := heap_kept (below1 _ _) (heap_alloc_new w _)
  have hs1 : ((w.alloc (.cells (lRow L a L.es.length cap) 47)).alloc (.cells #[.int .i64 k] 3)).cell? ⟨w.heap.size + 1, 0, none⟩ = some (.int .i64 k) := by
    have := heap_alloc_new (w.alloc (.cells (lRow L a L.es.length cap) 47)) (.cells #[.int .i64 k] 3)
    rw [World.size_alloc] at this
    exact (cell_of_row _ _ _ _ _ _ this).trans rfl
  have hC := hide (first_any (cap := cap) (hE.below hb1 (fun _ => by simp)) hm (until_cl hk hs1) t ht1 ht2)
  have hz := lSize L a L.es.length cap
  have hV : Hid (untilN L k t = firstN L t (fun o => !letB o k)) := rfl
  generalize untilN L k t = V at *
  rw [← hV.out] at hC
  generalize hR : lRow L a L.es.length cap = R at *
  clear hR hE hm hV hs1
  replace hr1 := hide hr1
  replace hb1 := hide hb1
  go_enter Try.func25, Try.ntmps25
  go_wp2_with ((with_reducible change wpList _ _ _ _ _ _); refine wpList_load_row rfl 47 (.tmp 3) rfl w.heap.size rfl 47 _ _ _ hr1.out Try.underlying47 rfl hz ?_)
  refine hC.out.mono ?_
  rintro _ w2 ⟨rfl, hb2⟩
  have hB := hide (hb1.out.later hb2)
  clear hC hr1 hb1 hb2
  go_wp2
  go_ret
  exact ⟨rfl, hB.out⟩
def fromN (L : Ls) (k t : Int) : Int := firstN L t (fun o => letB o k)
theorem From_any {L : Ls} {a : Option Addr} {cap : Nat} {w : World} (hE : Ent w a L.es) (hm : L.may = true) (k : Int) (hk : 0 ≤ k ∧ k ≤ 7) (t : Int) (ht1 : -9223372036854775808 ≤ t) (ht2 : t ≤ 9223372034000000000) :
    Calls Try.prog 26 #[.agg (lRow L a L.es.length cap), .int .i64 k, .int .i64 t] w fun r w' => r = .returned (.int .i64 (fromN L k t)) ∧ Below w.heap.size w w' := by
  have hb1 : Below w.heap.size w ((w.alloc (.cells (lRow L a L.es.length cap) 47)).alloc (.cells #[.int .i64 k] 3)) := (below1 _ _).later (below1 _ _)
  have hr1 : ((w.alloc (.cells (lRow L a L.es.length cap) 47)).alloc (.cells #[.int .i64 k] 3)).heap[w.heap.size]? = some (.cells (lRow L a L.es.length cap) 47 (0, 0)) := heap_kept (below1 _ _) (heap_alloc_new w _)
  have hs1 : ((w.alloc (.cells (lRow L a L.es.length cap) 47)).alloc (.cells #[.int .i64 k] 3)).cell? ⟨w.heap.size + 1, 0, none⟩ = some (.int .i64 k) := by
    have := heap_alloc_new (w.alloc (.cells (lRow L a L.es.length cap) 47)) (.cells #[.int .i64 k] 3)
    rw [World.size_alloc] at this
    exact (cell_of_row _ _ _ _ _ _ this).trans rfl
  have hC := hide (first_any (cap := cap) (hE.below hb1 (fun _ => by simp)) hm (from_cl hk hs1) t ht1 ht2)
  have hz := lSize L a L.es.length cap
  have hV : Hid (fromN L k t = firstN L t (fun o => letB o k)) := rfl
  generalize fromN L k t = V at *
  rw [← hV.out] at hC
  generalize hR : lRow L a L.es.length cap = R at *
  clear hR hE hm hV hs1
  replace hr1 := hide hr1
  replace hb1 := hide hb1
  go_enter Try.func26, Try.ntmps26
  go_wp2_with ((with_reducible change wpList _ _ _ _ _ _); refine wpList_load_row rfl 47 (.tmp 3) rfl w.heap.size rfl 47 _ _ _ hr1.out Try.underlying47 rfl hz ?_)
  refine hC.out.mono ?_
  rintro _ w2 ⟨rfl, hb2⟩
  have hB := hide (hb1.out.later hb2)
  clear hC hr1 hb1 hb2
  go_wp2
  go_ret
  exact ⟨rfl, hB.out⟩
end Go.Proofs.Ytmacdghkbmjdmaa
