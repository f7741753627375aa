import Derived.Test.YtiahiakllpjliaaDoorRl2
/-
  All open ports but one: relay's flood. Conditions: those that each theorem names.
-/
namespace Go.Proofs.YtiahiakllpjliaaDoor
open Go.RowKit Go.Maps Go.Shelf
set_option linter.unusedVariables false
set_option linter.unusedSimpArgs false
set_option maxRecDepth 20000

attribute [local go_sem] Oper.semAt_some

@[reducible] def intV (z : Int) : Value := .int .i64 z
/-- All but one. -/
def butL (q : Int) (l : List Int) : List Int := l.filter (fun z => z != q)
theorem butL_yes (q : Int) (l : List Int) {z : Int} (h : z ≠ q) : butL q (l ++ [z]) = butL q l ++ [z] := by simp [butL, h]
theorem butL_no (q : Int) (l : List Int) {z : Int} (h : z = q) : butL q (l ++ [z]) = butL q l := by simp [butL, h]
theorem butL_len (q : Int) (l : List Int) : (butL q l).length ≤ l.length := List.length_filter_le _ _
/-- What an append to a row that lies beyond B0, held in a box below it, leaves. -/
theorem Boxed.appendedQ {W w1 : World} {B0 B : Nat} {t e : TypeId} {v v' : Value} {k m : Nat} {xs ys : List Value} {tmp : Obj}
    (hv : Boxed W B t v) (hrow : W.ownsRow B0 e 1 v k xs) (h0 : B0 ≤ W.heap.size) (hB : B < B0) (hown : w1.ownsRow B0 e 1 v' m ys) (hg : (W.alloc tmp).grownBy w1 v.ownBlock) :
    Boxed w1 B t v ∧ Boxed (w1.setCell ⟨B, 0, none⟩ v') B t v' ∧ (w1.setCell ⟨B, 0, none⟩ v').ownsRow B0 e 1 v' m ys ∧ KeepsOthers W (w1.setCell ⟨B, 0, none⟩ v') ∧ (∀ k, k < B0 → k ≠ B → (w1.setCell ⟨B, 0, none⟩ v').heap[k]? = W.heap[k]?) ∧ (w1.setCell ⟨B, 0, none⟩ v').heap.size ≥ W.heap.size ∧ (w1.setCell ⟨B, 0, none⟩ v').os = W.os ∧ (w1.setCell ⟨B, 0, none⟩ v').tape = W.tape ∧ (w1.setCell ⟨B, 0, none⟩ v').output = W.output := by
  have hfar : ∀ j, v.ownBlock = some j → B0 ≤ j := fun j ej => by
    rcases hrow.2 with ⟨rfl, _⟩ | ⟨g, cap, cur, rfl, hb, _, _⟩
    · simp [Value.ownBlock] at ej
    · simp only [Value.ownBlock, Option.some.injEq] at ej; omega
  have hfar' : ∀ j, v'.ownBlock = some j → B0 ≤ j := fun j ej => by
    rcases hown.2 with ⟨rfl, _⟩ | ⟨g, cap, cur, rfl, hb, _, _⟩
    · simp [Value.ownBlock] at ej
    · simp only [Value.ownBlock, Option.some.injEq] at ej; omega
  have hv1 : Boxed w1 B t v := (hv.alloc tmp).kept hg (fun e => by have := hfar B e.symm; omega)
  refine ⟨hv1, hv1.set v', hown.kept (grownBy_setCell' w1 B v') (.inr fun e => by have := hfar' B e; omega), ?_, fun k hk hne => ?_, ?_, ?_, ?_, ?_⟩
  · refine ((KeepsOthers.alloc W tmp).trans (KeepsOthers.of_grownBy hg fun j o ej hj => ?_)).trans (KeepsOthers.setCell _ _ _)
    rcases (hrow.alloc tmp).2 with ⟨rfl, _⟩ | ⟨g, cap, cur, rfl, _, hgb, _⟩
    · simp [Value.ownBlock] at ej
    · simp only [Value.ownBlock, Option.some.injEq] at ej
      subst ej
      rw [hgb] at hj; cases hj; rfl
  · rw [heap_setCell_other w1 ⟨B, 0, none⟩ k v' hne]
    rw [hg.block k (by rw [World.size_alloc]; omega) (fun e => by have := hfar k e.symm; omega)]
    exact (below1 W tmp).block k (by omega)
  · have h1 := hg.size
    rw [World.size_alloc] at h1
    simp [World.setCell]
    omega
  · exact hg.os
  · exact hg.tape
  · exact hg.output
theorem ownFrom_kpq {β : Type} {s q1 q2 : Nat} {w0 : World} (hs : s ≤ w0.heap.size) (h1 : q1 < w0.heap.size) (h2 : q2 < w0.heap.size) : OwnFrom w0.heap.size (fun (_ : β) W => KpQ s q1 q2 w0 W) := fun _ W W' row h hg hr => by
  have hz := h.1.size
  refine ⟨h.1.grown hg (Nat.le_trans hs hz) (fun k e => Nat.le_trans hs (hr k e).1), ?_, ?_⟩
  · rw [hg.block q1 (by omega) (fun e => by have := (hr q1 e.symm).1; omega)]; exact h.2.1
  · rw [hg.block q2 (by omega) (fun e => by have := (hr q2 e.symm).1; omega)]; exact h.2.2
theorem stop_appI {F : Fence} {n : Nat} {P : Program} {ops : Array Oper} {rest : List Oper} {o : Oper} {a : Act} {w : World} {Q : Exit → Act → World → Prop} (s x : Operand) (t : TypeId) (_ho : o.op = .call { callee := .builtin .append, args := #[s, x], argTypes := #[t, t] }) (h : Hid (wpListIn F n P ops Q (o :: rest) a w)) : wpListIn F n P ops Q (o :: rest) a w := h.out
theorem ownsRow_down {w : World} {b b' : Nat} {e : TypeId} {m : Nat} {v : Value} {k : Nat} {xs : List Value} (h : w.ownsRow b e m v k xs) (hb : b' ≤ b) : w.ownsRow b' e m v k xs := by
  refine ⟨h.1, ?_⟩
  rcases h.2 with h | ⟨g, cap, cur, h1, h2, h3⟩
  · exact .inl h
  · exact .inr ⟨g, cap, cur, h1, Nat.le_trans hb h2, h3⟩
theorem Tryd.infoInt : (Tryd.prog.info? 3).map (fun i => (i.zero, i.size, i.bytes)) = some (some (.int .i64 0), 1, 8) := by kernel_rfl
/-- What the answers hold: a row of numbers of the call's own, or nothing. -/
def Out (B : Nat) (w : World) (v : Value) (l : List Int) : Prop := w.ownsRow B 3 1 v l.length (l.map intV) ∧ (v = .slice none 0 0 ↔ l = [])
set_option maxHeartbeats 8000000 in
theorem flood_any {w : World} {g pb mb sb : Nat} {ps : List Pv} {f : Int → Option (Int × Int)} {c : Nat} {sts : List Int} (h : Br w g pb mb sb ps f c sts) (t : Nat) (v q : Int) (hv : I64G v) :
    Calls Tryd.prog 64 #[.agg (brC g t sb sts.length), .int .i64 v, .int .i64 q] w fun r w' => ∃ v', r = .returned (.tuple #[v', .int .i64 (if butL q (opL (opnB ps f sts v) ps.length) = [] then 7 else 0)]) ∧ Out w.heap.size w' v' (butL q (opL (opnB ps f sts v) ps.length)) ∧ Below w.heap.size w w' := by
  have hfew := h.vt.few
  obtain ⟨i0, hi, hz0, hz1, hz2⟩ := info_parts Tryd.infoInt
  have hsz := brSize g t sb sts.length
  have hlt : Hid (g < w.heap.size ∧ pb < w.heap.size ∧ mb < w.heap.size ∧ sb < w.heap.size) := ⟨h.vt.lt.1, h.vt.lt.2.1, h.vt.lt.2.2, (Array.getElem?_eq_some_iff.1 h.st).1⟩
  have hO := hide (fun w => open_any (brC g t sb sts.length) hsz v w)
  obtain ⟨xs, hxs⟩ : ∃ xs, xs = butL q (opL (opnB ps f sts v) ps.length) := ⟨_, rfl⟩
  rw [← hxs]
  obtain ⟨rn, hrn⟩ : ∃ rn : Int, rn = if xs = [] then 7 else 0 := ⟨_, rfl⟩
  rw [← hrn]
  replace hxs := hide hxs
  replace hrn := hide hrn
  refine (callsIn_wide (n := 5)).1 ?_
  refine callsIn_of_wp_marks Tryd.func64 rfl trivial ?_ rfl
  simp only [Tryd.ntmps64, List.size_toArray, List.length_cons, List.length_nil, Nat.reduceAdd, Nat.reduceSub, Array.replicate_succ, Array.replicate_zero, List.push_toArray, List.append_toArray, List.nil_append, List.cons_append]
  gi_wp2_with fail
  refine ⟨trivial, (callsIn_wide.2 (hO.out _)).mono ?_⟩
  rintro _ w0 ⟨rfl, hw0⟩
  simp only [World.size_alloc]
  have hs0 : w0.heap.size = w.heap.size + 1 + 1 + 1 + 1 + 1 := by rw [hw0]; simp only [World.size_alloc]
  have hr4 := hide (heap_alloc_new (((((w.alloc (.cells (brC g t sb sts.length) 35)).alloc (.cells #[.int .i64 q] 3)).alloc (.cells #[.slice none 0 0] 33)).alloc (.cells (brC g t sb sts.length) 35))) (.cells #[.int .i64 v] 3))
  have hr3 := hide (heap_kept (below1 _ (.cells #[.int .i64 v] 3)) (heap_alloc_new (((w.alloc (.cells (brC g t sb sts.length) 35)).alloc (.cells #[.int .i64 q] 3)).alloc (.cells #[.slice none 0 0] 33)) (.cells (brC g t sb sts.length) 35)))
  have hr2 : Hid (Boxed ((((w.alloc (.cells (brC g t sb sts.length) 35)).alloc (.cells #[.int .i64 q] 3)).alloc (.cells #[.slice none 0 0] 33)).alloc (.cells (brC g t sb sts.length) 35) |>.alloc (.cells #[.int .i64 v] 3)) _ _ _) := ((Boxed.new _ _ _).alloc _).alloc _
  have hr1 : Hid (Boxed ((((w.alloc (.cells (brC g t sb sts.length) 35)).alloc (.cells #[.int .i64 q] 3)).alloc (.cells #[.slice none 0 0] 33)).alloc (.cells (brC g t sb sts.length) 35) |>.alloc (.cells #[.int .i64 v] 3)) _ _ _) := (((Boxed.new _ _ _).alloc _).alloc _).alloc _
  have hb0 : Hid (Below w.heap.size w ((((w.alloc (.cells (brC g t sb sts.length) 35)).alloc (.cells #[.int .i64 q] 3)).alloc (.cells #[.slice none 0 0] 33)).alloc (.cells (brC g t sb sts.length) 35) |>.alloc (.cells #[.int .i64 v] 3))) := ((((below1 _ _).later (below1 _ _)).later (below1 _ _)).later (below1 _ _)).later (below1 _ _)
  rw [← hw0] at hr1 hr2 hr3 hr4 hb0
  simp only [World.size_alloc] at hr1 hr2 hr3 hr4
  clear hw0 hO
  have hB0 := hide (h.below hb0.out)
  clear h
  generalize hP : opnB ps f sts v = P at *
  gi_wp2_with fail
  obtain ⟨B0, hB0s⟩ : ∃ B0, B0 = w0.heap.size := ⟨_, rfl⟩
  have hq1 : w.heap.size + 1 + 1 + 1 < w0.heap.size := by omega
  have hq2 : w.heap.size + 1 + 1 + 1 + 1 < w0.heap.size := by omega
  refine wpIn_rangeFunc_ownG rfl (by omega) (gf := 82) (lb := #[.pointer (some ⟨w.heap.size + 1 + 1 + 1, 0, none⟩), .pointer (some ⟨w.heap.size + 1 + 1 + 1 + 1, 0, none⟩)]) rfl trivial (enters_of Tryd.func82 (by kernel_rfl) rfl)
    (Kp := KpQ w.heap.size (w.heap.size + 1 + 1 + 1) (w.heap.size + 1 + 1 + 1 + 1)) (encs := fun x : Int => #[Value.int .i64 x]) (S := fun ys => ys = opL P ps.length) (Sp := fun _ => True) (N := ps.length) (w0 := w0)
    (fun l J Jx W hW hJ hJx hY h0 => hP ▸ open1_in (5 - 1) (by omega) l _ _ w.heap.size g pb mb sb t ps f c sts v hv hlt J Jx W.heap.size (hide hJ) hY W (heap_kept hW hr3.out) (heap_kept hW hr4.out) (hide (hB0.out.below hW)) (Nat.le_trans hb0.out.size hW.size) h0)
    (fun h k => h.trans k) (fun W l o o' hl h hc hw => KpQ.put (w := w0) hb0.out.size hq1 hq2 W l o o' hl h hc hw) (Below.refl _ _) (fun _ => rfl)
    (fun pre W => (∃ v', Boxed W (w.heap.size + 1 + 1) 33 v' ∧ W.ownsRow w0.heap.size 3 1 v' (butL q pre).length ((butL q pre).map intV) ∧ (v' = .slice none 0 0 ↔ butL q pre = [])) ∧ (Boxed W (w.heap.size + 1) 3 (.int .i64 q) ∧ KpQ w.heap.size (w.heap.size + 1 + 1 + 1) (w.heap.size + 1 + 1 + 1 + 1) w0 W))
    (fun _ _ _ => False)
    (OwnFrom.and (Own.from (holdsRow_own w0.heap.size (w.heap.size + 1 + 1) 33 3 1 (fun pre => (butL q pre).length) (fun pre => (butL q pre).map intV) (fun pre v => v = .slice none 0 0 ↔ butL q pre = [])) _) (OwnFrom.and (Own.from (boxed_own (w.heap.size + 1) 3 (fun _ => Value.int .i64 q)) _) (ownFrom_kpq hb0.out.size hq1 hq2)))
    (fun _ _ _ _ _ hs _ _ => hs)
    ⟨⟨_, hr2.out, World.ownsRow_nil _ _ _ _, by simp [butL]⟩, hr1.out, KpQ.refl _ _ _ _⟩
    (fun x => { tmps := #[.agg (brC g t sb sts.length), .int .i64 v, .int .i64 q, .pointer (some ⟨w.heap.size, 0, none⟩), undef, .pointer (some ⟨w.heap.size + 1, 0, none⟩), .slice none 0 0, .int .i64 0, .pointer (some ⟨w.heap.size + 1 + 1, 0, none⟩), .int .i64 x, .agg (brC g t sb sts.length), .int .i64 v, .func (.func 82) #[] #[.pointer (some ⟨w.heap.size + 1 + 1 + 1, 0, none⟩), .pointer (some ⟨w.heap.size + 1 + 1 + 1 + 1, 0, none⟩)], .int .i64 x, undef, undef, undef, undef, undef, undef, undef, undef, undef, undef, undef], defers := [] }) ?assign ?body ?done ?stop
  case assign =>
    intro l x W K hK
    gi_wp2
    exact hK
  case body =>
    rintro l pre x W ⟨⟨v', hv', hrow, hnil⟩, hq, hkp⟩ hlen
    have hc := hv'.cell
    have hf := hv'.frozen
    have hqc := hq.cell
    have hpl := butL_len q pre
    have hWs := hkp.1.size
    by_cases hx : x = q
    · have hxq : (x != q) = false := by simp [hx]
      gi_wp2
      exact ⟨KeepsFrom.refl _ _, KpQ.refl _ _ _ _, ⟨v', hv', by rw [butL_no q pre hx]; exact hrow, by rw [butL_no q pre hx]; exact hnil⟩, hq, hkp⟩
    · have hxq : (x != q) = true := by simp [hx]
      gi_wp2_with (gi_at_builtin; refine stop_appI (.tmp 17) (.tmp 19) _ rfl ?_)
      refine hide (wpListIn_append_own _ rfl _ _ 33 rfl w0.heap.size 3 i0 (.int .i64 0) 1 8 Tryd.underlying33 hi hz0 hz1 hz2 rfl (by decide) _ _ _ rfl (hrow.alloc _) ⟨W.heap.size, 0, none⟩ 1 1 [.int .i64 x] rfl rfl (cell_one_new _ _ _) (by simp [Value.oneCell']) (by unfold maxLen; omega) (by omega) (by have := hkp.1.size; simp; omega) ?_)
      intro v2 w1 hown' hgrow _; obtain ⟨g', cap', rfl⟩ := ownsRow_succ hown'; obtain ⟨hv1, hv2, hr2, hk2, hb2, hz2', ho2, ht2, hu2⟩ := Boxed.appendedQ hv' hrow (by have := hkp.1.size; omega) (by omega) hown' hgrow; have hc1 := hv1.cell; have hf1 := hv1.frozen
      gi_wp2
      refine ⟨hk2.from _, ⟨⟨ho2, ht2, hu2, hz2', fun k hk => hb2 k (by omega) (by omega)⟩, hb2 _ (by omega) (by omega), hb2 _ (by omega) (by omega)⟩, ⟨_, hv2, by rw [butL_yes q pre hx]; simpa using hr2, by rw [butL_yes q pre hx]; simp⟩, ?_, ?_⟩
      · exact (hb2 _ (by omega) (by omega)).trans hq
      · exact hkp.trans ⟨⟨ho2, ht2, hu2, hz2', fun k hk => hb2 k (by omega) (by omega)⟩, hb2 _ (by omega) (by omega), hb2 _ (by omega) (by omega)⟩
  case done =>
    rintro D ys W hD rfl ⟨⟨v', hv', hrow, hnil⟩, hq, hkp⟩ hK
    have hc := hv'.cell
    have hbD := hide (hb0.out.trans (hkp.1.trans ((belowK_b (w := w0) (Nat.le_refl _) W D _ (.deferred none) hD hK rfl rfl).mono hb0.out.size)))
    have hrD := hide (ownsRow_putObj hrow (.deferred none) hK rfl)
    have hxs' : butL q (opL P ps.length) = xs := hxs.out.symm
    rw [hxs'] at hnil hrD
    clear hrow hv' hq hkp hxs'
    cases xs with
    | nil =>
      obtain rfl := hnil.2 rfl
      have hrn7 : rn = 7 := by rw [hrn.out]; rfl
      subst hrn7
      gi_wp2
      refine ⟨by simp, .inl ⟨_, _, rfl, run_takeDeferred hK, ?_⟩⟩
      exact ⟨_, results_tmp2 rfl _ _ _, _, rfl, ⟨ownsRow_down hrD.out hb0.out.size, ⟨fun _ => rfl, fun _ => rfl⟩⟩, hbD.out⟩
    | cons x1 xr =>
      have hrn0 : rn = 0 := by rw [hrn.out]; rfl
      subst hrn0
      have hne : ¬ v' = .slice none 0 0 := fun e => by have := hnil.1 e; cases this
      obtain ⟨g', cap', rfl⟩ := ownsRow_succ hrD.out
      have hl1 : ((xr.length : Int) + 1 == 0) = false := beq_eq_false_iff_ne.2 (by omega)
      gi_wp2
      refine ⟨by simp, .inl ⟨_, _, rfl, run_takeDeferred hK, ?_⟩⟩
      exact ⟨_, results_tmp2 rfl _ _ _, _, rfl, ⟨ownsRow_down hrD.out hb0.out.size, hnil⟩, hbD.out⟩
  case stop =>
    rintro D c pre W _ _ h _
    exact h.elim
end Go.Proofs.YtiahiakllpjliaaDoor

/-
  To which ports a frame goes: relay's lead. Conditions: those that each theorem names.
-/
namespace Go.Proofs.YtiahiakllpjliaaDoor
open Go.RowKit Go.Maps
set_option linter.unusedVariables false
set_option linter.unusedSimpArgs false
set_option maxRecDepth 20000

def floodR (P : Int → Bool) (n : Nat) (q : Int) : List Int × Int := (butL q (opL P n), if butL q (opL P n) = [] then 7 else 0)
def leadR (P : Int → Bool) (n : Nat) (age now vid : Int) (m : M6) (l : List Fe) (q : Int) : List Int × Int :=
  if grpB m = true then floodR P n q
  else if (findR age now vid m l).2 ≠ 0 then floodR P n q
  else if (findR age now vid m l).1 = q then ([], 5)
  else if P (findR age now vid m l).1 = false then ([], 6)
  else ([(findR age now vid m l).1], 0)
theorem floodR_any {w : World} {g pb mb sb : Nat} {ps : List Pv} {f : Int → Option (Int × Int)} {c : Nat} {sts : List Int} (h : Br w g pb mb sb ps f c sts) (t : Nat) (v q : Int) (hv : I64G v) (xs : List Int) (rn : Int) (hE : floodR (opnB ps f sts v) ps.length q = (xs, rn)) :
    Calls Tryd.prog 64 #[.agg (brC g t sb sts.length), .int .i64 v, .int .i64 q] w fun r w' => ∃ v', r = .returned (.tuple #[v', .int .i64 rn]) ∧ Out w.heap.size w' v' xs ∧ Below w.heap.size w w' := by
  unfold floodR at hE
  simp only [Prod.mk.injEq] at hE
  obtain ⟨rfl, rfl⟩ := hE
  exact flood_any h t v q hv
theorem Out.nil (B : Nat) (w : World) : Out B w (.slice none 0 0) [] := ⟨World.ownsRow_nil _ _ _ _, by simp⟩
theorem Out.one (w : World) (z : Int) : Out w.heap.size (w.alloc (.cells #[.int .i64 z] 3)) (.slice (some ⟨w.heap.size, 0, none⟩) 1 1) [z] :=
  ⟨⟨rfl, .inr ⟨w.heap.size, 1, #[.int .i64 z], rfl, Nat.le_refl _, heap_alloc_new w _, Nat.le_refl _, by simp [maxLen], rfl, rfl⟩⟩, by simp⟩
theorem Out.down {B B' : Nat} {w : World} {v : Value} {l : List Int} (h : Out B w v l) (hb : B' ≤ B) : Out B' w v l := ⟨ownsRow_down h.1 hb, h.2⟩
section
variable {K : Nat} {A : Nat → Prop} {w : World} {g pb mb sb t : Nat} {ps : List Pv} {f : Int → Option (Int × Int)} {c : Nat} {sts : List Int} {room age lost : Int} {l : List Fe}
set_option maxHeartbeats 4000000 in
theorem lead_any (h : Br w g pb mb sb ps f c sts) (hF : Fo K A w t room age lost l) (hl : Fes l) (vid q now : Int) (m : M6) (hv : I64G vid) (hm : m.wf) (hn : timeOk now) :
    Calls Tryd.prog 44 #[.agg (brC g t sb sts.length), .int .i64 vid, .int .i64 q, .agg m.row, .int .i64 now] w fun r w' => ∃ v', r = .returned (.tuple #[v', .int .i64 (leadR (opnB ps f sts vid) ps.length age now vid m l q).2]) ∧ Out w.heap.size w' v' (leadR (opnB ps f sts vid) ps.length age now vid m l q).1 ∧ Below w.heap.size w w' := by
  have hb := hide (below1 w (.cells (brC g t sb sts.length) 35))
  have hb2 : Hid (Below w.heap.size w ((w.alloc (.cells (brC g t sb sts.length) 35)).alloc (.cells m.row 23))) := hb.out.later (below1 _ _)
  have hr1 := hide (heap_kept (below1 _ (.cells m.row 23)) (heap_alloc_new w (.cells (brC g t sb sts.length) 35)))
  have hr2 := hide (heap_alloc_new (w.alloc (.cells (brC g t sb sts.length) 35)) (.cells m.row 23))
  have hG := hide (Group6_any m ((w.alloc (.cells (brC g t sb sts.length) 35)).alloc (.cells m.row 23)) hm)
  have hB := hide (h.below hb2.out)
  have hF2 := hide (hF.below hb2.out)
  have hs2 : Hid (((w.alloc (.cells (brC g t sb sts.length) 35)).alloc (.cells m.row 23)).heap.size = w.heap.size + 1 + 1) := by show _ = _; simp only [World.size_alloc]
  simp only [World.size_alloc] at hr2
  have hsz := brSize g t sb sts.length
  have hmz := m6Size m
  obtain ⟨R, hR⟩ : ∃ R, R = leadR (opnB ps f sts vid) ps.length age now vid m l q := ⟨_, rfl⟩
  rw [← hR]
  unfold leadR at hR
  replace hR := hide hR
  replace hm := hide hm
  replace hl := hide hl
  clear h hF hb
  generalize hbC : brC g t sb sts.length = C at *
  generalize hmC : m.row = M at *
  go_enter Tryd.func44, Tryd.ntmps44
  generalize hw2 : (w.alloc (.cells C 35)).alloc (.cells M 23) = w2 at *
  go_wp2_with ((with_reducible change wpList _ _ _ _ _ _); refine wpList_load_row rfl 23 (.tmp 8) rfl (w.heap.size + 1) rfl 23 _ _ _ hr2.out Tryd.underlying23 rfl hmz ?_)
  refine hG.out.mono ?_
  rintro _ w3 ⟨rfl, hb3⟩
  have hb23 : Hid (Below w.heap.size w w3) := hb2.out.later hb3
  have hr13 := hide (heap_kept hb3 hr1.out)
  have hr23 := hide (heap_kept hb3 hr2.out)
  have hB3 := hide (hB.out.below hb3)
  have hF3 := hide (hF2.out.below hb3)
  clear hG hb3 hB hF2 hr1 hr2 hs2 hb2 hw2
  cases hg : grpB m
  · replace hg := hide hg
    have hR2 : Hid (R = if (findR age now vid m l).2 ≠ 0 then floodR (opnB ps f sts vid) ps.length q
      else if (findR age now vid m l).1 = q then ([], 5)
      else if opnB ps f sts vid (findR age now vid m l).1 = false then ([], 6)
      else ([(findR age now vid m l).1], 0)) := hR.out.trans (if_neg (by rw [hg.out]; decide))
    have hL := hide (FoFind hF3.out hl.out vid m now hm.out hn)
    rw [hmC] at hL
    generalize hfr : findR age now vid m l = fr at *
    obtain ⟨fp, fe⟩ := fr
    replace hfr := hide hfr
    have c1 : w3.cell? ⟨w.heap.size, 1, none⟩ = some (.pointer (some ⟨t, 0, none⟩)) := (cell_of_row _ _ _ _ _ _ hr13.out).trans (by rw [← hbC]; rfl)
    clear hR
    go_wp2_with ((with_reducible change wpList _ _ _ _ _ _); refine wpList_load_row rfl 23 (.tmp 8) rfl (w.heap.size + 1) rfl 23 _ _ _ hr23.out Tryd.underlying23 rfl hmz ?_)
    refine hL.out.mono ?_
    rintro _ w4 ⟨rfl, hF4, hb4⟩
    have hb24 : Hid (Below w.heap.size w w4) := hb23.out.later hb4
    have hr14 := hide (heap_kept hb4 hr13.out)
    have hB4 := hide (hB3.out.below hb4)
    clear hL hF4 hb4 hr13 hr23 hB3 hF3 c1 hb23
    by_cases hfe : fe = 0
    · subst hfe
      have hR3 : Hid (R = if fp = q then ([], 5) else if opnB ps f sts vid fp = false then ([], 6) else ([fp], 0)) := hR2.out.trans (if_neg (by simp))
      clear hR2
      by_cases hpq : fp = q
      · have hR4 : R = ([], 5) := hR3.out.trans (if_pos hpq)
        subst hR4
        have hON := hide (Out.nil w.heap.size w4)
        clear hR3
        go_wp2
        go_ret2
        exact ⟨_, rfl, hON.out, hb24.out⟩
      · have hR4 : Hid (R = if opnB ps f sts vid fp = false then ([], 6) else ([fp], 0)) := hR3.out.trans (if_neg hpq)
        have hO := hide (isOpen_any hB4.out t vid fp hv)
        rw [hbC] at hO
        clear hR3
        go_wp2_with ((with_reducible change wpList _ _ _ _ _ _); refine wpList_load_row rfl 35 (.tmp 5) rfl w.heap.size rfl 35 _ _ _ hr14.out Tryd.underlying35 rfl hsz ?_)
        refine hO.out.mono ?_
        rintro _ w5 ⟨rfl, hb5⟩
        have hb25 : Hid (Below w.heap.size w w5) := hb24.out.later hb5
        clear hO hb5
        cases hop : opnB ps f sts vid fp
        · have hR5 : R = ([], 6) := hR4.out.trans (if_pos hop)
          subst hR5
          have hON := hide (Out.nil w.heap.size w5)
          clear hR4
          go_wp2
          go_ret2
          exact ⟨_, rfl, hON.out, hb25.out⟩
        · have hR5 : R = ([fp], 0) := hR4.out.trans (if_neg (by rw [hop]; decide))
          subst hR5
          have hON := hide ((Out.one w5 fp).down hb25.out.size)
          have hbz := hide (hb25.out.later (below1 w5 (.cells #[.int .i64 fp] 3)))
          clear hR4
          go_wp2
          go_ret2
          exact ⟨_, rfl, hON.out, hbz.out⟩
    · have hR3 : R = floodR (opnB ps f sts vid) ps.length q := hR2.out.trans (if_pos hfe)
      obtain ⟨xs, rn⟩ := R
      have hfe' : (fe != 0) = true := by simp [hfe]
      clear hR2
      replace hR3 := hide hR3
      have hFl := hide (floodR_any (hB4.out) t vid q hv xs rn hR3.out.symm)
      rw [hbC] at hFl
      go_wp2_with ((with_reducible change wpList _ _ _ _ _ _); refine wpList_load_row rfl 35 (.tmp 5) rfl w.heap.size rfl 35 _ _ _ hr14.out Tryd.underlying35 rfl hsz ?_)
      refine hFl.out.mono ?_
      rintro _ w9 ⟨v9, rfl, hO9, hb9⟩
      have hOz := hide (hO9.down (hb24.out).size)
      have hbz := hide ((hb24.out).later hb9)
      clear hFl hO9 hb9
      go_wp2
      go_ret2
      exact ⟨_, rfl, hOz.out, hbz.out⟩
  · have hR2 : R = floodR (opnB ps f sts vid) ps.length q := hR.out.trans (if_pos hg)
    obtain ⟨xs, rn⟩ := R
    clear hR
    replace hR2 := hide hR2
    have hFl := hide (floodR_any (hB3.out) t vid q hv xs rn hR2.out.symm)
    rw [hbC] at hFl
    go_wp2_with ((with_reducible change wpList _ _ _ _ _ _); refine wpList_load_row rfl 35 (.tmp 5) rfl w.heap.size rfl 35 _ _ _ hr13.out Tryd.underlying35 rfl hsz ?_)
    refine hFl.out.mono ?_
    rintro _ w9 ⟨v9, rfl, hO9, hb9⟩
    have hOz := hide (hO9.down (hb23.out).size)
    have hbz := hide ((hb23.out).later hb9)
    clear hFl hO9 hb9
    go_wp2
    go_ret2
    exact ⟨_, rfl, hOz.out, hbz.out⟩
end
end Go.Proofs.YtiahiakllpjliaaDoor
