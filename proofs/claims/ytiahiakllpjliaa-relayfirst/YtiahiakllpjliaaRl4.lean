/-
  To which ports a frame goes: relay's lead. Conditions: those that each theorem names.
-/
import Derived.Test.YtiahiakllpjliaaRl3
namespace Go.Proofs.Ytiahiakllpjliaa
open Go.RowKit Go.Maps
set_option linter.unusedVariables false
set_option linter.unusedSimpArgs false
set_option maxRecDepth 20000

def floodR (P : Int → Bool) (n : Nat) (q : Int) : List Int × Int := (butL q (opL P n), if butL q (opL P n) = [] then 7 else 0)
def leadR (P : Int → Bool) (n : Nat) (age now vid : Int) (m : M6) (l : List Fe) (q : Int) : List Int × Int :=
  if grpB m = true then floodR P n q
  else if (findR age now vid m l).2 ≠ 0 then floodR P n q
  else if (findR age now vid m l).1 = q then ([], 5)
  else if P (findR age now vid m l).1 = false then ([], 6)
  else ([(findR age now vid m l).1], 0)
theorem floodR_any {w : World} {g pb mb sb : Nat} {ps : List Pv} {f : Int → Option (Int × Int)} {c : Nat} {sts : List Int} (h : Br w g pb mb sb ps f c sts) (t : Nat) (v q : Int) (hv : I64 v) (xs : List Int) (rn : Int) (hE : floodR (opnB ps f sts v) ps.length q = (xs, rn)) :
    Calls Try.prog 68 #[.agg (brC g t sb sts.length), .int .i64 v, .int .i64 q] w fun r w' => ∃ v', r = .returned (.tuple #[v', .int .i64 rn]) ∧ Out w.heap.size w' v' xs ∧ Below w.heap.size w w' := by
  unfold floodR at hE
  simp only [Prod.mk.injEq] at hE
  obtain ⟨rfl, rfl⟩ := hE
  exact flood_any h t v q hv
theorem Out.nil (B : Nat) (w : World) : Out B w (.slice none 0 0) [] := ⟨World.ownsRow_nil _ _ _ _, by simp⟩
theorem Out.one (w : World) (z : Int) : Out w.heap.size (w.alloc (.cells #[.int .i64 z] 3)) (.slice (some ⟨w.heap.size, 0, none⟩) 1 1) [z] :=
  ⟨⟨rfl, .inr ⟨w.heap.size, 1, #[.int .i64 z], rfl, Nat.le_refl _, heap_alloc_new w _, Nat.le_refl _, by simp [maxLen], rfl, rfl⟩⟩, by simp⟩
theorem Out.down {B B' : Nat} {w : World} {v : Value} {l : List Int} (h : Out B w v l) (hb : B' ≤ B) : Out B' w v l := ⟨ownsRow_down h.1 hb, h.2⟩
section
variable {K : Nat} {A : Nat → Prop} {w : World} {g pb mb sb t : Nat} {ps : List Pv} {f : Int → Option (Int × Int)} {c : Nat} {sts : List Int} {room age lost : Int} {l : List Fe}
set_option maxHeartbeats 4000000 in
theorem lead_any (h : Br w g pb mb sb ps f c sts) (hF : Fo K A w t room age lost l) (hl : Fes l) (vid q now : Int) (m : M6) (hv : I64 vid) (hm : m.wf) (hn : timeOk now) :
    Calls Try.prog 50 #[.agg (brC g t sb sts.length), .int .i64 vid, .int .i64 q, .agg m.row, .int .i64 now] w fun r w' => ∃ v', r = .returned (.tuple #[v', .int .i64 (leadR (opnB ps f sts vid) ps.length age now vid m l q).2]) ∧ Out w.heap.size w' v' (leadR (opnB ps f sts vid) ps.length age now vid m l q).1 ∧ Below w.heap.size w w' := by
  have hb := hide (below1 w (.cells (brC g t sb sts.length) 58))
  have hb2 : Hid (Below w.heap.size w ((w.alloc (.cells (brC g t sb sts.length) 58)).alloc (.cells m.row 28))) := hb.out.later (below1 _ _)
  have hr1 := hide (heap_kept (below1 _ (.cells m.row 28)) (heap_alloc_new w (.cells (brC g t sb sts.length) 58)))
  have hr2 := hide (heap_alloc_new (w.alloc (.cells (brC g t sb sts.length) 58)) (.cells m.row 28))
  have hG := hide (Group6_any m ((w.alloc (.cells (brC g t sb sts.length) 58)).alloc (.cells m.row 28)) hm)
  have hB := hide (h.below hb2.out)
  have hF2 := hide (hF.below hb2.out)
  have hs2 : Hid (((w.alloc (.cells (brC g t sb sts.length) 58)).alloc (.cells m.row 28)).heap.size = w.heap.size + 1 + 1) := by show _ = _; simp only [World.size_alloc]
  simp only [World.size_alloc] at hr2
  have hsz := brSize g t sb sts.length
  have hmz := m6Size m
  obtain ⟨R, hR⟩ : ∃ R, R = leadR (opnB ps f sts vid) ps.length age now vid m l q := ⟨_, rfl⟩
  rw [← hR]
  unfold leadR at hR
  replace hR := hide hR
  replace hm := hide hm
  replace hl := hide hl
  clear h hF hb
  generalize hbC : brC g t sb sts.length = C at *
  generalize hmC : m.row = M at *
  go_enter Try.func50, Try.ntmps50
  generalize hw2 : (w.alloc (.cells C 58)).alloc (.cells M 28) = w2 at *
  go_wp2_with ((with_reducible change wpList _ _ _ _ _ _); refine wpList_load_row rfl 28 (.tmp 8) rfl (w.heap.size + 1) rfl 28 _ _ _ hr2.out Try.underlying28 rfl hmz ?_)
  refine hG.out.mono ?_
  rintro _ w3 ⟨rfl, hb3⟩
  have hb23 : Hid (Below w.heap.size w w3) := hb2.out.later hb3
  have hr13 := hide (heap_kept hb3 hr1.out)
  have hr23 := hide (heap_kept hb3 hr2.out)
  have hB3 := hide (hB.out.below hb3)
  have hF3 := hide (hF2.out.below hb3)
  clear hG hb3 hB hF2 hr1 hr2 hs2 hb2 hw2
  cases hg : grpB m
  · replace hg := hide hg
    have hR2 : Hid (R = if (findR age now vid m l).2 ≠ 0 then floodR (opnB ps f sts vid) ps.length q
      else if (findR age now vid m l).1 = q then ([], 5)
      else if opnB ps f sts vid (findR age now vid m l).1 = false then ([], 6)
      else ([(findR age now vid m l).1], 0)) := hR.out.trans (if_neg (by rw [hg.out]; decide))
    have hL := hide (FoFind hF3.out hl.out vid m now hm.out hn)
    rw [hmC] at hL
    generalize hfr : findR age now vid m l = fr at *
    obtain ⟨fp, fe⟩ := fr
    replace hfr := hide hfr
    have c1 : w3.cell? ⟨w.heap.size, 1, none⟩ = some (.pointer (some ⟨t, 0, none⟩)) := (cell_of_row _ _ _ _ _ _ hr13.out).trans (by rw [← hbC]; rfl)
    clear hR
    go_wp2_with ((with_reducible change wpList _ _ _ _ _ _); refine wpList_load_row rfl 28 (.tmp 8) rfl (w.heap.size + 1) rfl 28 _ _ _ hr23.out Try.underlying28 rfl hmz ?_)
    refine hL.out.mono ?_
    rintro _ w4 ⟨rfl, hF4, hb4⟩
    have hb24 : Hid (Below w.heap.size w w4) := hb23.out.later hb4
    have hr14 := hide (heap_kept hb4 hr13.out)
    have hB4 := hide (hB3.out.below hb4)
    clear hL hF4 hb4 hr13 hr23 hB3 hF3 c1 hb23
    by_cases hfe : fe = 0
    · subst hfe
      have hR3 : Hid (R = if fp = q then ([], 5) else if opnB ps f sts vid fp = false then ([], 6) else ([fp], 0)) := hR2.out.trans (if_neg (by simp))
      clear hR2
      by_cases hpq : fp = q
      · have hR4 : R = ([], 5) := hR3.out.trans (if_pos hpq)
        subst hR4
        have hON := hide (Out.nil w.heap.size w4)
        clear hR3
        go_wp2
        go_ret2
        exact ⟨_, rfl, hON.out, hb24.out⟩
      · have hR4 : Hid (R = if opnB ps f sts vid fp = false then ([], 6) else ([fp], 0)) := hR3.out.trans (if_neg hpq)
        have hO := hide (isOpen_any hB4.out t vid fp hv)
        rw [hbC] at hO
        clear hR3
        go_wp2_with ((with_reducible change wpList _ _ _ _ _ _); refine wpList_load_row rfl 58 (.tmp 5) rfl w.heap.size rfl 58 _ _ _ hr14.out Try.underlying58 rfl hsz ?_)
        refine hO.out.mono ?_
        rintro _ w5 ⟨rfl, hb5⟩
        have hb25 : Hid (Below w.heap.size w w5) := hb24.out.later hb5
        clear hO hb5
        cases hop : opnB ps f sts vid fp
        · have hR5 : R = ([], 6) := hR4.out.trans (if_pos hop)
          subst hR5
          have hON := hide (Out.nil w.heap.size w5)
          clear hR4
          go_wp2
          go_ret2
          exact ⟨_, rfl, hON.out, hb25.out⟩
        · have hR5 : R = ([fp], 0) := hR4.out.trans (if_neg (by rw [hop]; decide))
          subst hR5
          have hON := hide ((Out.one w5 fp).down hb25.out.size)
          have hbz := hide (hb25.out.later (below1 w5 (.cells #[.int .i64 fp] 3)))
          clear hR4
          go_wp2
          go_ret2
          exact ⟨_, rfl, hON.out, hbz.out⟩
    · have hR3 : R = floodR (opnB ps f sts vid) ps.length q := hR2.out.trans (if_pos hfe)
      obtain ⟨xs, rn⟩ := R
      have hfe' : (fe != 0) = true := by simp [hfe]
      clear hR2
      replace hR3 := hide hR3
      have hFl := hide (floodR_any (hB4.out) t vid q hv xs rn hR3.out.symm)
      rw [hbC] at hFl
      go_wp2_with ((with_reducible change wpList _ _ _ _ _ _); refine wpList_load_row rfl 58 (.tmp 5) rfl w.heap.size rfl 58 _ _ _ hr14.out Try.underlying58 rfl hsz ?_)
      refine hFl.out.mono ?_
      rintro _ w9 ⟨v9, rfl, hO9, hb9⟩
      have hOz := hide (hO9.down (hb24.out).size)
      have hbz := hide ((hb24.out).later hb9)
      clear hFl hO9 hb9
      go_wp2
      go_ret2
      exact ⟨_, rfl, hOz.out, hbz.out⟩
  · have hR2 : R = floodR (opnB ps f sts vid) ps.length q := hR.out.trans (if_pos hg)
    obtain ⟨xs, rn⟩ := R
    clear hR
    replace hR2 := hide hR2
    have hFl := hide (floodR_any (hB3.out) t vid q hv xs rn hR2.out.symm)
    rw [hbC] at hFl
    go_wp2_with ((with_reducible change wpList _ _ _ _ _ _); refine wpList_load_row rfl 58 (.tmp 5) rfl w.heap.size rfl 58 _ _ _ hr13.out Try.underlying58 rfl hsz ?_)
    refine hFl.out.mono ?_
    rintro _ w9 ⟨v9, rfl, hO9, hb9⟩
    have hOz := hide (hO9.down (hb23.out).size)
    have hbz := hide ((hb23.out).later hb9)
    clear hFl hO9 hb9
    go_wp2
    go_ret2
    exact ⟨_, rfl, hOz.out, hbz.out⟩
end
end Go.Proofs.Ytiahiakllpjliaa
