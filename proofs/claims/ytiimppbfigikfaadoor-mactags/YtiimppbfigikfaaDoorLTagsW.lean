/-
  The statement MacTags, walked: all cases together. Condition: the table lies as the program's text lays it ('Tab').
-/
import Derived.Test.YtiimppbfigikfaaDoorLTags
import Derived.Test.YtiimppbfigikfaaDoorLTagsF
import Derived.Test.YtiimppbfigikfaaDoorLTagsB
import Derived.Test.YtiimppbfigikfaaDoorLTagsC
import Derived.Test.YtiimppbfigikfaaDoorCame
namespace Go.Proofs.YtiimppbfigikfaaDoor
open Go.RowKit
set_option linter.unusedVariables false

set_option maxRecDepth 20000 in
theorem Tags_long (h : Hd) (v : Value) (l : List Int) (t p q u : Int) (w : World) (hT : Tab w) (hv : Bs w v l) (hl : 1600 < l.length) :
    Calls Tryd.prog 7 #[.agg h.row, v, .agg #[.int .i64 t, .int .i64 p, .int .i64 q, .int .i64 u]] w fun e w' => e = .returned (.bool true) ∧ Below w.heap.size w w' := by
  have hd6 : decide ((1600 : Int) < (l.length : Int)) = true := by simp; omega
  have hF := hide (fun w hT => frames_any w hT)
  have HT := hide hT
  obtain ⟨_, va, vc, rfl, _⟩ := hv
  have hb0 := (below1 w (.cells h.row 27)).later (below1 (w.alloc (.cells h.row 27)) (.cells #[.int .i64 t, .int .i64 p, .int .i64 q, .int .i64 u] 42))
  clear hT hl
  go_enter Tryd.func7, Tryd.ntmps7
  go_wp2_with fail
  refine (hF.out _ (HT.out.later hb0)).mono ?_
  rintro e w1 ⟨rfl, hb1⟩
  have hW1 := hide (hb0.later hb1)
  clear hb1 hb0 hF
  go_wp2
  go_ret
  exact ⟨rfl, hW1.out⟩
set_option maxRecDepth 20000 in
theorem Tags_none (h : Hd) (v : Value) (l : List Int) (t p q u : Int) (w : World) (hT : Tab w) (hW : h.wf) (hv : Bs w v l) (hl : ¬ 1600 < l.length) (hE : checkE h l.length ≠ 0) :
    Calls Tryd.prog 7 #[.agg h.row, v, .agg #[.int .i64 t, .int .i64 p, .int .i64 q, .int .i64 u]] w fun e w' => e = .returned (.bool true) ∧ Below w.heap.size w w' := by
  have hs : 0 ≤ h.s0 ∧ h.s0 ≤ 255 := hW.bytes.2 h.s0 (by simp [Hd.src])
  have hd6 : decide ((1600 : Int) < (l.length : Int)) = false := by simp; omega
  have hC := hide (fun w => Check_any h l.length w hs)
  have hF := hide (fun w hT => frames_any w hT)
  have hne : (checkE h l.length != 0) = true := by simpa using hE
  generalize checkE h l.length = E at *
  have HT := hide hT
  obtain ⟨_, va, vc, rfl, _⟩ := hv
  have hk := heap_kept (below1 (w.alloc (.cells h.row 27)) (.cells #[.int .i64 t, .int .i64 p, .int .i64 q, .int .i64 u] 42)) (heap_alloc_new w (.cells h.row 27))
  have hb0 := (below1 w (.cells h.row 27)).later (below1 (w.alloc (.cells h.row 27)) (.cells #[.int .i64 t, .int .i64 p, .int .i64 q, .int .i64 u] 42))
  clear hT hW hl hs hE
  go_enter Tryd.func7, Tryd.ntmps7
  go_wp2_with fail
  refine (hF.out _ (HT.out.later hb0)).mono ?_
  rintro e w1 ⟨rfl, hb1⟩
  have hk1 := heap_kept hb1 hk
  have hW1 := hide (hb0.later hb1)
  clear hb1 hb0 hk hF
  go_wp2_with (first | (with_reducible change wpList _ _ _ _ _ _; refine wpList_load_row_on rfl 27 _ rfl w.heap.size rfl 27 _ _ _ hk1 Tryd.underlying27 rfl (hdSize _) ?_))
  refine (hC.out _).mono ?_
  rintro e w2 ⟨rfl, hb2⟩
  have hW2 := hide (hW1.out.later hb2)
  clear hb2 hk1 hC hW1
  go_wp2
  go_ret
  exact ⟨rfl, hW2.out⟩
theorem Tags_walk (h : Hd) (v : Value) (l : List Int) (t p q u : Int) (w : World) (hT : Tab w) (hW : h.wf) (hv : Bs w v l) (pr : I64 p) (ur : I64 u) :
    Calls Tryd.prog 7 #[.agg h.row, v, .agg #[.int .i64 t, .int .i64 p, .int .i64 q, .int .i64 u]] w fun e w' => e = .returned (.bool true) ∧ Below w.heap.size w w' := by
  by_cases hl : 1600 < l.length
  · exact Tags_long h v l t p q u w hT hv hl
  by_cases hE : checkE h l.length = 0
  · by_cases ht : t = 1
    · subst ht
      by_cases p0 : p < 0
      · exact Tags_b4 h v l p q u _ w hT hW hv hE rfl (by simpa using p0)
      by_cases p1 : 7 < p
      · exact Tags_b5 h v l p q u _ w hT hW hv hE rfl (by simpa using p0) (by simpa using p1)
      by_cases u0 : u < 0
      · exact Tags_b6 h v l p q u _ w hT hW hv hE rfl (by simpa using p0) (by simpa using p1) (by simpa using u0)
      by_cases u1 : 4094 < u
      · exact Tags_b7 h v l p q u _ w hT hW hv hE rfl (by simpa using p0) (by simpa using p1) (by simpa using u0) (by simpa using u1)
      exact Tags_T h v l p q u _ w hT hW hv hE rfl p0 p1 u0 u1 pr ur _ rfl
    · have e0 : (t == 1) = false := by simpa using ht
      by_cases p0 : p = 0
      · subst p0
        by_cases q1 : q = 1
        · subst q1
          exact Tags_b2 h v l t u w hT hW hv hE e0
        have eq2 : (q == 1) = false := by simpa using q1
        by_cases u0 : u = 0
        · subst u0
          cases hY : (h.typ == 33024)
          · exact Tags_F h v l t q w hT hW hv hE eq2 e0 hY
          · exact Tags_ty h v l t q w hT hW hv hE eq2 e0 hY
        · exact Tags_b3 h v l t q u w hT hW hv hE eq2 e0 (by simpa using u0)
      · exact Tags_b1 h v l t p q u _ w hT hW hv hE rfl e0 (by simpa using p0)
  · exact Tags_none h v l t p q u w hT hW hv hl hE
end Go.Proofs.YtiimppbfigikfaaDoor
