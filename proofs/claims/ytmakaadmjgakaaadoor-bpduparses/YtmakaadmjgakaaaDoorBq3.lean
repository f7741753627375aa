/-
  A contract of bpdu.Parse. Conditions: those that each theorem names.
-/
import Derived.Test.YtmakaadmjgakaaaDoorBq2
namespace Go.Proofs.YtmakaadmjgakaaaDoor
open Go.RowKit
set_option linter.unusedVariables false

theorem results_cell_row2 {P : Program} {fn : Func} {p q : Tmp} {ty : TypeId} (h : fn.results = #[.cell p ty, .tmp q]) (tmps : Array Value) (w : World) (g : Nat) (t : TypeId) (cs : Array Value) (fr : Nat × Nat) (d : TypeDesc)
    (hp : tmps.getD p undef = .pointer (some ⟨g, 0, none⟩)) (hg : w.heap[g]? = some (.cells cs t fr))
    (hu : P.underlying ty = some d) (hd : (match d with | .struct _ | .array _ _ => true | _ => false) = true) (hi : (P.info? ty).map (·.size) = some cs.size) :
    (results fn tmps).run P w = .ok (.tuple #[.agg cs, tmps.getD q undef]) w := by
  have hp' : tmps[p]?.getD undef = .pointer (some ⟨g, 0, none⟩) := by simpa using hp
  simp [results, h, hp', asAddr, run_loadVar_row w g t ty cs fr d hg hu hd hi]
theorem Read_B {v : Value} {l : List Int} {w : World} {B : Nat} (hv : Bs w v l) (hB : Bl B v) :
    Calls Tryd.prog 35 #[v] w fun e w' => e = .returned (.pointer (some ⟨w.heap.size, 0, none⟩)) ∧ RdB w' w.heap.size B l 0 ∧ Below w.heap.size w w' := by
  have hv' := hv
  obtain ⟨_, a, cap, rfl, _⟩ := hv
  have HV := hide hv'
  have HB := hide hB
  clear hv' hB
  go_enter Tryd.func35, Tryd.ntmps35
  go_wp2
  go_ret
  have hbl : Below w.heap.size w (w.alloc (.cells #[.slice a l.length cap, .int .i64 0] 103)) := (Below.refl _ _).alloc (Nat.le_refl _) _
  exact ⟨rfl, ⟨_, heap_alloc_new _ _, HV.out.below hbl, HB.out⟩, hbl⟩
/-- How many bytes a message of a kind has. -/
def sizeN (k : Int) : Int := if k = 2 then 7 else if k = 1 then 39 else 38
@[reducible] def Bp.ofKind (k : Int) : Bp := ⟨k, 0, 0, 0, 0, false, false, false, false, false, false, 0, 0, 0, 0, 0⟩
/-- The message of a payload, and an error. -/
def bparsed (d : List Int) : Bp × Int :=
  if (kindE d).2 ≠ 0 then (Bp.zero, (kindE d).2) else if (d.length : Int) < sizeN (kindE d).1 then (Bp.zero, 2) else if (kindE d).1 = 2 then (Bp.ofKind 2, 0)
  else if (kindE d).1 = 1 then (if (((Bp.ofKind 1).ported (d.getD 7 0)).rooted (d.drop 7)).maxAge ≤ (((Bp.ofKind 1).ported (d.getD 7 0)).rooted (d.drop 7)).age then (Bp.zero, 4) else (((Bp.ofKind 1).ported (d.getD 7 0)).rooted (d.drop 7), 0))
  else (if ((Bp.ofKind 0).rooted (d.drop 7)).maxAge ≤ ((Bp.ofKind 0).rooted (d.drop 7)).age then (Bp.zero, 4) else ((Bp.ofKind 0).rooted (d.drop 7), 0))
set_option maxRecDepth 20000 in
theorem BParse_err {v : Value} {w : World} {l : List Int} (hv : Bs w v l) (hm : l.length ≤ 1000000) (hE : (kindE l).2 ≠ 0) :
    Calls Tryd.prog 13 #[v] w fun e w' => e = .returned (.tuple #[.agg Bp.zero.row, .int .i64 (kindE l).2]) ∧ Below w.heap.size w w' := by
  have hK := hide (readKind_any (hv.below (below1 w (.cells Bp.zero.row 41))) hm)
  have hE' : ((kindE l).2 != 0) = true := by simpa using hE
  generalize (kindE l).2 = E at *
  generalize (kindE l).1 = K at *
  obtain ⟨_, va, vc, rfl, _⟩ := hv
  clear hE
  have hA := heap_alloc_new w (.cells Bp.zero.row 41)
  go_enter Tryd.func13, Tryd.ntmps13
  go_wp2_with fail
  refine hK.out.mono ?_
  rintro e w1 ⟨rfl, hb1⟩
  have hA1 := heap_kept hb1 hA
  have hW1 := hide ((below1 w _).later hb1)
  clear hb1 hA hK
  go_wp2_with ((with_reducible change wpList _ _ _ _ _ _); refine wpList_store_row rfl 41 _ _ rfl w.heap.size Bp.zero.row rfl rfl 41 _ hA1 (bpSize _) rfl (Bp.row_all _) ?_)
  exact bodyPost_ret (results_cell_row2 rfl _ _ w.heap.size 41 _ _ _ rfl (setRow_heap _ _ _ _ _ _ hA1) Tryd.underlying41 rfl (bpSize Bp.zero)) rfl ⟨rfl, below_setRow hW1.out (Nat.le_refl _) _⟩
set_option maxRecDepth 20000 in
theorem BParse_short {v : Value} {w : World} {l : List Int} (hv : Bs w v l) (hm : l.length ≤ 1000000) (hE : (kindE l).2 = 0) (hs : (l.length : Int) < sizeN (kindE l).1) :
    Calls Tryd.prog 13 #[v] w fun e w' => e = .returned (.tuple #[.agg Bp.zero.row, .int .i64 2]) ∧ Below w.heap.size w w' := by
  have hK := hide (readKind_any (hv.below (below1 w (.cells Bp.zero.row 41))) hm)
  rw [hE] at hK
  have hS := hide (fun w => sizeOf_any (kindE l).1 w)
  have hS' : Hid (∀ w, Calls Tryd.prog 44 #[.int .i64 (kindE l).1] w fun e w' => e = .returned (.int .i64 (sizeN (kindE l).1)) ∧ w' = w) := hS
  have hd : decide ((l.length : Int) < sizeN (kindE l).1) = true := by simpa using hs
  clear hS hs
  generalize sizeN (kindE l).1 = Z at *
  generalize (kindE l).1 = K at *
  obtain ⟨_, va, vc, rfl, _⟩ := hv
  clear hE
  have hA := heap_alloc_new w (.cells Bp.zero.row 41)
  go_enter Tryd.func13, Tryd.ntmps13
  go_wp2_with fail
  refine hK.out.mono ?_
  rintro e w1 ⟨rfl, hb1⟩
  have hA1 := heap_kept hb1 hA
  have hW1 := hide ((below1 w _).later hb1)
  clear hb1 hA hK
  go_wp2_with fail
  refine (hS'.out _).mono ?_
  rintro e w2 ⟨rfl, h⟩
  obtain rfl := h.symm
  go_wp2_with ((with_reducible change wpList _ _ _ _ _ _); refine wpList_store_row rfl 41 _ _ rfl w.heap.size Bp.zero.row rfl rfl 41 _ hA1 (bpSize _) rfl (Bp.row_all _) ?_)
  exact bodyPost_ret (results_cell_row2 rfl _ _ w.heap.size 41 _ _ _ rfl (setRow_heap _ _ _ _ _ _ hA1) Tryd.underlying41 rfl (bpSize Bp.zero)) rfl ⟨rfl, below_setRow hW1.out (Nat.le_refl _) _⟩
set_option maxRecDepth 20000 in
theorem BParse_notice {v : Value} {w : World} {l : List Int} (hv : Bs w v l) (hm : l.length ≤ 1000000) (hE : kindE l = (2, 0)) (hs : ¬ (l.length : Int) < 7) :
    Calls Tryd.prog 13 #[v] w fun e w' => e = .returned (.tuple #[.agg (Bp.ofKind 2).row, .int .i64 0]) ∧ Below w.heap.size w w' := by
  have hK := hide (readKind_any (hv.below (below1 w (.cells Bp.zero.row 41))) hm)
  rw [hE] at hK
  have hS := hide (fun w => sizeOf_any 2 w)
  have hd : decide ((l.length : Int) < 7) = false := by simpa using hs
  clear hs
  obtain ⟨_, va, vc, rfl, _⟩ := hv
  clear hE
  have hA := heap_alloc_new w (.cells Bp.zero.row 41)
  go_enter Tryd.func13, Tryd.ntmps13
  go_wp2_with fail
  refine hK.out.mono ?_
  rintro e w1 ⟨rfl, hb1⟩
  have hA1 := heap_kept hb1 hA
  have hW1 := hide ((below1 w _).later hb1)
  clear hb1 hA hK
  go_wp2_with fail
  refine (hS.out _).mono ?_
  rintro e w2 ⟨rfl, h⟩
  obtain rfl := h.symm
  go_wp2_with (first | ((with_reducible change wpList _ _ _ _ _ _); refine wpList_store_fresh rfl 41 (.tmp 6) (.tmp 23) rfl (Bp.ofKind 2).row Bp.zero.row rfl rfl 41 (bpSize _) rfl (Bp.row_all _) ?_; intro w3 hH3 hb3; have hA3 := heap_kept hb3 hA1; have hW3 := hide (hW1.out.later hb3)) | ((with_reducible change wpList _ _ _ _ _ _); refine wpList_load_row rfl 41 (.tmp 6) rfl w1.heap.size rfl 41 _ _ _ hH3 Tryd.underlying41 rfl (bpSize _) ?_) | ((with_reducible change wpList _ _ _ _ _ _); refine wpList_store_row rfl 41 (.tmp 2) (.tmp 44) rfl w.heap.size (Bp.ofKind 2).row rfl rfl 41 _ hA3 (bpSize _) rfl (Bp.row_all _) ?_))
  exact bodyPost_ret (results_cell_row2 rfl _ _ w.heap.size 41 _ _ _ rfl (setRow_heap _ _ _ _ _ _ hA3) Tryd.underlying41 rfl (bpSize (Bp.ofKind 2))) rfl ⟨rfl, below_setRow hW3.out (Nat.le_refl _) _⟩
end Go.Proofs.YtmakaadmjgakaaaDoor
