
/-
  A frame as it goes out at a port: relay's isPlain and Dress. Conditions: those that each theorem names.
-/
import Derived.Test.YtiahiakllpjliaaDoorRl6
import Derived.Test.YtiahiakllpjliaaDoorMacG
namespace Go.Proofs.YtiahiakllpjliaaDoor
open Go.RowKit Go.Maps
set_option linter.unusedVariables false
set_option linter.unusedSimpArgs false
set_option maxRecDepth 20000

def plainB (ps : List Pv) (f : Int → Option (Int × Int)) (v p : Int) : Bool := (hasP ps.length p && bitAt (memN f v) p) && bitAt (plnN f v) p
theorem isPlain_any {w : World} {g pb mb sb : Nat} {ps : List Pv} {f : Int → Option (Int × Int)} {c : Nat} {sts : List Int} (h : Br w g pb mb sb ps f c sts) (t : Nat) (v p : Int) (hv : I64G v) :
    Calls Tryd.prog 27 #[.agg (brC g t sb sts.length), .int .i64 v, .int .i64 p] w fun r w' => r = .returned (.bool (plainB ps f v p)) ∧ Below w.heap.size w w' := by
  have hb := hide (below1 w (.cells (brC g t sb sts.length) 35))
  have hr := hide (heap_alloc_new w (.cells (brC g t sb sts.length) 35))
  have h0 : (w.alloc (.cells (brC g t sb sts.length) 35)).cell? ⟨w.heap.size, 0, none⟩ = some (.pointer (some ⟨g, 0, none⟩)) := (cell_of_row _ _ _ _ _ _ hr.out).trans rfl
  have hM := hide (Member_any (h.below hb.out).vt v p hv)
  have hS := hide (Plain_any (h.below hb.out).vt v hv)
  have hfew := h.vt.few
  have hp : (hasP ps.length p && bitAt (memN f v) p) = true → 0 ≤ p ∧ p < 16 := fun e => by
    rw [Bool.and_eq_true] at e
    have e1 := e.1
    simp [hasP] at e1; omega
  unfold plainB
  generalize (hasP ps.length p && bitAt (memN f v) p) = d at *
  have hbt : Hid (bitAt (plnN f v) p = (bits .and .i64 (plnN f v / 2 ^ p.toNat) 1 == 1)) := rfl
  rw [hbt.out]
  generalize plnN f v = x at *
  generalize brC g t sb sts.length = C at *
  clear h hv hfew hbt
  cases d
  · clear hS hp
    go_enter Tryd.func27, Tryd.ntmps27
    go_wp2_with fail
    refine hM.out.mono ?_
    rintro _ w1 ⟨rfl, hw1⟩
    obtain rfl := hw1.symm
    go_wp2
    go_ret
    exact ⟨rfl, hb.out⟩
  · obtain ⟨hp0, hp1⟩ := hp rfl
    clear hp
    go_enter Tryd.func27, Tryd.ntmps27
    go_wp2_with fail
    refine hM.out.mono ?_
    rintro _ w1 ⟨rfl, hw1⟩
    obtain rfl := hw1.symm
    go_wp2_with fail
    refine hS.out.mono ?_
    rintro _ w2 ⟨rfl, hw2⟩
    obtain rfl := hw2.symm
    go_wp2
    go_ret
    exact ⟨by simp, hb.out⟩
@[reducible] def tagP (pl : Bool) (h : Hd) (p v : Int) : Hd := h.retag (!pl) (if pl then 0 else p) (if pl then false else h.de) (if pl then 0 else v)
set_option maxHeartbeats 4000000 in
theorem Dress_on {w : World} {g pb mb sb : Nat} {ps : List Pv} {f : Int → Option (Int × Int)} {c : Nat} {sts : List Int} (hB : Br w g pb mb sb ps f c sts) (t : Nat) (fv : Value) (F : List Int) (hF : Bs w fv F) (hT : Tab w) (h : Hd) (l : List Int) (hC : Carr F h l) (hs : ¬ h.s0 % 2 = 1) (hty : h.typ ≠ 33024) (v p port : Int) (a : Option Addr) (n cp : Nat) (why : Int) (hv : I64G v) (hv0 : 0 ≤ v ∧ v ≤ 4094) (hp : 0 ≤ p ∧ p ≤ 7) :
    Calls Tryd.prog 10 #[.agg (brC g t sb sts.length), fv, .agg (wayC v p (.slice a n cp) why), .int .i64 port] w fun r w' => ∃ g' n' F', r = .returned (.tuple #[.slice (some ⟨g', 0, none⟩) n' n', .int .i64 0]) ∧ Bs w' (.slice (some ⟨g', 0, none⟩) n' n') F' ∧ Carr F' (tagP (plainB ps f v port) h p v) l ∧ Below w.heap.size w w' := by
  obtain ⟨pl, hpl⟩ : ∃ pl, pl = plainB ps f v port := ⟨_, rfl⟩
  rw [← hpl]
  replace hpl := hide hpl
  have hb1 := hide (below1 w (.cells (brC g t sb sts.length) 35))
  have hb2 : Hid (Below w.heap.size w ((w.alloc (.cells (brC g t sb sts.length) 35)).alloc (.cells (wayC v p (.slice a n cp) why) 42))) := hb1.out.later (below1 _ _)
  have hr1 := hide (heap_kept (below1 _ (.cells (wayC v p (.slice a n cp) why) 42)) (heap_alloc_new w (.cells (brC g t sb sts.length) 35)))
  have hr2 := hide (heap_alloc_new (w.alloc (.cells (brC g t sb sts.length) 35)) (.cells (wayC v p (.slice a n cp) why) 42))
  simp only [World.size_alloc] at hr2
  have hPa := hide (Parse_any (hF.below hb2.out) (hT.later hb2.out))
  obtain ⟨m0, hP, _⟩ := carr_parsed hC
  rw [hP] at hPa
  have hF0 := hide hF
  have hT0 := hide hT
  have hB0 := hide hB
  have hCa := hide hC
  have hE := hide (fun (tg : Bool) (q : Int) (de : Bool) (u : Int) (e : tagFitsB (withTag h tg q de u) = true) => show checkE (withTag h tg q de u) 0 = 0 by rw [check_with hs, e]; rfl)
  have hsz := brSize g t sb sts.length
  replace hty := hide hty
  replace hs := hide hs
  replace hv0 := hide hv0
  replace hp := hide hp
  have hl0 := hide hF.2
  clear hF hT hB hC hb1 hP
  obtain ⟨va, vc, hfv⟩ : ∃ va vc, fv = .slice va F.length vc := by obtain ⟨a', c', e, _⟩ := hl0.out; exact ⟨a', c', e⟩
  subst hfv
  clear hl0
  go_enter Tryd.func10, Tryd.ntmps10
  generalize hwW : (w.alloc (.cells (brC g t sb sts.length) 35)).alloc (.cells (wayC v p (.slice a n cp) why) 42) = w2 at *
  go_wp2_with fail
  refine hPa.out.mono ?_
  rintro _ w3 ⟨pa, pn, pc, rfl, -, hb3⟩
  have hb23 : Hid (Below w.heap.size w w3) := hb2.out.later hb3
  have hr13 := hide (heap_kept hb3 hr1.out)
  have hr23 := hide (heap_kept hb3 hr2.out)
  clear hPa hb2 hb3 hr1 hr2 hwW
  clear w2
  go_wp2_with ((with_reducible change wpList _ _ _ _ _ _); refine stop_storeB 25 (.tmp 10) (.tmp 16) rfl ?_)
  refine hide (fresh_atC rfl 25 (.tmp 10) (.tmp 16) rfl w3.heap.size rfl h.row Hd.zero.row rfl rfl 25 (hdSize _) rfl (Hd.row_all _) ?_)
  intro w4 h4 hb4
  have hb24 : Hid (Below w.heap.size w w4) := hb23.out.later hb4
  have hr14 := hide (heap_kept hb4 hr13.out)
  have hr24 := hide (heap_kept hb4 hr23.out)
  generalize w3.heap.size = a3 at *
  replace h4 := hide h4
  clear hb4 hb23 hr13 hr23
  clear w3
  have c40 : w4.cell? ⟨w.heap.size + 1, 0, none⟩ = some (.int .i64 v) := (cell_of_row _ _ _ _ _ _ hr24.out).trans rfl
  have hI := hide (isPlain_any (hB0.out.below hb24.out) t v port hv)
  rw [← hpl.out] at hI
  go_wp2_with ((with_reducible change wpList _ _ _ _ _ _); refine wpList_load_row rfl 35 (.tmp 4) rfl w.heap.size rfl 35 _ _ _ hr14.out Tryd.underlying35 rfl hsz ?_)
  refine hI.out.mono ?_
  rintro _ w5 ⟨rfl, hb5⟩
  have hb25 : Hid (Below w.heap.size w w5) := hb24.out.later hb5
  have hr25 := heap_kept hb5 hr24.out
  have h5 := heap_kept hb5 h4.out
  have hF5 := hide (hF0.out.below hb25.out)
  have hT5 := hide (hT0.out.later hb25.out)
  have c50 : w5.cell? ⟨w.heap.size + 1, 0, none⟩ = some (.int .i64 v) := (cell_of_row _ _ _ _ _ _ hr25).trans rfl
  have c51 : w5.cell? ⟨w.heap.size + 1, 1, none⟩ = some (.int .i64 p) := (cell_of_row _ _ _ _ _ _ hr25).trans rfl
  have c54 : w5.cell? ⟨a3, 14, none⟩ = some (.bool h.de) := (cell_of_row _ _ _ _ _ _ h5).trans rfl
  clear hI hb5 hb24 hr14 hr24 h4 c40 hr25 h5 hB0 hF0 hT0
  clear w4
  clear hpl
  cases pl
  · have hTg : tagFitsB (withTag h true p h.de v) = true := by
      have h1 := hv0.out
      have h2 := hp.out
      simp only [tagFitsB, withTag, if_true, decide_eq_true_eq]
      omega
    have hR := hide (Retag_ok (hF5.out) (hT5.out) hCa.out.good true p h.de v (by rw [hCa.out.hd]; exact hE.out true p h.de v hTg) (by rw [hCa.out.hd]; exact .inl rfl))
    have hCn : Hid (Carr (retagL F true p h.de v) (h.retag true p h.de v) l) := carr_retag hF5.out.byte hCa.out true p h.de v (hE.out true p h.de v hTg) (.inl rfl)
    clear hTg
    go_wp2_with fail
    refine hR.out.mono ?_
    rintro _ w6 ⟨g6, n6, rfl, hn6, hB6, hb6⟩
    have hbz := hide (hb25.out.later hb6)
    replace hB6 := hide hB6
    clear hR hn6 hb6 hF5
    go_wp2
    go_ret2
    exact ⟨_, _, _, rfl, hB6.out, hCn.out, hbz.out⟩
  · have hTg : tagFitsB (withTag h false 0 false 0) = true := by simp [tagFitsB, withTag]
    have hR := hide (Retag_ok (hF5.out) (hT5.out) hCa.out.good false 0 false 0 (by rw [hCa.out.hd]; exact hE.out false 0 false 0 hTg) (by rw [hCa.out.hd]; exact .inr hty.out))
    have hCn : Hid (Carr (retagL F false 0 false 0) (h.retag false 0 false 0) l) := carr_retag hF5.out.byte hCa.out false 0 false 0 (hE.out false 0 false 0 hTg) (.inr hty.out)
    clear hTg
    go_wp2_with fail
    refine hR.out.mono ?_
    rintro _ w6 ⟨g6, n6, rfl, hn6, hB6, hb6⟩
    have hbz := hide (hb25.out.later hb6)
    replace hB6 := hide hB6
    clear hR hn6 hb6 hF5
    go_wp2
    go_ret2
    exact ⟨_, _, _, rfl, hB6.out, hCn.out, hbz.out⟩
end Go.Proofs.YtiahiakllpjliaaDoor
