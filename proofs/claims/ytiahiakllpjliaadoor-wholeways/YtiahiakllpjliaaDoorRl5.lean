
/-
  Where a frame goes that a forwarding port takes in: relay's Decide. Conditions: those that each theorem names.
-/
import Derived.Test.YtiahiakllpjliaaDoorRl3
import Derived.Test.YtiahiakllpjliaaDoorSmH
namespace Go.Proofs.YtiahiakllpjliaaDoor
open Go.RowKit Go.Maps
set_option linter.unusedVariables false
set_option linter.unusedSimpArgs false
set_option maxRecDepth 20000

theorem Out.blk {B : Nat} {w w' : World} {v : Value} {l : List Int} (h : Out B w v l) (hb : ∀ b, v.ownBlock = some b → w'.heap[b]? = w.heap[b]?) : Out B w' v l := by
  refine ⟨⟨h.1.1, ?_⟩, h.2⟩
  rcases h.1.2 with e | ⟨g, cap, cur, h1, h2, h3, h4⟩
  · exact .inl e
  · refine .inr ⟨g, cap, cur, h1, h2, ?_, h4⟩
    rw [hb g (by rw [h1]; rfl)]
    exact h3
theorem Out.far {B : Nat} {w : World} {v : Value} {l : List Int} (h : Out B w v l) {b : Nat} (hb : v.ownBlock = some b) : B ≤ b := by
  rcases h.1.2 with ⟨rfl, _⟩ | ⟨g, cap, cur, rfl, h2, h3, h4⟩
  · simp [Value.ownBlock] at hb
  · simp only [Value.ownBlock, Option.some.injEq] at hb; omega
theorem Out.shape {B : Nat} {w : World} {v : Value} {l : List Int} (h : Out B w v l) : ∃ a cap, v = .slice a l.length cap := by
  rcases h.1.2 with ⟨rfl, h0⟩ | ⟨g, cap, cur, rfl, h2⟩
  · exact ⟨none, 0, by rw [h0]⟩
  · exact ⟨_, _, rfl⟩
@[reducible] def wayC (v p : Int) (s : Value) (r : Int) : Array Value := #[.int .i64 v, .int .i64 p, s, .int .i64 r]
theorem waySize (v p : Int) (s : Value) (r : Int) : (Tryd.prog.info? 42).map (·.size) = some (wayC v p s r).size := by kernel_rfl
theorem way_one (v p : Int) (a : Option Addr) (n cp : Nat) (r : Int) : (wayC v p (.slice a n cp) r).all (·.oneCell') = true := by simp [Value.oneCell']
def resM (m : M6) : Bool := resBR m.a m.b m.c m.d m.e m.f
theorem resM_any (m : M6) (w : World) (h : m.wf) : Calls Tryd.prog 39 #[.agg m.row] w fun r w' => r = .returned (.bool (resM m)) ∧ Below w.heap.size w w' :=
  Reserved_anyR m.a m.b m.c m.d m.e m.f w (by
    obtain ⟨h1, h2, h3, h4, h5, h6⟩ := h
    intro z hz
    simp at hz
    rcases hz with rfl | rfl | rfl | rfl | rfl | rfl <;> assumption)
theorem Kpt.row {A : Nat → Prop} {w w' : World} (h : Kpt A w w') {k : Nat} (hk : A k) {o : Obj} (hr : w.heap[k]? = some o) : w'.heap[k]? = some o := (h k hk).trans hr
theorem Br.kpt {A : Nat → Prop} {w w' : World} {g pb mb sb : Nat} {ps : List Pv} {f : Int → Option (Int × Int)} {c : Nat} {sts : List Int} (h : Br w g pb mb sb ps f c sts) (hk : Kpt A w w') (hA : ∀ k, k = g ∨ k = pb ∨ k = mb ∨ k = sb → A k) : Br w' g pb mb sb ps f c sts :=
  ⟨h.vt.blk fun k e => hk k (hA k (by rcases e with e | e | e <;> simp [e])), (hk sb (hA sb (by simp))).trans h.st, h.few⟩
section
variable {K : Nat} {A : Nat → Prop} {w : World} {g pb mb sb t : Nat} {ps : List Pv} {f : Int → Option (Int × Int)} {c : Nat} {sts : List Int} {room age lost : Int} {l : List Fe}
set_option maxHeartbeats 8000000 in
theorem Decide_on (h : Br w g pb mb sb ps f c sts) (hF : Fo K A w t room age lost l) (hA : ∀ k, k = g ∨ k = pb ∨ k = mb ∨ k = sb → A k) (hl : Fes l) (hlen : l.length < 100000) (port : Int) (HC : Array Value) (dst src : M6) (tg : Bool) (pcp vid : Int) (hM : HdMac HC dst src) (hI : HdIs HC tg pcp vid) (hd : dst.wf) (hs : src.wf) (hvid : I64G vid) (hps : ∀ p ∈ ps, I64G p.pvid) (now : Int) (hn : timeOk now) (hlo : 0 ≤ lost ∧ lost ≤ 4611686018427387904)
    (hres : resM dst = false) (v p : Int) (hv : I64G v) (hcl : classN ps f port tg pcp vid = (v, p, 0)) (hst : stateN sts port = 2) (e1 lost' : Int) (l' : List Fe) (hlr : learnR room age lost l v src port now = (e1, lost', l')) (xs : List Int) (rn : Int) (hld : leadR (opnB ps f sts v) ps.length age now v dst l' port = (xs, rn)) :
    Calls Tryd.prog 17 #[.agg (brC g t sb sts.length), .int .i64 port, .agg HC, .int .i64 now] w fun r w' => ∃ v', r = .returned (.agg (wayC v p v' rn)) ∧ Out w.heap.size w' v' xs ∧ Br w' g pb mb sb ps f c sts ∧ Fo K (fun k => A k ∨ v'.ownBlock = some k) w' t room age lost' l' ∧ Below K w w' ∧ Kpt A w w' := by
  have hAl := hide (fun k (e : A k) => show k < w.heap.size by obtain ⟨_, _, _, h3, _⟩ := hF; exact h3 k e)
  have hKs := hide hF.size
  have hw1 := hide (below1 w (.cells (brC g t sb sts.length) 35))
  have hw2 : Hid (Below w.heap.size w ((w.alloc (.cells (brC g t sb sts.length) 35)).alloc (.cells HC 25))) := hw1.out.later (below1 _ _)
  have hw3 : Hid (Below w.heap.size w (((w.alloc (.cells (brC g t sb sts.length) 35)).alloc (.cells HC 25)).alloc (.cells (wayC 0 0 (.slice none 0 0) 0) 42))) := hw2.out.later (below1 _ _)
  have hr1 := hide (heap_kept (below1 _ (.cells (wayC 0 0 (.slice none 0 0) 0) 42)) (heap_kept (below1 _ (.cells HC 25)) (heap_alloc_new w (.cells (brC g t sb sts.length) 35))))
  have hr2 := hide (heap_kept (below1 _ (.cells (wayC 0 0 (.slice none 0 0) 0) 42)) (heap_alloc_new (w.alloc (.cells (brC g t sb sts.length) 35)) (.cells HC 25)))
  have hr3 := hide (heap_alloc_new ((w.alloc (.cells (brC g t sb sts.length) 35)).alloc (.cells HC 25)) (.cells (wayC 0 0 (.slice none 0 0) 0) 42))
  have hs3 : Hid ((((w.alloc (.cells (brC g t sb sts.length) 35)).alloc (.cells HC 25)).alloc (.cells (wayC 0 0 (.slice none 0 0) 0) 42)).heap.size = w.heap.size + 1 + 1 + 1) := by show _ = _; simp only [World.size_alloc]
  simp only [World.size_alloc] at hr2 hr3
  have hR := hide (fun w => resM_any dst w hd)
  rw [hres] at hR
  have hHs : Hid ((Tryd.prog.info? 25).map (·.size) = some HC.size) := by show _ = _; rw [hM.size]; kernel_rfl
  have hB := hide (h.below hw3.out)
  have hF3 := hide (hF.more (A' := fun k => A k ∨ k = w.heap.size ∨ k = w.heap.size + 1 ∨ k = w.heap.size + 1 + 1) hw3.out fun k e => by
    have h1 := hs3.out
    rcases e with e | e | e | e
    · exact .inl e
    · exact .inr ⟨by omega, by omega⟩
    · exact .inr ⟨by omega, by omega⟩
    · exact .inr ⟨by omega, by omega⟩)
  have hsz := brSize g t sb sts.length
  replace hl := hide hl
  replace hM := hide hM
  replace hI := hide hI
  replace hlr := hide hlr
  replace hld := hide hld
  replace hcl := hide hcl
  replace hst := hide hst
  replace hd := hide hd
  replace hs := hide hs
  replace hps := hide hps
  replace hn := hide hn
  replace hA := hide hA
  have hdg := hide (fun (W : World) (hW : W.heap[w.heap.size + 1]? = some (.cells HC 25 (0, 0))) => hd_range (o := 0) hW (fun i u h => by rw [Nat.zero_add]; exact hM.out.dst i u h))
  have hsg := hide (fun (W : World) (hW : W.heap[w.heap.size + 1]? = some (.cells HC 25 (0, 0))) => hd_range (o := 6) hW hM.out.src)
  have hbr := hide (fun (W : World) (hW : W.heap[w.heap.size]? = some (.cells (brC g t sb sts.length) 35 (0, 0))) => show W.cell? ⟨w.heap.size, 0, none⟩ = some (.pointer (some ⟨g, 0, none⟩)) ∧ W.cell? ⟨w.heap.size, 1, none⟩ = some (.pointer (some ⟨t, 0, none⟩)) from ⟨(cell_of_row _ _ _ _ _ _ hW).trans rfl, (cell_of_row _ _ _ _ _ _ hW).trans rfl⟩)
  clear h hF hw1 hw2 hres
  generalize hbC : brC g t sb sts.length = C at *
  go_enter Tryd.func17, Tryd.ntmps17
  generalize hwW : ((w.alloc (.cells C 35)).alloc (.cells HC 25)).alloc (.cells (wayC 0 0 (.slice none 0 0) 0) 42) = w2 at *
  go_wp2_with ((with_reducible change wpList _ _ _ _ _ _); refine wpList_load_mid rfl 23 (.tmp 14) rfl (w.heap.size + 1) 0 rfl dst.row.toList _ (hdg.out _ hr2.out) Tryd.underlying23 rfl (m6Len _) ?_)
  refine (hR.out _).mono ?_
  rintro _ w3 ⟨rfl, hb3⟩
  have hB3 := hide (hB.out.below hb3)
  have hF4 := hide (hF3.out.below hb3)
  have hr13 := hide (heap_kept hb3 hr1.out)
  have hr23 := hide (heap_kept hb3 hr2.out)
  have hr33 := hide (heap_kept hb3 hr3.out)
  have hw33 : Hid (Below w.heap.size w w3) := hw3.out.later hb3
  have hs33 : Hid (w.heap.size + 1 + 1 + 1 ≤ w3.heap.size) := by show _ ≤ _; have h1 := hb3.size; have h2 := hs3.out; omega
  clear hR hb3 hB hF3 hr1 hr2 hr3 hw3 hs3 hwW
  have hC := hide (Class_any hB3.out.vt port HC tg pcp vid hI.out hvid hps.out)
  rw [hcl.out] at hC
  obtain ⟨c30, c31⟩ := hbr.out _ hr13.out
  go_wp2_with ((with_reducible change wpList _ _ _ _ _ _); refine wpList_load_row rfl 25 (.tmp 6) rfl (w.heap.size + 1) rfl 25 _ _ _ hr23.out Tryd.underlying25 rfl hHs.out ?_)
  refine hC.out.mono ?_
  rintro _ w4 ⟨rfl, hb4⟩
  have hB4 := hide (hB3.out.below hb4)
  have hF5 := hide (hF4.out.below hb4)
  have hr14 := hide (heap_kept hb4 hr13.out)
  have hr24 := hide (heap_kept hb4 hr23.out)
  have hr34 := hide (heap_kept hb4 hr33.out)
  have hw34 : Hid (Below w.heap.size w w4) := hw33.out.later hb4
  have hs34 : Hid (w.heap.size + 1 + 1 + 1 ≤ w4.heap.size) := Nat.le_trans hs33.out hb4.size
  clear hC hb4 hB3 hF4 hr13 hr23 hr33 hw33 hs33 c30 c31
  go_wp2_with ((with_reducible change wpList _ _ _ _ _ _); refine stop_storeB 42 (.tmp 12) (.tmp 34) rfl ?_)
  refine hide (fresh_atC rfl 42 (.tmp 12) (.tmp 34) rfl w4.heap.size rfl (wayC v p (.slice none 0 0) 0) (wayC 0 0 (.slice none 0 0) 0) rfl rfl 42 (waySize _ _ _ _) rfl (way_one _ _ _ _ _ _) ?_)
  intro w5 h5 hb5
  obtain ⟨a, ha⟩ : ∃ a, a = w4.heap.size := ⟨_, rfl⟩
  have hF6 := hide (hF5.out.more (A' := fun k => (A k ∨ k = w.heap.size ∨ k = w.heap.size + 1 ∨ k = w.heap.size + 1 + 1) ∨ k = w4.heap.size) hb5 fun k e => by
    rcases e with e | e
    · exact .inl e
    · exact .inr ⟨by omega, by have := (Array.getElem?_eq_some_iff.1 h5).1; omega⟩)
  rw [← ha] at h5 hF6 ⊢
  have hal : a < w5.heap.size := (Array.getElem?_eq_some_iff.1 h5).1
  have has : Hid (w.heap.size + 1 + 1 + 1 ≤ a) := by rw [ha]; exact hs34.out
  have hB5 := hide (hB4.out.below hb5)
  have hr15 := hide (heap_kept hb5 hr14.out)
  have hr25 := hide (heap_kept hb5 hr24.out)
  have hr35 := hide (heap_kept hb5 hr34.out)
  have hw35 : Hid (Below w.heap.size w w5) := hw34.out.later hb5
  replace h5 := hide h5
  replace hal := hide hal
  clear hb5 hB4 hF5 hr14 hr24 hr34 hw34 hs34 ha
  clear w4
  have hS := hide (state_any g t sb sts port w5 hB5.out.st hB5.out.few)
  rw [hst.out, hbC] at hS
  go_wp2_with ((with_reducible change wpList _ _ _ _ _ _); refine wpList_load_row rfl 35 (.tmp 4) rfl w.heap.size rfl 35 _ _ _ hr15.out Tryd.underlying35 rfl hsz ?_)
  refine hS.out.mono ?_
  rintro _ w6 ⟨rfl, hb6⟩
  have hB6 := hide (hB5.out.below hb6)
  have hF7 := hide (hF6.out.below hb6)
  have hr16 := hide (heap_kept hb6 hr15.out)
  have hr26 := hide (heap_kept hb6 hr25.out)
  have hr36 := hide (heap_kept hb6 hr35.out)
  have h6 := hide (heap_kept hb6 h5.out)
  have hw36 : Hid (Below w.heap.size w w6) := hw35.out.later hb6
  have hal6 : Hid (a < w6.heap.size) := Nat.lt_of_lt_of_le hal.out hb6.size
  clear hS hb6 hB5 hF6 hr15 hr25 hr35 h5 hw35 hal
  have hL := hide (FoLearn hF7.out hl.out v src port now hs.out hn.out hlo)
  rw [hlr.out] at hL
  obtain ⟨c60, c61⟩ := hbr.out _ hr16.out
  go_wp2_with ((with_reducible change wpList _ _ _ _ _ _); refine wpList_load_mid rfl 23 (.tmp 47) rfl (w.heap.size + 1) 6 rfl src.row.toList _ (hsg.out _ hr26.out) Tryd.underlying23 rfl (m6Len _) ?_)
  refine hL.out.mono ?_
  rintro _ w7 ⟨rfl, hF8, hb7, hk7⟩
  have hFes : Hid (Fes l') := by
    have h1 := hl.out.learn hlen (room := room) (age := age) (lost := lost) (vid := v) (port := port) (now := now) (m := src) hs.out hn.out
    rw [hlr.out] at h1
    exact h1
  have hB7 := hide (hB6.out.kpt hk7 (fun k e => .inl (.inl (hA.out k e))))
  have hr17 := hide (hk7.row (k := w.heap.size) (by simp) hr16.out)
  have hr27 := hide (hk7.row (k := w.heap.size + 1) (by simp) hr26.out)
  have hr37 := hide (hk7.row (k := w.heap.size + 1 + 1) (by simp) hr36.out)
  have h7 := hide (hk7.row (k := a) (by simp) h6.out)
  have hk0 : Hid (Kpt A w w7) := fun k e => (hk7 k (.inl (.inl e))).trans (hw36.out.block k (hAl.out k e))
  have hw37 : Hid (Below K w w7) := (hw36.out.mono hKs.out).trans hb7
  have hs7 : Hid (a < w7.heap.size ∧ w.heap.size ≤ w7.heap.size) := ⟨Nat.lt_of_lt_of_le hal6.out hb7.size, Nat.le_trans hw36.out.size hb7.size⟩
  replace hF8 := hide hF8
  clear hL hb7 hk7 hB6 hF7 hr16 hr26 hr36 h6 hw36 hal6 c60 c61
  clear w6
  have hLd := hide (lead_any hB7.out hF8.out hFes.out v port now dst hv hd.out hn.out)
  rw [hld.out, hbC] at hLd
  go_wp2_with (first | ((with_reducible change wpList _ _ _ _ _ _); refine wpList_load_row rfl 35 (.tmp 4) rfl w.heap.size rfl 35 _ _ _ hr17.out Tryd.underlying35 rfl hsz ?_) | ((with_reducible change wpList _ _ _ _ _ _); refine wpList_load_mid rfl 23 (.tmp 60) rfl (w.heap.size + 1) 0 rfl dst.row.toList _ (hdg.out _ hr27.out) Tryd.underlying23 rfl (m6Len _) ?_))
  refine hLd.out.mono ?_
  rintro _ w8 ⟨v8, rfl, hO8, hb8⟩
  have h8 := heap_kept hb8 h7.out
  have hr38 := hide (heap_kept hb8 hr37.out)
  obtain ⟨a8, c8, rfl⟩ := hO8.shape
  have hs8 := hb8.size
  have c82 : w8.cell? ⟨a, 2, none⟩ = some (.slice none 0 0) := (cell_of_row _ _ _ _ _ _ h8).trans rfl
  have c83 : w8.cell? ⟨a, 3, none⟩ = some (.int .i64 0) := (cell_of_row _ _ _ _ _ _ h8).trans rfl
  have f8 : ∀ o, w8.frozen? ⟨a, o, none⟩ = false := fun o => by simp [World.frozen?, h8]
  have f82 := f8 2
  have f83 := f8 3
  have hB8 := hide (hB7.out.below hb8)
  have hF9 := hide (hF8.out.more (A' := fun k => ((A k ∨ k = w.heap.size ∨ k = w.heap.size + 1 ∨ k = w.heap.size + 1 + 1) ∨ k = a) ∨ (Value.slice a8 xs.length c8).ownBlock = some k) hb8 fun k e => by
    rcases e with e | e
    · exact .inl e
    · refine .inr ⟨hO8.far e, ?_⟩
      rcases hO8.1.2 with ⟨q, _⟩ | ⟨g', cap', cur', q1, q2, q3, _⟩
      · rw [q] at e; simp [Value.ownBlock] at e
      · rw [q1] at e; simp only [Value.ownBlock, Option.some.injEq] at e; subst e; exact (Array.getElem?_eq_some_iff.1 q3).1)
  have hw38 : Hid (Below K w w8) := hw37.out.trans (hb8.mono (Nat.le_trans hKs.out hs7.out.2))
  have hk8 : Hid (Kpt A w w8) := fun k e => (hb8.block k (Nat.lt_of_lt_of_le (hAl.out k e) hs7.out.2)).trans (hk0.out k e)
  have hOd : Hid (Out w.heap.size w8 (.slice a8 xs.length c8) xs) := hO8.down hs7.out.2
  have hOf := hide (fun b (e : (Value.slice a8 xs.length c8).ownBlock = some b) => hO8.far e)
  replace h8 := hide h8
  clear hLd hO8 hb8 hr17 hr27 hr37 h7 f8 hB7 hF8 hw37 hk0
  go_wp2_with ((with_reducible change wpList _ _ _ _ _ _); refine stop_load 42 (.tmp 12) rfl ?_)
  have hC9 : Ch (fun k => k = a) w8 ((w8.setCell ⟨a, 2, none⟩ (.slice a8 xs.length c8)).setCell ⟨a, 3, none⟩ (.int .i64 rn)) := (Ch.setCells a 2 w8 [.slice a8 xs.length c8]).trans (Ch.setCells a 3 _ [.int .i64 rn])
  have h9 : ((w8.setCell ⟨a, 2, none⟩ (.slice a8 xs.length c8)).setCell ⟨a, 3, none⟩ (.int .i64 rn)).heap[a]? = some (.cells (wayC v p (.slice a8 xs.length c8) rn) 42 (0, 0)) := by
    have e1 := heap_setCell_same w8 a 2 _ _ (.slice a8 xs.length c8) h8.out
    have e2 := heap_setCell_same (w8.setCell ⟨a, 2, none⟩ (.slice a8 xs.length c8)) a 3 _ _ (.int .i64 rn) e1
    rw [e2]
    rfl
  have hne : w.heap.size + 1 + 1 ≠ a := by have := has.out; omega
  have h39 := (hC9.block _ (Array.getElem?_eq_some_iff.1 hr38.out).1 hne).trans hr38.out
  generalize (w8.setCell ⟨a, 2, none⟩ (.slice a8 xs.length c8)).setCell ⟨a, 3, none⟩ (.int .i64 rn) = w9 at *
  have hC10 : Hid (Ch (fun k => k = a ∨ k = w.heap.size + 1 + 1) w8 (w9.setRow (w.heap.size + 1 + 1) (wayC v p (.slice a8 xs.length c8) rn))) := (hC9.mono fun k e => .inl e).trans ⟨rfl, rfl, rfl, by simp [World.setRow], fun k _ hk => Go.setRow_other w9 (w.heap.size + 1 + 1) k _ (fun e => hk (.inr e))⟩
  have hrz := setRow_heap w9 (w.heap.size + 1 + 1) _ (wayC v p (.slice a8 xs.length c8) rn) _ _ h39
  refine hide (wpList_load_row rfl 42 (.tmp 12) rfl a rfl 42 _ _ _ h9 Tryd.underlying42 rfl (waySize _ _ _ _) ?_)
  refine wpList_store_row rfl 42 (.tmp 8) (.tmp 68) rfl (w.heap.size + 1 + 1) (wayC v p (.slice a8 xs.length c8) rn) rfl rfl 42 _ h39 (waySize _ _ _ _) rfl (way_one _ _ _ _ _ _) ?_
  generalize w9.setRow (w.heap.size + 1 + 1) (wayC v p (.slice a8 xs.length c8) rn) = w10 at *
  have hOz : Hid (Out w.heap.size w10 (.slice a8 xs.length c8) xs) := hOd.out.blk fun b e => hC10.out.block b (by
    rcases hOd.out.1.2 with ⟨q, _⟩ | ⟨g', cap', cur', q1, q2, q3, _⟩
    · rw [q] at e; simp [Value.ownBlock] at e
    · rw [q1] at e; simp only [Value.ownBlock, Option.some.injEq] at e; subst e; exact (Array.getElem?_eq_some_iff.1 q3).1) (fun e' => by
    have h1 := hOf.out b e
    have h2 := hs7.out
    have h3 := has.out
    rcases e' with e' | e' <;> omega)
  have hkA : Hid (Kpt A w8 w10) := fun k e => hC10.out.block k (by have h1 := hAl.out k e; have h2 := hs7.out; omega) (fun e' => by
    have h1 := hAl.out k e
    have h3 := has.out
    rcases e' with e' | e' <;> omega)
  have hBz := hide (hB8.out.kpt hkA.out hA.out)
  have hFz : Hid (Fo K (fun k => A k ∨ (Value.slice a8 xs.length c8).ownBlock = some k) w10 t room age lost' l') := (hF9.out.wrote (hC10.out.mono fun k e => by rcases e with e | e <;> simp [e])).sub fun k e => by
    rcases e with e | e
    · exact .inl (.inl (.inl e))
    · exact .inr e
  have hwz : Hid (Below K w w10) := hw38.out.trans (hC10.out.belowK (fun k e => by
    have h1 := hKs.out
    have h3 := has.out
    rcases e with e | e <;> omega) (by have h1 := hKs.out; have h2 := hs7.out; omega))
  have hkz : Hid (Kpt A w w10) := hk8.out.trans hkA.out
  clear hC10 hOd hOf hkA hB8 hF9 hw38 hk8 hC9 h9 h39 hr38 h8
  go_wp2_with fail
  refine bodyPost_ret (v := .agg (wayC v p (.slice a8 xs.length c8) rn)) ?_ rfl ⟨_, rfl, hOz.out, hBz.out, hFz.out, hwz.out, hkz.out⟩
  exact results_cell_row rfl _ _ (w.heap.size + 1 + 1) 42 _ _ _ rfl hrz Tryd.underlying42 rfl (waySize _ _ _ _)
end
end Go.Proofs.YtiahiakllpjliaaDoor
