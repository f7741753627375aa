import Derived.Test.YtiahiakllpjliaaDoorSmH
/-
  Filters of layer 14 ('Sf'), what tells them, and the functions that do. Conditions: those that each theorem names.
-/
namespace Go.Proofs.YtiahiakllpjliaaDoor
open Go.RowKit Go.Maps
set_option linter.unusedVariables false
set_option linter.unusedSimpArgs false
set_option maxRecDepth 20000

structure Sf where
  (kind : Int) (m : M6) (vid num : Int)
  deriving DecidableEq
@[reducible] def Sf.zero : Sf := ⟨0, ⟨0, 0, 0, 0, 0, 0⟩, 0, 0⟩
@[reducible] def fSf (e : Sf) : List Value := [.int .i64 e.kind, .int .u8 e.m.a, .int .u8 e.m.b, .int .u8 e.m.c, .int .u8 e.m.d, .int .u8 e.m.e, .int .u8 e.m.f, .int .i64 e.vid, .int .i64 e.num]
theorem wide_Sf : WideF fSf 9 := ⟨fun _ => rfl, fun x u hu => by simp at hu; rcases hu with rfl | rfl | rfl | rfl | rfl | rfl | rfl | rfl | rfl <;> rfl⟩
theorem sfLen (e : Sf) : (Tryd.prog.info? 56).map (·.size) = some (fSf e).length := by kernel_rfl
theorem sfSize (e : Sf) : (Tryd.prog.info? 56).map (·.size) = some (fSf e).toArray.size := by kernel_rfl
theorem sf_all (e : Sf) : (fSf e).toArray.all (·.oneCell') = true := by simp [Value.oneCell']
def mayF (e : Sf) : Bool := decide (0 ≤ e.kind) && decide (e.kind < 2) && decide (0 ≤ e.vid) && decide (e.vid ≤ 4094) && decide (0 ≤ e.num)
def thatB (kind : Int) (m : M6) (vid : Int) (e : Sf) : Bool := e.kind == kind && decide (e.m = m) && e.vid == vid
def tellB (dst src : M6) (vid : Int) (e : Sf) : Bool := decide (e.m = if e.kind = 1 then src else dst) && (e.vid == 0 || e.vid == vid)
theorem mayF_any (e : Sf) (w : World) : Calls Tryd.prog 36 #[.agg (fSf e).toArray] w fun r w' => r = .returned (.bool (mayF e)) ∧ Below w.heap.size w w' := by
  have h0 : (w.alloc (.cells (fSf e).toArray 56)).cell? ⟨w.heap.size, 0, none⟩ = some (.int .i64 e.kind) := (cell_of_row _ _ _ _ _ _ (heap_alloc_new w _)).trans rfl
  have h7 : (w.alloc (.cells (fSf e).toArray 56)).cell? ⟨w.heap.size, 7, none⟩ = some (.int .i64 e.vid) := (cell_of_row _ _ _ _ _ _ (heap_alloc_new w _)).trans rfl
  have h8 : (w.alloc (.cells (fSf e).toArray 56)).cell? ⟨w.heap.size, 8, none⟩ = some (.int .i64 e.num) := (cell_of_row _ _ _ _ _ _ (heap_alloc_new w _)).trans rfl
  have hb := hide (below1 w (.cells (fSf e).toArray 56))
  obtain ⟨R, hR⟩ : ∃ R, R = mayF e := ⟨_, rfl⟩
  rw [← hR]
  unfold mayF at hR
  generalize hC : (fSf e).toArray = C at *
  generalize e.kind = k at *
  generalize e.vid = v at *
  generalize e.num = n at *
  clear hC
  by_cases c1 : 0 ≤ k
  · by_cases c2 : k < 2
    · by_cases c3 : 0 ≤ v
      · by_cases c4 : v ≤ 4094
        · by_cases c5 : 0 ≤ n
          · obtain rfl : R = true := by rw [hR]; simp [c1, c2, c3, c4, c5]
            clear hR
            go_enter Tryd.func36, Tryd.ntmps36
            go_wp2
            go_ret
            exact ⟨rfl, hb.out⟩
          · obtain rfl : R = false := by rw [hR]; simp [c5]
            clear hR
            go_enter Tryd.func36, Tryd.ntmps36
            go_wp2
            go_ret
            exact ⟨rfl, hb.out⟩
        · obtain rfl : R = false := by rw [hR]; simp [c4]
          clear hR
          go_enter Tryd.func36, Tryd.ntmps36
          go_wp2
          go_ret
          exact ⟨rfl, hb.out⟩
      · obtain rfl : R = false := by rw [hR]; simp [c3]
        clear hR
        go_enter Tryd.func36, Tryd.ntmps36
        go_wp2
        go_ret
        exact ⟨rfl, hb.out⟩
    · obtain rfl : R = false := by rw [hR]; simp [c2]
      clear hR
      go_enter Tryd.func36, Tryd.ntmps36
      go_wp2
      go_ret
      exact ⟨rfl, hb.out⟩
  · obtain rfl : R = false := by rw [hR]; simp [c1]
    clear hR
    go_enter Tryd.func36, Tryd.ntmps36
    go_wp2
    go_ret
    exact ⟨rfl, hb.out⟩
/-- A function of filters that tells those of p, as long as the blocks from B on are as they are in w. -/
def Cl4 (B : Nat) (w : World) (F : FuncId) (caps : Array Value) (p : Sf → Bool) (ok : Sf → Prop) : Prop :=
  ∀ w' : World, w.heap.size ≤ w'.heap.size → (∀ k, B ≤ k → k < w.heap.size → w'.heap[k]? = w.heap[k]?) → ∀ e, ok e →
    Calls Tryd.prog F (#[.agg (fSf e).toArray] ++ caps) w' fun r w'' => r = .returned (.bool (p e)) ∧ Below w'.heap.size w' w''
theorem sf_mac (e : Sf) {w : World} {b : Nat} (h : w.heap[b]? = some (.cells (fSf e).toArray 56 (0, 0))) : w.rangeAt b 1 e.m.row.toList := World.rangeAt_of_block h 1 6
theorem that_any (q1 q2 q3 : Nat) (kind vid : Int) (m : M6) (e : Sf) (w : World) (hq1 : w.cell? ⟨q1, 0, none⟩ = some (.int .i64 kind)) (hq2 : w.heap[q2]? = some (.cells m.row 23 (0, 0))) (hq3 : w.cell? ⟨q3, 0, none⟩ = some (.int .i64 vid)) (hm : m.wf) (he : e.m.wf) :
    Calls Tryd.prog 56 #[.agg (fSf e).toArray, .pointer (some ⟨q1, 0, none⟩), .pointer (some ⟨q2, 0, none⟩), .pointer (some ⟨q3, 0, none⟩)] w fun r w' => r = .returned (.bool (thatB kind m vid e)) ∧ Below w.heap.size w w' := by
  have h1 : (w.alloc (.cells (fSf e).toArray 56)).cell? ⟨w.heap.size, 0, none⟩ = some (.int .i64 e.kind) := (cell_of_row _ _ _ _ _ _ (heap_alloc_new w _)).trans rfl
  have h7 : (w.alloc (.cells (fSf e).toArray 56)).cell? ⟨w.heap.size, 7, none⟩ = some (.int .i64 e.vid) := (cell_of_row _ _ _ _ _ _ (heap_alloc_new w _)).trans rfl
  have h2 : (w.alloc (.cells (fSf e).toArray 56)).cell? ⟨q1, 0, none⟩ = some (.int .i64 kind) := ((bcell (below1 w _)).1 _ _ (block_lt_of_cell hq1)).trans hq1
  have h5 : (w.alloc (.cells (fSf e).toArray 56)).cell? ⟨q3, 0, none⟩ = some (.int .i64 vid) := ((bcell (below1 w _)).1 _ _ (block_lt_of_cell hq3)).trans hq3
  have h3 := hide (sf_mac e (heap_alloc_new w (.cells (fSf e).toArray 56)))
  have h4 := hide (heap_kept (below1 w (.cells (fSf e).toArray 56)) hq2)
  have hb := hide (below1 w (.cells (fSf e).toArray 56))
  have hE := m6_eql e.m m he hm
  obtain ⟨R, hR⟩ : ∃ R, R = thatB kind m vid e := ⟨_, rfl⟩
  rw [← hR]
  unfold thatB at hR
  generalize hC : (fSf e).toArray = C at *
  generalize decide (e.m = m) = d at *
  generalize e.kind = ek at *
  generalize e.vid = ev at *
  generalize e.m = em at *
  clear hq1 hq3 hC
  by_cases hv : ek = kind
  · have hv' : (ek == kind) = true := by rw [hv]; simp
    rw [hv', Bool.true_and] at hR
    cases d
    · obtain rfl : R = false := hR
      go_enter Tryd.func56, Tryd.ntmps56
      go_wp2_with (first | ((with_reducible change wpList _ _ _ _ _ _); refine wpList_load_mid_on rfl 23 (.tmp 11) rfl w.heap.size 1 rfl em.row.toList _ h3.out Tryd.underlying23 rfl (m6Len _) ?_) | ((with_reducible change wpList _ _ _ _ _ _); refine wpList_load_row_on rfl 23 (.tmp 2) rfl q2 rfl 23 _ _ _ h4.out Tryd.underlying23 rfl (m6Size _) ?_))
      go_ret
      exact ⟨rfl, hb.out⟩
    · obtain rfl : R = (ev == vid) := by rw [hR]; rfl
      clear hR
      go_enter Tryd.func56, Tryd.ntmps56
      go_wp2_with (first | ((with_reducible change wpList _ _ _ _ _ _); refine wpList_load_mid_on rfl 23 (.tmp 11) rfl w.heap.size 1 rfl em.row.toList _ h3.out Tryd.underlying23 rfl (m6Len _) ?_) | ((with_reducible change wpList _ _ _ _ _ _); refine wpList_load_row_on rfl 23 (.tmp 2) rfl q2 rfl 23 _ _ _ h4.out Tryd.underlying23 rfl (m6Size _) ?_))
      go_ret
      exact ⟨rfl, hb.out⟩
  · have hv' : (ek == kind) = false := beq_eq_false_iff_ne.2 hv
    rw [hv', Bool.false_and, Bool.false_and] at hR
    obtain rfl : R = false := hR
    clear h3 h4 hE
    go_enter Tryd.func56, Tryd.ntmps56
    go_wp2
    go_ret
    exact ⟨rfl, hb.out⟩
set_option maxHeartbeats 4000000 in
theorem tell_any (q1 q2 : Nat) (cs : Array Value) (dst src : M6) (hH : HdMac cs dst src) (vid : Int) (e : Sf) (w : World) (hq1 : w.heap[q1]? = some (.cells cs 25 (0, 0))) (hq2 : w.cell? ⟨q2, 0, none⟩ = some (.int .i64 vid)) (hd : dst.wf) (hs : src.wf) (he : e.m.wf) :
    Calls Tryd.prog 67 #[.agg (fSf e).toArray, .pointer (some ⟨q1, 0, none⟩), .pointer (some ⟨q2, 0, none⟩)] w fun r w' => r = .returned (.bool (tellB dst src vid e)) ∧ Below w.heap.size w w' := by
  have hA := hide (hd_range (o := 0) (heap_kept (below1 w (.cells (fSf e).toArray 56)) hq1) (fun i u h => by rw [Nat.zero_add]; exact hH.dst i u h))
  have hB := hide (fun (w' : World) (hb : Below w.heap.size w w') => hd_range (o := 6) (heap_kept hb hq1) hH.src)
  have hb := hide (below1 w (.cells (fSf e).toArray 56))
  have h2 : Hid (∀ w', Below w.heap.size w w' → w'.cell? ⟨q2, 0, none⟩ = some (.int .i64 vid)) := fun w' hb => (hb.cell (p := ⟨q2, 0, none⟩) (block_lt_of_cell hq2)).trans hq2
  have hr := hide (heap_alloc_new w (.cells (fSf e).toArray 56))
  obtain ⟨R, hR⟩ : ∃ R, R = tellB dst src vid e := ⟨_, rfl⟩
  rw [← hR]
  replace hR := hide hR
  clear hq1 hq2
  go_enter Tryd.func67, Tryd.ntmps67
  go_wp2_with (first | ((with_reducible change wpList _ _ _ _ _ _); refine wpList_load_mid rfl 23 (.tmp 6) rfl q1 0 rfl dst.row.toList _ hA.out Tryd.underlying23 rfl (m6Len _) ?_) | ((with_reducible change wpList _ _ _ _ _ _); refine stop_storeB 23 (.tmp 5) (.tmp 7) rfl ?_))
  have hs1 : (w.alloc (.cells (fSf e).toArray 56)).heap.size = w.heap.size + 1 := World.size_alloc _ _
  refine hide (fresh_atC rfl 23 (.tmp 5) (.tmp 7) rfl (w.heap.size + 1) hs1.symm dst.row (M6.row ⟨0, 0, 0, 0, 0, 0⟩) rfl rfl 23 (m6Size _) rfl (by simp [Value.oneCell']) ?_)
  intro w3 h3 hb3
  have hb4 := hide (hb.out.later hb3)
  have hrz := hide (heap_kept hb3 hr.out)
  have k0 : w3.cell? ⟨w.heap.size, 0, none⟩ = some (.int .i64 e.kind) := (cell_of_row _ _ _ _ _ _ hrz.out).trans rfl
  have hdf : Hid dst.wf := hd
  have hsf : Hid src.wf := hs
  replace he := hide he
  clear hb3 hr hA hb hd hs
  by_cases hk : e.kind = 1
  · have hk' : (e.kind == 1) = true := by rw [hk]; rfl
    have hBs := hide (hB.out w3 hb4.out)
    go_wp2_with (first | ((with_reducible change wpList _ _ _ _ _ _); refine wpList_load_mid rfl 23 (.tmp 11) rfl q1 6 rfl src.row.toList _ hBs.out Tryd.underlying23 rfl (m6Len _) ?_) | ((with_reducible change wpList _ _ _ _ _ _); refine stop_storeB 23 (.tmp 5) (.tmp 12) rfl ?_))
    refine hide (wpList_store_row rfl 23 (.tmp 5) (.tmp 12) rfl (w.heap.size + 1) src.row rfl rfl 23 _ h3 (m6Size _) rfl (by simp [Value.oneCell']) ?_)
    have hoz : Hid ((w3.setRow (w.heap.size + 1) src.row).heap[w.heap.size + 1]? = some (.cells src.row 23 (0, 0))) := setRow_heap _ _ _ _ _ _ h3
    replace hrz : Hid ((w3.setRow (w.heap.size + 1) src.row).heap[w.heap.size]? = some (.cells (fSf e).toArray 56 (0, 0))) := (Go.setRow_other w3 (w.heap.size + 1) w.heap.size src.row (by omega)).trans hrz.out
    have hbz : Hid (Below w.heap.size w (w3.setRow (w.heap.size + 1) src.row)) := hb4.out.trans ⟨rfl, rfl, rfl, by simp [World.setRow], fun k hk => Go.setRow_other _ _ _ _ (by omega)⟩
    clear hb4 k0 h3 hB hBs hk'
    generalize w3.setRow (w.heap.size + 1) src.row = w4 at *
    clear w3
    replace he := he.out
    have hE := m6_eql e.m src he hsf.out
    have k7 : w4.cell? ⟨w.heap.size, 7, none⟩ = some (.int .i64 e.vid) := (cell_of_row _ _ _ _ _ _ hrz.out).trans rfl
    have kq := h2.out w4 hbz.out
    have hmz := hide (sf_mac e hrz.out)
    replace hR := hR.out
    unfold tellB at hR
    rw [if_pos hk] at hR
    generalize decide (e.m = src) = d at *
    generalize e.vid = ev at *
    generalize e.m = em at *
    cases d
    · rw [Bool.false_and] at hR
      obtain rfl : R = false := hR
      go_wp2_with (first | ((with_reducible change wpList _ _ _ _ _ _); refine wpList_load_mid rfl 23 (.tmp 13) rfl w.heap.size 1 rfl em.row.toList _ hmz.out Tryd.underlying23 rfl (m6Len _) ?_) | ((with_reducible change wpList _ _ _ _ _ _); refine stop_load 23 (.tmp 5) rfl ?_))
      refine hide (wpList_load_row rfl 23 (.tmp 5) rfl (w.heap.size + 1) rfl 23 _ _ _ hoz.out Tryd.underlying23 rfl (m6Size _) ?_)
      go_wp2
      go_ret
      exact ⟨rfl, hbz.out⟩
    · rw [Bool.true_and] at hR
      by_cases hv : ev = 0
      · have hv' : (ev == 0) = true := by rw [hv]; rfl
        rw [hv', Bool.true_or] at hR
        obtain rfl : R = true := hR
        go_wp2_with (first | ((with_reducible change wpList _ _ _ _ _ _); refine wpList_load_mid rfl 23 (.tmp 13) rfl w.heap.size 1 rfl em.row.toList _ hmz.out Tryd.underlying23 rfl (m6Len _) ?_) | ((with_reducible change wpList _ _ _ _ _ _); refine stop_load 23 (.tmp 5) rfl ?_))
        refine hide (wpList_load_row rfl 23 (.tmp 5) rfl (w.heap.size + 1) rfl 23 _ _ _ hoz.out Tryd.underlying23 rfl (m6Size _) ?_)
        go_wp2
        go_ret
        exact ⟨rfl, hbz.out⟩
      · have hv' : (ev == 0) = false := beq_eq_false_iff_ne.2 hv
        rw [hv', Bool.false_or] at hR
        generalize hq : (ev == vid) = qb at *
        subst hR
        go_wp2_with (first | ((with_reducible change wpList _ _ _ _ _ _); refine wpList_load_mid rfl 23 (.tmp 13) rfl w.heap.size 1 rfl em.row.toList _ hmz.out Tryd.underlying23 rfl (m6Len _) ?_) | ((with_reducible change wpList _ _ _ _ _ _); refine stop_load 23 (.tmp 5) rfl ?_))
        refine hide (wpList_load_row rfl 23 (.tmp 5) rfl (w.heap.size + 1) rfl 23 _ _ _ hoz.out Tryd.underlying23 rfl (m6Size _) ?_)
        go_wp2
        go_ret
        exact ⟨rfl, hbz.out⟩
  · have hk' : (e.kind == 1) = false := beq_eq_false_iff_ne.2 hk
    have hoz := hide h3
    have hbz := hb4
    clear h3 hb4 hB
    replace he := he.out
    have hE := m6_eql e.m dst he hdf.out
    have k7 : w3.cell? ⟨w.heap.size, 7, none⟩ = some (.int .i64 e.vid) := (cell_of_row _ _ _ _ _ _ hrz.out).trans rfl
    have kq := h2.out w3 hbz.out
    have hmz := hide (sf_mac e hrz.out)
    replace hR := hR.out
    unfold tellB at hR
    rw [if_neg hk] at hR
    generalize decide (e.m = dst) = d at *
    generalize e.vid = ev at *
    generalize e.m = em at *
    cases d
    · rw [Bool.false_and] at hR
      obtain rfl : R = false := hR
      go_wp2_with (first | ((with_reducible change wpList _ _ _ _ _ _); refine wpList_load_mid rfl 23 (.tmp 13) rfl w.heap.size 1 rfl em.row.toList _ hmz.out Tryd.underlying23 rfl (m6Len _) ?_) | ((with_reducible change wpList _ _ _ _ _ _); refine stop_load 23 (.tmp 5) rfl ?_))
      refine hide (wpList_load_row rfl 23 (.tmp 5) rfl (w.heap.size + 1) rfl 23 _ _ _ hoz.out Tryd.underlying23 rfl (m6Size _) ?_)
      go_wp2
      go_ret
      exact ⟨rfl, hbz.out⟩
    · rw [Bool.true_and] at hR
      by_cases hv : ev = 0
      · have hv' : (ev == 0) = true := by rw [hv]; rfl
        rw [hv', Bool.true_or] at hR
        obtain rfl : R = true := hR
        go_wp2_with (first | ((with_reducible change wpList _ _ _ _ _ _); refine wpList_load_mid rfl 23 (.tmp 13) rfl w.heap.size 1 rfl em.row.toList _ hmz.out Tryd.underlying23 rfl (m6Len _) ?_) | ((with_reducible change wpList _ _ _ _ _ _); refine stop_load 23 (.tmp 5) rfl ?_))
        refine hide (wpList_load_row rfl 23 (.tmp 5) rfl (w.heap.size + 1) rfl 23 _ _ _ hoz.out Tryd.underlying23 rfl (m6Size _) ?_)
        go_wp2
        go_ret
        exact ⟨rfl, hbz.out⟩
      · have hv' : (ev == 0) = false := beq_eq_false_iff_ne.2 hv
        rw [hv', Bool.false_or] at hR
        generalize hq : (ev == vid) = qb at *
        subst hR
        go_wp2_with (first | ((with_reducible change wpList _ _ _ _ _ _); refine wpList_load_mid rfl 23 (.tmp 13) rfl w.heap.size 1 rfl em.row.toList _ hmz.out Tryd.underlying23 rfl (m6Len _) ?_) | ((with_reducible change wpList _ _ _ _ _ _); refine stop_load 23 (.tmp 5) rfl ?_))
        refine hide (wpList_load_row rfl 23 (.tmp 5) rfl (w.heap.size + 1) rfl 23 _ _ _ hoz.out Tryd.underlying23 rfl (m6Size _) ?_)
        go_wp2
        go_ret
        exact ⟨rfl, hbz.out⟩
end Go.Proofs.YtiahiakllpjliaaDoor

/-
  Contracts of slices.IndexFunc and ContainsFunc at filters; who makes the functions that tell filters. Conditions: those that each theorem names.
-/
namespace Go.Proofs.YtiahiakllpjliaaDoor
open Go.RowKit Go.Maps
set_option linter.unusedVariables false
set_option linter.unusedSimpArgs false
set_option maxRecDepth 20000

theorem Cl4.later {B : Nat} {w w1 : World} {F : FuncId} {caps : Array Value} {p : Sf → Bool} {ok : Sf → Prop} (h : Cl4 B w F caps p ok) (h1 : w.heap.size ≤ w1.heap.size) (h2 : ∀ k, B ≤ k → k < w.heap.size → w1.heap[k]? = w.heap[k]?) : Cl4 B w1 F caps p ok :=
  fun w' g1 g2 e he => h w' (by omega) (fun k k1 k2 => (g2 k k1 (by omega)).trans (h2 k k1 k2)) e he
set_option maxHeartbeats 4000000 in
theorem IndexF_any {B : Nat} {w : World} {v : Value} {l : List Sf} {F : FuncId} {caps : Array Value} {p : Sf → Bool} {ok : Sf → Prop} (h : Sl w v 56 9 fSf l) (hl : l.length ≤ 100000) (hok : ∀ e ∈ l, ok e) (hc : Hid (Cl4 B w F caps p ok)) (hgo : ∀ (args : Array Value) (w : World), (callFunc F args).run Tryd.prog w = .ok (.enter F args) w) :
    Calls Tryd.prog 45 #[v, .func (.func F) #[] caps] w fun r w' => ∃ i : Int, r = .returned (.int .i64 i) ∧ Below w.heap.size w w' ∧
      ((i = -1 ∧ ∀ j, j < l.length → p (l.getD j Sf.zero) = false) ∨ ∃ k : Nat, i = k ∧ k < l.length ∧ p (l.getD k Sf.zero) = true ∧ ∀ j, j < k → p (l.getD j Sf.zero) = false) := by
  obtain ⟨a, cap, rfl⟩ := h.shape
  have hS := hide h
  have hn : Hid (l.length = l.length) := rfl
  generalize hL : l.length = L at *
  replace hL := hide hL
  clear h hn
  go_enter Tryd.func45, Tryd.ntmps45
  go_wp2
  go_loopw [8] (fun i wr => ∃ j : Nat, j ≤ L ∧ i = .int .i64 j ∧ Hid (Below w.heap.size w wr) ∧ Hid (∀ k, k < j → p (l.getD k Sf.zero) = false)) (fun i _ => L - (intOf i).toNat)
  case atStart => exact ⟨0, Nat.zero_le _, rfl, Below.refl _ _, fun k hk => by omega⟩
  case round =>
    obtain ⟨j, hj, rfl, hB, hno⟩ := hrel
    by_cases hlt : j < L
    · have hSr := hS.out.below hB.out
      rw [← hL.out] at hSr
      obtain ⟨b, cap', sp, hv, hF, _, _⟩ := hSr.at_i (by rw [hL.out]; omega)
      simp only [Value.slice.injEq] at hv
      obtain ⟨rfl, _, rfl⟩ := hv
      have hrg := hide (hF.range wide_Sf Sf.zero j (by rw [hL.out]; exact hlt))
      have hme : ok (l.getD j Sf.zero) := hok _ (by rw [List.getD_eq_getElem?_getD, List.getElem?_eq_getElem (by rw [hL.out]; exact hlt)]; exact List.getElem_mem _)
      have hcall := hide (hc.out wr hB.out.size (fun k _ hk => hB.out.block k hk) _ hme)
      clear hF hSr hme
      generalize hpe : p (l.getD j Sf.zero) = pe at *
      generalize hee : l.getD j Sf.zero = e at *
      replace hee := hide hee
      go_wp2_with ((with_reducible change wpList _ _ _ _ _ _); refine wpList_load_mid rfl 56 (.tmp 14) rfl b (j * 9) rfl (fSf e) _ hrg.out Tryd.underlying56 rfl (sfLen _) ?_)
      refine hcall.out.mono ?_
      rintro r w2 ⟨rfl, hb2⟩
      have hB2 : Hid (Below w.heap.size w w2) := hB.out.later hb2
      clear hcall hrg hb2
      cases pe
      · go_wp2
        go_roundw
        case rel => exact ⟨j + 1, by omega, by go_num, hB2, fun k hk => by
          rcases (show k < j ∨ k = j by omega) with h | rfl
          · exact hno.out k h
          · rw [hee.out]; exact hpe⟩
        case measure => simp [intOf]; omega
      · replace hpe := hide hpe
        go_wp2
        go_ret
        exact ⟨_, rfl, hB2.out, .inr ⟨j, rfl, hlt, by rw [hee.out]; exact hpe.out, fun k hk => hno.out k hk⟩⟩
    · obtain rfl : j = L := by omega
      go_wp2
      go_ret
      exact ⟨_, rfl, hB.out, .inl ⟨rfl, fun k hk => hno.out k hk⟩⟩
/-- Is there one that it tells? -/
theorem ContainsF_any {B : Nat} {w : World} {v : Value} {l : List Sf} {F : FuncId} {caps : Array Value} {p : Sf → Bool} {ok : Sf → Prop} (h : Sl w v 56 9 fSf l) (hl : l.length ≤ 100000) (hok : ∀ e ∈ l, ok e) (hc : Hid (Cl4 B w F caps p ok)) (hgo : ∀ (args : Array Value) (w : World), (callFunc F args).run Tryd.prog w = .ok (.enter F args) w) :
    Calls Tryd.prog 37 #[v, .func (.func F) #[] caps] w fun r w' => r = .returned (.bool (l.any p)) ∧ Below w.heap.size w w' := by
  have hI := hide (IndexF_any h hl hok hc hgo)
  obtain ⟨a, cap, rfl⟩ := h.shape
  obtain ⟨R, hR⟩ : ∃ R, R = l.any p := ⟨_, rfl⟩
  rw [← hR]
  replace hR := hide hR
  go_enter Tryd.func37, Tryd.ntmps37
  go_wp2_with fail
  refine hI.out.mono ?_
  rintro _ w1 ⟨i, rfl, hb1, ⟨rfl, hno⟩ | ⟨k, rfl, hk, hpk, hno⟩⟩
  · obtain rfl : R = false := by
      rw [hR.out, List.any_eq_false]
      intro e he
      obtain ⟨j, hj, rfl⟩ := List.getElem_of_mem he
      have := hno j hj
      rw [List.getD_eq_getElem?_getD, List.getElem?_eq_getElem hj] at this
      simp at this
      rw [this]; decide
    have hB := hide hb1
    clear hI hno hb1 hc h
    go_wp2
    go_ret
    exact ⟨rfl, hB.out⟩
  · obtain rfl : R = true := by
      rw [hR.out, List.any_eq_true]
      refine ⟨l.getD k Sf.zero, ?_, hpk⟩
      rw [List.getD_eq_getElem?_getD, List.getElem?_eq_getElem hk]
      exact List.getElem_mem _
    have hB := hide hb1
    clear hI hno hb1 hc h hpk
    go_wp2
    go_ret
    exact ⟨rfl, hB.out⟩
theorem go_that (args : Array Value) (w : World) : (callFunc 56 args).run Tryd.prog w = .ok (.enter 56 args) w := by
  simp [callFunc, go_sem, Tryd.func56]
  rfl
theorem go_tells (args : Array Value) (w : World) : (callFunc 67 args).run Tryd.prog w = .ok (.enter 67 args) w := by
  simp [callFunc, go_sem, Tryd.func67]
  rfl
theorem cell_laterS {w w' : World} {b : Nat} (h : w'.heap[b]? = w.heap[b]?) (o : Nat) : w'.cell? ⟨b, o, none⟩ = w.cell? ⟨b, o, none⟩ := World.cell?_of_block (a := ⟨b, o, none⟩) h
theorem mkThat_any (kind vid : Int) (m : M6) (w : World) (hm : m.wf) : Calls Tryd.prog 38 #[.int .i64 kind, .agg m.row, .int .i64 vid] w fun r w' => ∃ caps, r = .returned (.func (.func 56) #[] caps) ∧ Below w.heap.size w w' ∧ Cl4 w.heap.size w' 56 caps (thatB kind m vid) (fun e => e.m.wf) := by
  have s1 : (w.alloc (.cells #[.int .i64 kind] 3)).heap.size = w.heap.size + 1 := World.size_alloc _ _
  have s2 : ((w.alloc (.cells #[.int .i64 kind] 3)).alloc (.cells m.row 23)).heap.size = w.heap.size + 1 + 1 := by rw [World.size_alloc, s1]
  have b1 := below1 w (.cells #[.int .i64 kind] 3)
  have b2 := below1 (w.alloc (.cells #[.int .i64 kind] 3)) (.cells m.row 23)
  have b3 := below1 ((w.alloc (.cells #[.int .i64 kind] 3)).alloc (.cells m.row 23)) (.cells #[.int .i64 vid] 3)
  have hb := hide ((b1.later b2).later b3)
  have hC : Hid (Cl4 w.heap.size (((w.alloc (.cells #[.int .i64 kind] 3)).alloc (.cells m.row 23)).alloc (.cells #[.int .i64 vid] 3)) 56 #[.pointer (some ⟨w.heap.size, 0, none⟩), .pointer (some ⟨w.heap.size + 1, 0, none⟩), .pointer (some ⟨w.heap.size + 1 + 1, 0, none⟩)] (thatB kind m vid) (fun e => e.m.wf)) := by
    intro w' h1 h2 e he
    have s3 : (((w.alloc (.cells #[.int .i64 kind] 3)).alloc (.cells m.row 23)).alloc (.cells #[.int .i64 vid] 3)).heap.size = w.heap.size + 1 + 1 + 1 := by rw [World.size_alloc, s2]
    have g1 := heap_kept b3 (heap_kept b2 (heap_alloc_new w (.cells #[.int .i64 kind] 3)))
    have g2 := heap_alloc_new (w.alloc (.cells #[.int .i64 kind] 3)) (.cells m.row 23)
    rw [s1] at g2
    replace g2 := heap_kept b3 g2
    have g3 := heap_alloc_new ((w.alloc (.cells #[.int .i64 kind] 3)).alloc (.cells m.row 23)) (.cells #[.int .i64 vid] 3)
    rw [s2] at g3
    have k1 : w'.cell? ⟨w.heap.size, 0, none⟩ = some (.int .i64 kind) := (cell_laterS (h2 w.heap.size (Nat.le_refl _) (by omega)) 0).trans (cell_of_row _ _ _ _ _ _ g1)
    have k3 : w'.cell? ⟨w.heap.size + 1 + 1, 0, none⟩ = some (.int .i64 vid) := (cell_laterS (h2 (w.heap.size + 1 + 1) (by omega) (by omega)) 0).trans (cell_of_row _ _ _ _ _ _ g3)
    exact that_any _ _ _ kind vid m e w' k1 ((h2 (w.heap.size + 1) (by omega) (by omega)).trans g2) k3 hm he
  clear s1 s2 b1 b2 b3
  go_enter Tryd.func38, Tryd.ntmps38
  go_wp2
  go_ret
  exact ⟨_, rfl, hb.out, hC.out⟩
theorem mkTells_any (cs : Array Value) (dst src : M6) (hH : HdMac cs dst src) (vid : Int) (w : World) (hd : dst.wf) (hs : src.wf) : Calls Tryd.prog 46 #[.agg cs, .int .i64 vid] w fun r w' => ∃ caps, r = .returned (.func (.func 67) #[] caps) ∧ Below w.heap.size w w' ∧ Cl4 w.heap.size w' 67 caps (tellB dst src vid) (fun e => e.m.wf) := by
  have s1 : (w.alloc (.cells cs 25)).heap.size = w.heap.size + 1 := World.size_alloc _ _
  have b1 := below1 w (.cells cs 25)
  have b2 := below1 (w.alloc (.cells cs 25)) (.cells #[.int .i64 vid] 3)
  have hb := hide (b1.later b2)
  have hC : Hid (Cl4 w.heap.size ((w.alloc (.cells cs 25)).alloc (.cells #[.int .i64 vid] 3)) 67 #[.pointer (some ⟨w.heap.size, 0, none⟩), .pointer (some ⟨w.heap.size + 1, 0, none⟩)] (tellB dst src vid) (fun e => e.m.wf)) := by
    intro w' h1 h2 e he
    have s2 : ((w.alloc (.cells cs 25)).alloc (.cells #[.int .i64 vid] 3)).heap.size = w.heap.size + 1 + 1 := by rw [World.size_alloc, s1]
    have g1 := heap_kept b2 (heap_alloc_new w (.cells cs 25))
    have g2 := heap_alloc_new (w.alloc (.cells cs 25)) (.cells #[.int .i64 vid] 3)
    rw [s1] at g2
    have k2 : w'.cell? ⟨w.heap.size + 1, 0, none⟩ = some (.int .i64 vid) := (cell_laterS (h2 (w.heap.size + 1) (by omega) (by omega)) 0).trans (cell_of_row _ _ _ _ _ _ g2)
    exact tell_any _ _ cs dst src hH vid e w' ((h2 w.heap.size (Nat.le_refl _) (by omega)).trans g1) k2 hd hs he
  have hone := hH.one
  clear s1 b1 b2
  go_enter Tryd.func46, Tryd.ntmps46
  go_wp2
  go_ret
  exact ⟨_, rfl, hb.out, hC.out⟩
end Go.Proofs.YtiahiakllpjliaaDoor
