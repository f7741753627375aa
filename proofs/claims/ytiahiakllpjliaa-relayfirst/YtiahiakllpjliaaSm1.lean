/-
  Filters of layer 14 ('Sf'), what tells them, and the functions that do. Conditions: those that each theorem names.
-/
import Derived.Test.YtiahiakllpjliaaFdb1
import Derived.Test.YtiahiakllpjliaaSls
namespace Go.Proofs.Ytiahiakllpjliaa
open Go.RowKit Go.Maps
set_option linter.unusedVariables false
set_option linter.unusedSimpArgs false
set_option maxRecDepth 20000

structure Sf where
  (kind : Int) (m : M6) (vid num : Int)
  deriving DecidableEq
@[reducible] def Sf.zero : Sf := ⟨0, ⟨0, 0, 0, 0, 0, 0⟩, 0, 0⟩
@[reducible] def fSf (e : Sf) : List Value := [.int .i64 e.kind, .int .u8 e.m.a, .int .u8 e.m.b, .int .u8 e.m.c, .int .u8 e.m.d, .int .u8 e.m.e, .int .u8 e.m.f, .int .i64 e.vid, .int .i64 e.num]
theorem wide_Sf : Wide fSf 9 := ⟨fun _ => rfl, fun x u hu => by simp at hu; rcases hu with rfl | rfl | rfl | rfl | rfl | rfl | rfl | rfl | rfl <;> rfl⟩
theorem sfLen (e : Sf) : (Try.prog.info? 71).map (·.size) = some (fSf e).length := by kernel_rfl
theorem sfSize (e : Sf) : (Try.prog.info? 71).map (·.size) = some (fSf e).toArray.size := by kernel_rfl
theorem sf_all (e : Sf) : (fSf e).toArray.all (·.oneCell') = true := by simp [Value.oneCell']
def mayF (e : Sf) : Bool := decide (0 ≤ e.kind) && decide (e.kind < 2) && decide (0 ≤ e.vid) && decide (e.vid ≤ 4094) && decide (0 ≤ e.num)
def thatB (kind : Int) (m : M6) (vid : Int) (e : Sf) : Bool := e.kind == kind && decide (e.m = m) && e.vid == vid
def tellB (dst src : M6) (vid : Int) (e : Sf) : Bool := decide (e.m = if e.kind = 1 then src else dst) && (e.vid == 0 || e.vid == vid)
theorem mayF_any (e : Sf) (w : World) : Calls Try.prog 51 #[.agg (fSf e).toArray] w fun r w' => r = .returned (.bool (mayF e)) ∧ Below w.heap.size w w' := by
  have h0 : (w.alloc (.cells (fSf e).toArray 71)).cell? ⟨w.heap.size, 0, none⟩ = some (.int .i64 e.kind) := (cell_of_row _ _ _ _ _ _ (heap_alloc_new w _)).trans rfl
  have h7 : (w.alloc (.cells (fSf e).toArray 71)).cell? ⟨w.heap.size, 7, none⟩ = some (.int .i64 e.vid) := (cell_of_row _ _ _ _ _ _ (heap_alloc_new w _)).trans rfl
  have h8 : (w.alloc (.cells (fSf e).toArray 71)).cell? ⟨w.heap.size, 8, none⟩ = some (.int .i64 e.num) := (cell_of_row _ _ _ _ _ _ (heap_alloc_new w _)).trans rfl
  have hb := hide (below1 w (.cells (fSf e).toArray 71))
  obtain ⟨R, hR⟩ : ∃ R, R = mayF e := ⟨_, rfl⟩
  rw [← hR]
  unfold mayF at hR
  generalize hC : (fSf e).toArray = C at *
  generalize e.kind = k at *
  generalize e.vid = v at *
  generalize e.num = n at *
  clear hC
  by_cases c1 : 0 ≤ k
  · by_cases c2 : k < 2
    · by_cases c3 : 0 ≤ v
      · by_cases c4 : v ≤ 4094
        · by_cases c5 : 0 ≤ n
          · obtain rfl : R = true := by rw [hR]; simp [c1, c2, c3, c4, c5]
            clear hR
            go_enter Try.func51, Try.ntmps51
            go_wp2
            go_ret
            exact ⟨rfl, hb.out⟩
          · obtain rfl : R = false := by rw [hR]; simp [c5]
            clear hR
            go_enter Try.func51, Try.ntmps51
            go_wp2
            go_ret
            exact ⟨rfl, hb.out⟩
        · obtain rfl : R = false := by rw [hR]; simp [c4]
          clear hR
          go_enter Try.func51, Try.ntmps51
          go_wp2
          go_ret
          exact ⟨rfl, hb.out⟩
      · obtain rfl : R = false := by rw [hR]; simp [c3]
        clear hR
        go_enter Try.func51, Try.ntmps51
        go_wp2
        go_ret
        exact ⟨rfl, hb.out⟩
    · obtain rfl : R = false := by rw [hR]; simp [c2]
      clear hR
      go_enter Try.func51, Try.ntmps51
      go_wp2
      go_ret
      exact ⟨rfl, hb.out⟩
  · obtain rfl : R = false := by rw [hR]; simp [c1]
    clear hR
    go_enter Try.func51, Try.ntmps51
    go_wp2
    go_ret
    exact ⟨rfl, hb.out⟩
/-- A function of filters that tells those of p, as long as the blocks from B on are as they are in w. -/
def Cl4 (B : Nat) (w : World) (F : FuncId) (caps : Array Value) (p : Sf → Bool) (ok : Sf → Prop) : Prop :=
  ∀ w' : World, w.heap.size ≤ w'.heap.size → (∀ k, B ≤ k → k < w.heap.size → w'.heap[k]? = w.heap[k]?) → ∀ e, ok e →
    Calls Try.prog F (#[.agg (fSf e).toArray] ++ caps) w' fun r w'' => r = .returned (.bool (p e)) ∧ Below w'.heap.size w' w''
theorem sf_mac (e : Sf) {w : World} {b : Nat} (h : w.heap[b]? = some (.cells (fSf e).toArray 71 (0, 0))) : w.rangeAt b 1 e.m.row.toList := World.rangeAt_of_block h 1 6
theorem that_any (q1 q2 q3 : Nat) (kind vid : Int) (m : M6) (e : Sf) (w : World) (hq1 : w.cell? ⟨q1, 0, none⟩ = some (.int .i64 kind)) (hq2 : w.heap[q2]? = some (.cells m.row 28 (0, 0))) (hq3 : w.cell? ⟨q3, 0, none⟩ = some (.int .i64 vid)) (hm : m.wf) (he : e.m.wf) :
    Calls Try.prog 70 #[.agg (fSf e).toArray, .pointer (some ⟨q1, 0, none⟩), .pointer (some ⟨q2, 0, none⟩), .pointer (some ⟨q3, 0, none⟩)] w fun r w' => r = .returned (.bool (thatB kind m vid e)) ∧ Below w.heap.size w w' := by
  have h1 : (w.alloc (.cells (fSf e).toArray 71)).cell? ⟨w.heap.size, 0, none⟩ = some (.int .i64 e.kind) := (cell_of_row _ _ _ _ _ _ (heap_alloc_new w _)).trans rfl
  have h7 : (w.alloc (.cells (fSf e).toArray 71)).cell? ⟨w.heap.size, 7, none⟩ = some (.int .i64 e.vid) := (cell_of_row _ _ _ _ _ _ (heap_alloc_new w _)).trans rfl
  have h2 : (w.alloc (.cells (fSf e).toArray 71)).cell? ⟨q1, 0, none⟩ = some (.int .i64 kind) := ((bcell (below1 w _)).1 _ _ (block_lt_of_cell hq1)).trans hq1
  have h5 : (w.alloc (.cells (fSf e).toArray 71)).cell? ⟨q3, 0, none⟩ = some (.int .i64 vid) := ((bcell (below1 w _)).1 _ _ (block_lt_of_cell hq3)).trans hq3
  have h3 := hide (sf_mac e (heap_alloc_new w (.cells (fSf e).toArray 71)))
  have h4 := hide (heap_kept (below1 w (.cells (fSf e).toArray 71)) hq2)
  have hb := hide (below1 w (.cells (fSf e).toArray 71))
  have hE := m6_eql e.m m he hm
  obtain ⟨R, hR⟩ : ∃ R, R = thatB kind m vid e := ⟨_, rfl⟩
  rw [← hR]
  unfold thatB at hR
  generalize hC : (fSf e).toArray = C at *
  generalize decide (e.m = m) = d at *
  generalize e.kind = ek at *
  generalize e.vid = ev at *
  generalize e.m = em at *
  clear hq1 hq3 hC
  by_cases hv : ek = kind
  · have hv' : (ek == kind) = true := by rw [hv]; simp
    rw [hv', Bool.true_and] at hR
    cases d
    · obtain rfl : R = false := hR
      go_enter Try.func70, Try.ntmps70
      go_wp2_with (first | ((with_reducible change wpList _ _ _ _ _ _); refine wpList_load_mid_on rfl 28 (.tmp 11) rfl w.heap.size 1 rfl em.row.toList _ h3.out Try.underlying28 rfl (m6Len _) ?_) | ((with_reducible change wpList _ _ _ _ _ _); refine wpList_load_row_on rfl 28 (.tmp 2) rfl q2 rfl 28 _ _ _ h4.out Try.underlying28 rfl (m6Size _) ?_))
      go_ret
      exact ⟨rfl, hb.out⟩
    · obtain rfl : R = (ev == vid) := by rw [hR]; rfl
      clear hR
      go_enter Try.func70, Try.ntmps70
      go_wp2_with (first | ((with_reducible change wpList _ _ _ _ _ _); refine wpList_load_mid_on rfl 28 (.tmp 11) rfl w.heap.size 1 rfl em.row.toList _ h3.out Try.underlying28 rfl (m6Len _) ?_) | ((with_reducible change wpList _ _ _ _ _ _); refine wpList_load_row_on rfl 28 (.tmp 2) rfl q2 rfl 28 _ _ _ h4.out Try.underlying28 rfl (m6Size _) ?_))
      go_ret
      exact ⟨rfl, hb.out⟩
  · have hv' : (ek == kind) = false := beq_eq_false_iff_ne.2 hv
    rw [hv', Bool.false_and, Bool.false_and] at hR
    obtain rfl : R = false := hR
    clear h3 h4 hE
    go_enter Try.func70, Try.ntmps70
    go_wp2
    go_ret
    exact ⟨rfl, hb.out⟩
/-- A header's cells, of which the two addresses stand ahead. -/
structure HdMac (cs : Array Value) (dst src : M6) : Prop where
  size : cs.size = 18
  one : cs.all (·.oneCell') = true
  dst : ∀ (i : Nat) (u : Value), dst.row.toList[i]? = some u → cs[i]? = some u
  src : ∀ (i : Nat) (u : Value), src.row.toList[i]? = some u → cs[6 + i]? = some u
theorem hd_range {cs : Array Value} {w : World} {b o : Nat} {m : M6} (hb : w.heap[b]? = some (.cells cs 65 (0, 0))) (h : ∀ (i : Nat) (u : Value), m.row.toList[i]? = some u → cs[o + i]? = some u) : w.rangeAt b o m.row.toList := fun i u hi => (cell_of_row _ _ _ _ _ _ hb).trans (h i u hi)
set_option maxHeartbeats 4000000 in
theorem tell_any (q1 q2 : Nat) (cs : Array Value) (dst src : M6) (hH : HdMac cs dst src) (vid : Int) (e : Sf) (w : World) (hq1 : w.heap[q1]? = some (.cells cs 65 (0, 0))) (hq2 : w.cell? ⟨q2, 0, none⟩ = some (.int .i64 vid)) (hd : dst.wf) (hs : src.wf) (he : e.m.wf) :
    Calls Try.prog 71 #[.agg (fSf e).toArray, .pointer (some ⟨q1, 0, none⟩), .pointer (some ⟨q2, 0, none⟩)] w fun r w' => r = .returned (.bool (tellB dst src vid e)) ∧ Below w.heap.size w w' := by
  have hA := hide (hd_range (o := 0) (heap_kept (below1 w (.cells (fSf e).toArray 71)) hq1) (fun i u h => by rw [Nat.zero_add]; exact hH.dst i u h))
  have hB := hide (fun (w' : World) (hb : Below w.heap.size w w') => hd_range (o := 6) (heap_kept hb hq1) hH.src)
  have hb := hide (below1 w (.cells (fSf e).toArray 71))
  have h2 : Hid (∀ w', Below w.heap.size w w' → w'.cell? ⟨q2, 0, none⟩ = some (.int .i64 vid)) := fun w' hb => (hb.cell (p := ⟨q2, 0, none⟩) (block_lt_of_cell hq2)).trans hq2
  have hr := hide (heap_alloc_new w (.cells (fSf e).toArray 71))
  obtain ⟨R, hR⟩ : ∃ R, R = tellB dst src vid e := ⟨_, rfl⟩
  rw [← hR]
  replace hR := hide hR
  clear hq1 hq2
  go_enter Try.func71, Try.ntmps71
  go_wp2_with (first | ((with_reducible change wpList _ _ _ _ _ _); refine wpList_load_mid rfl 28 (.tmp 6) rfl q1 0 rfl dst.row.toList _ hA.out Try.underlying28 rfl (m6Len _) ?_) | ((with_reducible change wpList _ _ _ _ _ _); refine stop_storeB 28 (.tmp 5) (.tmp 7) rfl ?_))
  have hs1 : (w.alloc (.cells (fSf e).toArray 71)).heap.size = w.heap.size + 1 := World.size_alloc _ _
  refine hide (fresh_atC rfl 28 (.tmp 5) (.tmp 7) rfl (w.heap.size + 1) hs1.symm dst.row (M6.row ⟨0, 0, 0, 0, 0, 0⟩) rfl rfl 28 (m6Size _) rfl (by simp [Value.oneCell']) ?_)
  intro w3 h3 hb3
  have hb4 := hide (hb.out.later hb3)
  have hrz := hide (heap_kept hb3 hr.out)
  have k0 : w3.cell? ⟨w.heap.size, 0, none⟩ = some (.int .i64 e.kind) := (cell_of_row _ _ _ _ _ _ hrz.out).trans rfl
  have hdf : Hid dst.wf := hd
  have hsf : Hid src.wf := hs
  replace he := hide he
  clear hb3 hr hA hb hd hs
  by_cases hk : e.kind = 1
  · have hk' : (e.kind == 1) = true := by rw [hk]; rfl
    have hBs := hide (hB.out w3 hb4.out)
    go_wp2_with (first | ((with_reducible change wpList _ _ _ _ _ _); refine wpList_load_mid rfl 28 (.tmp 11) rfl q1 6 rfl src.row.toList _ hBs.out Try.underlying28 rfl (m6Len _) ?_) | ((with_reducible change wpList _ _ _ _ _ _); refine stop_storeB 28 (.tmp 5) (.tmp 12) rfl ?_))
    refine hide (wpList_store_row rfl 28 (.tmp 5) (.tmp 12) rfl (w.heap.size + 1) src.row rfl rfl 28 _ h3 (m6Size _) rfl (by simp [Value.oneCell']) ?_)
    have hoz : Hid ((w3.setRow (w.heap.size + 1) src.row).heap[w.heap.size + 1]? = some (.cells src.row 28 (0, 0))) := setRow_heap _ _ _ _ _ _ h3
    replace hrz : Hid ((w3.setRow (w.heap.size + 1) src.row).heap[w.heap.size]? = some (.cells (fSf e).toArray 71 (0, 0))) := (Go.setRow_other w3 (w.heap.size + 1) w.heap.size src.row (by omega)).trans hrz.out
    have hbz : Hid (Below w.heap.size w (w3.setRow (w.heap.size + 1) src.row)) := hb4.out.trans ⟨rfl, rfl, rfl, by simp [World.setRow], fun k hk => Go.setRow_other _ _ _ _ (by omega)⟩
    clear hb4 k0 h3 hB hBs hk'
    generalize w3.setRow (w.heap.size + 1) src.row = w4 at *
    clear w3
    replace he := he.out
    have hE := m6_eql e.m src he hsf.out
    have k7 : w4.cell? ⟨w.heap.size, 7, none⟩ = some (.int .i64 e.vid) := (cell_of_row _ _ _ _ _ _ hrz.out).trans rfl
    have kq := h2.out w4 hbz.out
    have hmz := hide (sf_mac e hrz.out)
    replace hR := hR.out
    unfold tellB at hR
    rw [if_pos hk] at hR
    generalize decide (e.m = src) = d at *
    generalize e.vid = ev at *
    generalize e.m = em at *
    cases d
    · rw [Bool.false_and] at hR
      obtain rfl : R = false := hR
      go_wp2_with (first | ((with_reducible change wpList _ _ _ _ _ _); refine wpList_load_mid rfl 28 (.tmp 13) rfl w.heap.size 1 rfl em.row.toList _ hmz.out Try.underlying28 rfl (m6Len _) ?_) | ((with_reducible change wpList _ _ _ _ _ _); refine stop_load 28 (.tmp 5) rfl ?_))
      refine hide (wpList_load_row rfl 28 (.tmp 5) rfl (w.heap.size + 1) rfl 28 _ _ _ hoz.out Try.underlying28 rfl (m6Size _) ?_)
      go_wp2
      go_ret
      exact ⟨rfl, hbz.out⟩
    · rw [Bool.true_and] at hR
      by_cases hv : ev = 0
      · have hv' : (ev == 0) = true := by rw [hv]; rfl
        rw [hv', Bool.true_or] at hR
        obtain rfl : R = true := hR
        go_wp2_with (first | ((with_reducible change wpList _ _ _ _ _ _); refine wpList_load_mid rfl 28 (.tmp 13) rfl w.heap.size 1 rfl em.row.toList _ hmz.out Try.underlying28 rfl (m6Len _) ?_) | ((with_reducible change wpList _ _ _ _ _ _); refine stop_load 28 (.tmp 5) rfl ?_))
        refine hide (wpList_load_row rfl 28 (.tmp 5) rfl (w.heap.size + 1) rfl 28 _ _ _ hoz.out Try.underlying28 rfl (m6Size _) ?_)
        go_wp2
        go_ret
        exact ⟨rfl, hbz.out⟩
      · have hv' : (ev == 0) = false := beq_eq_false_iff_ne.2 hv
        rw [hv', Bool.false_or] at hR
        generalize hq : (ev == vid) = qb at *
        subst hR
        go_wp2_with (first | ((with_reducible change wpList _ _ _ _ _ _); refine wpList_load_mid rfl 28 (.tmp 13) rfl w.heap.size 1 rfl em.row.toList _ hmz.out Try.underlying28 rfl (m6Len _) ?_) | ((with_reducible change wpList _ _ _ _ _ _); refine stop_load 28 (.tmp 5) rfl ?_))
        refine hide (wpList_load_row rfl 28 (.tmp 5) rfl (w.heap.size + 1) rfl 28 _ _ _ hoz.out Try.underlying28 rfl (m6Size _) ?_)
        go_wp2
        go_ret
        exact ⟨rfl, hbz.out⟩
  · have hk' : (e.kind == 1) = false := beq_eq_false_iff_ne.2 hk
    have hoz := hide h3
    have hbz := hb4
    clear h3 hb4 hB
    replace he := he.out
    have hE := m6_eql e.m dst he hdf.out
    have k7 : w3.cell? ⟨w.heap.size, 7, none⟩ = some (.int .i64 e.vid) := (cell_of_row _ _ _ _ _ _ hrz.out).trans rfl
    have kq := h2.out w3 hbz.out
    have hmz := hide (sf_mac e hrz.out)
    replace hR := hR.out
    unfold tellB at hR
    rw [if_neg hk] at hR
    generalize decide (e.m = dst) = d at *
    generalize e.vid = ev at *
    generalize e.m = em at *
    cases d
    · rw [Bool.false_and] at hR
      obtain rfl : R = false := hR
      go_wp2_with (first | ((with_reducible change wpList _ _ _ _ _ _); refine wpList_load_mid rfl 28 (.tmp 13) rfl w.heap.size 1 rfl em.row.toList _ hmz.out Try.underlying28 rfl (m6Len _) ?_) | ((with_reducible change wpList _ _ _ _ _ _); refine stop_load 28 (.tmp 5) rfl ?_))
      refine hide (wpList_load_row rfl 28 (.tmp 5) rfl (w.heap.size + 1) rfl 28 _ _ _ hoz.out Try.underlying28 rfl (m6Size _) ?_)
      go_wp2
      go_ret
      exact ⟨rfl, hbz.out⟩
    · rw [Bool.true_and] at hR
      by_cases hv : ev = 0
      · have hv' : (ev == 0) = true := by rw [hv]; rfl
        rw [hv', Bool.true_or] at hR
        obtain rfl : R = true := hR
        go_wp2_with (first | ((with_reducible change wpList _ _ _ _ _ _); refine wpList_load_mid rfl 28 (.tmp 13) rfl w.heap.size 1 rfl em.row.toList _ hmz.out Try.underlying28 rfl (m6Len _) ?_) | ((with_reducible change wpList _ _ _ _ _ _); refine stop_load 28 (.tmp 5) rfl ?_))
        refine hide (wpList_load_row rfl 28 (.tmp 5) rfl (w.heap.size + 1) rfl 28 _ _ _ hoz.out Try.underlying28 rfl (m6Size _) ?_)
        go_wp2
        go_ret
        exact ⟨rfl, hbz.out⟩
      · have hv' : (ev == 0) = false := beq_eq_false_iff_ne.2 hv
        rw [hv', Bool.false_or] at hR
        generalize hq : (ev == vid) = qb at *
        subst hR
        go_wp2_with (first | ((with_reducible change wpList _ _ _ _ _ _); refine wpList_load_mid rfl 28 (.tmp 13) rfl w.heap.size 1 rfl em.row.toList _ hmz.out Try.underlying28 rfl (m6Len _) ?_) | ((with_reducible change wpList _ _ _ _ _ _); refine stop_load 28 (.tmp 5) rfl ?_))
        refine hide (wpList_load_row rfl 28 (.tmp 5) rfl (w.heap.size + 1) rfl 28 _ _ _ hoz.out Try.underlying28 rfl (m6Size _) ?_)
        go_wp2
        go_ret
        exact ⟨rfl, hbz.out⟩
end Go.Proofs.Ytiahiakllpjliaa
