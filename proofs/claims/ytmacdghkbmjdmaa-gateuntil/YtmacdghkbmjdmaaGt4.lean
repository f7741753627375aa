/-
  Finding a piece of a cycle: gate's find. Conditions: those that each theorem names.
-/
import Derived.Test.YtmacdghkbmjdmaaGt3
namespace Go.Proofs.Ytmacdghkbmjdmaa
open Go.RowKit
set_option linter.unusedVariables false
set_option maxRecDepth 20000

/-- The first piece of a cycle that p tells, from a place in it on. -/
def findL (c : Int) (p : Pi → Bool) : Int → List En → Option Pi
  | _, [] => none
  | b, e :: r => if c ≤ b then none else if p ⟨b, if r.isEmpty then c else min (b + e.ns) c, e.op⟩ = true then some ⟨b, if r.isEmpty then c else min (b + e.ns) c, e.op⟩ else findL c p (if r.isEmpty then c else min (b + e.ns) c) r
theorem findL_drop {c b : Int} {p : Pi → Bool} {es : List En} {j : Nat} (h : j < es.length) : findL c p b (es.drop j) = if c ≤ b then none else if p ⟨b, if j + 1 = es.length then c else min (b + (es.getD j En.zero).ns) c, (es.getD j En.zero).op⟩ = true then some ⟨b, if j + 1 = es.length then c else min (b + (es.getD j En.zero).ns) c, (es.getD j En.zero).op⟩ else findL c p (if j + 1 = es.length then c else min (b + (es.getD j En.zero).ns) c) (es.drop (j + 1)) := by
  rw [List.drop_eq_getElem_cons h, findL, List.getD_eq_getElem?_getD, List.getElem?_eq_getElem h, Option.getD_some]
  have : (es.drop (j + 1)).isEmpty = true ↔ j + 1 = es.length := by
    rw [List.isEmpty_iff, List.drop_eq_nil_iff]; omega
  by_cases hj : j + 1 = es.length
  · rw [if_pos (this.2 hj), if_pos hj]
  · rw [if_neg (fun hx => hj (this.1 hx)), if_neg hj]
theorem findL_end {c b : Int} {p : Pi → Bool} {es : List En} {j : Nat} (h : es.length ≤ j) : findL c p b (es.drop j) = none := by
  rw [List.drop_eq_nil_of_le h, findL]
/-- Its entries are as they should be. -/
theorem Ls.entry {L : Ls} (h : L.may = true) {j : Nat} (hj : j < L.es.length) : (0 ≤ (L.es.getD j En.zero).op ∧ (L.es.getD j En.zero).op ≤ 255) ∧ (1 ≤ (L.es.getD j En.zero).ns ∧ (L.es.getD j En.zero).ns ≤ 1000000000) := by
  have h9 := (L.may_iff.1 h).2.2.2.2
  have hm : L.es.getD j En.zero ∈ L.es := by
    rw [List.getD_eq_getElem?_getD, List.getElem?_eq_getElem hj]
    exact List.getElem_mem _
  have := (List.any_eq_false.1 h9) _ hm
  rw [badE_iff] at this
  omega
theorem results_cell_row2 {P : Program} {fn : Func} {p q : Tmp} {ty : TypeId} (h : fn.results = #[.cell p ty, .tmp q]) (tmps : Array Value) (w : World) (g : Nat) (t : TypeId) (cs : Array Value) (fr : Nat × Nat) (d : TypeDesc)
    (hp : tmps.getD p undef = .pointer (some ⟨g, 0, none⟩)) (hg : w.heap[g]? = some (.cells cs t fr))
    (hu : P.underlying ty = some d) (hd : (match d with | .struct _ | .array _ _ => true | _ => false) = true) (hi : (P.info? ty).map (·.size) = some cs.size) :
    (results fn tmps).run P w = .ok (.tuple #[.agg cs, tmps.getD q undef]) w := by
  have hp' : tmps[p]?.getD undef = .pointer (some ⟨g, 0, none⟩) := by simpa using hp
  simp [results, h, hp', asAddr, run_loadVar_row w g t ty cs fr d hg hu hd hi]
set_option maxHeartbeats 4000000 in
theorem Find_any {L : Ls} {a : Option Addr} {cap : Nat} {w : World} {F : FuncId} {caps : Array Value} {p : Pi → Bool} (hE : Ent w a L.es) (hm : L.may = true) (hp : PCl w F caps p (fun q => 0 ≤ q.op ∧ q.op ≤ 255)) :
    Calls Try.prog 36 #[.agg (lRow L a L.es.length cap), .func (.func F) #[] caps] w fun r w' => r = .returned (.tuple #[.agg (fPi ((findL L.cyc p 0 L.es).getD Pi.zero)).toArray, .bool (findL L.cyc p 0 L.es).isSome]) ∧ Below w.heap.size w w' := by
  have hB0 : Below w.heap.size w ((w.alloc (.cells (lRow L a L.es.length cap) 47)).alloc (.cells (fPi Pi.zero).toArray 69)) := (below1 _ _).later (below1 _ _)
  have hr0 : ((w.alloc (.cells (lRow L a L.es.length cap) 47)).alloc (.cells (fPi Pi.zero).toArray 69)).heap[w.heap.size]? = some (.cells (lRow L a L.es.length cap) 47 (0, 0)) := heap_kept (below1 _ _) (heap_alloc_new w _)
  have hz0 : ((w.alloc (.cells (lRow L a L.es.length cap) 47)).alloc (.cells (fPi Pi.zero).toArray 69)).heap[w.heap.size + 1]? = some (.cells (fPi Pi.zero).toArray 69 (0, 0)) := by
    rw [← World.size_alloc w (.cells (lRow L a L.es.length cap) 47)]
    exact heap_alloc_new _ _
  have hE0 := hide (hE.below hB0 (fun _ => by simp))
  have hp0 := hide (hp.later hB0)
  have hgo := hp.1
  obtain ⟨⟨n1, n2⟩, -, ⟨y1, y2⟩, -, -⟩ := L.may_iff.1 hm
  have hent : Hid (∀ j, j < L.es.length → (0 ≤ (L.es.getD j En.zero).op ∧ (L.es.getD j En.zero).op ≤ 255) ∧ (1 ≤ (L.es.getD j En.zero).ns ∧ (L.es.getD j En.zero).ns ≤ 1000000000)) := fun j hj => Ls.entry hm hj
  obtain ⟨ba, cy, ex, es⟩ := L
  simp only [lRow] at hB0 hr0 hz0 hE0 hp0 hent n1 n2 y1 y2 ⊢
  have hFO : Hid (findL cy p 0 (es.drop 0) = findL cy p 0 es) := rfl
  have hdr := hide (fun j b (h : j < es.length) => @findL_drop cy b p es j h)
  have hde := hide (fun j b (h : es.length ≤ j) => @findL_end cy b p es j h)
  generalize findL cy p 0 es = FO at *
  generalize hn : es.length = n at *
  replace hn := hide hn
  replace hB0 := hide hB0
  replace hr0 := hide hr0
  replace hz0 := hide hz0
  clear hE hp hm
  go_enter Try.func36, Try.ntmps36
  go_wp2_with fail
  generalize ((w.alloc (.cells #[.int .i64 ba, .int .i64 cy, .int .i64 ex, .slice a n cap] 47)).alloc (.cells (fPi Pi.zero).toArray 69)) = w0 at *
  have hsz : Hid (w.heap.size + 1 < w0.heap.size) := (Array.getElem?_eq_some_iff.1 hz0.out).1
  generalize hZ : (fPi Pi.zero).toArray = Z at *
  replace hZ := hide hZ
  go_loopw [7, 18] (fun x i wr => ∃ (j : Nat) (b : Int), j ≤ n ∧ i = .int .i64 j ∧ x = .int .i64 b ∧ (0 ≤ b ∧ b ≤ cy) ∧ Hid (findL cy p b (es.drop j) = FO) ∧ Hid (Below w0.heap.size w0 wr)) (fun _ i _ => n - (intOf i).toNat)
  case atStart => exact ⟨0, 0, Nat.zero_le _, rfl, rfl, by omega, hFO, hide (Below.refl _ _)⟩
  case round =>
    obtain ⟨j, b, hj, rfl, rfl, ⟨b1, b2⟩, hF, hB⟩ := hrel
    have hrr := hide (heap_kept hB.out hr0.out)
    have c1 : wr.cell? ⟨w.heap.size, 1, none⟩ = some (.int .i64 cy) := (cell_of_row _ _ _ _ _ _ hrr.out).trans rfl
    clear hFO hrr
    by_cases hlt : j < n
    · obtain ⟨eb, off, rfl, hrg⟩ := (hE0.out.below hB.out (fun _ => by simp)).at_i j hlt
      replace hrg := hide hrg
      have hd := hdr.out j b hlt
      rw [hF.out] at hd
      replace hd := hide hd
      obtain ⟨⟨o1, o2⟩, ⟨q1, q2⟩⟩ := hent.out j hlt
      generalize es.getD j En.zero = el at *
      obtain ⟨eo, en⟩ := el
      dsimp only at o1 o2 q1 q2 hd
      have hlast : Hid (((j : Int) == (n : Int) - 1) = decide (j + 1 = n)) := by
        show _ = _
        rw [Bool.eq_iff_iff, beq_iff_eq, decide_eq_true_eq]
        omega
      go_wp2_with (first | ((with_reducible change wpList _ _ _ _ _ _); refine wpList_load_mid rfl 52 (.tmp 21) rfl eb (off + j * 2) rfl (fEn ⟨eo, en⟩) _ hrg.out Try.underlying52 rfl (enLen _) ?_) | ((with_reducible change wpList _ _ _ _ _ _); refine stop_storeB 52 (.tmp 9) (.tmp 22) rfl ?_))
      refine hide (wpList_store_fresh rfl 52 (.tmp 9) (.tmp 22) rfl (fEn ⟨eo, en⟩).toArray (fEn En.zero).toArray rfl rfl 52 (enSize _) rfl (en_all _) ?_)
      intro w5 h5 hb5
      have k0 : w5.cell? ⟨wr.heap.size, 0, none⟩ = some (.int .i64 eo) := (cell_of_row _ _ _ _ _ _ h5).trans rfl
      have k1 : w5.cell? ⟨wr.heap.size, 1, none⟩ = some (.int .i64 en) := (cell_of_row _ _ _ _ _ _ h5).trans rfl
      have hB5 := hide (hB.out.trans (hb5.mono hB.out.size))
      have d1 : w5.cell? ⟨w.heap.size, 1, none⟩ = some (.int .i64 cy) := (hb5.cell (p := ⟨w.heap.size, 1, none⟩) (block_lt_of_cell c1)).trans c1
      clear hB hrg h5 hb5 c1
      generalize wr.heap.size = E at *
      clear wr
      generalize hmn : min (b + en) cy = mn at *
      have hm2 : 0 ≤ mn ∧ mn ≤ cy := by omega
      have hnx : ∀ (ts : Array TypeId) (t : TypeId) (w : World), (Builtin.min_ ts t #[.int .i64 (b + en), .int .i64 cy]).run Try.prog w = .ok (.int .i64 mn) w := fun ts t w => by rw [Go.Lib.run_min_ints, hmn]
      replace hmn := hide hmn
      go_wp2_with ((with_reducible change wpList _ _ _ _ _ _); refine stop_storeB 69 (.tmp 10) (.tmp 33) rfl ?_)
      refine hide (wpList_store_fresh rfl 69 (.tmp 10) (.tmp 33) rfl (fPi ⟨b, mn, eo⟩).toArray (fPi Pi.zero).toArray rfl rfl 69 (piSize _) rfl (pi_all _) ?_)
      intro w6 h6 hb6
      have d0 : w6.cell? ⟨w5.heap.size, 0, none⟩ = some (.int .i64 b) := (cell_of_row _ _ _ _ _ _ h6).trans rfl
      have x1 : w6.cell? ⟨w5.heap.size, 1, none⟩ = some (.int .i64 mn) := (cell_of_row _ _ _ _ _ _ h6).trans rfl
      have y1c : w6.cell? ⟨w.heap.size, 1, none⟩ = some (.int .i64 cy) := (hb6.cell (p := ⟨w.heap.size, 1, none⟩) (block_lt_of_cell d1)).trans d1
      have z1 : w6.frozen? ⟨w5.heap.size, 1, none⟩ = false := by simp [World.frozen?, h6]
      have hB6 := hide (hB5.out.trans (hb6.mono hB5.out.size))
      have hP0 : Hid (w0.heap.size ≤ w5.heap.size) := hB5.out.size
      have hn0 : Hid (w.heap.size ≠ w5.heap.size) := by show _ ≠ _; have := hsz.out; have := hB5.out.size; omega
      replace h6 := hide h6
      clear hB5 hb6 d1 k0 k1
      generalize w5.heap.size = G at *
      clear w5
      have hpc := hide (fun (w' : World) (h : Below w0.heap.size w0 w') (q : Pi) (hq : 0 ≤ q.op ∧ q.op ≤ 255) => hp0.out.2 w' h q hq)
      by_cases hjn : j + 1 = n
      · have hl2 : ((j : Int) == (n : Int) - 1) = true := by rw [hlast.out]; exact decide_eq_true hjn
        simp only [if_pos hjn] at hd
        have h7 : Hid ((w6.setCell ⟨G, 1, none⟩ (.int .i64 cy)).heap[G]? = some (.cells (fPi ⟨b, cy, eo⟩).toArray 69 (0, 0))) := by
          rw [heap_setCell_same _ _ _ _ _ _ h6.out]; exact rfl
        have hB7 : Hid (Below w0.heap.size w0 (w6.setCell ⟨G, 1, none⟩ (.int .i64 cy))) := hB6.out.setCell (p := ⟨G, 1, none⟩) hP0.out _
        have e0 : (w6.setCell ⟨G, 1, none⟩ (.int .i64 cy)).cell? ⟨G, 0, none⟩ = some (.int .i64 b) := (cell_of_row _ _ _ _ _ _ h7.out).trans rfl
        have e1 : (w6.setCell ⟨G, 1, none⟩ (.int .i64 cy)).cell? ⟨w.heap.size, 1, none⟩ = some (.int .i64 cy) := (World.cell?_setCell_other _ _ _ _ (fun e => hn0.out (by simp only [Addr.mk.injEq] at e; omega))).trans y1c
        have hcy : 0 ≤ cy ∧ cy ≤ cy := by omega
        clear h6 hB6
        by_cases hcb : cy ≤ b
        · rw [if_pos hcb] at hd
          obtain rfl : FO = none := hd.out
          have hzz := hide (heap_kept hB7.out hz0.out)
          have hBw := hide (hB0.out.trans (hB7.out.mono hB0.out.size))
          clear hd hdr hde hpc hB7 h7 hent hlast hF
          go_wp2_with ((with_reducible change wpList _ _ _ _ _ _); refine stop_storeB 69 (.tmp 4) (.tmp 52) rfl ?_)
          refine hide (wpList_store_row rfl 69 (.tmp 4) (.tmp 52) rfl (w.heap.size + 1) (fPi Pi.zero).toArray rfl rfl 69 Z hzz.out (piSize _) (by have hq := hZ.out; subst hq; rfl) (pi_all _) ?_)
          have hz9 := hide (setRow_heap (w6.setCell ⟨G, 1, none⟩ (.int .i64 cy)) (w.heap.size + 1) _ (fPi Pi.zero).toArray 69 _ hzz.out)
          have hB9 := hide (below_setRow hBw.out (show w.heap.size ≤ w.heap.size + 1 by omega) (fPi Pi.zero).toArray)
          clear hzz hBw
          go_wp2
          exact bodyPost_ret (results_cell_row2 rfl _ _ (w.heap.size + 1) 69 _ _ _ rfl hz9.out Try.underlying69 rfl (piSize _)) rfl ⟨rfl, hB9.out⟩
        · rw [if_neg hcb] at hd
          have hcall := hide (hpc.out (w6.setCell ⟨G, 1, none⟩ (.int .i64 cy)) hB7.out ⟨b, cy, eo⟩ ⟨o1, o2⟩)
          generalize hpq : p ⟨b, cy, eo⟩ = pq at *
          clear hpc
          go_wp2_with ((with_reducible change wpList _ _ _ _ _ _); refine wpList_load_row rfl 69 (.tmp 10) rfl G rfl 69 _ _ _ h7.out Try.underlying69 rfl (piSize ⟨b, cy, eo⟩) ?_)
          refine hcall.out.mono ?_
          rintro _ w8 ⟨rfl, hb8⟩
          have h8 := hide (heap_kept hb8 h7.out)
          have hB8 := hide (hB7.out.later hb8)
          have g1 : w8.cell? ⟨G, 1, none⟩ = some (.int .i64 cy) := (cell_of_row _ _ _ _ _ _ h8.out).trans rfl
          clear hcall hb8 h7 hB7 hpq
          cases pq
          · have hF2 : Hid (findL cy p cy (es.drop (j + 1)) = FO) := by have := hd.out; rw [if_neg (by simp)] at this; exact this.symm
            clear hd h8
            go_wp2
            go_roundw
            case rel => exact ⟨j + 1, cy, by omega, by go_num, rfl, by omega, hF2, hB8⟩
            case measure => simp [intOf]; omega
          · obtain rfl : FO = some ⟨b, cy, eo⟩ := by have := hd.out; rw [if_pos rfl] at this; exact this
            have hzz := hide (heap_kept hB8.out hz0.out)
            have hBw := hide (hB0.out.trans (hB8.out.mono hB0.out.size))
            clear hd hdr hde hB8 hent hlast hF g1
            go_wp2_with (first | ((with_reducible change wpList _ _ _ _ _ _); refine wpList_load_row rfl 69 (.tmp 10) rfl G rfl 69 _ _ _ h8.out Try.underlying69 rfl (piSize ⟨b, cy, eo⟩) ?_) | ((with_reducible change wpList _ _ _ _ _ _); refine stop_storeB 69 (.tmp 4) (.tmp 48) rfl ?_))
            refine hide (wpList_store_row rfl 69 (.tmp 4) (.tmp 48) rfl (w.heap.size + 1) (fPi ⟨b, cy, eo⟩).toArray rfl rfl 69 Z hzz.out (piSize _) (by have hq := hZ.out; subst hq; rfl) (pi_all _) ?_)
            have hz9 := hide (setRow_heap w8 (w.heap.size + 1) _ (fPi ⟨b, cy, eo⟩).toArray 69 _ hzz.out)
            have hB9 := hide (below_setRow hBw.out (show w.heap.size ≤ w.heap.size + 1 by omega) (fPi ⟨b, cy, eo⟩).toArray)
            clear hzz hBw h8
            go_wp2
            exact bodyPost_ret (results_cell_row2 rfl _ _ (w.heap.size + 1) 69 _ _ _ rfl hz9.out Try.underlying69 rfl (piSize _)) rfl ⟨rfl, hB9.out⟩
      · have hl2 : ((j : Int) == (n : Int) - 1) = false := by rw [hlast.out]; exact decide_eq_false hjn
        simp only [if_neg hjn] at hd
        have h7 := h6
        have hB7 := hB6
        clear h6 hB6
        by_cases hcb : cy ≤ b
        · rw [if_pos hcb] at hd
          obtain rfl : FO = none := hd.out
          have hzz := hide (heap_kept hB7.out hz0.out)
          have hBw := hide (hB0.out.trans (hB7.out.mono hB0.out.size))
          clear hd hdr hde hpc hB7 h7 hent hlast hF
          go_wp2_with ((with_reducible change wpList _ _ _ _ _ _); refine stop_storeB 69 (.tmp 4) (.tmp 52) rfl ?_)
          refine hide (wpList_store_row rfl 69 (.tmp 4) (.tmp 52) rfl (w.heap.size + 1) (fPi Pi.zero).toArray rfl rfl 69 Z hzz.out (piSize _) (by have hq := hZ.out; subst hq; rfl) (pi_all _) ?_)
          have hz9 := hide (setRow_heap w6 (w.heap.size + 1) _ (fPi Pi.zero).toArray 69 _ hzz.out)
          have hB9 := hide (below_setRow hBw.out (show w.heap.size ≤ w.heap.size + 1 by omega) (fPi Pi.zero).toArray)
          clear hzz hBw
          go_wp2
          exact bodyPost_ret (results_cell_row2 rfl _ _ (w.heap.size + 1) 69 _ _ _ rfl hz9.out Try.underlying69 rfl (piSize _)) rfl ⟨rfl, hB9.out⟩
        · rw [if_neg hcb] at hd
          have hcall := hide (hpc.out w6 hB7.out ⟨b, mn, eo⟩ ⟨o1, o2⟩)
          generalize hpq : p ⟨b, mn, eo⟩ = pq at *
          clear hpc
          go_wp2_with ((with_reducible change wpList _ _ _ _ _ _); refine wpList_load_row rfl 69 (.tmp 10) rfl G rfl 69 _ _ _ h7.out Try.underlying69 rfl (piSize ⟨b, mn, eo⟩) ?_)
          refine hcall.out.mono ?_
          rintro _ w8 ⟨rfl, hb8⟩
          have h8 := hide (heap_kept hb8 h7.out)
          have hB8 := hide (hB7.out.later hb8)
          have g1 : w8.cell? ⟨G, 1, none⟩ = some (.int .i64 mn) := (cell_of_row _ _ _ _ _ _ h8.out).trans rfl
          clear hcall hb8 h7 hB7 hpq
          cases pq
          · have hF2 : Hid (findL cy p mn (es.drop (j + 1)) = FO) := by have := hd.out; rw [if_neg (by simp)] at this; exact this.symm
            clear hd h8
            go_wp2
            go_roundw
            case rel => exact ⟨j + 1, mn, by omega, by go_num, rfl, by omega, hF2, hB8⟩
            case measure => simp [intOf]; omega
          · obtain rfl : FO = some ⟨b, mn, eo⟩ := by have := hd.out; rw [if_pos rfl] at this; exact this
            have hzz := hide (heap_kept hB8.out hz0.out)
            have hBw := hide (hB0.out.trans (hB8.out.mono hB0.out.size))
            clear hd hdr hde hB8 hent hlast hF g1
            go_wp2_with (first | ((with_reducible change wpList _ _ _ _ _ _); refine wpList_load_row rfl 69 (.tmp 10) rfl G rfl 69 _ _ _ h8.out Try.underlying69 rfl (piSize ⟨b, mn, eo⟩) ?_) | ((with_reducible change wpList _ _ _ _ _ _); refine stop_storeB 69 (.tmp 4) (.tmp 48) rfl ?_))
            refine hide (wpList_store_row rfl 69 (.tmp 4) (.tmp 48) rfl (w.heap.size + 1) (fPi ⟨b, mn, eo⟩).toArray rfl rfl 69 Z hzz.out (piSize _) (by have hq := hZ.out; subst hq; rfl) (pi_all _) ?_)
            have hz9 := hide (setRow_heap w8 (w.heap.size + 1) _ (fPi ⟨b, mn, eo⟩).toArray 69 _ hzz.out)
            have hB9 := hide (below_setRow hBw.out (show w.heap.size ≤ w.heap.size + 1 by omega) (fPi ⟨b, mn, eo⟩).toArray)
            clear hzz hBw h8
            go_wp2
            exact bodyPost_ret (results_cell_row2 rfl _ _ (w.heap.size + 1) 69 _ _ _ rfl hz9.out Try.underlying69 rfl (piSize _)) rfl ⟨rfl, hB9.out⟩
    · obtain rfl : j = n := by omega
      obtain rfl : FO = none := hF.out.symm.trans (hde.out j b (Nat.le_refl _))
      have hzz := hide (heap_kept hB.out hz0.out)
      have hBw := hide (hB0.out.trans (hB.out.mono hB0.out.size))
      clear hdr hde hB hent hF
      go_wp2_with ((with_reducible change wpList _ _ _ _ _ _); refine stop_storeB 69 (.tmp 4) (.tmp 52) rfl ?_)
      refine hide (wpList_store_row rfl 69 (.tmp 4) (.tmp 52) rfl (w.heap.size + 1) (fPi Pi.zero).toArray rfl rfl 69 Z hzz.out (piSize _) (by have hq := hZ.out; subst hq; rfl) (pi_all _) ?_)
      have hz9 := hide (setRow_heap wr (w.heap.size + 1) _ (fPi Pi.zero).toArray 69 _ hzz.out)
      have hB9 := hide (below_setRow hBw.out (show w.heap.size ≤ w.heap.size + 1 by omega) (fPi Pi.zero).toArray)
      clear hzz hBw
      go_wp2
      exact bodyPost_ret (results_cell_row2 rfl _ _ (w.heap.size + 1) 69 _ _ _ rfl hz9.out Try.underlying69 rfl (piSize _)) rfl ⟨rfl, hB9.out⟩
end Go.Proofs.Ytmacdghkbmjdmaa
