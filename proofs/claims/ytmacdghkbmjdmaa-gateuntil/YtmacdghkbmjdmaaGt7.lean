/-
  Contract of gate's Clone. Conditions: those that each theorem names.
-/
import Derived.Test.YtmacdghkbmjdmaaGt2
import Derived.Lib.LazyBuf
namespace Go.Proofs.Ytmacdghkbmjdmaa
open Go.RowKit
set_option linter.unusedVariables false
set_option maxRecDepth 20000

/-- New memory, or nothing. -/
def FreshG (B : Nat) (v : Value) : Prop := ∀ b, v.ownBlock = some b → B ≤ b
theorem Try.infoEn : (Try.prog.info? 52).map (fun i => (i.zero, i.size, i.bytes)) = some (some (.agg (fEn En.zero).toArray), 2, 16) := by kernel_rfl
theorem sty_En : Sty Try.prog 45 52 2 16 := by
  obtain ⟨i, h1, h2, h3, h4⟩ := info_parts Try.infoEn
  exact ⟨Try.underlying45, ⟨i, _, h1, h2, h3, h4, rfl⟩, by omega⟩
theorem Ent.flat {w : World} {ad : Addr} {es : List En} (h : Ent w (some ad) es) (j : Nat) (u : Value) (hj : (flat fEn es)[j]? = some u) : w.cell? (ad.add j) = some u := by
  have hl : j < es.length * 2 := by rw [← flat_length wide_En es]; exact (List.getElem?_eq_some_iff.1 hj).1
  obtain ⟨b, off, e, hr⟩ := h.at_i (j / 2) (by omega)
  simp only [Option.some.injEq] at e
  subst e
  have := flat_at wide_En En.zero es (j / 2) (j % 2) (by omega) (by omega)
  rw [show j / 2 * 2 + j % 2 = j by omega, hj] at this
  have hc := hr (j % 2) u this.symm
  rw [Addr.add_lit, show off + j = off + j / 2 * 2 + j % 2 by omega]
  exact hc
theorem Sl.madeG {α : Type} {w : World} (e : TypeId) (m : Nat) (f : α → List Value) : Sl (w.alloc (.cells #[] e)) (.slice (some ⟨w.heap.size, 0, none⟩) 0 0) e m f [] :=
  .inr ⟨w.heap.size, 0, [], rfl, heap_alloc_new w _, Nat.le_refl _, by simp [maxLen], by simp⟩
theorem below_grownG {B b : Nat} {W w w' : World} (h : Below B W w) (hg : w.grownBy w' (some b)) (hb : B ≤ b) (hB : B ≤ w.heap.size) : Below B W w' :=
  h.trans ⟨hg.os, hg.tape, hg.output, hg.size, fun k hk => hg.block k (by omega) (fun e => by cases e; omega)⟩
theorem CloneEn_any {w : World} {a : Option Addr} {cap : Nat} {es : List En} (h : Ent w a es) (hl : es.length ≤ 900000) :
    Calls Try.prog 44 #[.slice a es.length cap] w fun r w' => ∃ v', r = .returned v' ∧ Sl w' v' 52 2 fEn es ∧ Below w.heap.size w w' ∧ FreshG w.heap.size v' := by
  cases a with
  | none =>
    have h0 : es = [] := by
      cases es with
      | nil => rfl
      | cons x r => obtain ⟨_, _, e, _⟩ := h.at_i 0 (by simp); simp at e
    subst h0
    have hq := fun (w : World) => run_eql_slice_nil (P := Try.prog) w 45 52 none 0 cap Try.underlying45
    simp only [List.length_nil]
    go_enter Try.func44, Try.ntmps44
    go_wp2
    go_ret
    exact ⟨_, rfl, Sl.nil _ _ _ _, Below.refl _ _, fun b e => by simp [Value.ownBlock] at e⟩
  | some ad =>
    have hq := fun (w : World) => run_eql_slice_nil (P := Try.prog) w 45 52 (some ad) es.length cap Try.underlying45
    have hA := below1 w (.cells #[] 52)
    have hS : Hid (Sl (w.alloc (.cells #[] 52)) (.slice (some ⟨w.heap.size, 0, none⟩) 0 0) 52 2 fEn []) := Sl.madeG _ _ _
    have hms := hide (Ent.flat (h.below hA (fun _ => by simp)))
    replace h := hide h
    go_enter Try.func44, Try.ntmps44
    go_wp2_with (at_builtin; refine wpList_append_sl rfl (.tmp 5) (.tmp 6) rfl wide_En sty_En _ [] rfl hS.out ad es.length cap es rfl rfl hms.out (by simpa using Nat.le_trans hl (by omega)) (by omega) ?_; intro v' w' hv hg ho)
    obtain ⟨va, vc, rfl⟩ := hv.shape
    have hB : Hid (Below w.heap.size w w') := below_grownG hA hg (Nat.le_refl _) (by rw [World.size_alloc]; omega)
    have hF : Hid (FreshG w.heap.size (.slice va ([] ++ es).length vc)) := fun b e => by
      rcases ho with e' | e'
      · rw [e'] at e; exact Nat.le_of_eq (Option.some.inj e)
      · rw [e'] at e; simp [World.size_alloc] at e; omega
    replace hv := hide hv
    clear hg ho hq hms hS
    go_wp2
    go_ret
    exact ⟨_, rfl, hv.out, hB.out, hF.out⟩
set_option maxHeartbeats 1000000 in
theorem Clone_any {L : Ls} {a : Option Addr} {cap : Nat} {w : World} (hE : Ent w a L.es) (hl : L.es.length ≤ 900000) :
    Calls Try.prog 29 #[.agg (lRow L a L.es.length cap)] w fun r w' => ∃ v', r = .returned (.agg #[.int .i64 L.base, .int .i64 L.cyc, .int .i64 L.ext, v']) ∧ Sl w' v' 52 2 fEn L.es ∧ Below w.heap.size w w' ∧ FreshG w.heap.size v' := by
  have hb1 : Below w.heap.size w ((w.alloc (.cells (lRow L a L.es.length cap) 47)).alloc (.cells #[.int .i64 0, .int .i64 0, .int .i64 0, .slice none 0 0] 47)) := (below1 _ _).later (below1 _ _)
  have hr1 : ((w.alloc (.cells (lRow L a L.es.length cap) 47)).alloc (.cells #[.int .i64 0, .int .i64 0, .int .i64 0, .slice none 0 0] 47)).heap[w.heap.size]? = some (.cells (lRow L a L.es.length cap) 47 (0, 0)) := heap_kept (below1 _ _) (heap_alloc_new w _)
  have hz1 : ((w.alloc (.cells (lRow L a L.es.length cap) 47)).alloc (.cells #[.int .i64 0, .int .i64 0, .int .i64 0, .slice none 0 0] 47)).heap[w.heap.size + 1]? = some (.cells #[.int .i64 0, .int .i64 0, .int .i64 0, .slice none 0 0] 47 (0, 0)) := by
    have := heap_alloc_new (w.alloc (.cells (lRow L a L.es.length cap) 47)) (.cells #[.int .i64 0, .int .i64 0, .int .i64 0, .slice none 0 0] 47)
    rwa [World.size_alloc] at this
  have hC := hide (CloneEn_any (cap := cap) (hE.below hb1 (fun _ => by simp)) hl)
  have c3 : ((w.alloc (.cells (lRow L a L.es.length cap) 47)).alloc (.cells #[.int .i64 0, .int .i64 0, .int .i64 0, .slice none 0 0] 47)).cell? ⟨w.heap.size, 3, none⟩ = some (.slice a L.es.length cap) := (cell_of_row _ _ _ _ _ _ hr1).trans rfl
  clear hE
  obtain ⟨ba, cy, ex, es⟩ := L
  simp only [lRow] at *
  generalize hn : es.length = n at *
  replace hn := hide hn
  replace hr1 := hide hr1
  replace hz1 := hide hz1
  replace hb1 := hide hb1
  go_enter Try.func29, Try.ntmps29
  go_wp2_with fail
  refine hC.out.mono ?_
  generalize ((w.alloc (.cells #[.int .i64 ba, .int .i64 cy, .int .i64 ex, .slice a n cap] 47)).alloc (.cells #[.int .i64 0, .int .i64 0, .int .i64 0, .slice none 0 0] 47)) = w1 at *
  rintro _ w2 ⟨v', rfl, hS, hb2, hF⟩
  have hr2 := heap_kept hb2 hr1.out
  have hz2 := heap_kept hb2 hz1.out
  have hl1 : w.heap.size + 1 < w1.heap.size := (Array.getElem?_eq_some_iff.1 hz1.out).1
  have hF1 : Hid (∀ k, v'.ownBlock = some k → w1.heap.size ≤ k) := hF
  have hr3 : Hid ((w2.setCell ⟨w.heap.size, 3, none⟩ v').heap[w.heap.size]? = some (.cells #[.int .i64 ba, .int .i64 cy, .int .i64 ex, v'] 47 (0, 0))) := by
    rw [heap_setCell_same _ _ _ _ _ _ hr2]; exact rfl
  have hz3 : Hid ((w2.setCell ⟨w.heap.size, 3, none⟩ v').heap[w.heap.size + 1]? = some (.cells #[.int .i64 0, .int .i64 0, .int .i64 0, .slice none 0 0] 47 (0, 0))) :=
    (heap_setCell_other w2 ⟨w.heap.size, 3, none⟩ _ _ (by show w.heap.size + 1 ≠ w.heap.size; omega)).trans hz2
  have hS3 : Hid (Sl (w2.setCell ⟨w.heap.size, 3, none⟩ v') v' 52 2 fEn es) := hS.blk fun k hk => heap_setCell_other w2 ⟨w.heap.size, 3, none⟩ k v' (by have := hF1.out k hk; show k ≠ w.heap.size; omega)
  have hB3 : Hid (Below w.heap.size w (w2.setCell ⟨w.heap.size, 3, none⟩ v')) := (hb1.out.later hb2).setCell (p := ⟨w.heap.size, 3, none⟩) (Nat.le_refl _) v'
  have z3 : w2.frozen? ⟨w.heap.size, 3, none⟩ = false := by simp [World.frozen?, hr2]
  have k3 : w2.cell? ⟨w.heap.size, 3, none⟩ = some (.slice a n cap) := (cell_of_row _ _ _ _ _ _ hr2).trans rfl
  obtain ⟨va, vc, rfl⟩ := hS.shape
  have hFw : Hid (FreshG w.heap.size (.slice va es.length vc)) := fun k hk => by have := hF1.out k hk; omega
  have hF2 : Hid (∀ k, (Value.slice va es.length vc).ownBlock = some k → w.heap.size + 1 < k) := fun k hk => by have := hF1.out k hk; omega
  clear hC hS hb2 hF hr2 hz2 hr1 hz1 c3 hF1 hb1
  rw [hn.out] at hr3 hz3 hS3 hB3 hFw hF2
  rw [hn.out]
  go_wp2_with (first | ((with_reducible change wpList _ _ _ _ _ _); refine wpList_load_row rfl 47 (.tmp 1) rfl w.heap.size rfl 47 _ _ _ hr3.out Try.underlying47 rfl (lSize ⟨ba, cy, ex, es⟩ va n vc) ?_) | ((with_reducible change wpList _ _ _ _ _ _); refine stop_storeB 47 (.tmp 2) (.tmp 7) rfl ?_))
  refine hide (wpList_store_row rfl 47 (.tmp 2) (.tmp 7) rfl (w.heap.size + 1) #[.int .i64 ba, .int .i64 cy, .int .i64 ex, .slice va n vc] rfl rfl 47 _ hz3.out (lSize ⟨ba, cy, ex, es⟩ va n vc) rfl (l_all ⟨ba, cy, ex, es⟩ va n vc) ?_)
  have hz9 := hide (setRow_heap _ (w.heap.size + 1) _ #[.int .i64 ba, .int .i64 cy, .int .i64 ex, .slice va n vc] 47 _ hz3.out)
  have hB9 := hide (below_setRow hB3.out (show w.heap.size ≤ w.heap.size + 1 by omega) #[.int .i64 ba, .int .i64 cy, .int .i64 ex, .slice va n vc])
  have hS9 : Hid (Sl ((w2.setCell ⟨w.heap.size, 3, none⟩ (.slice va n vc)).setRow (w.heap.size + 1) #[.int .i64 ba, .int .i64 cy, .int .i64 ex, .slice va n vc]) (.slice va n vc) 52 2 fEn es) := hS3.out.blk fun k hk => Go.setRow_other _ (w.heap.size + 1) k _ (by have := hF2.out k hk; omega)
  clear hr3 hz3 hS3 hB3 hF2
  go_wp2
  exact bodyPost_ret (results_cell_row rfl _ _ (w.heap.size + 1) 47 _ _ _ rfl hz9.out Try.underlying47 rfl (lSize ⟨ba, cy, ex, es⟩ va n vc)) rfl ⟨_, rfl, hS9.out, hB9.out, hFw.out⟩
end Go.Proofs.Ytmacdghkbmjdmaa
