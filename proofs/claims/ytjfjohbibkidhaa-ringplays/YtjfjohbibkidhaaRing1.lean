/-
  A row of numbers of the program's own, of which the first may have gone ('Qe'): what append and slicing do to it. Conditions: those that each theorem names.
-/
import Derived.Test.YtjfjohbibkidhaaLawsB
import Derived.Maps.AppendAt
namespace Go.Proofs.Ytjfjohbibkidhaa
open Go.RowKit
set_option linter.unusedVariables false

def iv (l : List Int) : List Value := l.map (Value.int .i64)
theorem iv_len (l : List Int) : (iv l).length = l.length := by simp [iv]
theorem iv_at (l : List Int) (i : Nat) (h : i < l.length) : (iv l)[i]? = some (.int .i64 (l.getD i 0)) := by
  rw [iv, List.getElem?_map, List.getElem?_eq_getElem h, List.getD_eq_getElem?_getD, List.getElem?_eq_getElem h]; rfl
theorem iv_one (l : List Int) : ∀ u ∈ iv l, u.oneCell' = true := by
  intro u hu
  simp only [iv, List.mem_map] at hu
  obtain ⟨z, _, rfl⟩ := hu
  rfl
theorem iv_app (l m : List Int) : iv (l ++ m) = iv l ++ iv m := by simp [iv]
/-- A row of numbers in memory, with all the room that it has. -/
def Qe (w : World) (v : Value) (l : List Int) : Prop :=
  (v = .slice none 0 0 ∧ l = []) ∨
  ∃ b off cap cur, v = .slice (some ⟨b, off, none⟩) l.length cap ∧ w.heap[b]? = some (.cells cur 3 (0, 0)) ∧ l.length ≤ cap ∧ cap ≤ maxLen ∧ off + cap ≤ cur.size ∧ (cur.toList.drop off).take l.length = iv l
theorem Qe.nil (w : World) : Qe w (.slice none 0 0) [] := .inl ⟨rfl, rfl⟩
theorem Qe.blk {w w' : World} {v : Value} {l : List Int} (h : Qe w v l) (hb : ∀ b, v.ownBlock = some b → w'.heap[b]? = w.heap[b]?) : Qe w' v l := by
  rcases h with h | ⟨b, off, cap, cur, rfl, h1, h2⟩
  · exact .inl h
  · exact .inr ⟨b, off, cap, cur, rfl, (hb b rfl).trans h1, h2⟩
theorem Qe.lt {w : World} {v : Value} {l : List Int} (h : Qe w v l) {b : Nat} (hb : v.ownBlock = some b) : b < w.heap.size := by
  rcases h with ⟨rfl, _⟩ | ⟨b', off, cap, cur, rfl, h1, h2⟩
  · simp [Value.ownBlock] at hb
  · simp only [Value.ownBlock, Option.some.injEq] at hb
    subst hb
    exact (Array.getElem?_eq_some_iff.1 h1).1
theorem Qe.below {w w' : World} {v : Value} {l : List Int} (h : Qe w v l) (hb : Below w.heap.size w w') : Qe w' v l := h.blk fun b e => hb.block b (h.lt e)
theorem Qe.shape {w : World} {v : Value} {l : List Int} (h : Qe w v l) : ∃ a cap, v = .slice a l.length cap := by
  rcases h with ⟨rfl, rfl⟩ | ⟨b', off, cap, cur, rfl, h1, h2⟩
  · exact ⟨_, _, rfl⟩
  · exact ⟨_, _, rfl⟩
theorem Qe.cellsAt {w : World} {a : Option Addr} {n cap : Nat} {l : List Int} (h : Qe w (.slice a n cap) l) (i : Nat) (hi : i < n) : n = l.length ∧ ∃ b off, a = some ⟨b, off, none⟩ ∧ w.cell? ⟨b, off + i, none⟩ = some (.int .i64 (l.getD i 0)) := by
  rcases h with ⟨h0, rfl⟩ | ⟨b, off, cap', cur, h0, h1, h2, h3, h4, h5⟩
  · simp only [Value.slice.injEq] at h0; omega
  · simp only [Value.slice.injEq] at h0
    obtain ⟨rfl, rfl, rfl⟩ := h0
    refine ⟨rfl, b, off, rfl, ?_⟩
    rw [cell_of_row _ _ _ _ _ _ h1]
    have h6 := iv_at l i hi
    rw [← h5, List.getElem?_take_of_lt hi, List.getElem?_drop, Array.getElem?_toList] at h6
    exact h6
theorem Qe.tail {w : World} {b off n cap : Nat} {l : List Int} (h : Qe w (.slice (some ⟨b, off, none⟩) n cap) l) (h0 : 0 < n) : Qe w (.slice (some ⟨b, off + 1, none⟩) (n - 1) (cap - 1)) l.tail := by
  rcases h with ⟨h0, rfl⟩ | ⟨b', off', cap', cur, h0', h1, h2, h3, h4, h5⟩
  · simp at h0
  · simp only [Value.slice.injEq, Option.some.injEq, Addr.mk.injEq, and_true] at h0'
    obtain ⟨⟨rfl, rfl⟩, rfl, rfl⟩ := h0'
    refine .inr ⟨b, off + 1, cap - 1, cur, by rw [List.length_tail], h1, by rw [List.length_tail]; omega, by omega, by omega, ?_⟩
    rw [List.length_tail, show iv l.tail = (iv l).drop 1 by simp [iv], ← h5, List.drop_take, List.drop_drop]
theorem Try.infoI64 : (Try.prog.info? 3).map (fun i => (i.zero, i.size, i.bytes)) = some (some (.int .i64 0), 1, 8) := by kernel_rfl
theorem splice_at {cur : List Value} {off n : Nat} {xs news : List Value} (h : (cur.drop off).take n = xs) (hle : off + n ≤ cur.length) : ((cur.take (off + n) ++ news ++ cur.drop (off + n + news.length)).drop off).take (n + news.length) = xs ++ news := by
  have h1 : (cur.take (off + n)).drop off = xs := by rw [List.drop_take, Nat.add_sub_cancel_left, h]
  have hx : xs.length = n := by rw [← h]; simp; omega
  rw [List.append_assoc, List.drop_append_of_le_length (by simp; omega), h1, ← List.append_assoc]
  exact List.take_left' (by simp [hx])
theorem run_append_room_off {P : Program} (w : World) (t ty e : TypeId) (i : TypeInfo) (ht : P.underlying t = some (.slice e)) (hi : P.info? e = some i) (h1s : i.size = 1)
    (g off sLen sCap : Nat) (cur : Array Value) (hg : w.heap[g]? = some (.cells cur e (0, 0)))
    (a : Addr) (m c : Nat) (news : List Value) (hl : news.length = m) (hnews : ∀ j u, news[j]? = some u → w.cell? (a.add j) = some u) (h1 : ∀ u ∈ news, u.oneCell' = true)
    (hroom : sLen + m ≤ sCap) (hfit : off + sLen + news.length ≤ cur.size) :
    (Builtin.append_ #[t, t] ty #[.slice (some ⟨g, off, none⟩) sLen sCap, .slice (some a) m c]).run P w =
      .ok (.slice (some ⟨g, off, none⟩) (sLen + m) sCap) (w.setRow g (cur.toList.take (off + sLen) ++ news ++ cur.toList.drop (off + sLen + news.length)).toArray) := by
  have hf := run_firstCells_some (P := P) w 1 m a m c news (by omega) hnews
  have hst := run_storeCells_at P g (off + sLen) e news 0 cur w hg (by simpa using hfit) h1
  simp only [Nat.add_zero] at hst
  simp [Builtin.append_, run_underlying ht, sizeOf, typeInfo, hi, h1s, Builtin.lenOf, hroom, hf, Addr.add_lit, hst]
/-- Behind it come some more. -/
theorem Qe.append {w : World} {v : Value} {l : List Int} (h : Qe w v l) (a : Addr) (c : Nat) (ms : List Int) (ty : TypeId) (hm : ∀ j, j < ms.length → w.cell? (a.add j) = some (.int .i64 (ms.getD j 0))) (hs : l.length + ms.length ≤ 1000000) :
    ∃ v' w', (Builtin.append_ #[27, 27] ty #[v, .slice (some a) ms.length c]).run Try.prog w = .ok v' w' ∧ Qe w' v' (l ++ ms) ∧ w.grownBy w' v.ownBlock ∧ (v'.ownBlock = v.ownBlock ∨ v'.ownBlock = some w.heap.size) := by
  obtain ⟨i, hi, hz0, hz1, hz2⟩ := info_parts Try.infoI64
  have hnews : ∀ j u, (iv ms)[j]? = some u → w.cell? (a.add j) = some u := by
    intro j u hj
    have hlt : j < ms.length := by
      have := (List.getElem?_eq_some_iff.1 hj).1
      rwa [iv_len] at this
    rw [hm j hlt, ← hj, iv_at ms j hlt]
  have hbytes : (l.length + ms.length) * i.bytes ≤ 140737488355328 := by rw [hz2]; omega
  have hmx : l.length + ms.length ≤ maxLen := by unfold maxLen; omega
  have grown : ∀ (old : Nat) (row : Option Nat),
      Qe (w.drew.alloc (.cells ((iv l).toArray ++ (iv ms).toArray ++ Builtin.zeroCells (Value.int .i64 0).cells (grownCap w (l.length + ms.length) old 3 - (l.length + ms.length))) 3)) (.slice (some ⟨w.heap.size, 0, none⟩) (l.length + ms.length) (grownCap w (l.length + ms.length) old 3)) (l ++ ms) ∧
      w.grownBy (w.drew.alloc (.cells ((iv l).toArray ++ (iv ms).toArray ++ Builtin.zeroCells (Value.int .i64 0).cells (grownCap w (l.length + ms.length) old 3 - (l.length + ms.length))) 3)) row := by
    intro old row
    have hge := grownCap_ge w (l.length + ms.length) old 3
    have hcm := grownCap_le_maxLen w (l.length + ms.length) old 3 hmx
    refine ⟨.inr ⟨w.heap.size, 0, _, _, by rw [List.length_append], heap_alloc_new w.drew _, by rw [List.length_append]; exact hge, hcm, ?_, ?_⟩, ⟨rfl, rfl, rfl, by simp, fun k hk _ => heap_alloc_old w.drew _ hk⟩⟩
    · simp only [Array.size_append, List.size_toArray, size_zeroCells, iv_len]
      simp [Value.cells]
      omega
    · simp only [List.drop_zero, Array.toList_append, List.append_assoc]
      rw [← List.append_assoc, ← iv_app, ← iv_len]
      exact List.take_left
  rcases h with ⟨rfl, rfl⟩ | ⟨g, off, cap, cur, rfl, hg, hnc, hcm, hcs, htake⟩
  · by_cases h0 : ms.length = 0
    · have hn : ms = [] := List.eq_nil_of_length_eq_zero h0
      subst hn
      refine ⟨.slice none 0 0, w, ?_, Qe.nil w, ⟨rfl, rfl, rfl, Nat.le_refl _, fun _ _ _ => rfl⟩, Or.inl rfl⟩
      simp [Builtin.append_, run_underlying Try.underlying27, sizeOf, typeInfo, hi, Builtin.lenOf, Builtin.firstCells, loadCells, loadCellsFrom]
    · have hr := run_append_nil (P := Try.prog) w 27 ty 3 i (.int .i64 0) Try.underlying27 hi hz0 a ms.length c (iv ms) (by rw [iv_len, hz1]; omega) hnews (by omega) (by omega) (by rw [hz2]; omega)
      have hgr := grown 0 (Value.ownBlock (.slice none 0 0))
      simp only [List.length_nil, Nat.zero_add, iv, List.map_nil, List.nil_append, Array.empty_append] at hgr hr ⊢
      exact ⟨_, _, hr, hgr.1, hgr.2, Or.inr rfl⟩
  · by_cases hroom : l.length + ms.length ≤ cap
    · have hr := run_append_room_off (P := Try.prog) w 27 ty 3 i Try.underlying27 hi hz1 g off l.length cap cur hg a ms.length c (iv ms) (iv_len _) hnews (iv_one _) hroom (by rw [iv_len]; omega)
      refine ⟨_, _, hr, .inr ⟨g, off, cap, _, by rw [List.length_append], setRow_heap w g cur _ 3 _ hg, by rw [List.length_append]; exact hroom, hcm, ?_, ?_⟩, ⟨rfl, rfl, rfl, by simp, fun k _ hk => Go.setRow_other w g k _ (fun e => hk (by simp [Value.ownBlock, e]))⟩, Or.inl rfl⟩
      · simp only [List.size_toArray, List.length_append, List.length_take, List.length_drop, Array.length_toList, iv_len]
        omega
      · have hsp := splice_at (news := iv ms) htake (show off + l.length ≤ cur.size by omega)
        rw [List.length_append, iv_app]
        rw [iv_len] at hsp ⊢
        exact hsp
    · have holds : ∀ j u, (iv l)[j]? = some u → w.cell? ((⟨g, off, none⟩ : Addr).add j) = some u := by
        intro j u hj
        have hlt : j < l.length := by
          have := (List.getElem?_eq_some_iff.1 hj).1
          rwa [iv_len] at this
        have hq : Qe w (.slice (some ⟨g, off, none⟩) l.length cap) l := .inr ⟨g, off, cap, cur, rfl, hg, hnc, hcm, hcs, htake⟩
        obtain ⟨_, b', off', e, hc⟩ := hq.cellsAt j hlt
        cases e
        rw [Addr.add_lit, hc, ← hj, iv_at l j hlt]
      have hr := run_append_grow (P := Try.prog) w 27 ty 3 i (.int .i64 0) Try.underlying27 hi hz0 ⟨g, off, none⟩ l.length cap (iv l) (by rw [iv_len, hz1]; omega) holds a ms.length c (iv ms) (by rw [iv_len, hz1]; omega) hnews (by omega) (by omega) (growslice_fits (by omega) hbytes)
      have hgr := grown cap (Value.ownBlock (.slice (some ⟨g, off, none⟩) l.length cap))
      exact ⟨_, _, hr, hgr.1, hgr.2, Or.inr rfl⟩
end Go.Proofs.Ytjfjohbibkidhaa
