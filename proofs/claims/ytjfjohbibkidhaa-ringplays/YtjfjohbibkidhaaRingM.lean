/-
  The rows that RingPlays keeps itself ('Mt'), beside the port's ('Sy'). Conditions: those that each theorem names.
-/
import Derived.Test.YtjfjohbibkidhaaRing8
namespace Go.Proofs.Ytjfjohbibkidhaa
open Go.RowKit
set_option linter.unusedVariables false

/-- A row of the statement's own: its value and its numbers. -/
structure Mw where
  (v : Value) (l : List Int)
@[reducible] def Mw.none : Mw := ⟨.slice .none 0 0, []⟩
def rowM (ms : List Mw) : List Value := ms.map (·.v)
theorem rowM_length (ms : List Mw) : (rowM ms).length = ms.length := by simp [rowM]
theorem rowM_v (ms : List Mw) (k : Nat) (h : k < ms.length) : (rowM ms)[k]? = some (ms.getD k Mw.none).v := by
  rw [rowM, List.getElem?_map, List.getElem?_eq_getElem h, List.getD_eq_getElem?_getD, List.getElem?_eq_getElem h]; rfl
theorem rowM_set (ms : List Mw) (k : Nat) (v : Value) (l : List Int) : (rowM ms).set k v = rowM (ms.set k ⟨v, l⟩) := by simp [rowM, List.map_set]
theorem getD_setM (ms : List Mw) (k j : Nat) (r : Mw) (hk : k < ms.length) : (ms.set k r).getD j Mw.none = if j = k then r else ms.getD j Mw.none := by
  simp only [List.getD_eq_getElem?_getD, List.getElem?_set]
  by_cases h : k = j
  · subst h; simp [hk]
  · rw [if_neg h, if_neg (Ne.symm h)]
structure Mt (w : World) (B R : Nat) (ms : List Mw) : Prop where
  len : ms.length = 8
  base : B ≤ R
  at_r : w.heap[R]? = some (.cells (rowM ms).toArray 28 (0, 0))
  row : ∀ k, k < 8 → Qe w (ms.getD k Mw.none).v (ms.getD k Mw.none).l
  own : ∀ k, k < 8 → ∀ b, (ms.getD k Mw.none).v.ownBlock = some b → B ≤ b ∧ b ≠ R
  apart : ∀ j k, j < 8 → k < 8 → j ≠ k → ∀ b, (ms.getD j Mw.none).v.ownBlock = some b → (ms.getD k Mw.none).v.ownBlock ≠ some b
theorem Mt.ltr {w : World} {B R : Nat} {ms : List Mw} (h : Mt w B R ms) : R < w.heap.size := (Array.getElem?_eq_some_iff.1 h.at_r).1
theorem Mt.keep {w w' : World} {B R : Nat} {ms : List Mw} (h : Mt w B R ms) (hg : w'.heap[R]? = w.heap[R]?) (hr : ∀ k, k < 8 → ∀ b, (ms.getD k Mw.none).v.ownBlock = some b → w'.heap[b]? = w.heap[b]?) : Mt w' B R ms :=
  ⟨h.len, h.base, hg.trans h.at_r, fun k hk => (h.row k hk).blk (hr k hk), h.own, h.apart⟩
theorem Mt.cell {w : World} {B R : Nat} {ms : List Mw} (h : Mt w B R ms) (k : Nat) (hk : k < 8) : w.cell? ⟨R, k, none⟩ = some (ms.getD k Mw.none).v := by
  rw [cell_of_row _ _ _ _ _ _ h.at_r, List.getElem?_toArray, rowM_v ms k (by rw [h.len]; exact hk)]
theorem Mt.frozen {w : World} {B R : Nat} {ms : List Mw} (h : Mt w B R ms) (o : Nat) : w.frozen? ⟨R, o, none⟩ = false := frozen_of_row w R o _ _ h.at_r
theorem Mt.put {w w1 : World} {B R : Nat} {ms : List Mw} (h : Mt w B R ms) (k : Nat) (hk : k < 8) (v' : Value) (l' : List Int) (hq : Qe w1 v' l') (hB : B ≤ w.heap.size)
    (hs : ∀ b, b < w.heap.size → (ms.getD k Mw.none).v.ownBlock ≠ some b → w1.heap[b]? = w.heap[b]?)
    (hl : ∀ b, v'.ownBlock = some b → (ms.getD k Mw.none).v.ownBlock = some b ∨ w.heap.size ≤ b) :
    Mt (w1.setCell ⟨R, k, none⟩ v') B R (ms.set k ⟨v', l'⟩) := by
  have hlen : k < ms.length := by rw [h.len]; exact hk
  have hg1 : w1.heap[R]? = some (.cells (rowM ms).toArray 28 (0, 0)) := (hs R h.ltr (fun e => (h.own k hk R e).2 rfl)).trans h.at_r
  have hgl := h.ltr
  have hvg : ∀ b, v'.ownBlock = some b → B ≤ b ∧ b ≠ R := fun b e => by
    rcases hl b e with e' | e'
    · exact h.own k hk b e'
    · exact ⟨by omega, by omega⟩
  refine ⟨by rw [List.length_set]; exact h.len, h.base, ?_, fun j hj => ?_, fun j hj b e => ?_, fun i j hi hj hij b e1 e2 => ?_⟩
  · rw [heap_setCell_same _ _ _ _ _ _ hg1, ← rowM_set ms k v' l']
    simp
  · rw [getD_setM _ _ _ _ hlen]
    by_cases e : j = k
    · rw [if_pos e]
      exact hq.blk fun b hb => heap_setCell_other w1 ⟨R, k, none⟩ b v' (hvg b hb).2
    · rw [if_neg e]
      exact (h.row j hj).blk fun b hb => (heap_setCell_other w1 ⟨R, k, none⟩ b v' (h.own j hj b hb).2).trans (hs b ((h.row j hj).lt hb) (h.apart j k hj hk e b hb))
  · rw [getD_setM _ _ _ _ hlen] at e
    by_cases e' : j = k
    · rw [if_pos e'] at e; exact hvg b e
    · rw [if_neg e'] at e; exact h.own j hj b e
  · rw [getD_setM _ _ _ _ hlen] at e1 e2
    by_cases ei : i = k
    · rw [if_pos ei] at e1
      rw [if_neg (by omega)] at e2
      rcases hl b e1 with e' | e'
      · exact h.apart k j hk hj (by omega) b e' e2
      · have := (h.row j hj).lt e2; omega
    · rw [if_neg ei] at e1
      by_cases ej : j = k
      · rw [if_pos ej] at e2
        rcases hl b e2 with e' | e'
        · exact h.apart k i hk hi (by omega) b e' e1
        · have := (h.row i hi).lt e1; omega
      · rw [if_neg ej] at e2
        exact h.apart i j hi hj hij b e1 e2
def lostRow (lm : Nat → Nat) : List Value := (List.range 8).map fun k => .int .i64 (lm k)
theorem lostRow_at (lm : Nat → Nat) (k : Nat) (hk : k < 8) : (lostRow lm)[k]? = some (.int .i64 (lm k)) := by simp [lostRow, hk]
theorem lostRow_set (lm : Nat → Nat) (k n : Nat) (hk : k < 8) : (lostRow lm).set k (.int .i64 n) = lostRow (updN lm k n) := by
  apply List.ext_getElem
  · simp [lostRow]
  · intro i h1 h2
    simp only [lostRow, List.length_set, List.length_map, List.length_range] at h1
    rw [List.getElem_set]
    by_cases e : k = i
    · subst e; simp [lostRow, updN]
    · rw [if_neg e]; simp [lostRow, updN, Ne.symm e]
/-- The port beside the statement's own rows. -/
structure Sy (W w : World) (g gb R L : Nat) (bs : List Value) (rs : List Rw) (ms : List Mw) (f fm : Nat → List Int) (b ls lm : Nat → Nat) : Prop where
  pt : Pt w W.heap.size g rs
  vw : Vw rs f b ls
  mt : Mt w W.heap.size R ms
  mv : ∀ k, k < 8 → (ms.getD k Mw.none).l = fm k
  at_l : w.heap[L]? = some (.cells (lostRow lm).toArray 22 (0, 0))
  at_b : w.heap[gb]? = some (.cells bs.toArray 22 (0, 0))
  baseL : W.heap.size ≤ L
  baseB : W.heap.size ≤ gb
  ne : g ≠ R ∧ g ≠ L ∧ g ≠ gb ∧ R ≠ L ∧ R ≠ gb ∧ L ≠ gb
  c1 : ∀ i, i < 8 → ∀ b, (rs.getD i Rw.none).v.ownBlock = some b → b ≠ R ∧ b ≠ L ∧ b ≠ gb ∧ ∀ j, j < 8 → (ms.getD j Mw.none).v.ownBlock ≠ some b
  c2 : ∀ j, j < 8 → ∀ b, (ms.getD j Mw.none).v.ownBlock = some b → b ≠ g ∧ b ≠ L ∧ b ≠ gb
  bel : Below W.heap.size W w
theorem Sy.ltL {W w : World} {g gb R L : Nat} {bs : List Value} {rs : List Rw} {ms : List Mw} {f fm : Nat → List Int} {b ls lm : Nat → Nat} (h : Sy W w g gb R L bs rs ms f fm b ls lm) : L < w.heap.size ∧ gb < w.heap.size :=
  ⟨(Array.getElem?_eq_some_iff.1 h.at_l).1, (Array.getElem?_eq_some_iff.1 h.at_b).1⟩
/-- Where nothing that was there is written. -/
theorem Sy.below {W w w' : World} {g gb R L : Nat} {bs : List Value} {rs : List Rw} {ms : List Mw} {f fm : Nat → List Int} {b ls lm : Nat → Nat} (h : Sy W w g gb R L bs rs ms f fm b ls lm) (hb : Below w.heap.size w w') : Sy W w' g gb R L bs rs ms f fm b ls lm :=
  ⟨h.pt.below hb, h.vw, h.mt.keep (hb.block _ h.mt.ltr) (fun k hk b e => hb.block b ((h.mt.row k hk).lt e)), h.mv, (hb.block _ h.ltL.1).trans h.at_l, (hb.block _ h.ltL.2).trans h.at_b, h.baseL, h.baseB, h.ne, h.c1, h.c2, h.bel.later hb⟩
/-- Behind a call of the port's. -/
theorem Sy.ring {W w w' : World} {g gb R L : Nat} {bs : List Value} {rs rs' : List Rw} {ms : List Mw} {f f' fm : Nat → List Int} {b b' ls ls' lm : Nat → Nat} (h : Sy W w g gb R L bs rs ms f fm b ls lm)
    (hP : Pt w' W.heap.size g rs') (hV : Vw rs' f' b' ls') (hT : Tch g rs w w') (hn : ∀ i, i < 8 → ∀ b, (rs'.getD i Rw.none).v.ownBlock = some b → (∃ i', i' < 8 ∧ (rs.getD i' Rw.none).v.ownBlock = some b) ∨ w.heap.size ≤ b) : Sy W w' g gb R L bs rs' ms f' fm b' ls' lm := by
  have hmr := h.mt.ltr
  have hll := h.ltL
  have hblk : ∀ k, k < w.heap.size → k ≠ g → (∀ c, c < 8 → (rs.getD c Rw.none).v.ownBlock ≠ some k) → w'.heap[k]? = w.heap[k]? := hT.block
  have hmb : ∀ k, k < 8 → ∀ b, (ms.getD k Mw.none).v.ownBlock = some b → w'.heap[b]? = w.heap[b]? := fun k hk b e =>
    hblk b ((h.mt.row k hk).lt e) (h.c2 k hk b e).1 (fun c hc e' => (h.c1 c hc b e').2.2.2 k hk e)
  refine ⟨hP, hV, h.mt.keep (hblk R hmr (Ne.symm h.ne.1) (fun c hc e => (h.c1 c hc R e).1 rfl)) hmb, h.mv,
    (hblk L hll.1 (Ne.symm h.ne.2.1) (fun c hc e => (h.c1 c hc L e).2.1 rfl)).trans h.at_l, (hblk gb hll.2 (Ne.symm h.ne.2.2.1) (fun c hc e => (h.c1 c hc gb e).2.2.1 rfl)).trans h.at_b, h.baseL, h.baseB, h.ne, fun i hi b e => ?_, h.c2, hT.below h.pt h.bel h.pt.size⟩
  rcases hn i hi b e with ⟨i', hi', e'⟩ | hge
  · exact h.c1 i' hi' b e'
  · exact ⟨by omega, by omega, by omega, fun j hj e' => by have := (h.mt.row j hj).lt e'; omega⟩
/-- A row of the statement's own is written. -/
theorem Sy.put {W w w1 : World} {g gb R L : Nat} {bs : List Value} {rs : List Rw} {ms : List Mw} {f fm : Nat → List Int} {b ls lm : Nat → Nat} (h : Sy W w g gb R L bs rs ms f fm b ls lm) (k : Nat) (hk : k < 8) (v' : Value) (l' : List Int) (hq : Qe w1 v' l')
    (ho : w1.os = w.os) (ht : w1.tape = w.tape) (hu : w1.output = w.output) (hz : w.heap.size ≤ w1.heap.size)
    (hs : ∀ b, b < w.heap.size → (ms.getD k Mw.none).v.ownBlock ≠ some b → w1.heap[b]? = w.heap[b]?)
    (hl : ∀ b, v'.ownBlock = some b → (ms.getD k Mw.none).v.ownBlock = some b ∨ w.heap.size ≤ b) :
    Sy W (w1.setCell ⟨R, k, none⟩ v') g gb R L bs rs (ms.set k ⟨v', l'⟩) f (updN fm k l') b ls lm := by
  have hB := h.pt.size
  have hlen : k < ms.length := by rw [h.mt.len]; exact hk
  have hm := h.mt.put k hk v' l' hq hB hs hl
  have hgl := h.pt.ltg
  have hll := h.ltL
  have hrl := h.mt.ltr
  have hoth : ∀ c, c < w.heap.size → c ≠ R → (ms.getD k Mw.none).v.ownBlock ≠ some c → (w1.setCell ⟨R, k, none⟩ v').heap[c]? = w.heap[c]? := fun c hc hR hv => (heap_setCell_other w1 ⟨R, k, none⟩ c v' hR).trans (hs c hc hv)
  have hown : ∀ j, j < 8 → ∀ b, ((ms.set k ⟨v', l'⟩).getD j Mw.none).v.ownBlock = some b → (∃ j', j' < 8 ∧ (ms.getD j' Mw.none).v.ownBlock = some b) ∨ w.heap.size ≤ b := fun j hj b e => by
    rw [getD_setM _ _ _ _ hlen] at e
    by_cases e' : j = k
    · rw [if_pos e'] at e
      rcases hl b e with h1 | h1
      · exact .inl ⟨k, hk, h1⟩
      · exact .inr h1
    · rw [if_neg e'] at e; exact .inl ⟨j, hj, e⟩
  refine ⟨h.pt.keep (hoth g hgl h.ne.1 (fun e => (h.c2 k hk g e).1 rfl)) (fun i hi b e => hoth b ((h.pt.row i hi).lt e) (h.c1 i hi b e).1 ((h.c1 i hi b e).2.2.2 k hk)), h.vw, hm, fun j hj => ?_,
    (hoth L hll.1 (Ne.symm h.ne.2.2.2.1) (fun e => (h.c2 k hk L e).2.1 rfl)).trans h.at_l, (hoth gb hll.2 (Ne.symm h.ne.2.2.2.2.1) (fun e => (h.c2 k hk gb e).2.2 rfl)).trans h.at_b, h.baseL, h.baseB, h.ne, fun i hi b e => ?_, fun j hj b e => ?_, ?_⟩
  · rw [getD_setM _ _ _ _ hlen]
    by_cases e : j = k
    · subst e; rw [if_pos rfl, updN_same]
    · rw [if_neg e, updN_other _ _ _ _ e]; exact h.mv j hj
  · refine ⟨(h.c1 i hi b e).1, (h.c1 i hi b e).2.1, (h.c1 i hi b e).2.2.1, fun j hj e' => ?_⟩
    rcases hown j hj b e' with ⟨j', hj', e2⟩ | hge
    · exact (h.c1 i hi b e).2.2.2 j' hj' e2
    · have := (h.pt.row i hi).lt e; omega
  · rcases hown j hj b e with ⟨j', hj', e2⟩ | hge
    · exact h.c2 j' hj' b e2
    · exact ⟨by omega, by omega, by omega⟩
  · refine h.bel.trans ⟨ho, ht, hu, by simpa [World.setCell] using hz, fun c hc => hoth c (by omega) (by have := h.mt.base; omega) (fun e => by have := (h.mt.own k hk c e).1; omega)⟩
/-- What had no room is counted. -/
theorem Sy.putL {W w : World} {g gb R L : Nat} {bs : List Value} {rs : List Rw} {ms : List Mw} {f fm : Nat → List Int} {b ls lm : Nat → Nat} (h : Sy W w g gb R L bs rs ms f fm b ls lm) (k n : Nat) (hk : k < 8) :
    Sy W (w.setCell ⟨L, k, none⟩ (.int .i64 n)) g gb R L bs rs ms f fm b ls (updN lm k n) := by
  have hoth : ∀ c, c ≠ L → (w.setCell ⟨L, k, none⟩ (.int .i64 n)).heap[c]? = w.heap[c]? := fun c hc => heap_setCell_other w ⟨L, k, none⟩ c _ hc
  refine ⟨h.pt.keep (hoth g h.ne.2.1) (fun i hi b e => hoth b (h.c1 i hi b e).2.1), h.vw, h.mt.keep (hoth R h.ne.2.2.2.1) (fun j hj b e => hoth b (h.c2 j hj b e).2.1), h.mv, ?_, (hoth gb (Ne.symm h.ne.2.2.2.2.2)).trans h.at_b, h.baseL, h.baseB, h.ne, h.c1, h.c2, ?_⟩
  · rw [heap_setCell_same _ _ _ _ _ _ h.at_l, ← lostRow_set lm k n hk]
    simp
  · exact h.bel.trans ⟨rfl, rfl, rfl, by simp [World.setCell], fun c hc => hoth c (by have := h.baseL; omega)⟩
/-- All rows of the statement's own go. -/
theorem Sy.gone {W w : World} {g gb R L : Nat} {bs : List Value} {rs : List Rw} {ms : List Mw} {f fm : Nat → List Int} {b ls lm : Nat → Nat} (h : Sy W w g gb R L bs rs ms f fm b ls lm) :
    Sy W (w.setRow R (rowM (List.replicate 8 Mw.none)).toArray) g gb R L bs rs (List.replicate 8 Mw.none) f (fun _ => []) b ls lm := by
  have hoth : ∀ c, c ≠ R → (w.setRow R (rowM (List.replicate 8 Mw.none)).toArray).heap[c]? = w.heap[c]? := fun c hc => Go.setRow_other w R c _ hc
  have hrep : ∀ k, (List.replicate 8 Mw.none).getD k Mw.none = Mw.none := fun k => by
    rw [List.getD_eq_getElem?_getD, List.getElem?_replicate]; split <;> rfl
  refine ⟨h.pt.keep (hoth g h.ne.1) (fun i hi b e => hoth b (h.c1 i hi b e).1), h.vw, ⟨by simp, h.mt.base, setRow_heap _ _ _ _ _ _ h.mt.at_r, fun k hk => ?_, fun k hk b e => ?_, fun i j hi hj hij b e => ?_⟩, fun k hk => ?_,
    (hoth L (Ne.symm h.ne.2.2.2.1)).trans h.at_l, (hoth gb (Ne.symm h.ne.2.2.2.2.1)).trans h.at_b, h.baseL, h.baseB, h.ne, fun i hi b e => ⟨(h.c1 i hi b e).1, (h.c1 i hi b e).2.1, (h.c1 i hi b e).2.2.1, fun j hj e' => ?_⟩, fun j hj b e => ?_, below_setRow h.bel h.mt.base _⟩
  · rw [hrep]; exact Qe.nil _
  · rw [hrep] at e; simp [Value.ownBlock] at e
  · rw [hrep] at e; simp [Value.ownBlock] at e
  · rw [hrep]
  · rw [hrep] at e'; simp [Value.ownBlock] at e'
  · rw [hrep] at e; simp [Value.ownBlock] at e
end Go.Proofs.Ytjfjohbibkidhaa
