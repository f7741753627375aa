/-
  What a pool is in memory ('Pl'), and that it stays so. Conditions: those that each theorem names.
-/
import Derived.Test.YtbdolfnnohdmhaaMem
import Derived.Test.YtbdolfnnohdmhaaChecked
import Derived.Deep.Light
namespace Go.Proofs.Ytbdolfnnohdmhaa
open Go.RowKit

/-- A place: the frame's value, its bytes, and how often it is held. -/
structure Pc where
  (v : Value) (l : List Int) (h : Nat)
@[reducible] def Pc.none : Pc := ⟨.slice .none 0 0, [], 0⟩
def rowOf : List Pc → List Value
  | [] => []
  | p :: ps => p.v :: .int .i64 p.h :: rowOf ps
theorem rowOf_length : ∀ ps : List Pc, (rowOf ps).length = ps.length * 2
  | [] => rfl
  | p :: ps => by simp only [rowOf, List.length_cons, rowOf_length ps]; omega
theorem rowOf_v : ∀ (ps : List Pc) (k : Nat), k < ps.length → (rowOf ps)[k * 2]? = some (ps.getD k Pc.none).v
  | [], k, h => by simp at h
  | p :: ps, 0, _ => rfl
  | p :: ps, k + 1, h => by
    rw [show (k + 1) * 2 = k * 2 + 2 by omega]
    simp only [rowOf, List.getElem?_cons_succ, List.getD_cons_succ]
    exact rowOf_v ps k (by simpa using h)
theorem rowOf_h : ∀ (ps : List Pc) (k : Nat), k < ps.length → (rowOf ps)[k * 2 + 1]? = some (.int .i64 (ps.getD k Pc.none).h)
  | [], k, h => by simp at h
  | p :: ps, 0, _ => rfl
  | p :: ps, k + 1, h => by
    rw [show (k + 1) * 2 + 1 = k * 2 + 1 + 2 by omega]
    simp only [rowOf, List.getElem?_cons_succ, List.getD_cons_succ]
    exact rowOf_h ps k (by simpa using h)
theorem rowOf_set_h : ∀ (ps : List Pc) (k : Nat) (n : Nat), k < ps.length → (rowOf ps).set (k * 2 + 1) (.int .i64 n) = rowOf (ps.set k ⟨(ps.getD k Pc.none).v, (ps.getD k Pc.none).l, n⟩)
  | [], k, n, h => by simp at h
  | p :: ps, 0, n, _ => rfl
  | p :: ps, k + 1, n, h => by
    rw [show (k + 1) * 2 + 1 = k * 2 + 1 + 2 by omega]
    simp only [rowOf, List.set_cons_succ, List.getD_cons_succ, rowOf_set_h ps k n (by simpa using h)]
theorem rowOf_set_v : ∀ (ps : List Pc) (k : Nat) (v : Value) (l : List Int), k < ps.length → (rowOf ps).set (k * 2) v = rowOf (ps.set k ⟨v, l, (ps.getD k Pc.none).h⟩)
  | [], k, v, l, h => by simp at h
  | p :: ps, 0, v, l, _ => rfl
  | p :: ps, k + 1, v, l, h => by
    rw [show (k + 1) * 2 = k * 2 + 2 by omega]
    simp only [rowOf, List.set_cons_succ, List.getD_cons_succ, rowOf_set_v ps k v l (by simpa using h)]
theorem rowOf_rep : ∀ n : Nat, rowOf (List.replicate n Pc.none) = (List.replicate n [Value.slice .none 0 0, .int .i64 0]).flatten
  | 0 => rfl
  | n + 1 => by
    rw [List.replicate_succ, List.replicate_succ, List.flatten_cons, rowOf, rowOf_rep n]
    rfl

/-- The blocks of a value. -/
def Away (g b : Nat) (v : Value) : Prop := ∀ a n c, v = .slice (some a) n c → a.block ≠ g ∧ a.block ≠ b
/-- A pool in memory: its own cell lies in block g, its places in block b. -/
structure Pl (w : World) (g b : Nat) (ps : List Pc) : Prop where
  ne : g ≠ b
  few : ps.length ≤ 4096
  at_g : w.heap[g]? = some (.cells #[.slice (some ⟨b, 0, none⟩) ps.length ps.length] 57 (0, 0))
  at_b : w.heap[b]? = some (.cells (rowOf ps).toArray 59 (0, 0))
  frames : ∀ p ∈ ps, Bs w p.v p.l ∧ Away g b p.v

/-- Of all that was there only block b may have changed. -/
structure But (b : Nat) (w w' : World) : Prop where
  os : w'.os = w.os
  tape : w'.tape = w.tape
  output : w'.output = w.output
  size : w.heap.size ≤ w'.heap.size
  block : ∀ k, k < w.heap.size → k ≠ b → w'.heap[k]? = w.heap[k]?
theorem But.refl (b : Nat) (w : World) : But b w w := ⟨rfl, rfl, rfl, Nat.le_refl _, fun _ _ _ => rfl⟩
theorem But.trans {b : Nat} {w w' w'' : World} (h : But b w w') (h' : But b w' w'') : But b w w'' :=
  ⟨h'.os.trans h.os, h'.tape.trans h.tape, h'.output.trans h.output, Nat.le_trans h.size h'.size, fun k hk hne => (h'.block k (Nat.lt_of_lt_of_le hk h.size) hne).trans (h.block k hk hne)⟩
theorem But.of_below {b : Nat} {w w' : World} (h : Below w.heap.size w w') : But b w w' := ⟨h.os, h.tape, h.output, h.size, fun k hk _ => h.block k hk⟩
theorem But.setCell (b o : Nat) (w : World) (v : Value) : But b w (w.setCell ⟨b, o, none⟩ v) :=
  ⟨rfl, rfl, rfl, by simp [World.setCell], fun k _ hne => heap_setCell_other w ⟨b, o, none⟩ k v hne⟩
theorem But.drew {b : Nat} {w w' : World} (h : But b w w') : But b w w'.drew := ⟨h.os, h.tape, h.output, h.size, h.block⟩
/-- What a call owns: block b is one of those from B on. -/
theorem But.below {B b : Nat} {w0 w w' : World} (h0 : Below B w0 w) (h : But b w w') (hb : B ≤ b) (hB : B ≤ w.heap.size) : Below B w0 w' :=
  h0.trans ⟨h.os, h.tape, h.output, h.size, fun k hk => h.block k (by omega) (by omega)⟩
theorem Bs.but {w w' : World} {v : Value} {l : List Int} {b : Nat} (h : Bs w v l) (hb : But b w w') (hv : ∀ a n c, v = .slice (some a) n c → a.block ≠ b) : Bs w' v l := by
  obtain ⟨h0, a, cap, rfl, h1, h2, h3, h4⟩ := h
  refine ⟨h0, a, cap, rfl, h1, h2, h3, fun i hi => ?_⟩
  obtain ⟨b', off, e, hc⟩ := h4 i hi
  subst e
  exact ⟨b', off, rfl, by rw [World.cell?_of_block (w := w) (hb.block b' (block_lt_of_cell hc) (hv _ _ _ rfl))]; exact hc⟩
theorem Pl.lt {w : World} {g b : Nat} {ps : List Pc} (h : Pl w g b ps) : g < w.heap.size ∧ b < w.heap.size :=
  ⟨(Array.getElem?_eq_some_iff.1 h.at_g).1, (Array.getElem?_eq_some_iff.1 h.at_b).1⟩
/-- It stays, where nothing that was there is written. -/
theorem Pl.below {w w' : World} {g b : Nat} {ps : List Pc} (h : Pl w g b ps) (hb : Below w.heap.size w w') : Pl w' g b ps :=
  ⟨h.ne, h.few, by rw [hb.block g h.lt.1]; exact h.at_g, by rw [hb.block b h.lt.2]; exact h.at_b, fun p hp => ⟨(h.frames p hp).1.below hb, (h.frames p hp).2⟩⟩
/-- It stays, where another block is written. -/
theorem Pl.but {w w' : World} {g b c : Nat} {ps : List Pc} (h : Pl w g b ps) (hb : But c w w') (hg : g ≠ c) (hbc : b ≠ c) (hf : ∀ p ∈ ps, ∀ a n k, p.v = .slice (some a) n k → a.block ≠ c) : Pl w' g b ps :=
  ⟨h.ne, h.few, by rw [hb.block g h.lt.1 hg]; exact h.at_g, by rw [hb.block b h.lt.2 hbc]; exact h.at_b, fun p hp => ⟨(h.frames p hp).1.but hb (hf p hp), (h.frames p hp).2⟩⟩
theorem Pl.cellG {w : World} {g b : Nat} {ps : List Pc} (h : Pl w g b ps) : w.cell? ⟨g, 0, none⟩ = some (.slice (some ⟨b, 0, none⟩) ps.length ps.length) := by
  rw [cell_of_row _ _ _ _ _ _ h.at_g]; rfl
theorem Pl.cellV {w : World} {g b : Nat} {ps : List Pc} (h : Pl w g b ps) (k : Nat) (hk : k < ps.length) : w.cell? ⟨b, k * 2, none⟩ = some (ps.getD k Pc.none).v := by
  rw [cell_of_row _ _ _ _ _ _ h.at_b, List.getElem?_toArray, rowOf_v ps k hk]
theorem Pl.cellH {w : World} {g b : Nat} {ps : List Pc} (h : Pl w g b ps) (k : Nat) (hk : k < ps.length) : w.cell? ⟨b, k * 2 + 1, none⟩ = some (.int .i64 (ps.getD k Pc.none).h) := by
  rw [cell_of_row _ _ _ _ _ _ h.at_b, List.getElem?_toArray, rowOf_h ps k hk]
theorem Pl.frozenB {w : World} {g b : Nat} {ps : List Pc} (h : Pl w g b ps) (o : Nat) : w.frozen? ⟨b, o, none⟩ = false := frozen_of_row w b o _ _ h.at_b
theorem getD_mem {ps : List Pc} {k : Nat} (hk : k < ps.length) : ps.getD k Pc.none ∈ ps := by
  rw [List.getD_eq_getElem?_getD, List.getElem?_eq_getElem hk]; exact List.getElem_mem hk
theorem Pl.frameAt {w : World} {g b : Nat} {ps : List Pc} (h : Pl w g b ps) (k : Nat) (hk : k < ps.length) : Bs w (ps.getD k Pc.none).v (ps.getD k Pc.none).l ∧ Away g b (ps.getD k Pc.none).v := h.frames _ (getD_mem hk)
/-- How often it is held is written. -/
theorem Pl.setH {w : World} {g b : Nat} {ps : List Pc} (h : Pl w g b ps) (k n : Nat) (hk : k < ps.length) :
    Pl (w.setCell ⟨b, k * 2 + 1, none⟩ (.int .i64 n)) g b (ps.set k ⟨(ps.getD k Pc.none).v, (ps.getD k Pc.none).l, n⟩) := by
  refine ⟨h.ne, by rw [List.length_set]; exact h.few, ?_, ?_, fun p hp => ?_⟩
  · rw [heap_setCell_other _ _ _ _ h.ne, List.length_set]; exact h.at_g
  · rw [heap_setCell_same _ _ _ _ _ _ h.at_b, ← rowOf_set_h ps k n hk]
    simp
  · have hq : Bs w p.v p.l ∧ Away g b p.v := by
      rcases List.mem_or_eq_of_mem_set hp with hp | rfl
      · exact h.frames p hp
      · exact h.frameAt k hk
    exact ⟨hq.1.but (But.setCell b _ w _) (fun a n c e => (hq.2 a n c e).2), hq.2⟩
/-- A frame is written. -/
theorem Pl.setV {w : World} {g b : Nat} {ps : List Pc} (h : Pl w g b ps) (k : Nat) (v : Value) (l : List Int) (hk : k < ps.length) (hv : Bs w v l) (ha : Away g b v) :
    Pl (w.setCell ⟨b, k * 2, none⟩ v) g b (ps.set k ⟨v, l, (ps.getD k Pc.none).h⟩) := by
  refine ⟨h.ne, by rw [List.length_set]; exact h.few, ?_, ?_, fun p hp => ?_⟩
  · rw [heap_setCell_other _ _ _ _ h.ne, List.length_set]; exact h.at_g
  · rw [heap_setCell_same _ _ _ _ _ _ h.at_b, ← rowOf_set_v ps k v l hk]
    simp
  · have hq : Bs w p.v p.l ∧ Away g b p.v := by
      rcases List.mem_or_eq_of_mem_set hp with hp | rfl
      · exact h.frames p hp
      · exact ⟨hv, ha⟩
    exact ⟨hq.1.but (But.setCell b _ w _) (fun a n c e => (hq.2 a n c e).2), hq.2⟩
theorem Away.nil (g b : Nat) : Away g b (.slice .none 0 0) := fun a n c e => by simp at e
/-- How often all are held. -/
def sumH : List Pc → Nat
  | [] => 0
  | p :: ps => p.h + sumH ps
def usedN : List Pc → Nat
  | [] => 0
  | p :: ps => (if p.h = 0 then 0 else 1) + usedN ps
theorem sumH_take (ps : List Pc) : ∀ k, k < ps.length → sumH (ps.take (k + 1)) = sumH (ps.take k) + (ps.getD k Pc.none).h := by
  induction ps with
  | nil => intro k h; simp at h
  | cons p ps ih =>
    intro k h
    cases k with
    | zero => simp [sumH]
    | succ k => simp only [List.take_succ_cons, sumH, List.getD_cons_succ, ih k (by simpa using h)]; omega
theorem usedN_take (ps : List Pc) : ∀ k, k < ps.length → usedN (ps.take (k + 1)) = usedN (ps.take k) + (if (ps.getD k Pc.none).h = 0 then 0 else 1) := by
  induction ps with
  | nil => intro k h; simp at h
  | cons p ps ih =>
    intro k h
    cases k with
    | zero => simp [usedN]
    | succ k => simp only [List.take_succ_cons, usedN, List.getD_cons_succ, ih k (by simpa using h)]; omega
theorem sumH_take_le (ps : List Pc) : ∀ k, sumH (ps.take k) ≤ sumH ps := by
  induction ps with
  | nil => intro k; simp
  | cons p ps ih =>
    intro k
    cases k with
    | zero => simp [sumH]
    | succ k => have := ih k; simp only [List.take_succ_cons, sumH]; omega
theorem usedN_le (ps : List Pc) : usedN ps ≤ ps.length := by
  induction ps with
  | nil => simp [usedN]
  | cons p ps ih => simp only [usedN, List.length_cons]; split <;> omega
end Go.Proofs.Ytbdolfnnohdmhaa
