
/-
  What a slice of bytes in memory is ('Bs'), and that it stays so where nothing old is written. Conditions: none beyond what each theorem names.
-/
import Derived.Test.YtoejoneecanbbaaMath
import Derived.WalkKit
import Derived.WalkSpells
import Derived.WalkLawsBesides
import Derived.ProofKit
namespace Go.Proofs.Ytoejoneecanbbaa
open Go.RowKit

theorem hide {p : Prop} (h : p) : Hid p := h
theorem unhide {p : Prop} (h : Hid p) : p := h

/-- The value v is a slice of just the bytes l, in the world w. -/
def Bs (w : World) (v : Value) (l : List Int) : Prop :=
  Byte l ∧ ∃ a cap, v = .slice a l.length cap ∧ l.length ≤ cap ∧ cap ≤ maxLen ∧ (a = none → cap = 0) ∧
    ∀ i, i < l.length → ∃ b off, a = some ⟨b, off, none⟩ ∧ w.cell? ⟨b, off + i, none⟩ = some (.int .u8 (l.getD i 0))

theorem Bs.byte {w : World} {v : Value} {l : List Int} (h : Bs w v l) : Byte l := h.1

/-- Nothing, or bytes at a place. -/
theorem Bs.cases {w : World} {v : Value} {l : List Int} (h : Bs w v l) :
    (l = [] ∧ ∃ a cap, v = .slice a 0 cap ∧ cap ≤ maxLen ∧ (a = none → cap = 0)) ∨
    (∃ b off cap, v = .slice (some ⟨b, off, none⟩) l.length cap ∧ 0 < l.length ∧ l.length ≤ cap ∧ cap ≤ maxLen ∧ ∀ i, i < l.length → w.cell? ⟨b, off + i, none⟩ = some (.int .u8 (l.getD i 0))) := by
  obtain ⟨_, a, cap, rfl, h1, h2, h3, h4⟩ := h
  cases l with
  | nil => exact .inl ⟨rfl, a, cap, rfl, h2, h3⟩
  | cons x r =>
    obtain ⟨b, off, rfl, _⟩ := h4 0 (by simp)
    refine .inr ⟨b, off, cap, rfl, by simp, h1, h2, fun i hi => ?_⟩
    obtain ⟨b', off', e, hc⟩ := h4 i hi
    simp only [Option.some.injEq, Addr.mk.injEq, and_true] at e
    obtain ⟨rfl, rfl⟩ := e
    exact hc

theorem Bs.mk_at {w : World} {l : List Int} {b off cap : Nat} (hb : Byte l) (h1 : l.length ≤ cap) (h2 : cap ≤ maxLen)
    (hc : ∀ i, i < l.length → w.cell? ⟨b, off + i, none⟩ = some (.int .u8 (l.getD i 0))) : Bs w (.slice (some ⟨b, off, none⟩) l.length cap) l :=
  ⟨hb, _, _, rfl, h1, h2, fun e => by simp at e, fun i hi => ⟨b, off, rfl, hc i hi⟩⟩
theorem Bs.nil (w : World) : Bs w (.slice none 0 0) [] := ⟨Byte.nil, none, 0, rfl, by simp, by simp [maxLen], fun _ => rfl, fun i hi => by simp at hi⟩
theorem Bs.empty (w : World) (a : Option Addr) (cap : Nat) (hm : cap ≤ maxLen) (h : a = none → cap = 0) : Bs w (.slice a 0 cap) [] := ⟨Byte.nil, a, cap, rfl, by simp, hm, h, fun i hi => by simp at hi⟩

/-- It stays so where nothing old is written. -/
theorem Bs.below {w w' : World} {v : Value} {l : List Int} (h : Bs w v l) (hb : Below w.heap.size w w') : Bs w' v l := by
  obtain ⟨h0, a, cap, rfl, h1, h2, h3, h4⟩ := h
  refine ⟨h0, a, cap, rfl, h1, h2, h3, fun i hi => ?_⟩
  obtain ⟨b, off, e, hc⟩ := h4 i hi
  exact ⟨b, off, e, by rw [hb.cell (p := ⟨b, off + i, none⟩) (block_lt_of_cell hc)]; exact hc⟩

theorem getElem?_map_u8 (l : List Int) (i : Nat) (h : i < l.length) : (l.map (Value.int .u8))[i]? = some (.int .u8 (l.getD i 0)) := by
  rw [List.getElem?_map, List.getElem?_eq_getElem h, List.getD_eq_getElem?_getD, List.getElem?_eq_getElem h]; rfl

/-- What a call owns as a row of bytes is a slice of bytes. -/
theorem Bs.own {w : World} {base e g cap : Nat} {l : List Int} (h : w.ownsRow base e 1 (.slice (some ⟨g, 0, none⟩) l.length cap) l.length (l.map (Value.int .u8))) (hb : Byte l) : Bs w (.slice (some ⟨g, 0, none⟩) l.length cap) l := by
  have hc := fun j hj => h.cellAt j hj
  rcases h.2 with ⟨h', _⟩ | ⟨g', cap', cur, h', _, _, hnc, hcm, _, _⟩
  · simp at h'
  · simp only [Value.slice.injEq, Option.some.injEq, Addr.mk.injEq, and_true, true_and] at h'
    obtain ⟨rfl, rfl⟩ := h'
    refine Bs.mk_at hb hnc hcm fun i hi => ?_
    rw [Nat.zero_add, hc i (by omega), getElem?_map_u8 l i hi]

/-- A piece of it, from a place on. -/
theorem Bs.piece {w : World} {l : List Int} {b off cap : Nat} (hb : Byte l) (h1 : l.length ≤ cap) (h2 : cap ≤ maxLen)
    (hc : ∀ i, i < l.length → w.cell? ⟨b, off + i, none⟩ = some (.int .u8 (l.getD i 0))) (lo hi : Nat) (h3 : lo ≤ hi) (h4 : hi ≤ l.length) :
    Bs w (.slice (some ⟨b, off + lo, none⟩) (hi - lo) (cap - lo)) ((l.drop lo).take (hi - lo)) := by
  have e : ((l.drop lo).take (hi - lo)).length = hi - lo := by simp; omega
  have := Bs.mk_at (w := w) (l := (l.drop lo).take (hi - lo)) (b := b) (off := off + lo) (cap := cap - lo) ((hb.drop lo).take _) (by omega) (by omega) (fun i hi' => by
    rw [e] at hi'
    rw [Nat.add_assoc, hc (lo + i) (by omega)]
    congr 2
    simp [hi'])
  rw [e] at this
  exact this

end Go.Proofs.Ytoejoneecanbbaa
