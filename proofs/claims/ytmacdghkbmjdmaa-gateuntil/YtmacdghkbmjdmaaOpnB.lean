/-
  What came in as a row of structs, of any width ('rowsIn'). No Go text. Conditions: those that each theorem names.
-/
import Derived.Test.YtmacdghkbmjdmaaFlt
import Derived.Test.YtmacdghkbmjdmaaCame
import Derived.Deep.SlicePairs
namespace Go.Proofs.Ytmacdghkbmjdmaa
open Go.RowKit Go.Deep Go.ChangeShapes Go.WideShapes Go.ChangeAt
set_option linter.unusedVariables false
set_option maxRecDepth 20000

/-- Rows of one width that came in. -/
structure RowsIn (W : World) (a : Option Addr) (n : Nat) {α : Type} (f : α → List Value) (m : Nat) (d : α) (ys : List α) : Prop where
  len : ys.length = n
  at_i : ∀ i, i < n → ∃ b off, a = some ⟨b, off, none⟩ ∧ W.rangeAt b (off + i * m) (f (ys.getD i d))
theorem RowsIn.below {W W' : World} {a : Option Addr} {n : Nat} {α : Type} {f : α → List Value} {m : Nat} {d : α} {ys : List α} (h : RowsIn W a n f m d ys) (hb : Below W.heap.size W W') (hf : ∀ y, 0 < (f y).length) : RowsIn W' a n f m d ys := by
  refine ⟨h.len, fun i hi => ?_⟩
  obtain ⟨b, off, e, hr⟩ := h.at_i i hi
  refine ⟨b, off, e, fun j v hj => ?_⟩
  have hc := hr j v hj
  rw [hb.cell (p := ⟨b, off + i * m + j, none⟩) (block_lt_of_cell hc)]
  exact hc
theorem rowsIn_of_trod {H : Type} {enc : TypeId × Value → H} {P : Program} {W : World} {base : Nat} {held : Bool} {fuel : Nat} {a : Option Addr} {len cap : Nat} {x : DataW H × List MemPlace} {t e : TypeId} {α : Type} {f : α → List Value} {m : Nat} (d : α) {ok : α → Prop} (ht : P.underlying t = some (.slice e)) (hm0 : 0 < m) (ce : P.cellsOf e = m)
    (ho : ∀ {fuel : Nat} {cs : List Value} {x : DataW H × List MemPlace}, cs.length = m → DataW.trod enc P W base (fun _ => true) held fuel e cs = some x → ∃ y : α, cs = f y ∧ ok y)
    (h : DataW.trod enc P W base (fun _ => true) held fuel t [.slice a len cap] = some x) : ∃ ys : List α, RowsIn W a len f m d ys ∧ (∀ i, i < len → ok (ys.getD i d)) ∧ len ≤ maxLen := by
  rcases open_slice ht h with ⟨hcs, _⟩ | ⟨ad, l, c, mm, n, D, Pl, hcs, hb, hl, hm, hmm, rfl, hx⟩
  · simp at hcs
    obtain ⟨rfl, rfl, rfl⟩ := hcs
    exact ⟨[], ⟨rfl, fun i hi => by omega⟩, fun i hi => by omega, Nat.zero_le _⟩
  · simp at hcs
    obtain ⟨rfl, rfl, rfl⟩ := hcs
    have hlm : len ≤ mm := by rw [hmm]; split <;> omega
    have key : ∀ i, i < len → ∃ y : α, (∀ j v, (f y)[j]? = some v → W.cell? (ad.add (i * m + j)) = some v) ∧ ok y ∧ (f y).length = m := by
      intro i hi
      obtain ⟨cs', h1, h2⟩ := hx i (by omega)
      rw [ce] at h1
      obtain ⟨_, hlen, hcell⟩ := World.cells?_some h1
      obtain ⟨y, rfl, hy⟩ := ho hlen h2
      refine ⟨y, fun j v hj => ?_, hy, hlen⟩
      have hjm : j < m := by rw [← hlen]; exact (List.getElem?_eq_some_iff.1 hj).1
      have := hcell j hjm
      rw [add_add] at this
      rw [this, hj]
    haveI : Inhabited α := ⟨d⟩
    obtain ⟨g, hg⟩ := choose_lt key
    have hgd : ∀ i, i < len → ((List.range len).map g).getD i d = g i := fun i hi => by simp [hi]
    refine ⟨(List.range len).map g, ⟨by simp, fun i hi => ?_⟩, fun i hi => by rw [hgd i hi]; exact (hg i hi).2.1, by omega⟩
    rw [hgd i hi]
    obtain ⟨b, off, spot⟩ := ad
    have hspot : spot = none := by
      obtain ⟨v, hv⟩ : ∃ v, (f (g 0))[0]? = some v := ⟨_, List.getElem?_eq_getElem (by rw [(hg 0 (by omega)).2.2]; exact hm0)⟩
      have h00 := (hg 0 (by omega)).1 0 v hv
      simpa [Addr.add] using World.cell?_spot h00
    subst hspot
    refine ⟨b, off, rfl, fun j v hj => ?_⟩
    have := (hg i hi).1 j v hj
    rw [Go.WideShapes.add_plain] at this
    rw [Nat.add_assoc]
    exact this
end Go.Proofs.Ytmacdghkbmjdmaa
