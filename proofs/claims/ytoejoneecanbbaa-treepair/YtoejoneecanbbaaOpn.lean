
/-
  What came in as a row of structs, of any width ('rows_of_trod'); ports of layer 9. Conditions: those that each theorem names.
-/
import Derived.Test.YtoejoneecanbbaaRole2
import Derived.Test.YtoejoneecanbbaaFlatV
namespace Go.Proofs.Ytoejoneecanbbaa
open Go.RowKit Go.Deep Go.ChangeShapes Go.WideShapes Go.ChangeAt
set_option linter.unusedVariables false
set_option maxRecDepth 20000

theorem vec_of_trod {H : Type} {enc : TypeId × Value → H} {W : World} {base : Nat} {sp : Nat → Bool} {held : Bool} {fuel : Nat} {cs : List Value} {x : DataW H × List MemPlace} (hl : cs.length = 4)
    (h : DataW.trod enc Try.prog W base sp held fuel 30 cs = some x) : ∃ v : Vc, cs = fV v ∧ v.wf := by
  obtain ⟨xs, k, hk, hxy, _, hxl, hf⟩ := DataW.trod_struct Try.underlying30 h
  match xs, hxl, cs, hl with
  | [y0, y1, y2, y3], _, [v0, v1, v2, v3], _ =>
    have g0 := hf 0 _ rfl
    have g1 := hf 1 _ rfl
    have g2 := hf 2 _ rfl
    have g3 := hf 3 _ rfl
    simp [cells_u64, cells_int] at g0 g1 g2 g3
    obtain ⟨k0, e0, _, w0⟩ := DataW.trod_int Try.underlying22 g0
    obtain ⟨k1, e1, _, w1⟩ := DataW.trod_int Try.underlying22 g1
    obtain ⟨k2, e2, _, w2⟩ := DataW.trod_int Try.underlying22 g2
    obtain ⟨k3, e3, _, w3⟩ := DataW.trod_int Try.underlying3 g3
    simp only [List.cons.injEq, and_true] at e0 e1 e2 e3
    subst e0 e1 e2 e3
    exact ⟨⟨k0, k1, k2, k3⟩, rfl, ⟨bounds_u64 w0, bounds_u64 w1, bounds_u64 w2, bounds_i64 w3⟩⟩
theorem cells_bool : Try.prog.cellsOf 4 = 1 := by kernel_rfl
theorem cells_rport : Try.prog.cellsOf 32 = 8 := by kernel_rfl
@[reducible] def fP (p : Rp) : List Value := [.int .i64 p.id, .int .u64 p.cost, .bool p.up, .bool p.has, .int .u64 p.told.root, .int .u64 p.told.cost, .int .u64 p.told.bridge, .int .i64 p.told.port]
theorem wide_P : Wide fP 8 := ⟨fun _ => rfl, fun x u hu => by simp at hu; rcases hu with rfl | rfl | rfl | rfl | rfl | rfl | rfl | rfl <;> rfl⟩
theorem rp_of_trod {H : Type} {enc : TypeId × Value → H} {W : World} {base : Nat} {sp : Nat → Bool} {held : Bool} {fuel : Nat} {cs : List Value} {x : DataW H × List MemPlace} (hl : cs.length = 8)
    (h : DataW.trod enc Try.prog W base sp held fuel 32 cs = some x) : ∃ p : Rp, cs = fP p ∧ p.wf := by
  obtain ⟨xs, k, hk, hxy, _, hxl, hf⟩ := DataW.trod_struct Try.underlying32 h
  match xs, hxl, cs, hl with
  | [y0, y1, y2, y3, y4], _, [v0, v1, v2, v3, v4, v5, v6, v7], _ =>
    have g0 := hf 0 _ rfl
    have g1 := hf 1 _ rfl
    have g2 := hf 2 _ rfl
    have g3 := hf 3 _ rfl
    have g4 := hf 4 _ rfl
    simp [cells_u64, cells_int, cells_bool, cells_vec] at g0 g1 g2 g3 g4
    obtain ⟨k0, e0, _, w0⟩ := DataW.trod_int Try.underlying3 g0
    obtain ⟨k1, e1, _, w1⟩ := DataW.trod_int Try.underlying22 g1
    obtain ⟨k2, e2, _⟩ := DataW.trod_bool Try.underlying4 g2
    obtain ⟨k3, e3, _⟩ := DataW.trod_bool Try.underlying4 g3
    obtain ⟨V, e4, w4⟩ := vec_of_trod rfl g4
    simp only [fV, List.cons.injEq, and_true] at e0 e1 e2 e3 e4
    obtain ⟨rfl, rfl, rfl, rfl⟩ := e4
    subst e0 e1 e2 e3
    exact ⟨⟨k0, k1, k2, k3, V⟩, rfl, ⟨bounds_i64 w0, bounds_u64 w1, w4⟩⟩
/-- Rows of one width that came in. -/
structure Rows (W : World) (a : Option Addr) (n : Nat) {α : Type} (f : α → List Value) (m : Nat) (d : α) (ys : List α) : Prop where
  len : ys.length = n
  at_i : ∀ i, i < n → ∃ b off, a = some ⟨b, off, none⟩ ∧ W.rangeAt b (off + i * m) (f (ys.getD i d))
theorem rows_of_trod {H : Type} {enc : TypeId × Value → H} {P : Program} {W : World} {base : Nat} {held : Bool} {fuel : Nat} {a : Option Addr} {len cap : Nat} {x : DataW H × List MemPlace} {t e : TypeId} {α : Type} {f : α → List Value} {m : Nat} (d : α) {ok : α → Prop} (ht : P.underlying t = some (.slice e)) (hm0 : 0 < m) (ce : P.cellsOf e = m)
    (ho : ∀ {fuel : Nat} {cs : List Value} {x : DataW H × List MemPlace}, cs.length = m → DataW.trod enc P W base (fun _ => true) held fuel e cs = some x → ∃ y : α, cs = f y ∧ ok y)
    (h : DataW.trod enc P W base (fun _ => true) held fuel t [.slice a len cap] = some x) : ∃ ys : List α, Rows W a len f m d ys ∧ (∀ i, i < len → ok (ys.getD i d)) ∧ len ≤ maxLen := by
  rcases open_slice ht h with ⟨hcs, _⟩ | ⟨ad, l, c, mm, n, D, Pl, hcs, hb, hl, hm, hmm, rfl, hx⟩
  · simp at hcs
    obtain ⟨rfl, rfl, rfl⟩ := hcs
    exact ⟨[], ⟨rfl, fun i hi => by omega⟩, fun i hi => by omega, Nat.zero_le _⟩
  · simp at hcs
    obtain ⟨rfl, rfl, rfl⟩ := hcs
    have hlm : len ≤ mm := by rw [hmm]; split <;> omega
    have key : ∀ i, i < len → ∃ y : α, (∀ j v, (f y)[j]? = some v → W.cell? (ad.add (i * m + j)) = some v) ∧ ok y ∧ (f y).length = m := by
      intro i hi
      obtain ⟨cs', h1, h2⟩ := hx i (by omega)
      rw [ce] at h1
      obtain ⟨_, hlen, hcell⟩ := World.cells?_some h1
      obtain ⟨y, rfl, hy⟩ := ho hlen h2
      refine ⟨y, fun j v hj => ?_, hy, hlen⟩
      have hjm : j < m := by rw [← hlen]; exact (List.getElem?_eq_some_iff.1 hj).1
      have := hcell j hjm
      rw [add_add] at this
      rw [this, hj]
    haveI : Inhabited α := ⟨d⟩
    obtain ⟨g, hg⟩ := choose_lt key
    have hgd : ∀ i, i < len → ((List.range len).map g).getD i d = g i := fun i hi => by simp [hi]
    refine ⟨(List.range len).map g, ⟨by simp, fun i hi => ?_⟩, fun i hi => by rw [hgd i hi]; exact (hg i hi).2.1, by omega⟩
    rw [hgd i hi]
    obtain ⟨b, off, spot⟩ := ad
    have hspot : spot = none := by
      obtain ⟨v, hv⟩ : ∃ v, (f (g 0))[0]? = some v := ⟨_, List.getElem?_eq_getElem (by rw [(hg 0 (by omega)).2.2]; exact hm0)⟩
      have h00 := (hg 0 (by omega)).1 0 v hv
      simpa [Addr.add] using World.cell?_spot h00
    subst hspot
    refine ⟨b, off, rfl, fun j v hj => ?_⟩
    have := (hg i hi).1 j v hj
    rw [Go.WideShapes.add_plain] at this
    rw [Nat.add_assoc]
    exact this
theorem rps_of_trod {H : Type} {enc : TypeId × Value → H} {W : World} {base : Nat} {held : Bool} {fuel : Nat} {a : Option Addr} {len cap : Nat} {x : DataW H × List MemPlace}
    (h : DataW.trod enc Try.prog W base (fun _ => true) held fuel 82 [.slice a len cap] = some x) : ∃ xs : List Rp, Rps W a len xs ∧ len ≤ maxLen := by
  obtain ⟨ys, h1, h2, h3⟩ := rows_of_trod (m := 8) Rp.zero Try.underlying82 (by omega) cells_rport (fun hl h => rp_of_trod hl h) h
  refine ⟨ys, ⟨h1.len, fun i hi => ?_⟩, h3⟩
  obtain ⟨b, off, rfl, hr⟩ := h1.at_i i hi
  exact ⟨b, off, rfl, ⟨hr 0 _ rfl, hr 1 _ rfl, hr 2 _ rfl, hr 3 _ rfl, hr 4 _ rfl, hr 5 _ rfl, hr 6 _ rfl, hr 7 _ rfl⟩, h2 i hi⟩
end Go.Proofs.Ytoejoneecanbbaa
