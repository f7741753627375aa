
/-
  What came in as a vector, two numbers, eight numbers, an address, or a row of vectors.
-/
import Derived.Test.YtoejoneecanbbaaVec2
import Derived.Test.YtoejoneecanbbaaThree
import Derived.OpenShut
namespace Go.Proofs.Ytoejoneecanbbaa
open Go.RowKit Go.Deep Go.ChangeShapes Go.WideShapes Go.ChangeAt
set_option linter.unusedVariables false

theorem cellOf_int {P : Program} {W : World} {r : Reach} {base : Nat} {t : TypeId} {k : IntKind} {v : Value} (ht : P.underlying t = some (.int k)) (h : Cell.okWide P W r base t v) : ∃ n, v = .int k n ∧ k.has n := by
  unfold Cell.okWide Cell.ok at h
  rw [ht] at h
  cases v with
  | int k' n => obtain ⟨rfl, hn⟩ := h; exact ⟨n, rfl, hn⟩
  | _ => exact h.elim
theorem cellOf_bool {P : Program} {W : World} {r : Reach} {base : Nat} {t : TypeId} {v : Value} (ht : P.underlying t = some .bool) (h : Cell.okWide P W r base t v) : ∃ b, v = .bool b := by
  unfold Cell.okWide Cell.ok at h
  rw [ht] at h
  cases v with
  | bool b => exact ⟨b, rfl⟩
  | _ => exact h.elim
theorem okWide_row {P : Program} {W : World} {r : Reach} {base : Nat} {t : TypeId} {v : Value} {ts : List TypeId} {d : TypeDesc} (ht : P.underlying t = some d) (hd : (match d with | .struct _ | .array _ _ => true | _ => false) = true) (hts : P.cellTypes P.depth t = some ts) (h : Value.okWide P W r base t v) :
    ∃ cs, v = .agg cs ∧ cs.size = P.cellsOf t ∧ ∀ i v, cs[i]? = some v → ∃ u, ts[i % ts.length]? = some u ∧ Cell.okWide P W r base u v := by
  unfold Value.okWide at h
  rw [ht] at h
  cases d with
  | struct fs => obtain ⟨cs, rfl, hs, ts', hts', _, hall⟩ := h; obtain rfl := Option.some.inj (hts.symm.trans hts'); exact ⟨cs, rfl, hs, hall⟩
  | array n e => obtain ⟨cs, rfl, hs, ts', hts', _, hall⟩ := h; obtain rfl := Option.some.inj (hts.symm.trans hts'); exact ⟨cs, rfl, hs, hall⟩
  | _ => simp at hd
theorem has_u8 {n : Int} (h : IntKind.u8.has n) : 0 ≤ n ∧ n ≤ 255 := by simpa [IntKind.has, IntKind.min, IntKind.max, IntKind.signed, IntKind.bits] using h
theorem has_i64 {n : Int} (h : IntKind.i64.has n) : -9223372036854775808 ≤ n ∧ n ≤ 9223372036854775807 := by simpa [IntKind.has, IntKind.min, IntKind.max, IntKind.signed, IntKind.bits] using h
theorem has_u64 {n : Int} (h : IntKind.u64.has n) : 0 ≤ n ∧ n ≤ 18446744073709551615 := by simpa [IntKind.has, IntKind.min, IntKind.max, IntKind.signed, IntKind.bits] using h
theorem open_six {P : Program} {W : World} {r : Reach} {base : Nat} {v : Value} {tu8 t : TypeId} {d : TypeDesc} (hu8 : P.underlying tu8 = some (.int .u8)) (ht : P.underlying t = some d) (hd : (match d with | .struct _ | .array _ _ => true | _ => false) = true) (hts : P.cellTypes P.depth t = some [tu8, tu8, tu8, tu8, tu8, tu8]) (hc : P.cellsOf t = 6) (h : Value.okWide P W r base t v) : ∃ (x0 : Int) (x1 : Int) (x2 : Int) (x3 : Int) (x4 : Int) (x5 : Int), v = .agg #[.int .u8 x0, .int .u8 x1, .int .u8 x2, .int .u8 x3, .int .u8 x4, .int .u8 x5] ∧ (0 ≤ x0 ∧ x0 ≤ 255) ∧ (0 ≤ x1 ∧ x1 ≤ 255) ∧ (0 ≤ x2 ∧ x2 ≤ 255) ∧ (0 ≤ x3 ∧ x3 ≤ 255) ∧ (0 ≤ x4 ∧ x4 ≤ 255) ∧ (0 ≤ x5 ∧ x5 ≤ 255) := by
  obtain ⟨cs, rfl, hs, hall⟩ := okWide_row ht hd hts h
  rw [hc] at hs
  obtain ⟨u0, e0, c0⟩ := hall 0 cs[0] (Array.getElem?_eq_getElem (by omega))
  obtain rfl : tu8 = u0 := Option.some.inj e0
  obtain ⟨x0, y0, r0⟩ := cellOf_int hu8 c0
  obtain ⟨u1, e1, c1⟩ := hall 1 cs[1] (Array.getElem?_eq_getElem (by omega))
  obtain rfl : tu8 = u1 := Option.some.inj e1
  obtain ⟨x1, y1, r1⟩ := cellOf_int hu8 c1
  obtain ⟨u2, e2, c2⟩ := hall 2 cs[2] (Array.getElem?_eq_getElem (by omega))
  obtain rfl : tu8 = u2 := Option.some.inj e2
  obtain ⟨x2, y2, r2⟩ := cellOf_int hu8 c2
  obtain ⟨u3, e3, c3⟩ := hall 3 cs[3] (Array.getElem?_eq_getElem (by omega))
  obtain rfl : tu8 = u3 := Option.some.inj e3
  obtain ⟨x3, y3, r3⟩ := cellOf_int hu8 c3
  obtain ⟨u4, e4, c4⟩ := hall 4 cs[4] (Array.getElem?_eq_getElem (by omega))
  obtain rfl : tu8 = u4 := Option.some.inj e4
  obtain ⟨x4, y4, r4⟩ := cellOf_int hu8 c4
  obtain ⟨u5, e5, c5⟩ := hall 5 cs[5] (Array.getElem?_eq_getElem (by omega))
  obtain rfl : tu8 = u5 := Option.some.inj e5
  obtain ⟨x5, y5, r5⟩ := cellOf_int hu8 c5
  refine ⟨x0, x1, x2, x3, x4, x5, ?_, has_u8 r0, has_u8 r1, has_u8 r2, has_u8 r3, has_u8 r4, has_u8 r5⟩
  congr 1
  apply Array.ext (by simpa using hs)
  intro i h1 h2
  have hi : i < 6 := by omega
  rcases (show i = 0 ∨ i = 1 ∨ i = 2 ∨ i = 3 ∨ i = 4 ∨ i = 5 by omega) with rfl | rfl | rfl | rfl | rfl | rfl
  · exact y0
  · exact y1
  · exact y2
  · exact y3
  · exact y4
  · exact y5
theorem open_two {P : Program} {W : World} {r : Reach} {base : Nat} {v : Value} {ti t : TypeId} {d : TypeDesc} (hi64 : P.underlying ti = some (.int .i64)) (ht : P.underlying t = some d) (hd : (match d with | .struct _ | .array _ _ => true | _ => false) = true) (hts : P.cellTypes P.depth t = some [ti, ti]) (hc : P.cellsOf t = 2) (h : Value.okWide P W r base t v) : ∃ (x0 : Int) (x1 : Int), v = .agg #[.int .i64 x0, .int .i64 x1] ∧ (-9223372036854775808 ≤ x0 ∧ x0 ≤ 9223372036854775807) ∧ (-9223372036854775808 ≤ x1 ∧ x1 ≤ 9223372036854775807) := by
  obtain ⟨cs, rfl, hs, hall⟩ := okWide_row ht hd hts h
  rw [hc] at hs
  obtain ⟨u0, e0, c0⟩ := hall 0 cs[0] (Array.getElem?_eq_getElem (by omega))
  obtain rfl : ti = u0 := Option.some.inj e0
  obtain ⟨x0, y0, r0⟩ := cellOf_int hi64 c0
  obtain ⟨u1, e1, c1⟩ := hall 1 cs[1] (Array.getElem?_eq_getElem (by omega))
  obtain rfl : ti = u1 := Option.some.inj e1
  obtain ⟨x1, y1, r1⟩ := cellOf_int hi64 c1
  refine ⟨x0, x1, ?_, has_i64 r0, has_i64 r1⟩
  congr 1
  apply Array.ext (by simpa using hs)
  intro i h1 h2
  have hi : i < 2 := by omega
  rcases (show i = 0 ∨ i = 1 by omega) with rfl | rfl
  · exact y0
  · exact y1
theorem open_eight {P : Program} {W : World} {r : Reach} {base : Nat} {v : Value} {ti t : TypeId} {d : TypeDesc} (hi64 : P.underlying ti = some (.int .i64)) (ht : P.underlying t = some d) (hd : (match d with | .struct _ | .array _ _ => true | _ => false) = true) (hts : P.cellTypes P.depth t = some [ti, ti, ti, ti, ti, ti, ti, ti]) (hc : P.cellsOf t = 8) (h : Value.okWide P W r base t v) : ∃ (x0 : Int) (x1 : Int) (x2 : Int) (x3 : Int) (x4 : Int) (x5 : Int) (x6 : Int) (x7 : Int), v = .agg #[.int .i64 x0, .int .i64 x1, .int .i64 x2, .int .i64 x3, .int .i64 x4, .int .i64 x5, .int .i64 x6, .int .i64 x7] ∧ (-9223372036854775808 ≤ x0 ∧ x0 ≤ 9223372036854775807) ∧ (-9223372036854775808 ≤ x1 ∧ x1 ≤ 9223372036854775807) ∧ (-9223372036854775808 ≤ x2 ∧ x2 ≤ 9223372036854775807) ∧ (-9223372036854775808 ≤ x3 ∧ x3 ≤ 9223372036854775807) ∧ (-9223372036854775808 ≤ x4 ∧ x4 ≤ 9223372036854775807) ∧ (-9223372036854775808 ≤ x5 ∧ x5 ≤ 9223372036854775807) ∧ (-9223372036854775808 ≤ x6 ∧ x6 ≤ 9223372036854775807) ∧ (-9223372036854775808 ≤ x7 ∧ x7 ≤ 9223372036854775807) := by
  obtain ⟨cs, rfl, hs, hall⟩ := okWide_row ht hd hts h
  rw [hc] at hs
  obtain ⟨u0, e0, c0⟩ := hall 0 cs[0] (Array.getElem?_eq_getElem (by omega))
  obtain rfl : ti = u0 := Option.some.inj e0
  obtain ⟨x0, y0, r0⟩ := cellOf_int hi64 c0
  obtain ⟨u1, e1, c1⟩ := hall 1 cs[1] (Array.getElem?_eq_getElem (by omega))
  obtain rfl : ti = u1 := Option.some.inj e1
  obtain ⟨x1, y1, r1⟩ := cellOf_int hi64 c1
  obtain ⟨u2, e2, c2⟩ := hall 2 cs[2] (Array.getElem?_eq_getElem (by omega))
  obtain rfl : ti = u2 := Option.some.inj e2
  obtain ⟨x2, y2, r2⟩ := cellOf_int hi64 c2
  obtain ⟨u3, e3, c3⟩ := hall 3 cs[3] (Array.getElem?_eq_getElem (by omega))
  obtain rfl : ti = u3 := Option.some.inj e3
  obtain ⟨x3, y3, r3⟩ := cellOf_int hi64 c3
  obtain ⟨u4, e4, c4⟩ := hall 4 cs[4] (Array.getElem?_eq_getElem (by omega))
  obtain rfl : ti = u4 := Option.some.inj e4
  obtain ⟨x4, y4, r4⟩ := cellOf_int hi64 c4
  obtain ⟨u5, e5, c5⟩ := hall 5 cs[5] (Array.getElem?_eq_getElem (by omega))
  obtain rfl : ti = u5 := Option.some.inj e5
  obtain ⟨x5, y5, r5⟩ := cellOf_int hi64 c5
  obtain ⟨u6, e6, c6⟩ := hall 6 cs[6] (Array.getElem?_eq_getElem (by omega))
  obtain rfl : ti = u6 := Option.some.inj e6
  obtain ⟨x6, y6, r6⟩ := cellOf_int hi64 c6
  obtain ⟨u7, e7, c7⟩ := hall 7 cs[7] (Array.getElem?_eq_getElem (by omega))
  obtain rfl : ti = u7 := Option.some.inj e7
  obtain ⟨x7, y7, r7⟩ := cellOf_int hi64 c7
  refine ⟨x0, x1, x2, x3, x4, x5, x6, x7, ?_, has_i64 r0, has_i64 r1, has_i64 r2, has_i64 r3, has_i64 r4, has_i64 r5, has_i64 r6, has_i64 r7⟩
  congr 1
  apply Array.ext (by simpa using hs)
  intro i h1 h2
  have hi : i < 8 := by omega
  rcases (show i = 0 ∨ i = 1 ∨ i = 2 ∨ i = 3 ∨ i = 4 ∨ i = 5 ∨ i = 6 ∨ i = 7 by omega) with rfl | rfl | rfl | rfl | rfl | rfl | rfl | rfl
  · exact y0
  · exact y1
  · exact y2
  · exact y3
  · exact y4
  · exact y5
  · exact y6
  · exact y7
theorem open_vc0 {P : Program} {W : World} {r : Reach} {base : Nat} {v : Value} {ti tu64 t : TypeId} {d : TypeDesc} (hi64 : P.underlying ti = some (.int .i64)) (hu64 : P.underlying tu64 = some (.int .u64)) (ht : P.underlying t = some d) (hd : (match d with | .struct _ | .array _ _ => true | _ => false) = true) (hts : P.cellTypes P.depth t = some [tu64, tu64, tu64, ti]) (hc : P.cellsOf t = 4) (h : Value.okWide P W r base t v) : ∃ (x0 : Int) (x1 : Int) (x2 : Int) (x3 : Int), v = .agg #[.int .u64 x0, .int .u64 x1, .int .u64 x2, .int .i64 x3] ∧ (0 ≤ x0 ∧ x0 ≤ 18446744073709551615) ∧ (0 ≤ x1 ∧ x1 ≤ 18446744073709551615) ∧ (0 ≤ x2 ∧ x2 ≤ 18446744073709551615) ∧ (-9223372036854775808 ≤ x3 ∧ x3 ≤ 9223372036854775807) := by
  obtain ⟨cs, rfl, hs, hall⟩ := okWide_row ht hd hts h
  rw [hc] at hs
  obtain ⟨u0, e0, c0⟩ := hall 0 cs[0] (Array.getElem?_eq_getElem (by omega))
  obtain rfl : tu64 = u0 := Option.some.inj e0
  obtain ⟨x0, y0, r0⟩ := cellOf_int hu64 c0
  obtain ⟨u1, e1, c1⟩ := hall 1 cs[1] (Array.getElem?_eq_getElem (by omega))
  obtain rfl : tu64 = u1 := Option.some.inj e1
  obtain ⟨x1, y1, r1⟩ := cellOf_int hu64 c1
  obtain ⟨u2, e2, c2⟩ := hall 2 cs[2] (Array.getElem?_eq_getElem (by omega))
  obtain rfl : tu64 = u2 := Option.some.inj e2
  obtain ⟨x2, y2, r2⟩ := cellOf_int hu64 c2
  obtain ⟨u3, e3, c3⟩ := hall 3 cs[3] (Array.getElem?_eq_getElem (by omega))
  obtain rfl : ti = u3 := Option.some.inj e3
  obtain ⟨x3, y3, r3⟩ := cellOf_int hi64 c3
  refine ⟨x0, x1, x2, x3, ?_, has_u64 r0, has_u64 r1, has_u64 r2, has_i64 r3⟩
  congr 1
  apply Array.ext (by simpa using hs)
  intro i h1 h2
  have hi : i < 4 := by omega
  rcases (show i = 0 ∨ i = 1 ∨ i = 2 ∨ i = 3 by omega) with rfl | rfl | rfl | rfl
  · exact y0
  · exact y1
  · exact y2
  · exact y3
theorem open_vc {P : Program} {W : World} {r : Reach} {base : Nat} {v : Value} {ti tu64 t : TypeId} {d : TypeDesc} (hi : P.underlying ti = some (.int .i64)) (hu : P.underlying tu64 = some (.int .u64)) (ht : P.underlying t = some d) (hd : (match d with | .struct _ | .array _ _ => true | _ => false) = true) (hts : P.cellTypes P.depth t = some [tu64, tu64, tu64, ti]) (hc : P.cellsOf t = 4) (h : Value.okWide P W r base t v) : ∃ V : Vc, v = .agg V.row ∧ V.wf := by
  obtain ⟨x0, x1, x2, x3, rfl, h0, h1, h2, h3⟩ := open_vc0 hi hu ht hd hts hc h
  exact ⟨⟨x0, x1, x2, x3⟩, rfl, h0, h1, h2, h3⟩
theorem open_slice_four {H : Type} {enc : TypeId × Value → H} {P : Program} {w : World} {base : Nat} {spare : Nat → Bool} {held : Bool} {t e : TypeId} {f0 f1 f2 f3 : Field} {fuel : Nat} {cs : List Value} {x : DataW H × List MemPlace} (ht : P.underlying t = some (.slice e)) (he : P.underlying e = some (.struct #[f0, f1, f2, f3]))
    (ce : P.cellsOf e = 4) (o0 : f0.offset = 0) (o1 : f1.offset = 1) (o2 : f2.offset = 2) (o3 : f3.offset = 3) (c0 : P.cellsOf f0.type = 1) (c1 : P.cellsOf f1.type = 1) (c2 : P.cellsOf f2.type = 1) (c3 : P.cellsOf f3.type = 1)
    (h : DataW.trod enc P w base spare held fuel t cs = some x) :
    (cs = [.slice none 0 0]) ∨
    ∃ (a : Addr) (len cap : Nat), cs = [.slice (some a) len cap] ∧ len ≤ cap ∧ cap ≤ maxLen ∧
      ∀ i, i < len → ∃ (n : Nat) (v0 v1 v2 v3 : Value) (x0 x1 x2 x3 : DataW H × List MemPlace), w.cell? (a.add (i * 4)) = some v0 ∧ w.cell? (a.add (i * 4 + 1)) = some v1 ∧ w.cell? (a.add (i * 4 + 2)) = some v2 ∧ w.cell? (a.add (i * 4 + 3)) = some v3 ∧
        DataW.trod enc P w base spare held n f0.type [v0] = some x0 ∧ DataW.trod enc P w base spare held n f1.type [v1] = some x1 ∧ DataW.trod enc P w base spare held n f2.type [v2] = some x2 ∧ DataW.trod enc P w base spare held n f3.type [v3] = some x3 := by
  rcases open_slice ht h with h0 | ⟨a, len, cap, m, n, D, Pl, rfl, hb, hl, hm, hmm, rfl, hx⟩
  · exact Or.inl h0.1
  refine Or.inr ⟨a, len, cap, rfl, hl, hm, fun i hi => ?_⟩
  have hlm : len ≤ m := by rw [hmm]; split <;> omega
  obtain ⟨cs', h1, h2⟩ := hx i (by omega)
  rw [ce] at h1
  obtain ⟨_, hlen, hcell⟩ := World.cells?_some h1
  obtain ⟨xs, k, hk, hxy, _, hxl, hf⟩ := DataW.trod_struct he h2
  match xs, hxl, cs', hlen with
  | [y0, y1, y2, y3], _, [v0, v1, v2, v3], _ =>
    have g0 := hf 0 f0 rfl
    have g1 := hf 1 f1 rfl
    have g2 := hf 2 f2 rfl
    have g3 := hf 3 f3 rfl
    simp [o0, o1, o2, o3, c0, c1, c2, c3] at g0 g1 g2 g3
    have e0 := hcell 0 (by omega)
    have e1 := hcell 1 (by omega)
    have e2 := hcell 2 (by omega)
    have e3 := hcell 3 (by omega)
    rw [add_add] at e0 e1 e2 e3
    exact ⟨k, v0, v1, v2, v3, y0, y1, y2, y3, by simpa using e0, by simpa using e1, by simpa using e2, by simpa using e3, g0, g1, g2, g3⟩
theorem vecs_of_trod {H : Type} {enc : TypeId × Value → H} {W : World} {base : Nat} {held : Bool} {fuel : Nat} {a : Option Addr} {len cap : Nat} {x : DataW H × List MemPlace}
    (h : DataW.trod enc Try.prog W base (fun _ => true) held fuel 62 [.slice a len cap] = some x) : ∃ xs : List Vc, Vcs W a len xs ∧ xs.length = len ∧ len ≤ maxLen := by
  rcases open_slice_four Try.underlying62 Try.underlying30 cells_vec rfl rfl rfl rfl cells_u64 cells_u64 cells_u64 cells_int h with hcs | ⟨ad, l, c, hcs, hlc, hcm, hel⟩
  · simp at hcs
    obtain ⟨rfl, rfl, rfl⟩ := hcs
    exact ⟨[], fun i hi => by omega, rfl, Nat.zero_le _⟩
  · simp at hcs
    obtain ⟨rfl, rfl, rfl⟩ := hcs
    have key : ∀ i, i < len → ∃ p : Vc, W.cell? (ad.add (i * 4)) = some (.int .u64 p.root) ∧ W.cell? (ad.add (i * 4 + 1)) = some (.int .u64 p.cost) ∧ W.cell? (ad.add (i * 4 + 2)) = some (.int .u64 p.bridge) ∧ W.cell? (ad.add (i * 4 + 3)) = some (.int .i64 p.port) ∧ p.wf := by
      intro i hi
      obtain ⟨n, v0, v1, v2, v3, x0, x1, x2, x3, h0, h1, h2, h3, t0, t1, t2, t3⟩ := hel i hi
      obtain ⟨k0, e0, _, w0⟩ := DataW.trod_int Try.underlying22 t0
      obtain ⟨k1, e1, _, w1⟩ := DataW.trod_int Try.underlying22 t1
      obtain ⟨k2, e2, _, w2⟩ := DataW.trod_int Try.underlying22 t2
      obtain ⟨k3, e3, _, w3⟩ := DataW.trod_int Try.underlying3 t3
      simp only [List.cons.injEq, and_true] at e0 e1 e2 e3
      subst e0 e1 e2 e3
      exact ⟨⟨k0, k1, k2, k3⟩, h0, h1, h2, h3, ⟨bounds_u64 w0, bounds_u64 w1, bounds_u64 w2, bounds_i64 w3⟩⟩
    obtain ⟨f, hf⟩ := choose_lt key
    refine ⟨(List.range len).map f, fun i hi => ?_, by simp, by omega⟩
    have hg : ((List.range len).map f).getD i Vc.zero = f i := by simp [hi]
    rw [hg]
    obtain ⟨h0, h1, h2, h3, h4⟩ := hf i hi
    obtain ⟨b, off, spot⟩ := ad
    have hspot : spot = none := by
      have h00 := (hf 0 (by omega)).1
      simpa [Addr.add] using World.cell?_spot h00
    subst hspot
    rw [Go.WideShapes.add_plain] at h0 h1 h2 h3
    exact ⟨b, off, rfl, h0, by rw [Nat.add_assoc]; exact h1, by rw [Nat.add_assoc]; exact h2, by rw [Nat.add_assoc]; exact h3, h4⟩
end Go.Proofs.Ytoejoneecanbbaa
