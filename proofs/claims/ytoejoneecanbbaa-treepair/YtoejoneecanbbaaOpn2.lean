
/-
  What came in: a message, ports, acts. Conditions: those that each theorem names.
-/
import Derived.Test.YtoejoneecanbbaaTree28
namespace Go.Proofs.Ytoejoneecanbbaa
open Go.RowKit Go.Deep Go.ChangeShapes Go.WideShapes Go.ChangeAt
set_option linter.unusedVariables false
set_option maxRecDepth 20000

theorem open_bpdu0 {P : Program} {W : World} {r : Reach} {base : Nat} {v : Value} {ti tu64 tb t : TypeId} {d : TypeDesc} (hi64 : P.underlying ti = some (.int .i64)) (hu64 : P.underlying tu64 = some (.int .u64)) (hb : P.underlying tb = some (.bool)) (ht : P.underlying t = some d) (hd : (match d with | .struct _ | .array _ _ => true | _ => false) = true) (hts : P.cellTypes P.depth t = some [ti, tu64, tu64, tu64, ti, tb, tb, tb, tb, tb, tb, ti, ti, ti, ti, ti]) (hc : P.cellsOf t = 16) (h : Value.okWide P W r base t v) : ∃ (x0 : Int) (x1 : Int) (x2 : Int) (x3 : Int) (x4 : Int) (x5 : Bool) (x6 : Bool) (x7 : Bool) (x8 : Bool) (x9 : Bool) (x10 : Bool) (x11 : Int) (x12 : Int) (x13 : Int) (x14 : Int) (x15 : Int), v = .agg #[.int .i64 x0, .int .u64 x1, .int .u64 x2, .int .u64 x3, .int .i64 x4, .bool x5, .bool x6, .bool x7, .bool x8, .bool x9, .bool x10, .int .i64 x11, .int .i64 x12, .int .i64 x13, .int .i64 x14, .int .i64 x15] ∧ (-9223372036854775808 ≤ x0 ∧ x0 ≤ 9223372036854775807) ∧ (0 ≤ x1 ∧ x1 ≤ 18446744073709551615) ∧ (0 ≤ x2 ∧ x2 ≤ 18446744073709551615) ∧ (0 ≤ x3 ∧ x3 ≤ 18446744073709551615) ∧ (-9223372036854775808 ≤ x4 ∧ x4 ≤ 9223372036854775807) ∧ (-9223372036854775808 ≤ x11 ∧ x11 ≤ 9223372036854775807) ∧ (-9223372036854775808 ≤ x12 ∧ x12 ≤ 9223372036854775807) ∧ (-9223372036854775808 ≤ x13 ∧ x13 ≤ 9223372036854775807) ∧ (-9223372036854775808 ≤ x14 ∧ x14 ≤ 9223372036854775807) ∧ (-9223372036854775808 ≤ x15 ∧ x15 ≤ 9223372036854775807) := by
  obtain ⟨cs, rfl, hs, hall⟩ := okWide_row ht hd hts h
  rw [hc] at hs
  obtain ⟨u0, e0, c0⟩ := hall 0 cs[0] (Array.getElem?_eq_getElem (by omega))
  obtain rfl : ti = u0 := Option.some.inj e0
  obtain ⟨x0, y0, r0⟩ := cellOf_int hi64 c0
  obtain ⟨u1, e1, c1⟩ := hall 1 cs[1] (Array.getElem?_eq_getElem (by omega))
  obtain rfl : tu64 = u1 := Option.some.inj e1
  obtain ⟨x1, y1, r1⟩ := cellOf_int hu64 c1
  obtain ⟨u2, e2, c2⟩ := hall 2 cs[2] (Array.getElem?_eq_getElem (by omega))
  obtain rfl : tu64 = u2 := Option.some.inj e2
  obtain ⟨x2, y2, r2⟩ := cellOf_int hu64 c2
  obtain ⟨u3, e3, c3⟩ := hall 3 cs[3] (Array.getElem?_eq_getElem (by omega))
  obtain rfl : tu64 = u3 := Option.some.inj e3
  obtain ⟨x3, y3, r3⟩ := cellOf_int hu64 c3
  obtain ⟨u4, e4, c4⟩ := hall 4 cs[4] (Array.getElem?_eq_getElem (by omega))
  obtain rfl : ti = u4 := Option.some.inj e4
  obtain ⟨x4, y4, r4⟩ := cellOf_int hi64 c4
  obtain ⟨u5, e5, c5⟩ := hall 5 cs[5] (Array.getElem?_eq_getElem (by omega))
  obtain rfl : tb = u5 := Option.some.inj e5
  obtain ⟨x5, y5⟩ := cellOf_bool hb c5
  obtain ⟨u6, e6, c6⟩ := hall 6 cs[6] (Array.getElem?_eq_getElem (by omega))
  obtain rfl : tb = u6 := Option.some.inj e6
  obtain ⟨x6, y6⟩ := cellOf_bool hb c6
  obtain ⟨u7, e7, c7⟩ := hall 7 cs[7] (Array.getElem?_eq_getElem (by omega))
  obtain rfl : tb = u7 := Option.some.inj e7
  obtain ⟨x7, y7⟩ := cellOf_bool hb c7
  obtain ⟨u8, e8, c8⟩ := hall 8 cs[8] (Array.getElem?_eq_getElem (by omega))
  obtain rfl : tb = u8 := Option.some.inj e8
  obtain ⟨x8, y8⟩ := cellOf_bool hb c8
  obtain ⟨u9, e9, c9⟩ := hall 9 cs[9] (Array.getElem?_eq_getElem (by omega))
  obtain rfl : tb = u9 := Option.some.inj e9
  obtain ⟨x9, y9⟩ := cellOf_bool hb c9
  obtain ⟨u10, e10, c10⟩ := hall 10 cs[10] (Array.getElem?_eq_getElem (by omega))
  obtain rfl : tb = u10 := Option.some.inj e10
  obtain ⟨x10, y10⟩ := cellOf_bool hb c10
  obtain ⟨u11, e11, c11⟩ := hall 11 cs[11] (Array.getElem?_eq_getElem (by omega))
  obtain rfl : ti = u11 := Option.some.inj e11
  obtain ⟨x11, y11, r11⟩ := cellOf_int hi64 c11
  obtain ⟨u12, e12, c12⟩ := hall 12 cs[12] (Array.getElem?_eq_getElem (by omega))
  obtain rfl : ti = u12 := Option.some.inj e12
  obtain ⟨x12, y12, r12⟩ := cellOf_int hi64 c12
  obtain ⟨u13, e13, c13⟩ := hall 13 cs[13] (Array.getElem?_eq_getElem (by omega))
  obtain rfl : ti = u13 := Option.some.inj e13
  obtain ⟨x13, y13, r13⟩ := cellOf_int hi64 c13
  obtain ⟨u14, e14, c14⟩ := hall 14 cs[14] (Array.getElem?_eq_getElem (by omega))
  obtain rfl : ti = u14 := Option.some.inj e14
  obtain ⟨x14, y14, r14⟩ := cellOf_int hi64 c14
  obtain ⟨u15, e15, c15⟩ := hall 15 cs[15] (Array.getElem?_eq_getElem (by omega))
  obtain rfl : ti = u15 := Option.some.inj e15
  obtain ⟨x15, y15, r15⟩ := cellOf_int hi64 c15
  refine ⟨x0, x1, x2, x3, x4, x5, x6, x7, x8, x9, x10, x11, x12, x13, x14, x15, ?_, has_i64 r0, has_u64 r1, has_u64 r2, has_u64 r3, has_i64 r4, has_i64 r11, has_i64 r12, has_i64 r13, has_i64 r14, has_i64 r15⟩
  congr 1
  apply Array.ext (by simpa using hs)
  intro i h1 h2
  have hi : i < 16 := by omega
  rcases (show i = 0 ∨ i = 1 ∨ i = 2 ∨ i = 3 ∨ i = 4 ∨ i = 5 ∨ i = 6 ∨ i = 7 ∨ i = 8 ∨ i = 9 ∨ i = 10 ∨ i = 11 ∨ i = 12 ∨ i = 13 ∨ i = 14 ∨ i = 15 by omega) with rfl | rfl | rfl | rfl | rfl | rfl | rfl | rfl | rfl | rfl | rfl | rfl | rfl | rfl | rfl | rfl
  · exact y0
  · exact y1
  · exact y2
  · exact y3
  · exact y4
  · exact y5
  · exact y6
  · exact y7
  · exact y8
  · exact y9
  · exact y10
  · exact y11
  · exact y12
  · exact y13
  · exact y14
  · exact y15
theorem open_bpdu {P : Program} {W : World} {r : Reach} {base : Nat} {v : Value} {ti tu64 tb t : TypeId} {d : TypeDesc} (hi64 : P.underlying ti = some (.int .i64)) (hu64 : P.underlying tu64 = some (.int .u64)) (hb : P.underlying tb = some .bool) (ht : P.underlying t = some d) (hd : (match d with | .struct _ | .array _ _ => true | _ => false) = true)
    (hts : P.cellTypes P.depth t = some [ti, tu64, tu64, tu64, ti, tb, tb, tb, tb, tb, tb, ti, ti, ti, ti, ti]) (hc : P.cellsOf t = 16) (h : Value.okWide P W r base t v) : ∃ b : Bp, v = .agg b.row ∧ b.wf := by
  obtain ⟨x0, x1, x2, x3, x4, x5, x6, x7, x8, x9, x10, x11, x12, x13, x14, x15, rfl, r0, r1, r2, r3, r4, r11, r12, r13, r14, r15⟩ := open_bpdu0 hi64 hu64 hb ht hd hts hc h
  exact ⟨⟨x0, x1, x2, x3, x4, x5, x6, x7, x8, x9, x10, x11, x12, x13, x14, x15⟩, rfl, ⟨r0, r1, r2, r3, r4, r11, r12, r13, r14, r15⟩⟩

theorem cells_bpdu : Try.prog.cellsOf 40 = 16 := by kernel_rfl
theorem cells_tport : Try.prog.cellsOf 34 = 16 := by kernel_rfl
theorem cells_act : Try.prog.cellsOf 42 = 18 := by kernel_rfl
theorem bp_of_trod {H : Type} {enc : TypeId × Value → H} {W : World} {base : Nat} {sp : Nat → Bool} {held : Bool} {fuel : Nat} {cs : List Value} {x : DataW H × List MemPlace} (hl : cs.length = 16)
    (h : DataW.trod enc Try.prog W base sp held fuel 40 cs = some x) : ∃ b : Bp, cs = fB b ∧ b.wf := by
  obtain ⟨xs, k, hk, hxy, _, hxl, hf⟩ := DataW.trod_struct Try.underlying40 h
  match xs, hxl, cs, hl with
  | [y0, y1, y2, y3, y4, y5, y6, y7, y8, y9, y10, y11, y12], _, [v0, v1, v2, v3, v4, v5, v6, v7, v8, v9, v10, v11, v12, v13, v14, v15], _ =>
    have g0 := hf 0 _ rfl
    have g1 := hf 1 _ rfl
    have g2 := hf 2 _ rfl
    have g3 := hf 3 _ rfl
    have g4 := hf 4 _ rfl
    have g5 := hf 5 _ rfl
    have g6 := hf 6 _ rfl
    have g7 := hf 7 _ rfl
    have g8 := hf 8 _ rfl
    have g9 := hf 9 _ rfl
    have g10 := hf 10 _ rfl
    have g11 := hf 11 _ rfl
    have g12 := hf 12 _ rfl
    simp [cells_int, cells_bool, cells_vec] at g0 g1 g2 g3 g4 g5 g6 g7 g8 g9 g10 g11 g12
    obtain ⟨k0, e0, _, w0⟩ := DataW.trod_int Try.underlying3 g0
    obtain ⟨V, e1, w1⟩ := vec_of_trod rfl g1
    obtain ⟨k2, e2, _⟩ := DataW.trod_bool Try.underlying4 g2
    obtain ⟨k3, e3, _⟩ := DataW.trod_bool Try.underlying4 g3
    obtain ⟨k4, e4, _⟩ := DataW.trod_bool Try.underlying4 g4
    obtain ⟨k5, e5, _⟩ := DataW.trod_bool Try.underlying4 g5
    obtain ⟨k6, e6, _⟩ := DataW.trod_bool Try.underlying4 g6
    obtain ⟨k7, e7, _⟩ := DataW.trod_bool Try.underlying4 g7
    obtain ⟨k8, e8, _, w8⟩ := DataW.trod_int Try.underlying3 g8
    obtain ⟨k9, e9, _, w9⟩ := DataW.trod_int Try.underlying3 g9
    obtain ⟨k10, e10, _, w10⟩ := DataW.trod_int Try.underlying3 g10
    obtain ⟨k11, e11, _, w11⟩ := DataW.trod_int Try.underlying3 g11
    obtain ⟨k12, e12, _, w12⟩ := DataW.trod_int Try.underlying3 g12
    simp only [fV, List.cons.injEq, and_true] at e0 e1 e2 e3 e4 e5 e6 e7 e8 e9 e10 e11 e12
    obtain ⟨rfl, rfl, rfl, rfl⟩ := e1
    subst e0 e2 e3 e4 e5 e6 e7 e8 e9 e10 e11 e12
    exact ⟨⟨k0, V.root, V.cost, V.bridge, V.port, k2, k3, k4, k5, k6, k7, k8, k9, k10, k11, k12⟩, rfl, ⟨bounds_i64 w0, w1.root, w1.cost, w1.bridge, w1.port, bounds_i64 w8, bounds_i64 w9, bounds_i64 w10, bounds_i64 w11, bounds_i64 w12⟩⟩
theorem tp_of_trod {H : Type} {enc : TypeId × Value → H} {W : World} {base : Nat} {sp : Nat → Bool} {held : Bool} {fuel : Nat} {cs : List Value} {x : DataW H × List MemPlace} (hl : cs.length = 16)
    (h : DataW.trod enc Try.prog W base sp held fuel 34 cs = some x) : ∃ p : Tp, cs = fT p ∧ p.b.wf := by
  obtain ⟨xs, k, hk, hxy, _, hxl, hf⟩ := DataW.trod_struct Try.underlying34 h
  match xs, hxl, cs, hl with
  | [y0, y1, y2, y3, y4, y5, y6, y7, y8], _, [v0, v1, v2, v3, v4, v5, v6, v7, v8, v9, v10, v11, v12, v13, v14, v15], _ =>
    have g0 := hf 0 _ rfl
    have g1 := hf 1 _ rfl
    have g2 := hf 2 _ rfl
    have g3 := hf 3 _ rfl
    have g4 := hf 4 _ rfl
    have g5 := hf 5 _ rfl
    have g6 := hf 6 _ rfl
    have g7 := hf 7 _ rfl
    have g8 := hf 8 _ rfl
    simp [cells_int, cells_bool, cells_rport] at g0 g1 g2 g3 g4 g5 g6 g7 g8
    obtain ⟨B, e0, w0⟩ := rp_of_trod rfl g0
    obtain ⟨k1, e1, _⟩ := DataW.trod_bool Try.underlying4 g1
    obtain ⟨k2, e2, _, w2⟩ := DataW.trod_int Try.underlying3 g2
    obtain ⟨k3, e3, _, w3⟩ := DataW.trod_int Try.underlying3 g3
    obtain ⟨k4, e4, _, w4⟩ := DataW.trod_int Try.underlying3 g4
    obtain ⟨k5, e5, _, w5⟩ := DataW.trod_int Try.underlying3 g5
    obtain ⟨k6, e6, _, w6⟩ := DataW.trod_int Try.underlying3 g6
    obtain ⟨k7, e7, _, w7⟩ := DataW.trod_int Try.underlying3 g7
    obtain ⟨k8, e8, _⟩ := DataW.trod_bool Try.underlying4 g8
    simp only [fP, List.cons.injEq, and_true] at e0 e1 e2 e3 e4 e5 e6 e7 e8
    obtain ⟨rfl, rfl, rfl, rfl, rfl, rfl, rfl, rfl⟩ := e0
    subst e1 e2 e3 e4 e5 e6 e7 e8
    exact ⟨⟨B, k1, k2, k3, k4, k5, k6, k7, k8⟩, rfl, w0⟩
theorem ac_of_trod {H : Type} {enc : TypeId × Value → H} {W : World} {base : Nat} {sp : Nat → Bool} {held : Bool} {fuel : Nat} {cs : List Value} {x : DataW H × List MemPlace} (hl : cs.length = 18)
    (h : DataW.trod enc Try.prog W base sp held fuel 42 cs = some x) : ∃ o : Ac, cs = fA o ∧ o.m.wf := by
  obtain ⟨xs, k, hk, hxy, _, hxl, hf⟩ := DataW.trod_struct Try.underlying42 h
  match xs, hxl, cs, hl with
  | [y0, y1, y2], _, [v0, v1, v2, v3, v4, v5, v6, v7, v8, v9, v10, v11, v12, v13, v14, v15, v16, v17], _ =>
    have g0 := hf 0 _ rfl
    have g1 := hf 1 _ rfl
    have g2 := hf 2 _ rfl
    simp [cells_int, cells_bpdu] at g0 g1 g2
    obtain ⟨k0, e0, _, w0⟩ := DataW.trod_int Try.underlying3 g0
    obtain ⟨k1, e1, _, w1⟩ := DataW.trod_int Try.underlying3 g1
    obtain ⟨B, e2, w2⟩ := bp_of_trod rfl g2
    simp only [fB, List.cons.injEq, and_true] at e0 e1 e2
    obtain ⟨rfl, rfl, rfl, rfl, rfl, rfl, rfl, rfl, rfl, rfl, rfl, rfl, rfl, rfl, rfl, rfl⟩ := e2
    subst e0 e1
    exact ⟨⟨k0, k1, B⟩, rfl, w2⟩
theorem slice_caps {H : Type} {enc : TypeId × Value → H} {P : Program} {W : World} {base : Nat} {held : Bool} {fuel : Nat} {a : Option Addr} {len cap : Nat} {x : DataW H × List MemPlace} {t e : TypeId} (ht : P.underlying t = some (.slice e))
    (h : DataW.trod enc P W base (fun _ => true) held fuel t [.slice a len cap] = some x) : len ≤ cap ∧ (a = none → cap = 0) := by
  rcases open_slice ht h with ⟨hcs, _⟩ | ⟨ad, l, c, mm, n, D, Pl, hcs, hb, hl, hm, hmm, rfl, hx⟩
  · simp at hcs
    obtain ⟨rfl, rfl, rfl⟩ := hcs
    exact ⟨Nat.le_refl _, fun _ => rfl⟩
  · simp at hcs
    obtain ⟨rfl, rfl, rfl⟩ := hcs
    exact ⟨hl, fun e => by cases e⟩
theorem tps_of_trod {H : Type} {enc : TypeId × Value → H} {W : World} {base : Nat} {held : Bool} {fuel : Nat} {a : Option Addr} {len cap : Nat} {x : DataW H × List MemPlace}
    (h : DataW.trod enc Try.prog W base (fun _ => true) held fuel 23 [.slice a len cap] = some x) : ∃ xs : List Tp, Tps W a len xs ∧ len ≤ maxLen ∧ len ≤ cap ∧ (a = none → cap = 0) := by
  obtain ⟨ys, h1, h2, h3⟩ := rows_of_trod (m := 16) Tp.zero (ok := fun p => p.b.wf) Try.underlying23 (by omega) cells_tport (fun hl h => tp_of_trod hl h) h
  refine ⟨ys, ⟨h1.len, fun i hi => ?_⟩, h3, slice_caps Try.underlying23 h⟩
  obtain ⟨b, off, rfl, hr⟩ := h1.at_i i hi
  exact ⟨b, off, rfl, ⟨hr 0 _ rfl, hr 1 _ rfl, hr 2 _ rfl, hr 3 _ rfl, hr 4 _ rfl, hr 5 _ rfl, hr 6 _ rfl, hr 7 _ rfl, hr 8 _ rfl, hr 9 _ rfl, hr 10 _ rfl, hr 11 _ rfl, hr 12 _ rfl, hr 13 _ rfl, hr 14 _ rfl, hr 15 _ rfl⟩, h2 i hi⟩
theorem acts10_of_trod {H : Type} {enc : TypeId × Value → H} {W : World} {base : Nat} {held : Bool} {fuel : Nat} {a : Option Addr} {len cap : Nat} {x : DataW H × List MemPlace}
    (h : DataW.trod enc Try.prog W base (fun _ => true) held fuel 24 [.slice a len cap] = some x) : ∃ xs : List Ac, Axs W a len xs ∧ len ≤ maxLen := by
  obtain ⟨ys, h1, h2, h3⟩ := rows_of_trod (m := 18) Ac.zero (ok := fun o => o.m.wf) Try.underlying24 (by omega) cells_act (fun hl h => ac_of_trod hl h) h
  refine ⟨ys, ⟨h1.len, fun i hi => ?_⟩, h3⟩
  obtain ⟨b, off, rfl, hr⟩ := h1.at_i i hi
  exact ⟨b, off, rfl, hr, h2 i hi⟩
end Go.Proofs.Ytoejoneecanbbaa
