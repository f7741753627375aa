
/-
  What came in as an address, a header, or four numbers.
-/
import Derived.Test.YtiahiakllpjliaaDoorHdEq
import Derived.OpenShut
namespace Go.Proofs.YtiahiakllpjliaaDoor
open Go.RowKit

theorem cellOf_int {P : Program} {W : World} {r : Reach} {base : Nat} {t : TypeId} {k : IntKind} {v : Value} (ht : P.underlying t = some (.int k)) (h : Cell.okWide P W r base t v) : ∃ n, v = .int k n ∧ k.has n := by
  unfold Cell.okWide Cell.ok at h
  rw [ht] at h
  cases v with
  | int k' n => obtain ⟨rfl, hn⟩ := h; exact ⟨n, rfl, hn⟩
  | _ => exact h.elim
theorem cellOf_bool {P : Program} {W : World} {r : Reach} {base : Nat} {t : TypeId} {v : Value} (ht : P.underlying t = some .bool) (h : Cell.okWide P W r base t v) : ∃ b, v = .bool b := by
  unfold Cell.okWide Cell.ok at h
  rw [ht] at h
  cases v with
  | bool b => exact ⟨b, rfl⟩
  | _ => exact h.elim
theorem okWide_row {P : Program} {W : World} {r : Reach} {base : Nat} {t : TypeId} {v : Value} {ts : List TypeId} {d : TypeDesc} (ht : P.underlying t = some d) (hd : (match d with | .struct _ | .array _ _ => true | _ => false) = true) (hts : P.cellTypes P.depth t = some ts) (h : Value.okWide P W r base t v) :
    ∃ cs, v = .agg cs ∧ cs.size = P.cellsOf t ∧ ∀ i v, cs[i]? = some v → ∃ u, ts[i % ts.length]? = some u ∧ Cell.okWide P W r base u v := by
  unfold Value.okWide at h
  rw [ht] at h
  cases d with
  | struct fs => obtain ⟨cs, rfl, hs, ts', hts', _, hall⟩ := h; obtain rfl := Option.some.inj (hts.symm.trans hts'); exact ⟨cs, rfl, hs, hall⟩
  | array n e => obtain ⟨cs, rfl, hs, ts', hts', _, hall⟩ := h; obtain rfl := Option.some.inj (hts.symm.trans hts'); exact ⟨cs, rfl, hs, hall⟩
  | _ => simp at hd
theorem has_u8 {n : Int} (h : IntKind.u8.has n) : 0 ≤ n ∧ n ≤ 255 := by simpa [IntKind.has, IntKind.min, IntKind.max, IntKind.signed, IntKind.bits] using h
theorem has_i64 {n : Int} (h : IntKind.i64.has n) : -9223372036854775808 ≤ n ∧ n ≤ 9223372036854775807 := by simpa [IntKind.has, IntKind.min, IntKind.max, IntKind.signed, IntKind.bits] using h
theorem has_u64 {n : Int} (h : IntKind.u64.has n) : 0 ≤ n ∧ n ≤ 18446744073709551615 := by simpa [IntKind.has, IntKind.min, IntKind.max, IntKind.signed, IntKind.bits] using h
theorem open_six {P : Program} {W : World} {r : Reach} {base : Nat} {v : Value} {tu8 t : TypeId} {d : TypeDesc} (hu8 : P.underlying tu8 = some (.int .u8)) (ht : P.underlying t = some d) (hd : (match d with | .struct _ | .array _ _ => true | _ => false) = true) (hts : P.cellTypes P.depth t = some [tu8, tu8, tu8, tu8, tu8, tu8]) (hc : P.cellsOf t = 6) (h : Value.okWide P W r base t v) : ∃ (x0 : Int) (x1 : Int) (x2 : Int) (x3 : Int) (x4 : Int) (x5 : Int), v = .agg #[.int .u8 x0, .int .u8 x1, .int .u8 x2, .int .u8 x3, .int .u8 x4, .int .u8 x5] ∧ (0 ≤ x0 ∧ x0 ≤ 255) ∧ (0 ≤ x1 ∧ x1 ≤ 255) ∧ (0 ≤ x2 ∧ x2 ≤ 255) ∧ (0 ≤ x3 ∧ x3 ≤ 255) ∧ (0 ≤ x4 ∧ x4 ≤ 255) ∧ (0 ≤ x5 ∧ x5 ≤ 255) := by
  obtain ⟨cs, rfl, hs, hall⟩ := okWide_row ht hd hts h
  rw [hc] at hs
  obtain ⟨u0, e0, c0⟩ := hall 0 cs[0] (Array.getElem?_eq_getElem (by omega))
  obtain rfl : tu8 = u0 := Option.some.inj e0
  obtain ⟨x0, y0, r0⟩ := cellOf_int hu8 c0
  obtain ⟨u1, e1, c1⟩ := hall 1 cs[1] (Array.getElem?_eq_getElem (by omega))
  obtain rfl : tu8 = u1 := Option.some.inj e1
  obtain ⟨x1, y1, r1⟩ := cellOf_int hu8 c1
  obtain ⟨u2, e2, c2⟩ := hall 2 cs[2] (Array.getElem?_eq_getElem (by omega))
  obtain rfl : tu8 = u2 := Option.some.inj e2
  obtain ⟨x2, y2, r2⟩ := cellOf_int hu8 c2
  obtain ⟨u3, e3, c3⟩ := hall 3 cs[3] (Array.getElem?_eq_getElem (by omega))
  obtain rfl : tu8 = u3 := Option.some.inj e3
  obtain ⟨x3, y3, r3⟩ := cellOf_int hu8 c3
  obtain ⟨u4, e4, c4⟩ := hall 4 cs[4] (Array.getElem?_eq_getElem (by omega))
  obtain rfl : tu8 = u4 := Option.some.inj e4
  obtain ⟨x4, y4, r4⟩ := cellOf_int hu8 c4
  obtain ⟨u5, e5, c5⟩ := hall 5 cs[5] (Array.getElem?_eq_getElem (by omega))
  obtain rfl : tu8 = u5 := Option.some.inj e5
  obtain ⟨x5, y5, r5⟩ := cellOf_int hu8 c5
  refine ⟨x0, x1, x2, x3, x4, x5, ?_, has_u8 r0, has_u8 r1, has_u8 r2, has_u8 r3, has_u8 r4, has_u8 r5⟩
  congr 1
  apply Array.ext (by simpa using hs)
  intro i h1 h2
  have hi : i < 6 := by omega
  rcases (show i = 0 ∨ i = 1 ∨ i = 2 ∨ i = 3 ∨ i = 4 ∨ i = 5 by omega) with rfl | rfl | rfl | rfl | rfl | rfl
  · exact y0
  · exact y1
  · exact y2
  · exact y3
  · exact y4
  · exact y5
theorem open_hd0 {P : Program} {W : World} {r : Reach} {base : Nat} {v : Value} {tu8 ti tb t : TypeId} {d : TypeDesc} (hu8 : P.underlying tu8 = some (.int .u8)) (hi64 : P.underlying ti = some (.int .i64)) (hb : P.underlying tb = some (.bool)) (ht : P.underlying t = some d) (hd : (match d with | .struct _ | .array _ _ => true | _ => false) = true) (hts : P.cellTypes P.depth t = some [tu8, tu8, tu8, tu8, tu8, tu8, tu8, tu8, tu8, tu8, tu8, tu8, tb, ti, tb, ti, ti, tb]) (hc : P.cellsOf t = 18) (h : Value.okWide P W r base t v) : ∃ (x0 : Int) (x1 : Int) (x2 : Int) (x3 : Int) (x4 : Int) (x5 : Int) (x6 : Int) (x7 : Int) (x8 : Int) (x9 : Int) (x10 : Int) (x11 : Int) (x12 : Bool) (x13 : Int) (x14 : Bool) (x15 : Int) (x16 : Int) (x17 : Bool), v = .agg #[.int .u8 x0, .int .u8 x1, .int .u8 x2, .int .u8 x3, .int .u8 x4, .int .u8 x5, .int .u8 x6, .int .u8 x7, .int .u8 x8, .int .u8 x9, .int .u8 x10, .int .u8 x11, .bool x12, .int .i64 x13, .bool x14, .int .i64 x15, .int .i64 x16, .bool x17] ∧ (0 ≤ x0 ∧ x0 ≤ 255) ∧ (0 ≤ x1 ∧ x1 ≤ 255) ∧ (0 ≤ x2 ∧ x2 ≤ 255) ∧ (0 ≤ x3 ∧ x3 ≤ 255) ∧ (0 ≤ x4 ∧ x4 ≤ 255) ∧ (0 ≤ x5 ∧ x5 ≤ 255) ∧ (0 ≤ x6 ∧ x6 ≤ 255) ∧ (0 ≤ x7 ∧ x7 ≤ 255) ∧ (0 ≤ x8 ∧ x8 ≤ 255) ∧ (0 ≤ x9 ∧ x9 ≤ 255) ∧ (0 ≤ x10 ∧ x10 ≤ 255) ∧ (0 ≤ x11 ∧ x11 ≤ 255) ∧ (-9223372036854775808 ≤ x13 ∧ x13 ≤ 9223372036854775807) ∧ (-9223372036854775808 ≤ x15 ∧ x15 ≤ 9223372036854775807) ∧ (-9223372036854775808 ≤ x16 ∧ x16 ≤ 9223372036854775807) := by
  obtain ⟨cs, rfl, hs, hall⟩ := okWide_row ht hd hts h
  rw [hc] at hs
  obtain ⟨u0, e0, c0⟩ := hall 0 cs[0] (Array.getElem?_eq_getElem (by omega))
  obtain rfl : tu8 = u0 := Option.some.inj e0
  obtain ⟨x0, y0, r0⟩ := cellOf_int hu8 c0
  obtain ⟨u1, e1, c1⟩ := hall 1 cs[1] (Array.getElem?_eq_getElem (by omega))
  obtain rfl : tu8 = u1 := Option.some.inj e1
  obtain ⟨x1, y1, r1⟩ := cellOf_int hu8 c1
  obtain ⟨u2, e2, c2⟩ := hall 2 cs[2] (Array.getElem?_eq_getElem (by omega))
  obtain rfl : tu8 = u2 := Option.some.inj e2
  obtain ⟨x2, y2, r2⟩ := cellOf_int hu8 c2
  obtain ⟨u3, e3, c3⟩ := hall 3 cs[3] (Array.getElem?_eq_getElem (by omega))
  obtain rfl : tu8 = u3 := Option.some.inj e3
  obtain ⟨x3, y3, r3⟩ := cellOf_int hu8 c3
  obtain ⟨u4, e4, c4⟩ := hall 4 cs[4] (Array.getElem?_eq_getElem (by omega))
  obtain rfl : tu8 = u4 := Option.some.inj e4
  obtain ⟨x4, y4, r4⟩ := cellOf_int hu8 c4
  obtain ⟨u5, e5, c5⟩ := hall 5 cs[5] (Array.getElem?_eq_getElem (by omega))
  obtain rfl : tu8 = u5 := Option.some.inj e5
  obtain ⟨x5, y5, r5⟩ := cellOf_int hu8 c5
  obtain ⟨u6, e6, c6⟩ := hall 6 cs[6] (Array.getElem?_eq_getElem (by omega))
  obtain rfl : tu8 = u6 := Option.some.inj e6
  obtain ⟨x6, y6, r6⟩ := cellOf_int hu8 c6
  obtain ⟨u7, e7, c7⟩ := hall 7 cs[7] (Array.getElem?_eq_getElem (by omega))
  obtain rfl : tu8 = u7 := Option.some.inj e7
  obtain ⟨x7, y7, r7⟩ := cellOf_int hu8 c7
  obtain ⟨u8, e8, c8⟩ := hall 8 cs[8] (Array.getElem?_eq_getElem (by omega))
  obtain rfl : tu8 = u8 := Option.some.inj e8
  obtain ⟨x8, y8, r8⟩ := cellOf_int hu8 c8
  obtain ⟨u9, e9, c9⟩ := hall 9 cs[9] (Array.getElem?_eq_getElem (by omega))
  obtain rfl : tu8 = u9 := Option.some.inj e9
  obtain ⟨x9, y9, r9⟩ := cellOf_int hu8 c9
  obtain ⟨u10, e10, c10⟩ := hall 10 cs[10] (Array.getElem?_eq_getElem (by omega))
  obtain rfl : tu8 = u10 := Option.some.inj e10
  obtain ⟨x10, y10, r10⟩ := cellOf_int hu8 c10
  obtain ⟨u11, e11, c11⟩ := hall 11 cs[11] (Array.getElem?_eq_getElem (by omega))
  obtain rfl : tu8 = u11 := Option.some.inj e11
  obtain ⟨x11, y11, r11⟩ := cellOf_int hu8 c11
  obtain ⟨u12, e12, c12⟩ := hall 12 cs[12] (Array.getElem?_eq_getElem (by omega))
  obtain rfl : tb = u12 := Option.some.inj e12
  obtain ⟨x12, y12⟩ := cellOf_bool hb c12
  obtain ⟨u13, e13, c13⟩ := hall 13 cs[13] (Array.getElem?_eq_getElem (by omega))
  obtain rfl : ti = u13 := Option.some.inj e13
  obtain ⟨x13, y13, r13⟩ := cellOf_int hi64 c13
  obtain ⟨u14, e14, c14⟩ := hall 14 cs[14] (Array.getElem?_eq_getElem (by omega))
  obtain rfl : tb = u14 := Option.some.inj e14
  obtain ⟨x14, y14⟩ := cellOf_bool hb c14
  obtain ⟨u15, e15, c15⟩ := hall 15 cs[15] (Array.getElem?_eq_getElem (by omega))
  obtain rfl : ti = u15 := Option.some.inj e15
  obtain ⟨x15, y15, r15⟩ := cellOf_int hi64 c15
  obtain ⟨u16, e16, c16⟩ := hall 16 cs[16] (Array.getElem?_eq_getElem (by omega))
  obtain rfl : ti = u16 := Option.some.inj e16
  obtain ⟨x16, y16, r16⟩ := cellOf_int hi64 c16
  obtain ⟨u17, e17, c17⟩ := hall 17 cs[17] (Array.getElem?_eq_getElem (by omega))
  obtain rfl : tb = u17 := Option.some.inj e17
  obtain ⟨x17, y17⟩ := cellOf_bool hb c17
  refine ⟨x0, x1, x2, x3, x4, x5, x6, x7, x8, x9, x10, x11, x12, x13, x14, x15, x16, x17, ?_, has_u8 r0, has_u8 r1, has_u8 r2, has_u8 r3, has_u8 r4, has_u8 r5, has_u8 r6, has_u8 r7, has_u8 r8, has_u8 r9, has_u8 r10, has_u8 r11, has_i64 r13, has_i64 r15, has_i64 r16⟩
  congr 1
  apply Array.ext (by simpa using hs)
  intro i h1 h2
  have hi : i < 18 := by omega
  rcases (show i = 0 ∨ i = 1 ∨ i = 2 ∨ i = 3 ∨ i = 4 ∨ i = 5 ∨ i = 6 ∨ i = 7 ∨ i = 8 ∨ i = 9 ∨ i = 10 ∨ i = 11 ∨ i = 12 ∨ i = 13 ∨ i = 14 ∨ i = 15 ∨ i = 16 ∨ i = 17 by omega) with rfl | rfl | rfl | rfl | rfl | rfl | rfl | rfl | rfl | rfl | rfl | rfl | rfl | rfl | rfl | rfl | rfl | rfl
  · exact y0
  · exact y1
  · exact y2
  · exact y3
  · exact y4
  · exact y5
  · exact y6
  · exact y7
  · exact y8
  · exact y9
  · exact y10
  · exact y11
  · exact y12
  · exact y13
  · exact y14
  · exact y15
  · exact y16
  · exact y17
theorem open_four {P : Program} {W : World} {r : Reach} {base : Nat} {v : Value} {ti t : TypeId} {d : TypeDesc} (hi64 : P.underlying ti = some (.int .i64)) (ht : P.underlying t = some d) (hd : (match d with | .struct _ | .array _ _ => true | _ => false) = true) (hts : P.cellTypes P.depth t = some [ti, ti, ti, ti]) (hc : P.cellsOf t = 4) (h : Value.okWide P W r base t v) : ∃ (x0 : Int) (x1 : Int) (x2 : Int) (x3 : Int), v = .agg #[.int .i64 x0, .int .i64 x1, .int .i64 x2, .int .i64 x3] ∧ (-9223372036854775808 ≤ x0 ∧ x0 ≤ 9223372036854775807) ∧ (-9223372036854775808 ≤ x1 ∧ x1 ≤ 9223372036854775807) ∧ (-9223372036854775808 ≤ x2 ∧ x2 ≤ 9223372036854775807) ∧ (-9223372036854775808 ≤ x3 ∧ x3 ≤ 9223372036854775807) := by
  obtain ⟨cs, rfl, hs, hall⟩ := okWide_row ht hd hts h
  rw [hc] at hs
  obtain ⟨u0, e0, c0⟩ := hall 0 cs[0] (Array.getElem?_eq_getElem (by omega))
  obtain rfl : ti = u0 := Option.some.inj e0
  obtain ⟨x0, y0, r0⟩ := cellOf_int hi64 c0
  obtain ⟨u1, e1, c1⟩ := hall 1 cs[1] (Array.getElem?_eq_getElem (by omega))
  obtain rfl : ti = u1 := Option.some.inj e1
  obtain ⟨x1, y1, r1⟩ := cellOf_int hi64 c1
  obtain ⟨u2, e2, c2⟩ := hall 2 cs[2] (Array.getElem?_eq_getElem (by omega))
  obtain rfl : ti = u2 := Option.some.inj e2
  obtain ⟨x2, y2, r2⟩ := cellOf_int hi64 c2
  obtain ⟨u3, e3, c3⟩ := hall 3 cs[3] (Array.getElem?_eq_getElem (by omega))
  obtain rfl : ti = u3 := Option.some.inj e3
  obtain ⟨x3, y3, r3⟩ := cellOf_int hi64 c3
  refine ⟨x0, x1, x2, x3, ?_, has_i64 r0, has_i64 r1, has_i64 r2, has_i64 r3⟩
  congr 1
  apply Array.ext (by simpa using hs)
  intro i h1 h2
  have hi : i < 4 := by omega
  rcases (show i = 0 ∨ i = 1 ∨ i = 2 ∨ i = 3 by omega) with rfl | rfl | rfl | rfl
  · exact y0
  · exact y1
  · exact y2
  · exact y3
theorem open_hd {P : Program} {W : World} {r : Reach} {base : Nat} {v : Value} {tu8 ti tb t : TypeId} {d : TypeDesc} (hu8 : P.underlying tu8 = some (.int .u8)) (hi64 : P.underlying ti = some (.int .i64)) (hb : P.underlying tb = some .bool) (ht : P.underlying t = some d) (hd : (match d with | .struct _ | .array _ _ => true | _ => false) = true)
    (hts : P.cellTypes P.depth t = some [tu8, tu8, tu8, tu8, tu8, tu8, tu8, tu8, tu8, tu8, tu8, tu8, tb, ti, tb, ti, ti, tb]) (hc : P.cellsOf t = 18) (h : Value.okWide P W r base t v) : ∃ h : Hd, v = .agg h.row ∧ h.wf := by
  obtain ⟨x0, x1, x2, x3, x4, x5, x6, x7, x8, x9, x10, x11, x12, x13, x14, x15, x16, x17, rfl, r0, r1, r2, r3, r4, r5, r6, r7, r8, r9, r10, r11, r13, r15, r16⟩ := open_hd0 hu8 hi64 hb ht hd hts hc h
  refine ⟨⟨x0, x1, x2, x3, x4, x5, x6, x7, x8, x9, x10, x11, x12, x13, x14, x15, x16, x17⟩, rfl, ⟨⟨?_, ?_⟩, r13, r15, r16⟩⟩
  all_goals
    intro z hz
    simp [Hd.dst, Hd.src] at hz
    rcases hz with rfl | rfl | rfl | rfl | rfl | rfl <;> assumption
end Go.Proofs.YtiahiakllpjliaaDoor
