/-
  What came in as a message.
-/
import Derived.Test.YtmakaadmjgakaaaDoorFlat
import Derived.Test.YtmakaadmjgakaaaDoorBp1
namespace Go.Proofs.YtmakaadmjgakaaaDoor
open Go.RowKit

theorem open_bpdu0 {P : Program} {W : World} {r : Reach} {base : Nat} {v : Value} {ti tu64 tb t : TypeId} {d : TypeDesc} (hi64 : P.underlying ti = some (.int .i64)) (hu64 : P.underlying tu64 = some (.int .u64)) (hb : P.underlying tb = some (.bool)) (ht : P.underlying t = some d) (hd : (match d with | .struct _ | .array _ _ => true | _ => false) = true) (hts : P.cellTypes P.depth t = some [ti, tu64, tu64, tu64, ti, tb, tb, tb, tb, tb, tb, ti, ti, ti, ti, ti]) (hc : P.cellsOf t = 16) (h : Value.okWide P W r base t v) : ∃ (x0 : Int) (x1 : Int) (x2 : Int) (x3 : Int) (x4 : Int) (x5 : Bool) (x6 : Bool) (x7 : Bool) (x8 : Bool) (x9 : Bool) (x10 : Bool) (x11 : Int) (x12 : Int) (x13 : Int) (x14 : Int) (x15 : Int), v = .agg #[.int .i64 x0, .int .u64 x1, .int .u64 x2, .int .u64 x3, .int .i64 x4, .bool x5, .bool x6, .bool x7, .bool x8, .bool x9, .bool x10, .int .i64 x11, .int .i64 x12, .int .i64 x13, .int .i64 x14, .int .i64 x15] ∧ (-9223372036854775808 ≤ x0 ∧ x0 ≤ 9223372036854775807) ∧ (0 ≤ x1 ∧ x1 ≤ 18446744073709551615) ∧ (0 ≤ x2 ∧ x2 ≤ 18446744073709551615) ∧ (0 ≤ x3 ∧ x3 ≤ 18446744073709551615) ∧ (-9223372036854775808 ≤ x4 ∧ x4 ≤ 9223372036854775807) ∧ (-9223372036854775808 ≤ x11 ∧ x11 ≤ 9223372036854775807) ∧ (-9223372036854775808 ≤ x12 ∧ x12 ≤ 9223372036854775807) ∧ (-9223372036854775808 ≤ x13 ∧ x13 ≤ 9223372036854775807) ∧ (-9223372036854775808 ≤ x14 ∧ x14 ≤ 9223372036854775807) ∧ (-9223372036854775808 ≤ x15 ∧ x15 ≤ 9223372036854775807) := by
  obtain ⟨cs, rfl, hs, hall⟩ := okWide_row ht hd hts h
  rw [hc] at hs
  obtain ⟨u0, e0, c0⟩ := hall 0 cs[0] (Array.getElem?_eq_getElem (by omega))
  obtain rfl : ti = u0 := Option.some.inj e0
  obtain ⟨x0, y0, r0⟩ := cellOf_int hi64 c0
  obtain ⟨u1, e1, c1⟩ := hall 1 cs[1] (Array.getElem?_eq_getElem (by omega))
  obtain rfl : tu64 = u1 := Option.some.inj e1
  obtain ⟨x1, y1, r1⟩ := cellOf_int hu64 c1
  obtain ⟨u2, e2, c2⟩ := hall 2 cs[2] (Array.getElem?_eq_getElem (by omega))
  obtain rfl : tu64 = u2 := Option.some.inj e2
  obtain ⟨x2, y2, r2⟩ := cellOf_int hu64 c2
  obtain ⟨u3, e3, c3⟩ := hall 3 cs[3] (Array.getElem?_eq_getElem (by omega))
  obtain rfl : tu64 = u3 := Option.some.inj e3
  obtain ⟨x3, y3, r3⟩ := cellOf_int hu64 c3
  obtain ⟨u4, e4, c4⟩ := hall 4 cs[4] (Array.getElem?_eq_getElem (by omega))
  obtain rfl : ti = u4 := Option.some.inj e4
  obtain ⟨x4, y4, r4⟩ := cellOf_int hi64 c4
  obtain ⟨u5, e5, c5⟩ := hall 5 cs[5] (Array.getElem?_eq_getElem (by omega))
  obtain rfl : tb = u5 := Option.some.inj e5
  obtain ⟨x5, y5⟩ := cellOf_bool hb c5
  obtain ⟨u6, e6, c6⟩ := hall 6 cs[6] (Array.getElem?_eq_getElem (by omega))
  obtain rfl : tb = u6 := Option.some.inj e6
  obtain ⟨x6, y6⟩ := cellOf_bool hb c6
  obtain ⟨u7, e7, c7⟩ := hall 7 cs[7] (Array.getElem?_eq_getElem (by omega))
  obtain rfl : tb = u7 := Option.some.inj e7
  obtain ⟨x7, y7⟩ := cellOf_bool hb c7
  obtain ⟨u8, e8, c8⟩ := hall 8 cs[8] (Array.getElem?_eq_getElem (by omega))
  obtain rfl : tb = u8 := Option.some.inj e8
  obtain ⟨x8, y8⟩ := cellOf_bool hb c8
  obtain ⟨u9, e9, c9⟩ := hall 9 cs[9] (Array.getElem?_eq_getElem (by omega))
  obtain rfl : tb = u9 := Option.some.inj e9
  obtain ⟨x9, y9⟩ := cellOf_bool hb c9
  obtain ⟨u10, e10, c10⟩ := hall 10 cs[10] (Array.getElem?_eq_getElem (by omega))
  obtain rfl : tb = u10 := Option.some.inj e10
  obtain ⟨x10, y10⟩ := cellOf_bool hb c10
  obtain ⟨u11, e11, c11⟩ := hall 11 cs[11] (Array.getElem?_eq_getElem (by omega))
  obtain rfl : ti = u11 := Option.some.inj e11
  obtain ⟨x11, y11, r11⟩ := cellOf_int hi64 c11
  obtain ⟨u12, e12, c12⟩ := hall 12 cs[12] (Array.getElem?_eq_getElem (by omega))
  obtain rfl : ti = u12 := Option.some.inj e12
  obtain ⟨x12, y12, r12⟩ := cellOf_int hi64 c12
  obtain ⟨u13, e13, c13⟩ := hall 13 cs[13] (Array.getElem?_eq_getElem (by omega))
  obtain rfl : ti = u13 := Option.some.inj e13
  obtain ⟨x13, y13, r13⟩ := cellOf_int hi64 c13
  obtain ⟨u14, e14, c14⟩ := hall 14 cs[14] (Array.getElem?_eq_getElem (by omega))
  obtain rfl : ti = u14 := Option.some.inj e14
  obtain ⟨x14, y14, r14⟩ := cellOf_int hi64 c14
  obtain ⟨u15, e15, c15⟩ := hall 15 cs[15] (Array.getElem?_eq_getElem (by omega))
  obtain rfl : ti = u15 := Option.some.inj e15
  obtain ⟨x15, y15, r15⟩ := cellOf_int hi64 c15
  refine ⟨x0, x1, x2, x3, x4, x5, x6, x7, x8, x9, x10, x11, x12, x13, x14, x15, ?_, has_i64 r0, has_u64 r1, has_u64 r2, has_u64 r3, has_i64 r4, has_i64 r11, has_i64 r12, has_i64 r13, has_i64 r14, has_i64 r15⟩
  congr 1
  apply Array.ext (by simpa using hs)
  intro i h1 h2
  have hi : i < 16 := by omega
  rcases (show i = 0 ∨ i = 1 ∨ i = 2 ∨ i = 3 ∨ i = 4 ∨ i = 5 ∨ i = 6 ∨ i = 7 ∨ i = 8 ∨ i = 9 ∨ i = 10 ∨ i = 11 ∨ i = 12 ∨ i = 13 ∨ i = 14 ∨ i = 15 by omega) with rfl | rfl | rfl | rfl | rfl | rfl | rfl | rfl | rfl | rfl | rfl | rfl | rfl | rfl | rfl | rfl
  · exact y0
  · exact y1
  · exact y2
  · exact y3
  · exact y4
  · exact y5
  · exact y6
  · exact y7
  · exact y8
  · exact y9
  · exact y10
  · exact y11
  · exact y12
  · exact y13
  · exact y14
  · exact y15
theorem open_bpdu {P : Program} {W : World} {r : Reach} {base : Nat} {v : Value} {ti tu64 tb t : TypeId} {d : TypeDesc} (hi64 : P.underlying ti = some (.int .i64)) (hu64 : P.underlying tu64 = some (.int .u64)) (hb : P.underlying tb = some .bool) (ht : P.underlying t = some d) (hd : (match d with | .struct _ | .array _ _ => true | _ => false) = true)
    (hts : P.cellTypes P.depth t = some [ti, tu64, tu64, tu64, ti, tb, tb, tb, tb, tb, tb, ti, ti, ti, ti, ti]) (hc : P.cellsOf t = 16) (h : Value.okWide P W r base t v) : ∃ b : Bp, v = .agg b.row ∧ b.wf := by
  obtain ⟨x0, x1, x2, x3, x4, x5, x6, x7, x8, x9, x10, x11, x12, x13, x14, x15, rfl, r0, r1, r2, r3, r4, r11, r12, r13, r14, r15⟩ := open_bpdu0 hi64 hu64 hb ht hd hts hc h
  exact ⟨⟨x0, x1, x2, x3, x4, x5, x6, x7, x8, x9, x10, x11, x12, x13, x14, x15⟩, rfl, ⟨r0, r1, r2, r3, r4, r11, r12, r13, r14, r15⟩⟩
end Go.Proofs.YtmakaadmjgakaaaDoor
