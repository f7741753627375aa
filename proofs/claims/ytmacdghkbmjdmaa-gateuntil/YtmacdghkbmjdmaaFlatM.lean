/-
  What came in as a meter's numbers.
-/
import Derived.Test.YtmacdghkbmjdmaaMr1
import Derived.OpenShut
namespace Go.Proofs.Ytmacdghkbmjdmaa
open Go.RowKit Go.ChangeShapes Go.WideShapes Go.ChangeAt
set_option linter.unusedVariables false

theorem cellOf_int {P : Program} {W : World} {r : Reach} {base : Nat} {t : TypeId} {k : IntKind} {v : Value} (ht : P.underlying t = some (.int k)) (h : Cell.okWide P W r base t v) : ∃ n, v = .int k n ∧ k.has n := by
  unfold Cell.okWide Cell.ok at h
  rw [ht] at h
  cases v with
  | int k' n => obtain ⟨rfl, hn⟩ := h; exact ⟨n, rfl, hn⟩
  | _ => exact h.elim
theorem cellOf_bool {P : Program} {W : World} {r : Reach} {base : Nat} {t : TypeId} {v : Value} (ht : P.underlying t = some .bool) (h : Cell.okWide P W r base t v) : ∃ b, v = .bool b := by
  unfold Cell.okWide Cell.ok at h
  rw [ht] at h
  cases v with
  | bool b => exact ⟨b, rfl⟩
  | _ => exact h.elim
theorem okWide_row {P : Program} {W : World} {r : Reach} {base : Nat} {t : TypeId} {v : Value} {ts : List TypeId} {d : TypeDesc} (ht : P.underlying t = some d) (hd : (match d with | .struct _ | .array _ _ => true | _ => false) = true) (hts : P.cellTypes P.depth t = some ts) (h : Value.okWide P W r base t v) :
    ∃ cs, v = .agg cs ∧ cs.size = P.cellsOf t ∧ ∀ i v, cs[i]? = some v → ∃ u, ts[i % ts.length]? = some u ∧ Cell.okWide P W r base u v := by
  unfold Value.okWide at h
  rw [ht] at h
  cases d with
  | struct fs => obtain ⟨cs, rfl, hs, ts', hts', _, hall⟩ := h; obtain rfl := Option.some.inj (hts.symm.trans hts'); exact ⟨cs, rfl, hs, hall⟩
  | array n e => obtain ⟨cs, rfl, hs, ts', hts', _, hall⟩ := h; obtain rfl := Option.some.inj (hts.symm.trans hts'); exact ⟨cs, rfl, hs, hall⟩
  | _ => simp at hd
theorem has_u8 {n : Int} (h : IntKind.u8.has n) : 0 ≤ n ∧ n ≤ 255 := by simpa [IntKind.has, IntKind.min, IntKind.max, IntKind.signed, IntKind.bits] using h
theorem has_i64 {n : Int} (h : IntKind.i64.has n) : -9223372036854775808 ≤ n ∧ n ≤ 9223372036854775807 := by simpa [IntKind.has, IntKind.min, IntKind.max, IntKind.signed, IntKind.bits] using h
theorem has_u64 {n : Int} (h : IntKind.u64.has n) : 0 ≤ n ∧ n ≤ 18446744073709551615 := by simpa [IntKind.has, IntKind.min, IntKind.max, IntKind.signed, IntKind.bits] using h
theorem open_cfg0 {P : Program} {W : World} {r : Reach} {base : Nat} {v : Value} {ti t : TypeId} {d : TypeDesc} (hi64 : P.underlying ti = some (.int .i64)) (ht : P.underlying t = some d) (hd : (match d with | .struct _ | .array _ _ => true | _ => false) = true) (hts : P.cellTypes P.depth t = some [ti, ti, ti, ti]) (hc : P.cellsOf t = 4) (h : Value.okWide P W r base t v) : ∃ (x0 : Int) (x1 : Int) (x2 : Int) (x3 : Int), v = .agg #[.int .i64 x0, .int .i64 x1, .int .i64 x2, .int .i64 x3] ∧ (-9223372036854775808 ≤ x0 ∧ x0 ≤ 9223372036854775807) ∧ (-9223372036854775808 ≤ x1 ∧ x1 ≤ 9223372036854775807) ∧ (-9223372036854775808 ≤ x2 ∧ x2 ≤ 9223372036854775807) ∧ (-9223372036854775808 ≤ x3 ∧ x3 ≤ 9223372036854775807) := by
  obtain ⟨cs, rfl, hs, hall⟩ := okWide_row ht hd hts h
  rw [hc] at hs
  obtain ⟨u0, e0, c0⟩ := hall 0 cs[0] (Array.getElem?_eq_getElem (by omega))
  obtain rfl : ti = u0 := Option.some.inj e0
  obtain ⟨x0, y0, r0⟩ := cellOf_int hi64 c0
  obtain ⟨u1, e1, c1⟩ := hall 1 cs[1] (Array.getElem?_eq_getElem (by omega))
  obtain rfl : ti = u1 := Option.some.inj e1
  obtain ⟨x1, y1, r1⟩ := cellOf_int hi64 c1
  obtain ⟨u2, e2, c2⟩ := hall 2 cs[2] (Array.getElem?_eq_getElem (by omega))
  obtain rfl : ti = u2 := Option.some.inj e2
  obtain ⟨x2, y2, r2⟩ := cellOf_int hi64 c2
  obtain ⟨u3, e3, c3⟩ := hall 3 cs[3] (Array.getElem?_eq_getElem (by omega))
  obtain rfl : ti = u3 := Option.some.inj e3
  obtain ⟨x3, y3, r3⟩ := cellOf_int hi64 c3
  refine ⟨x0, x1, x2, x3, ?_, has_i64 r0, has_i64 r1, has_i64 r2, has_i64 r3⟩
  congr 1
  apply Array.ext (by simpa using hs)
  intro i h1 h2
  have hi : i < 4 := by omega
  rcases (show i = 0 ∨ i = 1 ∨ i = 2 ∨ i = 3 by omega) with rfl | rfl | rfl | rfl
  · exact y0
  · exact y1
  · exact y2
  · exact y3
theorem open_cfg {P : Program} {W : World} {r : Reach} {base : Nat} {v : Value} {ti t : TypeId} {d : TypeDesc} (hi64 : P.underlying ti = some (.int .i64)) (ht : P.underlying t = some d) (hd : (match d with | .struct _ | .array _ _ => true | _ => false) = true)
    (hts : P.cellTypes P.depth t = some [ti, ti, ti, ti]) (hc : P.cellsOf t = 4) (h : Value.okWide P W r base t v) : ∃ c : Mc, v = .agg (fC c).toArray := by
  obtain ⟨x0, x1, x2, x3, rfl, _⟩ := open_cfg0 hi64 ht hd hts hc h
  exact ⟨⟨x0, x1, x2, x3⟩, rfl⟩
end Go.Proofs.Ytmacdghkbmjdmaa
