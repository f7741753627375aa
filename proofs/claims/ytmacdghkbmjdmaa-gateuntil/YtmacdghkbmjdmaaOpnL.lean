/-
  What came in as a gate's list. Conditions: those that each theorem names.
-/
import Derived.Test.YtmacdghkbmjdmaaGt1
import Derived.Test.YtmacdghkbmjdmaaFlatM
namespace Go.Proofs.Ytmacdghkbmjdmaa
open Go.RowKit Go.Deep Go.ChangeShapes Go.WideShapes Go.ChangeAt
set_option linter.unusedVariables false
set_option maxRecDepth 20000

theorem cellsL_int : Try.prog.cellsOf 3 = 1 := by kernel_rfl
theorem cellsL_i64 : Try.prog.cellsOf 2 = 1 := by kernel_rfl
theorem cellsL_sl : Try.prog.cellsOf 45 = 1 := by kernel_rfl
theorem cellsL_en : Try.prog.cellsOf 52 = 2 := by kernel_rfl
theorem cellOf_slice {P : Program} {W : World} {r : Reach} {base : Nat} {t e : TypeId} {v : Value} (ht : P.underlying t = some (.slice e)) (h : Cell.okWide P W r base t v) : ∃ a n c, v = .slice a n c := by
  unfold Cell.okWide Cell.ok at h
  rw [ht] at h
  cases v with
  | slice a n c => exact ⟨a, n, c, rfl⟩
  | _ => exact h.elim
theorem open_list0 {P : Program} {W : World} {r : Reach} {base : Nat} {v : Value} {ti ts t e : TypeId} {d : TypeDesc} (hi64 : P.underlying ti = some (.int .i64)) (hs : P.underlying ts = some (.slice e)) (ht : P.underlying t = some d) (hd : (match d with | .struct _ | .array _ _ => true | _ => false) = true)
    (hts : P.cellTypes P.depth t = some [ti, ti, ti, ts]) (hc : P.cellsOf t = 4) (h : Value.okWide P W r base t v) : ∃ (x0 x1 x2 : Int) (a : Option Addr) (n c : Nat), v = .agg #[.int .i64 x0, .int .i64 x1, .int .i64 x2, .slice a n c] ∧ (-9223372036854775808 ≤ x0 ∧ x0 ≤ 9223372036854775807) ∧ (-9223372036854775808 ≤ x1 ∧ x1 ≤ 9223372036854775807) ∧ (-9223372036854775808 ≤ x2 ∧ x2 ≤ 9223372036854775807) := by
  obtain ⟨cs, rfl, hsz, hall⟩ := okWide_row ht hd hts h
  rw [hc] at hsz
  obtain ⟨u0, e0, c0⟩ := hall 0 cs[0] (Array.getElem?_eq_getElem (by omega))
  obtain rfl : ti = u0 := Option.some.inj e0
  obtain ⟨x0, y0, r0⟩ := cellOf_int hi64 c0
  obtain ⟨u1, e1, c1⟩ := hall 1 cs[1] (Array.getElem?_eq_getElem (by omega))
  obtain rfl : ti = u1 := Option.some.inj e1
  obtain ⟨x1, y1, r1⟩ := cellOf_int hi64 c1
  obtain ⟨u2, e2, c2⟩ := hall 2 cs[2] (Array.getElem?_eq_getElem (by omega))
  obtain rfl : ti = u2 := Option.some.inj e2
  obtain ⟨x2, y2, r2⟩ := cellOf_int hi64 c2
  obtain ⟨u3, e3, c3⟩ := hall 3 cs[3] (Array.getElem?_eq_getElem (by omega))
  obtain rfl : ts = u3 := Option.some.inj e3
  obtain ⟨a, n, c, y3⟩ := cellOf_slice hs c3
  refine ⟨x0, x1, x2, a, n, c, ?_, has_i64 r0, has_i64 r1, has_i64 r2⟩
  congr 1
  apply Array.ext (by simpa using hsz)
  intro i h1 h2
  have hi : i < 4 := by omega
  rcases (show i = 0 ∨ i = 1 ∨ i = 2 ∨ i = 3 by omega) with rfl | rfl | rfl | rfl
  · exact y0
  · exact y1
  · exact y2
  · exact y3
theorem en_of_trod {H : Type} {enc : TypeId × Value → H} {W : World} {base : Nat} {sp : Nat → Bool} {held : Bool} {fuel : Nat} {cs : List Value} {x : DataW H × List MemPlace} (hl : cs.length = 2)
    (h : DataW.trod enc Try.prog W base sp held fuel 52 cs = some x) : ∃ m : En, cs = fEn m ∧ True := by
  obtain ⟨xs, k, hk, hxy, _, hxl, hf⟩ := DataW.trod_struct Try.underlying52 h
  match xs, hxl, cs, hl with
  | [y0, y1], _, [v0, v1], _ =>
    have g0 := hf 0 _ rfl
    have g1 := hf 1 _ rfl
    simp [cellsL_int, cellsL_i64] at g0 g1
    obtain ⟨k0, e0, _, w0⟩ := DataW.trod_int Try.underlying3 g0
    obtain ⟨k1, e1, _, w1⟩ := DataW.trod_int Try.underlying2 g1
    simp only [List.cons.injEq, and_true] at e0 e1
    subst e0 e1
    exact ⟨⟨k0, k1⟩, rfl, trivial⟩
theorem list_of_trod {H : Type} {enc : TypeId × Value → H} {W : World} {r : Reach} {base base' : Nat} {held : Bool} {fuel : Nat} {v : Value} {x : DataW H × List MemPlace}
    (hv : Value.okWide Try.prog W r base' 47 v) (h : DataW.trod enc Try.prog W base (fun _ => true) held fuel 47 v.cells.toList = some x) :
    ∃ (L : Ls) (a : Option Addr) (cap : Nat), v = .agg (lRow L a L.es.length cap) ∧ Ent W a L.es ∧ L.es.length ≤ maxLen ∧ (-9223372036854775808 ≤ L.base ∧ L.base ≤ 9223372036854775807) ∧ (-9223372036854775808 ≤ L.cyc ∧ L.cyc ≤ 9223372036854775807) ∧ (-9223372036854775808 ≤ L.ext ∧ L.ext ≤ 9223372036854775807) := by
  obtain ⟨x0, x1, x2, a, n, c, rfl, w0, w1, w2⟩ := open_list0 Try.underlying2 Try.underlying45 Try.underlying47 rfl (by kernel_rfl) (by kernel_rfl) hv
  obtain ⟨xs, k, hk, hxy, _, hxl, hf⟩ := DataW.trod_struct Try.underlying47 h
  have g3 := hf 3 _ rfl
  have h4 : xs.length = 4 := hxl
  simp [cellsL_sl, Value.cells] at g3
  rw [List.getElem?_eq_getElem (show 3 < xs.length by omega)] at g3
  obtain ⟨es, h1, _, h3⟩ := rowsIn_of_trod (m := 2) En.zero Try.underlying45 (by omega) cellsL_en (fun hl h => en_of_trod hl h) g3
  have hn := h1.len
  subst hn
  exact ⟨⟨x0, x1, x2, es⟩, a, c, rfl, h1, h3, w0, w1, w2⟩
end Go.Proofs.Ytmacdghkbmjdmaa
