/-
  The acts of layer 12's statements, as they came in. Conditions: those that each theorem names.
-/
import Derived.Test.YtiahiakllpjliaaOpnB
import Derived.Test.YtiahiakllpjliaaFdb1
namespace Go.Proofs.Ytiahiakllpjliaa
open Go.RowKit Go.Maps Go.Deep Go.ChangeShapes Go.WideShapes Go.ChangeAt
set_option linter.unusedVariables false
set_option maxRecDepth 20000

structure Fa where
  (kind vid port : Int) (m : M6) (later : Int)
@[reducible] def Fa.zero : Fa := ⟨0, 0, 0, ⟨0, 0, 0, 0, 0, 0⟩, 0⟩
@[reducible] def fFa (x : Fa) : List Value := [.int .i64 x.kind, .int .i64 x.vid, .int .i64 x.port, .int .u8 x.m.a, .int .u8 x.m.b, .int .u8 x.m.c, .int .u8 x.m.d, .int .u8 x.m.e, .int .u8 x.m.f, .int .i64 x.later]
structure Fa.wf (x : Fa) : Prop where
  kind : I64 x.kind
  vid : I64 x.vid
  port : I64 x.port
  m : x.m.wf
  later : I64 x.later
theorem faLen (x : Fa) : (Try.prog.info? 30).map (·.size) = some (fFa x).length := by kernel_rfl
theorem faSize (x : Fa) : (Try.prog.info? 30).map (·.size) = some (fFa x).toArray.size := by kernel_rfl
theorem fa_all (x : Fa) : (fFa x).toArray.all (·.oneCell') = true := by simp [Value.oneCell']
theorem cellsF_int : Try.prog.cellsOf 3 = 1 := by kernel_rfl
theorem cellsF_i64 : Try.prog.cellsOf 2 = 1 := by kernel_rfl
theorem cellsF_fa : Try.prog.cellsOf 30 = 10 := by kernel_rfl
theorem m6_of_trod {H : Type} {enc : TypeId × Value → H} {W : World} {base : Nat} {sp : Nat → Bool} {held : Bool} {fuel : Nat} {cs : List Value} {x : DataW H × List MemPlace} (hl : cs.length = 6)
    (h : DataW.trod enc Try.prog W base sp held fuel 28 cs = some x) : ∃ m : M6, cs = m.row.toList ∧ m.wf := by
  obtain ⟨xs, k, hk, hxy, _, hxl, hf⟩ := DataW.trod_array Try.underlying28 h
  match xs, hxl, cs, hl with
  | [y0, y1, y2, y3, y4, y5], _, [v0, v1, v2, v3, v4, v5], _ =>
    have g0 := hf 0 (by omega)
    have g1 := hf 1 (by omega)
    have g2 := hf 2 (by omega)
    have g3 := hf 3 (by omega)
    have g4 := hf 4 (by omega)
    have g5 := hf 5 (by omega)
    simp [cells6_u8] at g0 g1 g2 g3 g4 g5
    obtain ⟨k0, e0, _, w0⟩ := DataW.trod_int Try.underlying5 g0
    obtain ⟨k1, e1, _, w1⟩ := DataW.trod_int Try.underlying5 g1
    obtain ⟨k2, e2, _, w2⟩ := DataW.trod_int Try.underlying5 g2
    obtain ⟨k3, e3, _, w3⟩ := DataW.trod_int Try.underlying5 g3
    obtain ⟨k4, e4, _, w4⟩ := DataW.trod_int Try.underlying5 g4
    obtain ⟨k5, e5, _, w5⟩ := DataW.trod_int Try.underlying5 g5
    simp only [List.cons.injEq, and_true] at e0 e1 e2 e3 e4 e5
    subst e0 e1 e2 e3 e4 e5
    exact ⟨⟨k0, k1, k2, k3, k4, k5⟩, rfl, bounds_u8 w0, bounds_u8 w1, bounds_u8 w2, bounds_u8 w3, bounds_u8 w4, bounds_u8 w5⟩
theorem fa_of_trod {H : Type} {enc : TypeId × Value → H} {W : World} {base : Nat} {sp : Nat → Bool} {held : Bool} {fuel : Nat} {cs : List Value} {x : DataW H × List MemPlace} (hl : cs.length = 10)
    (h : DataW.trod enc Try.prog W base sp held fuel 30 cs = some x) : ∃ p : Fa, cs = fFa p ∧ p.wf := by
  obtain ⟨xs, k, hk, hxy, _, hxl, hf⟩ := DataW.trod_struct Try.underlying30 h
  match xs, hxl, cs, hl with
  | [y0, y1, y2, y3, y4], _, [v0, v1, v2, v3, v4, v5, v6, v7, v8, v9], _ =>
    have g0 := hf 0 _ rfl
    have g1 := hf 1 _ rfl
    have g2 := hf 2 _ rfl
    have g3 := hf 3 _ rfl
    have g4 := hf 4 _ rfl
    simp [cellsF_int, cells6_mac, cellsF_i64] at g0 g1 g2 g3 g4
    obtain ⟨k0, e0, _, w0⟩ := DataW.trod_int Try.underlying3 g0
    obtain ⟨k1, e1, _, w1⟩ := DataW.trod_int Try.underlying3 g1
    obtain ⟨k2, e2, _, w2⟩ := DataW.trod_int Try.underlying3 g2
    obtain ⟨m, e3, hm⟩ := m6_of_trod rfl g3
    obtain ⟨k4, e4, _, w4⟩ := DataW.trod_int Try.underlying2 g4
    simp only [List.cons.injEq, and_true] at e0 e1 e2 e3 e4
    obtain ⟨rfl, rfl, rfl, rfl, rfl, rfl⟩ := e3
    subst e0 e1 e2 e4
    exact ⟨⟨k0, k1, k2, m, k4⟩, rfl, ⟨bounds_i64 w0, bounds_i64 w1, bounds_i64 w2, hm, bounds_i64 w4⟩⟩
/-- Acts that came in. -/
def Fas (W : World) (a : Option Addr) (n : Nat) (ys : List Fa) : Prop := RowsIn W a n fFa 10 Fa.zero ys ∧ ∀ i, i < n → (ys.getD i Fa.zero).wf
theorem fas_of_trod {H : Type} {enc : TypeId × Value → H} {W : World} {base : Nat} {held : Bool} {fuel : Nat} {a : Option Addr} {len cap : Nat} {x : DataW H × List MemPlace}
    (h : DataW.trod enc Try.prog W base (fun _ => true) held fuel 22 [.slice a len cap] = some x) : ∃ xs : List Fa, Fas W a len xs ∧ len ≤ maxLen := by
  obtain ⟨ys, h1, h2, h3⟩ := rowsIn_of_trod (m := 10) Fa.zero Try.underlying22 (by omega) cellsF_fa (fun hl h => fa_of_trod hl h) h
  exact ⟨ys, ⟨h1, h2⟩, h3⟩
theorem Fas.below {W W' : World} {a : Option Addr} {n : Nat} {ys : List Fa} (h : Fas W a n ys) (hb : Below W.heap.size W W') : Fas W' a n ys := ⟨h.1.below hb (fun _ => by simp), h.2⟩
end Go.Proofs.Ytiahiakllpjliaa
