/-
  Rows of three numbers, as they came in. Conditions: those that each theorem names.
-/
import Derived.Test.YtiahiakllpjliaaOpnB
import Derived.Test.YtiahiakllpjliaaChecked
namespace Go.Proofs.Ytiahiakllpjliaa
open Go.RowKit Go.Deep Go.ChangeShapes Go.WideShapes Go.ChangeAt
set_option linter.unusedVariables false
set_option maxRecDepth 20000

structure Th where
  (a b c : Int)
@[reducible] def Th.zero : Th := ⟨0, 0, 0⟩
@[reducible] def fTh (x : Th) : List Value := [.int .i64 x.a, .int .i64 x.b, .int .i64 x.c]
def Th.in64 (n : Int) : Prop := -9223372036854775808 ≤ n ∧ n ≤ 9223372036854775807
def Th.wf (x : Th) : Prop := Th.in64 x.a ∧ Th.in64 x.b ∧ Th.in64 x.c
theorem thLen (x : Th) : (Try.prog.info? 84).map (·.size) = some (fTh x).length := by kernel_rfl
theorem thSize (x : Th) : (Try.prog.info? 84).map (·.size) = some (fTh x).toArray.size := by kernel_rfl
theorem th_all (x : Th) : (fTh x).toArray.all (·.oneCell') = true := by simp [Value.oneCell']
theorem cellsT_int : Try.prog.cellsOf 3 = 1 := by kernel_rfl
theorem cellsT_th : Try.prog.cellsOf 84 = 3 := by kernel_rfl
theorem th_of_trod {H : Type} {enc : TypeId × Value → H} {W : World} {base : Nat} {sp : Nat → Bool} {held : Bool} {fuel : Nat} {cs : List Value} {x : DataW H × List MemPlace} (hl : cs.length = 3)
    (h : DataW.trod enc Try.prog W base sp held fuel 84 cs = some x) : ∃ m : Th, cs = fTh m ∧ m.wf := by
  obtain ⟨xs, k, hk, hxy, _, hxl, hf⟩ := DataW.trod_array Try.underlying84 h
  match xs, hxl, cs, hl with
  | [y0, y1, y2], _, [v0, v1, v2], _ =>
    have g0 := hf 0 (by omega)
    have g1 := hf 1 (by omega)
    have g2 := hf 2 (by omega)
    simp [cellsT_int] at g0 g1 g2
    obtain ⟨k0, e0, _, w0⟩ := DataW.trod_int Try.underlying3 g0
    obtain ⟨k1, e1, _, w1⟩ := DataW.trod_int Try.underlying3 g1
    obtain ⟨k2, e2, _, w2⟩ := DataW.trod_int Try.underlying3 g2
    simp only [List.cons.injEq, and_true] at e0 e1 e2
    subst e0 e1 e2
    exact ⟨⟨k0, k1, k2⟩, rfl, bounds_i64 w0, bounds_i64 w1, bounds_i64 w2⟩
/-- Triples that came in. -/
def Ths (W : World) (a : Option Addr) (n : Nat) (ys : List Th) : Prop := RowsIn W a n fTh 3 Th.zero ys ∧ ∀ i, i < n → (ys.getD i Th.zero).wf
theorem threes_of_trod {H : Type} {enc : TypeId × Value → H} {W : World} {base : Nat} {held : Bool} {fuel : Nat} {a : Option Addr} {len cap : Nat} {x : DataW H × List MemPlace}
    (h : DataW.trod enc Try.prog W base (fun _ => true) held fuel 78 [.slice a len cap] = some x) : ∃ xs : List Th, Ths W a len xs ∧ len ≤ maxLen := by
  obtain ⟨ys, h1, h2, h3⟩ := rowsIn_of_trod (m := 3) Th.zero Try.underlying78 (by omega) cellsT_th (fun hl h => th_of_trod hl h) h
  exact ⟨ys, ⟨h1, h2⟩, h3⟩
theorem Ths.below {W W' : World} {a : Option Addr} {n : Nat} {ys : List Th} (h : Ths W a n ys) (hb : Below W.heap.size W W') : Ths W' a n ys := ⟨h.1.below hb (fun _ => by simp), h.2⟩
end Go.Proofs.Ytiahiakllpjliaa
