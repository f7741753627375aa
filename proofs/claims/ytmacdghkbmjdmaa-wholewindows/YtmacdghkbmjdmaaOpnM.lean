/-
  Rows of two numbers, as they came in. Conditions: those that each theorem names.
-/
import Derived.Test.YtmacdghkbmjdmaaOpnB
import Derived.Test.YtmacdghkbmjdmaaChecked
namespace Go.Proofs.Ytmacdghkbmjdmaa
open Go.RowKit Go.Deep Go.ChangeShapes Go.WideShapes Go.ChangeAt
set_option linter.unusedVariables false
set_option maxRecDepth 20000

structure Pq where
  (a b : Int)
@[reducible] def Pq.zero : Pq := ⟨0, 0⟩
@[reducible] def fPq (x : Pq) : List Value := [.int .i64 x.a, .int .i64 x.b]
def Pq.in64 (n : Int) : Prop := -9223372036854775808 ≤ n ∧ n ≤ 9223372036854775807
def Pq.wf (x : Pq) : Prop := Pq.in64 x.a ∧ Pq.in64 x.b
theorem pqLen (x : Pq) : (Try.prog.info? 34).map (·.size) = some (fPq x).length := by kernel_rfl
theorem pqSize (x : Pq) : (Try.prog.info? 34).map (·.size) = some (fPq x).toArray.size := by kernel_rfl
theorem pq_all (x : Pq) : (fPq x).toArray.all (·.oneCell') = true := by simp [Value.oneCell']
theorem cellsP_int : Try.prog.cellsOf 2 = 1 := by kernel_rfl
theorem cellsP_pq : Try.prog.cellsOf 34 = 2 := by kernel_rfl
theorem pr_of_trod {H : Type} {enc : TypeId × Value → H} {W : World} {base : Nat} {sp : Nat → Bool} {held : Bool} {fuel : Nat} {cs : List Value} {x : DataW H × List MemPlace} (hl : cs.length = 2)
    (h : DataW.trod enc Try.prog W base sp held fuel 34 cs = some x) : ∃ m : Pq, cs = fPq m ∧ m.wf := by
  obtain ⟨xs, k, hk, hxy, _, hxl, hf⟩ := DataW.trod_array Try.underlying34 h
  match xs, hxl, cs, hl with
  | [y0, y1], _, [v0, v1], _ =>
    have g0 := hf 0 (by omega)
    have g1 := hf 1 (by omega)
    simp [cellsP_int] at g0 g1
    obtain ⟨k0, e0, _, w0⟩ := DataW.trod_int Try.underlying2 g0
    obtain ⟨k1, e1, _, w1⟩ := DataW.trod_int Try.underlying2 g1
    simp only [List.cons.injEq, and_true] at e0 e1
    subst e0 e1
    exact ⟨⟨k0, k1⟩, rfl, bounds_i64 w0, bounds_i64 w1⟩
/-- Pairs that came in. -/
def Prs (W : World) (a : Option Addr) (n : Nat) (ys : List Pq) : Prop := RowsIn W a n fPq 2 Pq.zero ys ∧ ∀ i, i < n → (ys.getD i Pq.zero).wf
theorem pairs_of_trod {H : Type} {enc : TypeId × Value → H} {W : World} {base : Nat} {held : Bool} {fuel : Nat} {a : Option Addr} {len cap : Nat} {x : DataW H × List MemPlace}
    (h : DataW.trod enc Try.prog W base (fun _ => true) held fuel 24 [.slice a len cap] = some x) : ∃ xs : List Pq, Prs W a len xs ∧ len ≤ maxLen := by
  obtain ⟨ys, h1, h2, h3⟩ := rowsIn_of_trod (m := 2) Pq.zero Try.underlying24 (by omega) cellsP_pq (fun hl h => pr_of_trod hl h) h
  exact ⟨ys, ⟨h1, h2⟩, h3⟩
theorem Prs.below {W W' : World} {a : Option Addr} {n : Nat} {ys : List Pq} (h : Prs W a n ys) (hb : Below W.heap.size W W') : Prs W' a n ys := ⟨h.1.below hb (fun _ => by simp), h.2⟩
end Go.Proofs.Ytmacdghkbmjdmaa
