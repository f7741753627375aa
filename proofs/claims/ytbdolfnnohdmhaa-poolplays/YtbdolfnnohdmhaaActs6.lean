/-
  The acts of PoolPlays that came in: two numbers and some bytes each. Conditions: those that each theorem names.
-/
import Derived.Test.YtbdolfnnohdmhaaThree
import Derived.Test.YtbdolfnnohdmhaaKeeps
namespace Go.Proofs.Ytbdolfnnohdmhaa
open Go.RowKit Go.Deep Go.ChangeShapes Go.WideShapes Go.ChangeAt

/-- Something that is done with a pool. -/
structure Ac where
  (kind id : Int) (v : Value) (l : List Int)
instance : Inhabited Ac := ⟨⟨0, 0, .slice .none 0 0, []⟩⟩
@[reducible] def Ac.none : Ac := ⟨0, 0, .slice .none 0 0, []⟩
/-- A row of acts in memory. -/
def Acs (w : World) (a : Option Addr) (n : Nat) (xs : List Ac) : Prop := ∀ i, i < n → ∃ b off, a = some ⟨b, off, none⟩ ∧ w.cell? ⟨b, off + i * 3, none⟩ = some (.int .i64 (xs.getD i Ac.none).kind) ∧ w.cell? ⟨b, off + (i * 3 + 1), none⟩ = some (.int .i64 (xs.getD i Ac.none).id) ∧
  w.cell? ⟨b, off + (i * 3 + 2), none⟩ = some (xs.getD i Ac.none).v ∧ Bs w (xs.getD i Ac.none).v (xs.getD i Ac.none).l ∧ -9223372036854775808 ≤ (xs.getD i Ac.none).id ∧ (xs.getD i Ac.none).id ≤ 9223372036854775807
theorem Try.cellsAct : Try.prog.cellsOf 44 = 3 := by kernel_rfl
theorem Try.cellsInt6 : Try.prog.cellsOf 3 = 1 := by kernel_rfl
theorem Try.cellsBytes6 : Try.prog.cellsOf 42 = 1 := by kernel_rfl
theorem acts_of_trod {H : Type} {enc : TypeId × Value → H} {W : World} {base : Nat} {held : Bool} {fuel : Nat} {a : Option Addr} {len cap : Nat} {x : DataW H × List MemPlace}
    (h : DataW.trod enc Try.prog W base (fun _ => true) held fuel 36 [.slice a len cap] = some x) : ∃ xs : List Ac, Acs W a len xs ∧ xs.length = len ∧ len ≤ maxLen := by
  rcases open_slice_three Try.underlying36 Try.underlying44 Try.cellsAct rfl rfl rfl Try.cellsInt6 Try.cellsInt6 Try.cellsBytes6 h with hcs | ⟨ad, l, c, hcs, hlc, hcm, hel⟩
  · simp at hcs
    obtain ⟨rfl, rfl, rfl⟩ := hcs
    exact ⟨[], fun i hi => by omega, rfl, Nat.zero_le _⟩
  · simp at hcs
    obtain ⟨rfl, rfl, rfl⟩ := hcs
    have key : ∀ i, i < len → ∃ p : Ac, W.cell? (ad.add (i * 3)) = some (.int .i64 p.kind) ∧ W.cell? (ad.add (i * 3 + 1)) = some (.int .i64 p.id) ∧ W.cell? (ad.add (i * 3 + 2)) = some p.v ∧ Bs W p.v p.l ∧ -9223372036854775808 ≤ p.id ∧ p.id ≤ 9223372036854775807 := by
      intro i hi
      obtain ⟨n, v0, v1, v2, x0, x1, x2, h0, h1, h2, t0, t1, t2⟩ := hel i hi
      obtain ⟨k, e0, _, w0⟩ := DataW.trod_int Try.underlying3 t0
      obtain ⟨d, e1, _, w1⟩ := DataW.trod_int Try.underlying3 t1
      simp only [List.cons.injEq, and_true] at e0 e1
      subst e0 e1
      have hb := bounds_i64 w1
      rcases open_ints Try.underlying42 Try.underlying5 (by kernel_rfl) t2 with ⟨hcs, _⟩ | ⟨y, l', c', zs, hcs, _, hl, hm, hz, _, hcell, hwz⟩
      · simp only [List.cons.injEq, and_true] at hcs
        subst hcs
        exact ⟨⟨k, d, _, []⟩, h0, h1, h2, Bs.nil W, hb.1, hb.2⟩
      · simp only [List.cons.injEq, and_true] at hcs
        subst hcs
        have hB := bs_of_row (w := W) (a := some y) (len := l') (cap := c') (zs := zs) (.inr ⟨y, rfl, hl, hm, by simpa using hz, hcell, hwz⟩)
        exact ⟨⟨k, d, _, zs.take l'⟩, h0, h1, h2, hB.1, hb.1, hb.2⟩
    obtain ⟨f, hf⟩ := choose_lt key
    refine ⟨(List.range len).map f, fun i hi => ?_, by simp, by omega⟩
    have hg : ((List.range len).map f).getD i Ac.none = f i := by simp [hi]
    rw [hg]
    obtain ⟨h0, h1, h2, h3⟩ := hf i hi
    obtain ⟨b, off, spot⟩ := ad
    have hspot : spot = none := by
      have h00 := (hf 0 (by omega)).1
      simpa [Addr.add] using World.cell?_spot h00
    subst hspot
    rw [Go.WideShapes.add_plain] at h0 h1 h2
    exact ⟨b, off, rfl, h0, h1, h2, h3⟩
end Go.Proofs.Ytbdolfnnohdmhaa
