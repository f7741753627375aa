/-
  Contracts of relay: Name, whyNot, state, isOpen. Conditions: those that each theorem names.
-/
import Derived.Test.YtiahiakllpjliaaRl0
import Derived.Test.YtiahiakllpjliaaVlan6
namespace Go.Proofs.Ytiahiakllpjliaa
open Go.RowKit Go.Maps
set_option linter.unusedVariables false
set_option linter.unusedSimpArgs false
set_option maxRecDepth 20000

theorem whyNot_any (e : Int) (w : World) : Calls Try.prog 48 #[.int .i64 e] w fun r w' => r = .returned (.int .i64 (if e = 21 then 3 else 2)) ∧ w' = w := by
  by_cases h : e = 21
  · subst h
    go_enter Try.func48, Try.ntmps48
    go_wp2
    go_ret
    exact ⟨rfl, rfl⟩
  · rw [if_neg h]
    go_enter Try.func48, Try.ntmps48
    go_wp2
    go_ret
    exact ⟨rfl, rfl⟩
/-- A bridge's cells. -/
@[reducible] def brC (g t sb n : Nat) : Array Value := #[.pointer (some ⟨g, 0, none⟩), .pointer (some ⟨t, 0, none⟩), .slice (some ⟨sb, 0, none⟩) n n]
theorem brSize (g t sb n : Nat) : (Try.prog.info? 58).map (·.size) = some (brC g t sb n).size := by kernel_rfl
theorem br_all (g t sb n : Nat) : (brC g t sb n).all (·.oneCell') = true := by simp [Value.oneCell']
def stRow (sts : List Int) : Array Value := (sts.map (Value.int .i64)).toArray
def stateN (sts : List Int) (p : Int) : Int := if 0 ≤ p ∧ p < sts.length then sts.getD p.toNat 0 else 0
theorem st_cell {w : World} {sb : Nat} {sts : List Int} (h : w.heap[sb]? = some (.cells (stRow sts) 3 (0, 0))) (k : Nat) (hk : k < sts.length) : w.cell? ⟨sb, k, none⟩ = some (.int .i64 (sts.getD k 0)) := by
  rw [cell_of_row _ _ _ _ _ _ h]
  simp [stRow, List.getD, hk]
theorem state_any (g t sb : Nat) (sts : List Int) (p : Int) (w : World) (h : w.heap[sb]? = some (.cells (stRow sts) 3 (0, 0))) (hl : sts.length ≤ 1000) :
    Calls Try.prog 49 #[.agg (brC g t sb sts.length), .int .i64 p] w fun r w' => r = .returned (.int .i64 (stateN sts p)) ∧ Below w.heap.size w w' := by
  have hb := hide (below1 w (.cells (brC g t sb sts.length) 58))
  have h2 : (w.alloc (.cells (brC g t sb sts.length) 58)).cell? ⟨w.heap.size, 2, none⟩ = some (.slice (some ⟨sb, 0, none⟩) sts.length sts.length) := (cell_of_row _ _ _ _ _ _ (heap_alloc_new w _)).trans rfl
  have hst := hide (fun k hk => st_cell (heap_kept (below1 w (.cells (brC g t sb sts.length) 58)) h) k hk)
  clear h
  unfold stateN
  by_cases c1 : 0 ≤ p
  · by_cases c2 : p < sts.length
    · rw [if_pos ⟨c1, c2⟩]
      obtain ⟨k, rfl⟩ := Int.eq_ofNat_of_zero_le c1
      have hk : k < sts.length := by omega
      have hck := hst.out k hk
      rw [Int.toNat_natCast]
      generalize sts.getD k 0 = z at *
      generalize sts.length = n at *
      have hd1 : decide ((n : Int) ≤ (k : Int)) = false := decide_eq_false (by omega)
      go_enter Try.func49, Try.ntmps49
      go_wp2
      go_ret
      exact ⟨rfl, hb.out⟩
    · rw [if_neg (fun e => c2 e.2)]
      generalize sts.length = n at *
      have hd1 : decide ((n : Int) ≤ p) = true := decide_eq_true (by omega)
      go_enter Try.func49, Try.ntmps49
      go_wp2
      go_ret
      exact ⟨rfl, hb.out⟩
  · rw [if_neg (fun e => c1 e.1)]
    generalize sts.length = n at *
    go_enter Try.func49, Try.ntmps49
    go_wp2
    go_ret
    exact ⟨rfl, hb.out⟩
/-- What a relay only reads. -/
structure Br (w : World) (g pb mb sb : Nat) (ps : List Pv) (f : Int → Option (Int × Int)) (c : Nat) (sts : List Int) : Prop where
  vt : Vt w g pb mb ps f c
  st : w.heap[sb]? = some (.cells (stRow sts) 3 (0, 0))
  few : sts.length ≤ 1000
theorem Br.below {w w' : World} {g pb mb sb : Nat} {ps : List Pv} {f : Int → Option (Int × Int)} {c : Nat} {sts : List Int} (h : Br w g pb mb sb ps f c sts) (hb : Below w.heap.size w w') : Br w' g pb mb sb ps f c sts := ⟨h.vt.below hb, heap_kept hb h.st, h.few⟩
def opnB (ps : List Pv) (f : Int → Option (Int × Int)) (sts : List Int) (v p : Int) : Bool := (hasP ps.length p && bitAt (memN f v) p) && (stateN sts p == 2)
theorem isOpen_any {w : World} {g pb mb sb : Nat} {ps : List Pv} {f : Int → Option (Int × Int)} {c : Nat} {sts : List Int} (h : Br w g pb mb sb ps f c sts) (t : Nat) (v p : Int) (hv : I64 v) :
    Calls Try.prog 69 #[.agg (brC g t sb sts.length), .int .i64 v, .int .i64 p] w fun r w' => r = .returned (.bool (opnB ps f sts v p)) ∧ Below w.heap.size w w' := by
  have hb := hide (below1 w (.cells (brC g t sb sts.length) 58))
  have hr := hide (heap_alloc_new w (.cells (brC g t sb sts.length) 58))
  have h0 : (w.alloc (.cells (brC g t sb sts.length) 58)).cell? ⟨w.heap.size, 0, none⟩ = some (.pointer (some ⟨g, 0, none⟩)) := (cell_of_row _ _ _ _ _ _ hr.out).trans rfl
  have hM := hide (Member_any (h.below hb.out).vt v p hv)
  have hS := hide (state_any g t sb sts p _ (h.below hb.out).st h.few)
  have hsz := brSize g t sb sts.length
  unfold opnB
  generalize (hasP ps.length p && bitAt (memN f v) p) = d at *
  generalize stateN sts p = s at *
  generalize brC g t sb sts.length = C at *
  clear h hv
  cases d
  · clear hS
    go_enter Try.func69, Try.ntmps69
    go_wp2_with fail
    refine hM.out.mono ?_
    rintro _ w1 ⟨rfl, rfl⟩
    go_wp2
    go_ret
    exact ⟨rfl, hb.out⟩
  · go_enter Try.func69, Try.ntmps69
    go_wp2_with fail
    refine hM.out.mono ?_
    rintro _ w1 ⟨rfl, rfl⟩
    go_wp2_with ((with_reducible change wpList _ _ _ _ _ _); refine wpList_load_row_on rfl 58 (.tmp 3) rfl w.heap.size rfl 58 _ _ _ hr.out Try.underlying58 rfl hsz ?_)
    refine hS.out.mono ?_
    rintro _ w2 ⟨rfl, hb2⟩
    go_wp2
    go_ret
    exact ⟨by simp, hb.out.later hb2⟩
end Go.Proofs.Ytiahiakllpjliaa
