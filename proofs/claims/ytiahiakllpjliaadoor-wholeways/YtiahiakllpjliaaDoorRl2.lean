
/-
  The open ports, one by one: relay's open and the function that it makes. Conditions: those that each theorem names.
-/
import Derived.Test.YtiahiakllpjliaaDoorRl0
import Derived.RangeFuncNested
import Derived.RangeFuncBound
import Derived.RangeFuncCalls
import Derived.RangeFuncLeaves
import Derived.RangeFuncBox
import Derived.Shelf.Abstract
import Derived.Shelf.RegionOpen
import Derived.WalkKit
import Derived.OwnWalkIn
import Derived.TacticsInMore
import Derived.LoopNIn
import Derived.LoopIn
import Derived.Maps.AppendAt
namespace Go.Proofs.YtiahiakllpjliaaDoor
open Go.RowKit Go.Maps Go.Shelf
set_option linter.unusedVariables false
set_option linter.unusedSimpArgs false
set_option maxRecDepth 20000

attribute [local go_sem] Oper.semAt_some

theorem open_any (C : Array Value) (hC : (Tryd.prog.info? 35).map (·.size) = some C.size) (v : Int) (w : World) : Calls Tryd.prog 77 #[.agg C, .int .i64 v] w fun r w' => r = .returned (.func (.func 82) #[] #[.pointer (some ⟨w.heap.size, 0, none⟩), .pointer (some ⟨w.heap.size + 1, 0, none⟩)]) ∧ w' = (w.alloc (.cells C 35)).alloc (.cells #[.int .i64 v] 3) := by
  go_enter Tryd.func77, Tryd.ntmps77
  go_wp2
  go_ret
  exact ⟨rfl, rfl⟩
/-- What a round keeps: what lies below s, and the two boxes of the function. -/
def KpQ (s q1 q2 : Nat) (W W' : World) : Prop := Below s W W' ∧ W'.heap[q1]? = W.heap[q1]? ∧ W'.heap[q2]? = W.heap[q2]?
theorem KpQ.refl (s q1 q2 : Nat) (W : World) : KpQ s q1 q2 W W := ⟨Below.refl _ _, rfl, rfl⟩
theorem KpQ.trans {s q1 q2 : Nat} {A B C : World} (h : KpQ s q1 q2 A B) (h' : KpQ s q1 q2 B C) : KpQ s q1 q2 A C := ⟨h.1.trans h'.1, h'.2.1.trans h.2.1, h'.2.2.trans h.2.2⟩
theorem KpQ.put {s q1 q2 : Nat} {w : World} (hs : s ≤ w.heap.size) (h1 : q1 < w.heap.size) (h2 : q2 < w.heap.size) (W : World) (l : Nat) (o o' : Obj) (hl : w.heap.size ≤ l) (h : W.heap[l]? = some o) (hc : o.isCells = false) (hw : o.isWalk = false) : KpQ s q1 q2 W (W.putObj l o') := by
  have hb := belowK_b (n₀ := w.heap.size) (Nat.le_refl _) W l o o' hl h hc hw
  exact ⟨hb.mono hs, hb.block _ h1, hb.block _ h2⟩
theorem KpQ.later {s q1 q2 : Nat} {A B C : World} (h : KpQ s q1 q2 A B) (hb : Below B.heap.size B C) (hs : s ≤ B.heap.size) (h1 : q1 < B.heap.size) (h2 : q2 < B.heap.size) : KpQ s q1 q2 A C := h.trans ⟨hb.mono hs, hb.block _ h1, hb.block _ h2⟩
theorem Br.kept {w w' : World} {g pb mb sb : Nat} {ps : List Pv} {f : Int → Option (Int × Int)} {c : Nat} {sts : List Int} {s q1 q2 : Nat} (h : Br w g pb mb sb ps f c sts) (hk : KpQ s q1 q2 w w') (hs : g < s ∧ pb < s ∧ mb < s ∧ sb < s) : Br w' g pb mb sb ps f c sts :=
  ⟨h.vt.blk fun k hk' => hk.1.block k (by rcases hk' with rfl | rfl | rfl <;> omega), (hk.1.block sb hs.2.2.2).trans h.st, h.few⟩
/-- The open ports below k. -/
def opL (p : Int → Bool) (k : Nat) : List Int := ((List.range k).map (fun i : Nat => (i : Int))).filter p
theorem opL_succ (p : Int → Bool) (k : Nat) : opL p (k + 1) = opL p k ++ (if p k then [(k : Int)] else []) := by
  unfold opL
  rw [List.range_succ, List.map_append, List.filter_append]
  simp [List.filter_cons]
theorem opL_len (p : Int → Bool) (k : Nat) : (opL p k).length ≤ k := Nat.le_trans (List.length_filter_le _ _) (by simp)
theorem abides_below {β : Type} {B : Nat} {J : β → World → Prop} (h : AbidesFrom B J) {s : β} {W W' : World} (hj : J s W) (hb : Below W.heap.size W W') : J s W' :=
  h s W W' none hj ⟨hb.os, hb.tape, hb.output, hb.size, fun k hk _ => hb.block k hk⟩ (fun r e => by cases e)
set_option maxHeartbeats 4000000 in
theorem open1_in (n : Nat) (hn : 1 ≤ n) (l q1 q2 s g pb mb sb t : Nat) (ps : List Pv) (f : Int → Option (Int × Int)) (c : Nat) (sts : List Int) (v : Int) (hv : I64G v) (hs : Hid (g < s ∧ pb < s ∧ mb < s ∧ sb < s)) (J Jx : List Int → World → Prop) (B : Nat) (hJa : Hid (AbidesFrom B J))
    (hY : ∀ pre x W, J pre W → pre.length < ps.length → YieldAt Fence.wide (n - 1) Tryd.prog l #[.int .i64 x] W fun e W' =>
      (e = .returned (.bool true) ∧ J (pre ++ [x]) W' ∧ KpQ s q1 q2 W W') ∨ (e = .returned (.bool false) ∧ Jx (pre ++ [x]) W'))
    (W : World) (h1 : W.heap[q1]? = some (.cells (brC g t sb sts.length) 35 (0, 0))) (h2 : W.heap[q2]? = some (.cells #[.int .i64 v] 3 (0, 0))) (hB : Hid (Br W g pb mb sb ps f c sts)) (hsW : s ≤ W.heap.size) (h0 : J [] W) :
    CallsIn Fence.wide n Tryd.prog 82 #[.func (.yield l) #[] #[], .pointer (some ⟨q1, 0, none⟩), .pointer (some ⟨q2, 0, none⟩)] W fun e W' => (∃ v, e = .returned v) ∧
      ((∃ ys, ys = opL (opnB ps f sts v) ps.length ∧ J ys W') ∨ (∃ pre, True ∧ Jx pre W')) := by
  have hq1 : Hid (q1 < W.heap.size) := (Array.getElem?_eq_some_iff.1 h1).1
  have hq2 : Hid (q2 < W.heap.size) := (Array.getElem?_eq_some_iff.1 h2).1
  have hc0 : W.cell? ⟨q1, 0, none⟩ = some (.pointer (some ⟨g, 0, none⟩)) := (cell_of_row _ _ _ _ _ _ h1).trans rfl
  have hP := hide (Ports_any hB.out.vt)
  have hfew := hB.out.vt.few
  replace h1 := hide h1
  replace h2 := hide h2
  replace hY := hide hY
  replace hsW := hide hsW
  refine callsIn_of_wp Tryd.func82 rfl trivial ?_ rfl
  simp only [Tryd.ntmps82, List.size_toArray, List.length_cons, List.length_nil, Nat.reduceAdd, Nat.reduceSub, Array.replicate_succ, Array.replicate_zero, List.push_toArray, List.append_toArray, List.nil_append, List.cons_append]
  gi_wp2_with fail
  refine ⟨trivial, (callsIn_wide.2 hP.out).mono ?_⟩
  rintro _ w0 ⟨rfl, hw0⟩
  obtain rfl := hw0.symm
  clear hP hc0
  gi_wp2_with fail
  gi_loopw [8] (fun i wr => ∃ k : Nat, k ≤ ps.length ∧ i = .int .i64 k ∧ Hid (J (opL (opnB ps f sts v) k) wr) ∧ Hid (KpQ s q1 q2 W wr)) (fun i _ => ps.length - (intOf i).toNat)
  case atStart => exact ⟨0, Nat.zero_le _, rfl, h0, KpQ.refl _ _ _ _⟩
  case round =>
    obtain ⟨k, hk, rfl, hJs, hK⟩ := hrel
    have hBr := hide (hB.out.kept hK.out hs.out)
    have hc1 : wr.cell? ⟨q2, 0, none⟩ = some (.int .i64 v) := (cell_of_row _ _ _ _ _ _ (hK.out.2.2.trans h2.out)).trans rfl
    have hr1 := hide (hK.out.2.1.trans h1.out)
    have hwl := hide (hK.out.1.size)
    clear h0
    by_cases hlt : k < ps.length
    · have hO := hide (isOpen_any hBr.out t v k hv)
      have hS := opL_succ (opnB ps f sts v) k
      have hLn := opL_len (opnB ps f sts v) k
      have hb0 : wr.cell? ⟨q1, 0, none⟩ = some (.pointer (some ⟨g, 0, none⟩)) := (cell_of_row _ _ _ _ _ _ hr1.out).trans rfl
      have hb1 : wr.cell? ⟨q1, 1, none⟩ = some (.pointer (some ⟨t, 0, none⟩)) := (cell_of_row _ _ _ _ _ _ hr1.out).trans rfl
      have hb2 : wr.cell? ⟨q1, 2, none⟩ = some (.slice (some ⟨sb, 0, none⟩) sts.length sts.length) := (cell_of_row _ _ _ _ _ _ hr1.out).trans rfl
      generalize hd : opnB ps f sts v k = d at *
      replace hLn := hide hLn
      replace hS := hide hS
      replace hd := hide hd
      gi_wp2_with fail
      refine ⟨trivial, (callsIn_wide.2 hO.out).mono ?_⟩
      rintro _ w1 ⟨rfl, hbn⟩
      have hJ1 : J (opL (opnB ps f sts v) k) w1 := abides_below hJa.out hJs.out hbn
      have hKn : Hid (KpQ s q1 q2 W w1) := hK.out.later hbn (Nat.le_trans hsW.out hwl.out) (Nat.lt_of_lt_of_le hq1.out hwl.out) (Nat.lt_of_lt_of_le hq2.out hwl.out)
      clear hO hb0 hb1 hb2 hc1 hBr hr1 hJs hK hbn
      cases d
      · have hJ2 : Hid (J (opL (opnB ps f sts v) (k + 1)) w1) := by
          show J _ _
          rw [hS.out]
          simpa using hJ1
        gi_wp2
        refine ⟨fun _ h => (by cases h), ?_⟩
        gi_wp2
        go_roundw
        case rel => exact ⟨k + 1, by omega, by go_num, hJ2, hKn⟩
        case measure => simp [intOf]; omega
      · obtain ⟨fn, tmps, assign, body, hy, hR⟩ := hY.out _ (k : Int) w1 hJ1 (by have := hLn.out; omega)
        clear hJ1
        gi_wp2
        refine hR.mono ?_
        rintro e W3 (⟨rfl, hJ3, hk3⟩ | ⟨rfl, hJx3⟩)
        · have hJ2 : Hid (J (opL (opnB ps f sts v) (k + 1)) W3) := by
            show J _ _
            rw [hS.out]
            simpa using hJ3
          have hKz := hide (hKn.out.trans hk3)
          clear hJ3 hk3 hR hy
          gi_wp2
          go_roundw
          case rel => exact ⟨k + 1, by omega, by go_num, hJ2, hKz⟩
          case measure => simp [intOf]; omega
        · gi_wp2
          refine bodyPost_ret (results_none rfl _ _ _) rfl ?_
          exact ⟨⟨_, rfl⟩, .inr ⟨_, trivial, hJx3⟩⟩
    · obtain rfl : ps.length = k := by omega
      gi_wp2
      go_end0
      exact ⟨⟨_, rfl⟩, .inl ⟨_, rfl, hJs.out⟩⟩
end Go.Proofs.YtiahiakllpjliaaDoor
