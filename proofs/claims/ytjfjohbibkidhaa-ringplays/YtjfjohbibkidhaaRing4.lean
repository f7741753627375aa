/-
  Contracts of a port's functions: Push, Head, Pop, Len, Lost. Conditions: those that each theorem names.
-/
import Derived.Test.YtjfjohbibkidhaaRing3
namespace Go.Proofs.Ytjfjohbibkidhaa
open Go.RowKit
set_option linter.unusedVariables false

theorem Push_range (p : Option Addr) (c id : Int) (w : World) (hc : c < 0 ∨ 8 ≤ c) : Calls Try.prog 16 #[.pointer p, .int .i64 c, .int .i64 id] w fun e w' => e = .returned (.int .i64 1) ∧ w' = w := by
  have hH := hide (has_no c w hc)
  go_enter Try.func16, Try.ntmps16
  go_wp2_with fail
  refine hH.out.mono ?_
  rintro e w' ⟨rfl, rfl⟩
  go_wp2
  go_ret
  exact ⟨rfl, rfl⟩
theorem Push_full {w : World} {B g : Nat} {rs : List Rw} (h : Pt w B g rs) (k : Nat) (hk : k < 8) (id : Int) (hf : (rs.getD k Rw.none).bound ≤ (rs.getD k Rw.none).l.length) (hs : (rs.getD k Rw.none).l.length ≤ 1000000) (hL : (rs.getD k Rw.none).lost ≤ 1000000000) :
    Calls Try.prog 16 #[.pointer (some ⟨g, 0, none⟩), .int .i64 k, .int .i64 id] w fun e w' => e = .returned (.int .i64 20) ∧ Pt w' B g (rs.set k ⟨(rs.getD k Rw.none).v, (rs.getD k Rw.none).l, (rs.getD k Rw.none).bound, (rs.getD k Rw.none).lost + 1⟩) ∧ Tch g rs w w' := by
  have hH := hide (has_yes k w hk)
  have hP := hide (push_full h k hk id hf hs hL)
  generalize rs.set k _ = qs at *
  clear h hf hs hL
  go_enter Try.func16, Try.ntmps16
  go_wp2_with fail
  refine hH.out.mono ?_
  rintro e w' ⟨rfl, rfl⟩
  go_wp2_with fail
  refine hP.out.mono ?_
  rintro e w2 ⟨rfl, hp, ht⟩
  replace hp := hide hp
  replace ht := hide ht
  go_wp2
  go_ret
  exact ⟨rfl, hp.out, ht.out⟩
theorem Push_ok {w : World} {B g : Nat} {rs : List Rw} (h : Pt w B g rs) (k : Nat) (hk : k < 8) (id : Int) (hf : (rs.getD k Rw.none).l.length < (rs.getD k Rw.none).bound) (hs : (rs.getD k Rw.none).bound ≤ 100000) :
    Calls Try.prog 16 #[.pointer (some ⟨g, 0, none⟩), .int .i64 k, .int .i64 id] w fun e w' => e = .returned (.int .i64 0) ∧ ∃ v', Pt w' B g (rs.set k ⟨v', (rs.getD k Rw.none).l ++ [id], (rs.getD k Rw.none).bound, (rs.getD k Rw.none).lost⟩) ∧ Tch g rs w w' ∧ ∀ b, v'.ownBlock = some b → (rs.getD k Rw.none).v.ownBlock = some b ∨ w.heap.size ≤ b := by
  have hH := hide (has_yes k w hk)
  have hP := hide (push_ok h k hk id hf hs)
  generalize (rs.getD k Rw.none).l ++ [id] = L at *
  generalize rs.getD k Rw.none = R at *
  clear h hf hs
  go_enter Try.func16, Try.ntmps16
  go_wp2_with fail
  refine hH.out.mono ?_
  rintro e w' ⟨rfl, rfl⟩
  go_wp2_with fail
  refine hP.out.mono ?_
  rintro e w2 ⟨rfl, v', hp, ht, ho⟩
  replace hp := hide hp
  replace ht := hide ht
  replace ho := hide ho
  go_wp2
  go_ret
  exact ⟨rfl, v', hp.out, ht.out, ho.out⟩
theorem Head_range (p : Option Addr) (c : Int) (w : World) (hc : c < 0 ∨ 8 ≤ c) : Calls Try.prog 17 #[.pointer p, .int .i64 c] w fun e w' => e = .returned (.tuple #[.int .i64 0, .int .i64 1]) ∧ w' = w := by
  have hH := hide (has_no c w hc)
  go_enter Try.func17, Try.ntmps17
  go_wp2_with fail
  refine hH.out.mono ?_
  rintro e w' ⟨rfl, rfl⟩
  go_wp2
  go_ret2
  exact ⟨rfl, rfl⟩
theorem Head_no {w : World} {B g : Nat} {rs : List Rw} (h : Pt w B g rs) (k : Nat) (hk : k < 8) (hl : (rs.getD k Rw.none).l = []) :
    Calls Try.prog 17 #[.pointer (some ⟨g, 0, none⟩), .int .i64 k] w fun e w' => e = .returned (.tuple #[.int .i64 0, .int .i64 21]) ∧ w' = w := by
  have hH := hide (has_yes k w hk)
  have hP := hide (head_no h k hk hl)
  clear h hl
  go_enter Try.func17, Try.ntmps17
  go_wp2_with fail
  refine hH.out.mono ?_
  rintro e w' ⟨rfl, rfl⟩
  go_wp2_with fail
  refine hP.out.mono ?_
  rintro e w' ⟨rfl, rfl⟩
  go_wp2_with fail
  refine (orMissing_no _ _).mono ?_
  rintro e w' ⟨rfl, rfl⟩
  go_wp2
  go_ret2
  exact ⟨rfl, rfl⟩
theorem Head_yes {w : World} {B g : Nat} {rs : List Rw} (h : Pt w B g rs) (k : Nat) (hk : k < 8) (x : Int) (r : List Int) (hl : (rs.getD k Rw.none).l = x :: r) :
    Calls Try.prog 17 #[.pointer (some ⟨g, 0, none⟩), .int .i64 k] w fun e w' => e = .returned (.tuple #[.int .i64 x, .int .i64 0]) ∧ w' = w := by
  have hH := hide (has_yes k w hk)
  have hP := hide (head_yes h k hk x r hl)
  clear h hl
  go_enter Try.func17, Try.ntmps17
  go_wp2_with fail
  refine hH.out.mono ?_
  rintro e w' ⟨rfl, rfl⟩
  go_wp2_with fail
  refine hP.out.mono ?_
  rintro e w' ⟨rfl, rfl⟩
  go_wp2_with fail
  refine (orMissing_yes _ _).mono ?_
  rintro e w' ⟨rfl, rfl⟩
  go_wp2
  go_ret2
  exact ⟨rfl, rfl⟩
theorem Pop_range (p : Option Addr) (c : Int) (w : World) (hc : c < 0 ∨ 8 ≤ c) : Calls Try.prog 18 #[.pointer p, .int .i64 c] w fun e w' => e = .returned (.tuple #[.int .i64 0, .int .i64 1]) ∧ w' = w := by
  have hH := hide (has_no c w hc)
  go_enter Try.func18, Try.ntmps18
  go_wp2_with fail
  refine hH.out.mono ?_
  rintro e w' ⟨rfl, rfl⟩
  go_wp2
  go_ret2
  exact ⟨rfl, rfl⟩
theorem Pop_no {w : World} {B g : Nat} {rs : List Rw} (h : Pt w B g rs) (k : Nat) (hk : k < 8) (hl : (rs.getD k Rw.none).l = []) :
    Calls Try.prog 18 #[.pointer (some ⟨g, 0, none⟩), .int .i64 k] w fun e w' => e = .returned (.tuple #[.int .i64 0, .int .i64 21]) ∧ w' = w := by
  have hH := hide (has_yes k w hk)
  have hP := hide (pop_no h k hk hl)
  clear h hl
  go_enter Try.func18, Try.ntmps18
  go_wp2_with fail
  refine hH.out.mono ?_
  rintro e w' ⟨rfl, rfl⟩
  go_wp2_with fail
  refine hP.out.mono ?_
  rintro e w' ⟨rfl, rfl⟩
  go_wp2_with fail
  refine (orMissing_no _ _).mono ?_
  rintro e w' ⟨rfl, rfl⟩
  go_wp2
  go_ret2
  exact ⟨rfl, rfl⟩
theorem Pop_yes {w : World} {B g : Nat} {rs : List Rw} (h : Pt w B g rs) (k : Nat) (hk : k < 8) (x : Int) (r : List Int) (hl : (rs.getD k Rw.none).l = x :: r) :
    Calls Try.prog 18 #[.pointer (some ⟨g, 0, none⟩), .int .i64 k] w fun e w' => e = .returned (.tuple #[.int .i64 x, .int .i64 0]) ∧ ∃ v', Pt w' B g (rs.set k ⟨v', r, (rs.getD k Rw.none).bound, (rs.getD k Rw.none).lost⟩) ∧ Tch g rs w w' ∧ ∀ b, v'.ownBlock = some b → (rs.getD k Rw.none).v.ownBlock = some b ∨ w.heap.size ≤ b := by
  have hH := hide (has_yes k w hk)
  have hP := hide (pop_yes h k hk x r hl)
  clear hl h
  generalize rs.getD k Rw.none = R at *
  go_enter Try.func18, Try.ntmps18
  go_wp2_with fail
  refine hH.out.mono ?_
  rintro e w' ⟨rfl, rfl⟩
  go_wp2_with fail
  refine hP.out.mono ?_
  rintro e w2 ⟨rfl, v', hp, ht, ho⟩
  replace hp := hide hp
  replace ht := hide ht
  replace ho := hide ho
  go_wp2_with fail
  refine (orMissing_yes _ _).mono ?_
  rintro e w' ⟨rfl, rfl⟩
  go_wp2
  go_ret2
  exact ⟨rfl, v', hp.out, ht.out, ho.out⟩
theorem Len_range (p : Option Addr) (c : Int) (w : World) (hc : c < 0 ∨ 8 ≤ c) : Calls Try.prog 21 #[.pointer p, .int .i64 c] w fun e w' => e = .returned (.int .i64 0) ∧ w' = w := by
  have hH := hide (has_no c w hc)
  go_enter Try.func21, Try.ntmps21
  go_wp2_with fail
  refine hH.out.mono ?_
  rintro e w' ⟨rfl, rfl⟩
  go_wp2
  go_ret
  exact ⟨rfl, rfl⟩
theorem Len_any {w : World} {B g : Nat} {rs : List Rw} (h : Pt w B g rs) (k : Nat) (hk : k < 8) :
    Calls Try.prog 21 #[.pointer (some ⟨g, 0, none⟩), .int .i64 k] w fun e w' => e = .returned (.int .i64 (rs.getD k Rw.none).l.length) ∧ w' = w := by
  have hH := hide (has_yes k w hk)
  obtain ⟨a, cap, hv⟩ := (h.row k hk).shape
  have hc := h.cellV k hk
  rw [hv] at hc
  clear hv h
  generalize (rs.getD k Rw.none).l.length = n at *
  go_enter Try.func21, Try.ntmps21
  go_wp2_with fail
  refine hH.out.mono ?_
  rintro e w' ⟨rfl, rfl⟩
  go_wp2
  go_ret
  exact ⟨rfl, rfl⟩
theorem Lost_range (p : Option Addr) (c : Int) (w : World) (hc : c < 0 ∨ 8 ≤ c) : Calls Try.prog 22 #[.pointer p, .int .i64 c] w fun e w' => e = .returned (.int .i64 0) ∧ w' = w := by
  have hH := hide (has_no c w hc)
  go_enter Try.func22, Try.ntmps22
  go_wp2_with fail
  refine hH.out.mono ?_
  rintro e w' ⟨rfl, rfl⟩
  go_wp2
  go_ret
  exact ⟨rfl, rfl⟩
theorem Lost_any {w : World} {B g : Nat} {rs : List Rw} (h : Pt w B g rs) (k : Nat) (hk : k < 8) :
    Calls Try.prog 22 #[.pointer (some ⟨g, 0, none⟩), .int .i64 k] w fun e w' => e = .returned (.int .i64 (rs.getD k Rw.none).lost) ∧ w' = w := by
  have hH := hide (has_yes k w hk)
  have hc := h.cellL k hk
  clear h
  generalize (rs.getD k Rw.none).lost = n at *
  go_enter Try.func22, Try.ntmps22
  go_wp2_with fail
  refine hH.out.mono ?_
  rintro e w' ⟨rfl, rfl⟩
  go_wp2
  go_ret
  exact ⟨rfl, rfl⟩
end Go.Proofs.Ytjfjohbibkidhaa
