/-
  Contracts of fdb's New and Learn. Conditions: those that each theorem names.
-/
import Derived.Test.YtiahiakllpjliaaFdb6
import Derived.BigQuiet
import Derived.Deep.QuietTactic
namespace Go.Proofs.Ytiahiakllpjliaa
open Go.RowKit Go.Maps
set_option linter.unusedVariables false
set_option maxRecDepth 20000

theorem Try.infoFe : (Try.prog.info? 46).map (fun i => (i.zero, i.size, i.bytes)) = some (some (.agg (fFe Fe.zero).toArray), 9, 32) := by kernel_rfl
theorem sty_Fe : Sty Try.prog 43 46 9 32 := by
  obtain ⟨i, h1, h2, h3, h4⟩ := info_parts Try.infoFe
  exact ⟨Try.underlying43, ⟨i, _, h1, h2, h3, h4, rfl⟩, by omega⟩
theorem FNew_any (m a : Int) (w : World) : Calls Try.prog 14 #[.int .i64 m, .int .i64 a] w fun r w' => r = .returned (.pointer (some ⟨w.heap.size, 0, none⟩)) ∧ Ft w' w.heap.size (.slice none 0 0) (min (max m 0) 1024) (max a 0) 0 [] ∧ Below w.heap.size w w' := by
  obtain ⟨M, hM⟩ : ∃ M : Int, M = max m 0 := ⟨_, rfl⟩
  obtain ⟨R, hR⟩ : ∃ R : Int, R = min M 1024 := ⟨_, rfl⟩
  obtain ⟨A, hA⟩ : ∃ A : Int, A = max a 0 := ⟨_, rfl⟩
  have hmx : ∀ (ts : Array TypeId) (t : TypeId) (w : World), (Builtin.max_ ts t #[.int .i64 m, .int .i64 0]).run Try.prog w = .ok (.int .i64 M) w := fun ts t w => by rw [hM, Go.Lib.run_max_ints]
  have hmn : ∀ (ts : Array TypeId) (t : TypeId) (w : World), (Builtin.min_ ts t #[.int .i64 M, .int .i64 1024]).run Try.prog w = .ok (.int .i64 R) w := fun ts t w => by rw [hR, Go.Lib.run_min_ints]
  have hma : ∀ (ts : Array TypeId) (t : TypeId) (w : World), (Builtin.max_ ts t #[.int .i64 a, .int .i64 0]).run Try.prog w = .ok (.int .i64 A) w := fun ts t w => by rw [hA, Go.Lib.run_max_ints]
  rw [← hM, ← hR, ← hA]
  have hb := hide (below1 w (.cells #[.int .i64 R, .int .i64 A, .slice none 0 0, .int .i64 0] 91))
  have hF : Hid (Ft (w.alloc (.cells #[.int .i64 R, .int .i64 A, .slice none 0 0, .int .i64 0] 91)) w.heap.size (.slice none 0 0) R A 0 []) := ⟨heap_alloc_new w _, Sl.nil _ _ _ _, by simp [Value.ownBlock]⟩
  clear hM hR hA
  go_enter Try.func14, Try.ntmps14
  go_wp2
  go_ret
  exact ⟨rfl, hF.out, hb.out⟩
theorem odd8 (x : Int) (h : 0 ≤ x ∧ x ≤ 255) : bits .and .u8 x 1 = x % 2 := by
  obtain ⟨h0, h1⟩ := h
  obtain ⟨n, rfl⟩ := Int.eq_ofNat_of_zero_le h0
  have hn : n < 256 := by omega
  exact (show ∀ n : Nat, n < 256 → bits .and .u8 (n : Int) 1 = (n : Int) % 2 by decide +kernel) n hn
def grpB (m : M6) : Bool := m.a % 2 == 1
theorem Group6_any (m : M6) (w : World) (h : m.wf) :
    Calls Try.prog 37 #[.agg m.row] w fun r w' => r = .returned (.bool (grpB m)) ∧ Below w.heap.size w w' := by
  obtain ⟨a, b, c, d, e, f⟩ := m
  have ho := odd8 a h.1
  have hb := hide (below1 w (.cells #[.int .u8 a, .int .u8 b, .int .u8 c, .int .u8 d, .int .u8 e, .int .u8 f] 28))
  unfold grpB
  dsimp only [M6.row]
  clear h
  go_enter Try.func37, Try.ntmps37
  go_wp2
  go_ret
  exact ⟨rfl, hb.out⟩
section
variable {w : World} {t : Nat} {v : Value} {room age lost : Int} {l : List Fe}
theorem Learn_group (m : M6) (hm : m.wf) (hg : grpB m = true) (t : Nat) (vid port now : Int) (w : World) :
    Calls Try.prog 16 #[.pointer (some ⟨t, 0, none⟩), .int .i64 vid, .agg m.row, .int .i64 port, .int .i64 now] w fun r w' => r = .returned (.int .i64 4) ∧ Below w.heap.size w w' := by
  have hG := hide (fun w => Group6_any m w hm)
  rw [hg] at hG
  have hb := hide (below1 w (.cells m.row 28))
  have hr := hide (heap_alloc_new w (.cells m.row 28))
  generalize hR : m.row = R at *
  have hsz : (Try.prog.info? 28).map (·.size) = some R.size := by rw [← hR]; exact m6Size m
  clear hR
  go_enter Try.func16, Try.ntmps16
  go_wp2_with (first | ((with_reducible change wpList _ _ _ _ _ _); refine wpList_load_row rfl 28 (.tmp 7) rfl w.heap.size rfl 28 _ _ _ hr.out Try.underlying28 rfl hsz ?_) | (go_at_call 37; refine (hG.out _).mono ?_; rintro e w' ⟨rfl, hb2⟩))
  go_ret
  exact ⟨rfl, hb.out.later hb2⟩
end
end Go.Proofs.Ytiahiakllpjliaa
