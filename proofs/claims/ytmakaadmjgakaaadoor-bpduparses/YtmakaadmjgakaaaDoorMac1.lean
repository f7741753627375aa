/-
  Contracts of package mac's small functions (Group, most, tagFits, typeFits, Check, mayBe). Conditions: none beyond what each theorem names.
-/
import Derived.Test.YtmakaadmjgakaaaDoorLaws
namespace Go.Proofs.YtmakaadmjgakaaaDoor
open Go.RowKit

/-- What stands in a header, field by field. -/
structure Hd where
  (d0 d1 d2 d3 d4 d5 s0 s1 s2 s3 s4 s5 : Int) (tg : Bool) (pcp : Int) (de : Bool) (vid typ : Int) (llc : Bool)
  deriving DecidableEq
@[reducible] def Hd.row (h : Hd) : Array Value := #[.int .u8 h.d0, .int .u8 h.d1, .int .u8 h.d2, .int .u8 h.d3, .int .u8 h.d4, .int .u8 h.d5, .int .u8 h.s0, .int .u8 h.s1, .int .u8 h.s2, .int .u8 h.s3, .int .u8 h.s4, .int .u8 h.s5, .bool h.tg, .int .i64 h.pcp, .bool h.de, .int .i64 h.vid, .int .i64 h.typ, .bool h.llc]
@[reducible] def mac6 (a b c d e f : Int) : Array Value := #[.int .u8 a, .int .u8 b, .int .u8 c, .int .u8 d, .int .u8 e, .int .u8 f]

theorem u8_odd (x : Int) (h : 0 ≤ x ∧ x ≤ 255) : bits .and .u8 x 1 = x % 2 := by
  obtain ⟨h0, h1⟩ := h
  obtain ⟨n, rfl⟩ := Int.eq_ofNat_of_zero_le h0
  have hn : n < 256 := by omega
  exact (show ∀ n : Nat, n < 256 → bits .and .u8 (n : Int) 1 = (n : Int) % 2 by decide +kernel) n hn

theorem Group_any (a b c d e f : Int) (w : World) (h : 0 ≤ a ∧ a ≤ 255) :
    Calls Tryd.prog 26 #[.agg (mac6 a b c d e f)] w fun r w' => r = .returned (.bool (a % 2 == 1)) ∧ Below w.heap.size w w' := by
  have ho := u8_odd a h
  go_enter Tryd.func26, Tryd.ntmps26
  go_wp2
  go_ret
  exact ⟨rfl, (Below.refl _ _).alloc (Nat.le_refl _) _⟩
theorem Group_yes (a b c d e f : Int) (w : World) (h : 0 ≤ a ∧ a ≤ 255) (h1 : a % 2 = 1) :
    Calls Tryd.prog 26 #[.agg (mac6 a b c d e f)] w fun r w' => r = .returned (.bool true) ∧ Below w.heap.size w w' := by
  have := Group_any a b c d e f w h
  rwa [show (a % 2 == 1) = true by simpa using h1] at this
theorem Group_no (a b c d e f : Int) (w : World) (h : 0 ≤ a ∧ a ≤ 255) (h1 : ¬ a % 2 = 1) :
    Calls Tryd.prog 26 #[.agg (mac6 a b c d e f)] w fun r w' => r = .returned (.bool false) ∧ Below w.heap.size w w' := by
  have := Group_any a b c d e f w h
  rwa [show (a % 2 == 1) = false by simpa using h1] at this
theorem most_any (t : Bool) (w : World) :
    Calls Tryd.prog 33 #[.bool t] w fun r w' => r = .returned (.int .i64 (if t then 1522 else 1518)) ∧ w' = w := by
  cases t
  all_goals
    go_enter Tryd.func33, Tryd.ntmps33
    go_wp2
    go_ret
    exact ⟨rfl, rfl⟩

def tagFitsB (h : Hd) : Bool := if h.tg then decide (0 ≤ h.pcp ∧ h.pcp ≤ 7 ∧ 0 ≤ h.vid ∧ h.vid ≤ 4094) else decide (h.pcp = 0 ∧ h.vid = 0 ∧ h.de = false)
def typeFitsB (h : Hd) (n : Int) : Bool := if h.llc then h.typ == n else decide (1536 ≤ h.typ ∧ h.typ ≤ 65535 ∧ (h.tg = true ∨ h.typ ≠ 33024))
def checkE (h : Hd) (n : Int) : Int := if n < 0 ∨ 1500 < n then 3 else if tagFitsB h = false then 1 else if h.s0 % 2 = 1 ∨ typeFitsB h n = false then 4 else 0
def mayBeB (h : Hd) : Bool := decide (h.s0 % 2 ≠ 1 ∧ h.vid ≤ 4094 ∧ (h.llc = true ∨ 1536 ≤ h.typ))

theorem tagFits_any (h : Hd) (w : World) :
    Calls Tryd.prog 28 #[.agg h.row] w fun r w' => r = .returned (.bool (tagFitsB h)) ∧ Below w.heap.size w w' := by
  obtain ⟨d0, d1, d2, d3, d4, d5, s0, s1, s2, s3, s4, s5, tg, pcp, de, vid, typ, llc⟩ := h
  cases tg
  all_goals
    go_enter Tryd.func28, Tryd.ntmps28
    go_wp2
  all_goals
    go_ret
    refine ⟨ret_bool ?_, (Below.refl _ _).alloc (Nat.le_refl _) _⟩
    go_light
    rw [Bool.eq_iff_iff]
    simp [tagFitsB]
    try omega
  all_goals
    constructor
    · intro h; exact ⟨‹_›, ‹_›, h⟩
    · intro h; exact h.2.2
theorem typeFits_any (h : Hd) (n : Int) (w : World) :
    Calls Tryd.prog 29 #[.agg h.row, .int .i64 n] w fun r w' => r = .returned (.bool (typeFitsB h n)) ∧ Below w.heap.size w w' := by
  obtain ⟨d0, d1, d2, d3, d4, d5, s0, s1, s2, s3, s4, s5, tg, pcp, de, vid, typ, llc⟩ := h
  cases llc
  all_goals
    go_enter Tryd.func29, Tryd.ntmps29
    go_wp2
  all_goals
    go_ret
    refine ⟨ret_bool ?_, (Below.refl _ _).alloc (Nat.le_refl _) _⟩
    go_light
    rw [Bool.eq_iff_iff]
    simp [typeFitsB]
    try omega
  all_goals
    rename_i h1 h2 h3
    simp [h1, h2, h3]
theorem mayBe_any (h : Hd) (w : World) (hs : 0 ≤ h.s0 ∧ h.s0 ≤ 255) :
    Calls Tryd.prog 38 #[.agg h.row] w fun r w' => r = .returned (.bool (mayBeB h)) ∧ Below w.heap.size w w' := by
  obtain ⟨d0, d1, d2, d3, d4, d5, s0, s1, s2, s3, s4, s5, tg, pcp, de, vid, typ, llc⟩ := h
  cases llc
  all_goals
    go_enter Tryd.func38, Tryd.ntmps38
    go_wp2_with (go_at_call 26; refine (Group_any _ _ _ _ _ _ _ hs).mono ?_; rintro e w' ⟨rfl, hb⟩; obtain ⟨hc, hf⟩ := bcell hb)
  all_goals
    go_ret
    refine ⟨ret_bool ?_, ((Below.refl _ _).alloc (Nat.le_refl _) _).trans (hb.mono (by simp))⟩
    go_light
    clear hb hc hf
    rw [Bool.eq_iff_iff]
    simp [mayBeB]
    try omega
end Go.Proofs.YtmakaadmjgakaaaDoor
