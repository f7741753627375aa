/-
  A port by what waits in its rows ('Rg'); contracts in these words; the head of layer 7's statements. Conditions: those that each theorem names.
-/
import Derived.Test.YtjfjohbibkidhaaRing6
namespace Go.Proofs.Ytjfjohbibkidhaa
open Go.RowKit
set_option linter.unusedVariables false

def updN {α : Type} (f : Nat → α) (k : Nat) (v : α) : Nat → α := fun i => if i = k then v else f i
theorem updN_same {α : Type} (f : Nat → α) (k : Nat) (v : α) : updN f k v k = v := by simp [updN]
theorem updN_other {α : Type} (f : Nat → α) (k j : Nat) (v : α) (h : j ≠ k) : updN f k v j = f j := by simp [updN, h]
/-- What waits in each row, how many may, how many had no room. -/
def Vw (rs : List Rw) (f : Nat → List Int) (b ls : Nat → Nat) : Prop := ∀ k, k < 8 → (rs.getD k Rw.none).l = f k ∧ (rs.getD k Rw.none).bound = b k ∧ (rs.getD k Rw.none).lost = ls k
theorem Vw.set {rs : List Rw} {f : Nat → List Int} {b ls : Nat → Nat} (h : Vw rs f b ls) (hl : rs.length = 8) (k : Nat) (hk : k < 8) (v' : Value) (l' : List Int) (n : Nat) : Vw (rs.set k ⟨v', l', (rs.getD k Rw.none).bound, n⟩) (updN f k l') b (updN ls k n) := by
  intro j hj
  rw [getD_setR _ _ _ _ (by omega)]
  by_cases e : j = k
  · subst e
    rw [if_pos rfl, updN_same, updN_same]
    exact ⟨rfl, (h j hj).2.1, rfl⟩
  · rw [if_neg e, updN_other _ _ _ _ e, updN_other _ _ _ _ e]
    exact h j hj
theorem updN_self {α : Type} (f : Nat → α) (k : Nat) : updN f k (f k) = f := by
  funext i
  by_cases h : i = k
  · subst h; exact updN_same _ _ _
  · exact updN_other _ _ _ _ h
def allF (f : Nat → List Int) : Nat → Nat
  | 0 => 0
  | j + 1 => allF f j + (f j).length
def wtF (f : Nat → List Int) : Nat → Nat
  | 0 => 0
  | j + 1 => wtF f j + if f j = [] then 0 else 2 ^ j
def catF (f : Nat → List Int) : Nat → List Int
  | 0 => []
  | j + 1 => catF f j ++ f j
theorem Vw.all {rs : List Rw} {f : Nat → List Int} {b ls : Nat → Nat} (h : Vw rs f b ls) : ∀ j, j ≤ 8 → allN rs j = allF f j ∧ wtN rs j = wtF f j ∧ catL rs j = catF f j
  | 0, _ => ⟨rfl, rfl, rfl⟩
  | j + 1, hj => by
    have h1 := h.all j (by omega)
    have h2 := (h j (by omega)).1
    simp only [allN, allF, wtN, wtF, catL, catF, h1.1, h1.2.1, h1.2.2, h2, and_self]
/-- A port of the call's own, by what waits in its rows. -/
def Rg (W w : World) (g : Nat) (f : Nat → List Int) (b ls : Nat → Nat) : Prop := ∃ rs, Pt w W.heap.size g rs ∧ Vw rs f b ls ∧ Below W.heap.size W w
theorem Rg.bel {W w : World} {g : Nat} {f : Nat → List Int} {b ls : Nat → Nat} (h : Rg W w g f b ls) : Below W.heap.size W w := by obtain ⟨_, _, _, h⟩ := h; exact h
theorem Rg.below {W w w' : World} {g : Nat} {f : Nat → List Int} {b ls : Nat → Nat} (h : Rg W w g f b ls) (hb : Below w.heap.size w w') : Rg W w' g f b ls := by
  obtain ⟨rs, h1, h2, h3⟩ := h
  exact ⟨rs, h1.below hb, h2, h3.later hb⟩
theorem Pt.mono {w : World} {B B' g : Nat} {rs : List Rw} (h : Pt w B g rs) (hb : B' ≤ B) : Pt w B' g rs :=
  ⟨h.len, Nat.le_trans hb h.base, h.at_g, h.row, fun k hk b e => ⟨Nat.le_trans hb (h.own k hk b e).1, (h.own k hk b e).2⟩, h.apart⟩
theorem RNew (W w : World) (hW : Below W.heap.size W w) (b0 b1 b2 b3 b4 b5 b6 b7 : Int) :
    Calls Try.prog 15 #[.agg (row8 b0 b1 b2 b3 b4 b5 b6 b7)] w fun e w' => e = .returned (.pointer (some ⟨w.heap.size + 1, 0, none⟩)) ∧ Rg W w' (w.heap.size + 1) (fun _ => []) (fun k => bndN ([b0, b1, b2, b3, b4, b5, b6, b7].getD k 0)) (fun _ => 0) := by
  refine (New_any b0 b1 b2 b3 b4 b5 b6 b7 w).mono ?_
  rintro e w' ⟨rfl, hp, hb⟩
  refine ⟨rfl, _, hp.mono hW.size, fun k hk => ?_, hW.later hb⟩
  rw [newR_at _ _ _ hk, if_pos hk]
  exact ⟨rfl, rfl, rfl⟩
theorem RPush_ok {W w : World} {g : Nat} {f : Nat → List Int} {b ls : Nat → Nat} (h : Rg W w g f b ls) (k : Nat) (hk : k < 8) (id : Int) (hf : (f k).length < b k) (hs : b k ≤ 100000) :
    Calls Try.prog 16 #[.pointer (some ⟨g, 0, none⟩), .int .i64 k, .int .i64 id] w fun e w' => e = .returned (.int .i64 0) ∧ Rg W w' g (updN f k (f k ++ [id])) b ls := by
  obtain ⟨rs, h1, h2, h3⟩ := h
  obtain ⟨e1, e2, e3⟩ := h2 k hk
  refine (Push_ok h1 k hk id (by rw [e1, e2]; exact hf) (by rw [e2]; exact hs)).mono ?_
  rintro e w' ⟨rfl, v', hp, ht, _⟩
  refine ⟨rfl, _, hp, ?_, ht.below h1 h3 h1.size⟩
  have := h2.set h1.len k hk v' ((rs.getD k Rw.none).l ++ [id]) (rs.getD k Rw.none).lost
  rw [e3, updN_self, e1] at this
  rw [e1, e3]
  exact this
theorem RPush_full {W w : World} {g : Nat} {f : Nat → List Int} {b ls : Nat → Nat} (h : Rg W w g f b ls) (k : Nat) (hk : k < 8) (id : Int) (hf : b k ≤ (f k).length) (hs : (f k).length ≤ 1000000) (hL : ls k ≤ 1000000000) :
    Calls Try.prog 16 #[.pointer (some ⟨g, 0, none⟩), .int .i64 k, .int .i64 id] w fun e w' => e = .returned (.int .i64 20) ∧ Rg W w' g f b (updN ls k (ls k + 1)) := by
  obtain ⟨rs, h1, h2, h3⟩ := h
  obtain ⟨e1, e2, e3⟩ := h2 k hk
  refine (Push_full h1 k hk id (by rw [e1, e2]; exact hf) (by rw [e1]; exact hs) (by rw [e3]; exact hL)).mono ?_
  rintro e w' ⟨rfl, hp, ht⟩
  refine ⟨rfl, _, hp, ?_, ht.below h1 h3 h1.size⟩
  have := h2.set h1.len k hk (rs.getD k Rw.none).v (rs.getD k Rw.none).l ((rs.getD k Rw.none).lost + 1)
  rw [e1, updN_self, e3] at this
  rw [e1, e3]
  exact this
theorem RHead_yes {W w : World} {g : Nat} {f : Nat → List Int} {b ls : Nat → Nat} (h : Rg W w g f b ls) (k : Nat) (hk : k < 8) (x : Int) (r : List Int) (hf : f k = x :: r) :
    Calls Try.prog 17 #[.pointer (some ⟨g, 0, none⟩), .int .i64 k] w fun e w' => e = .returned (.tuple #[.int .i64 x, .int .i64 0]) ∧ w' = w := by
  obtain ⟨rs, h1, h2, h3⟩ := h
  exact Head_yes h1 k hk x r ((h2 k hk).1.trans hf)
theorem RPop_yes {W w : World} {g : Nat} {f : Nat → List Int} {b ls : Nat → Nat} (h : Rg W w g f b ls) (k : Nat) (hk : k < 8) (x : Int) (r : List Int) (hf : f k = x :: r) :
    Calls Try.prog 18 #[.pointer (some ⟨g, 0, none⟩), .int .i64 k] w fun e w' => e = .returned (.tuple #[.int .i64 x, .int .i64 0]) ∧ Rg W w' g (updN f k r) b ls := by
  obtain ⟨rs, h1, h2, h3⟩ := h
  obtain ⟨e1, e2, e3⟩ := h2 k hk
  refine (Pop_yes h1 k hk x r (e1.trans hf)).mono ?_
  rintro e w' ⟨rfl, v', hp, ht, _⟩
  refine ⟨rfl, _, hp, ?_, ht.below h1 h3 h1.size⟩
  have := h2.set h1.len k hk v' r (rs.getD k Rw.none).lost
  rw [e3, updN_self] at this
  rw [e3]
  exact this
theorem RPop_no {W w : World} {g : Nat} {f : Nat → List Int} {b ls : Nat → Nat} (h : Rg W w g f b ls) (k : Nat) (hk : k < 8) (hf : f k = []) :
    Calls Try.prog 18 #[.pointer (some ⟨g, 0, none⟩), .int .i64 k] w fun e w' => e = .returned (.tuple #[.int .i64 0, .int .i64 21]) ∧ w' = w := by
  obtain ⟨rs, h1, h2, h3⟩ := h
  exact Pop_no h1 k hk ((h2 k hk).1.trans hf)
theorem RLen {W w : World} {g : Nat} {f : Nat → List Int} {b ls : Nat → Nat} (h : Rg W w g f b ls) (k : Nat) (hk : k < 8) :
    Calls Try.prog 21 #[.pointer (some ⟨g, 0, none⟩), .int .i64 k] w fun e w' => e = .returned (.int .i64 (f k).length) ∧ w' = w := by
  obtain ⟨rs, h1, h2, h3⟩ := h
  rw [← (h2 k hk).1]
  exact Len_any h1 k hk
theorem RLost {W w : World} {g : Nat} {f : Nat → List Int} {b ls : Nat → Nat} (h : Rg W w g f b ls) (k : Nat) (hk : k < 8) :
    Calls Try.prog 22 #[.pointer (some ⟨g, 0, none⟩), .int .i64 k] w fun e w' => e = .returned (.int .i64 (ls k)) ∧ w' = w := by
  obtain ⟨rs, h1, h2, h3⟩ := h
  rw [← (h2 k hk).2.2]
  exact Lost_any h1 k hk
theorem RAll {W w : World} {g : Nat} {f : Nat → List Int} {b ls : Nat → Nat} (h : Rg W w g f b ls) (hf : ∀ k, k < 8 → (f k).length ≤ 1000000) :
    Calls Try.prog 35 #[.pointer (some ⟨g, 0, none⟩)] w fun e w' => e = .returned (.int .i64 (allF f 8)) ∧ w' = w := by
  obtain ⟨rs, h1, h2, h3⟩ := h
  rw [← (h2.all 8 (Nat.le_refl _)).1]
  exact All_any h1 (fun k hk => by rw [(h2 k hk).1]; exact hf k hk)
theorem RWaits {W w : World} {g : Nat} {f : Nat → List Int} {b ls : Nat → Nat} (h : Rg W w g f b ls) :
    Calls Try.prog 24 #[.pointer (some ⟨g, 0, none⟩)] w fun e w' => e = .returned (.int .i64 (wtF f 8)) ∧ w' = w := by
  obtain ⟨rs, h1, h2, h3⟩ := h
  rw [← (h2.all 8 (Nat.le_refl _)).2.1]
  exact Waits_any h1
theorem RList {W w : World} {g : Nat} {f : Nat → List Int} {b ls : Nat → Nat} (h : Rg W w g f b ls) (k : Nat) (hk : k < 8) (hf : (f k).length ≤ 100000) :
    Calls Try.prog 23 #[.pointer (some ⟨g, 0, none⟩), .int .i64 k] w fun e w' => ∃ a c, e = .returned (.slice a (f k).length c) ∧ Qe w' (.slice a (f k).length c) (f k) ∧ Rg W w' g f b ls := by
  obtain ⟨rs, h1, h2, h3⟩ := h
  refine (List_any h1 k hk (by rw [(h2 k hk).1]; exact hf)).mono ?_
  rintro e w' ⟨v, rfl, hq, hb⟩
  rw [(h2 k hk).1] at hq
  obtain ⟨a, c, rfl⟩ := hq.shape
  exact ⟨a, c, rfl, hq, rs, h1.below hb, h2, h3.later hb⟩
theorem RFlush {W w : World} {g : Nat} {f : Nat → List Int} {b ls : Nat → Nat} (h : Rg W w g f b ls) (hf : ∀ k, k < 8 → (f k).length ≤ 10000) :
    Calls Try.prog 19 #[.pointer (some ⟨g, 0, none⟩)] w fun e w' => ∃ a c, e = .returned (.slice a (catF f 8).length c) ∧ Qe w' (.slice a (catF f 8).length c) (catF f 8) ∧ Rg W w' g (fun _ => []) b ls := by
  obtain ⟨rs, h1, h2, h3⟩ := h
  refine (Flush_any h1 (fun k hk => by rw [(h2 k hk).1]; exact hf k hk)).mono ?_
  rintro e w' ⟨v, rfl, hF⟩
  have hq := hF.qe
  rw [(h2.all 8 (Nat.le_refl _)).2.2] at hq
  obtain ⟨a, c, rfl⟩ := hq.shape
  refine ⟨a, c, rfl, hq, _, hF.pt, fun k hk => ?_, hF.tch.below h1 h3 h1.size⟩
  rw [goneR_at rs k 8 (by rw [h1.len]; omega), if_pos hk]
  exact ⟨rfl, (h2 k hk).2⟩
end Go.Proofs.Ytjfjohbibkidhaa
