/-
  Mathematics of TreeLoop. Conditions: those that each theorem names.
-/
import Derived.Test.YtaepjiakehkeoaaTree30
import Derived.Test.YtaepjiakehkeoaaLTs
namespace Go.Proofs.Ytaepjiakehkeoaa
open Go.RowKit
set_option linter.unusedVariables false
set_option maxRecDepth 100000

def giveT (T : Tt) (l : List Ot) : Tt := l.foldl (fun U o => recvT U (1 - o.port) o.m) T
theorem giveT_push (T : Tt) (l : List Ot) (o : Ot) : giveT T (l ++ [o]) = recvT (giveT T l) (1 - o.port) o.m := by simp [giveT]
def innerT : Nat → Tt → Tt
  | 0, T => T
  | k + 1, T => if T.outs.length = 0 then tookT T else innerT k (giveT (tookT T) T.outs)
def okIn : Nat → Tt → Bool
  | 0, T => decide (T.outs.length ≤ 1000)
  | k + 1, T => decide (T.outs.length ≤ 1000) && (if T.outs.length = 0 then true else okIn k (giveT (tookT T) T.outs))
def okLp (low : Nat) : Nat → Tt → Bool
  | 0, T => decide ((T.at low).role = 2 ∧ (T.at low).state = 2 ∧ (T.at (1 - low)).role = 4 ∧ (T.at (1 - low)).state = 0)
  | r + 1, T => okIn 20 T && okLp low r (tickT (innerT 20 T))
def L0 (id one two : Int) : Tt := linkT (linkT (newT id [portP one, portP two]) 0 true) 1 true
set_option maxHeartbeats 8000000 in
theorem okL_01 : okLp 0 35 (L0 0 1 2) = true := by decide
set_option maxHeartbeats 8000000 in
theorem okL_02 : okLp 1 35 (L0 0 2 1) = true := by decide
set_option maxHeartbeats 8000000 in
theorem okL_11 : okLp 0 35 (L0 1 1 2) = true := by decide
set_option maxHeartbeats 8000000 in
theorem okL_12 : okLp 1 35 (L0 1 2 1) = true := by decide
theorem okIn_le {k : Nat} {T : Tt} (h : okIn k T = true) : T.outs.length ≤ 1000 := by
  cases k with
  | zero => exact of_decide_eq_true h
  | succ k =>
    unfold okIn at h
    rw [Bool.and_eq_true] at h
    exact of_decide_eq_true h.1
theorem okIn_next {k : Nat} {T : Tt} (h : okIn (k + 1) T = true) (hn : T.outs.length ≠ 0) : okIn k (giveT (tookT T) T.outs) = true := by
  unfold okIn at h
  rw [Bool.and_eq_true, if_neg hn] at h
  exact h.2
section
variable {C D : Int → Int → Prop}
theorem rt_give (L : LabOk C D) {T T' : Tt} (h : RT C D T T') {l l' : List Ot} (hl : LR C D l l') : RT C D (giveT T l) (giveT T' l') := by
  induction hl with
  | nil => exact h
  | snoc hl hp hm ih =>
    rw [giveT_push, giveT_push, hp]
    exact rt_recv L ih _ hm
end
theorem fine_give {n : Nat} {id : Int} {T : Tt} (h : Fine n id T) : ∀ l : List Ot, (∀ o ∈ l, o.m.wf) → Fine n id (giveT T l) := by
  intro l
  induction l generalizing T with
  | nil => intro _; exact h
  | cons o l ih =>
    intro hw
    show Fine n id (giveT (recvT T (1 - o.port) o.m) l)
    exact ih (fine_recv h _ (hw o (List.mem_cons_self ..))) (fun o' ho' => hw o' (List.mem_cons_of_mem _ ho'))
/-- The labels of a bridge and its two ports. -/
def C0 (id : Int) (a a' : Int) : Prop := (a = 0 ∧ a' = 0) ∨ (a = 1 ∧ a' = id ∧ 0 < id)
def D0 (x y : Int) (a a' : Int) : Prop := (a = 0 ∧ a' = 0) ∨ (a = 1 ∧ a' = x) ∨ (a = 2 ∧ a' = y)
theorem lab0 (id x y : Int) (h1 : 1 ≤ x) (h2 : x < y) (h3 : y ≤ 4000) : LabOk (C0 id) (D0 x y) where
  c0 := .inl ⟨rfl, rfl⟩
  d0 := .inl ⟨rfl, rfl⟩
  clt := by intro a a' b b' ha hb; unfold C0 at ha hb; omega
  dlt := by intro a a' b b' ha hb; unfold D0 at ha hb; omega
  drg := by intro a a' ha; unfold D0 at ha; omega
theorem rt_L0 {C D : Int → Int → Prop} (L : LabOk C D) {id id' one one' two two' : Int} (hid : C id id') (h1 : D one one') (h2 : D two two') : RT C D (L0 id one two) (L0 id' one' two') := by
  have hn : RT C D (newT id [portP one, portP two]) (newT id' [portP one', portP two']) := rt_new L hid (ps := [portP one, portP two]) (ps' := [portP one', portP two']) rfl (fun i hi => by
    have hi' : i < 2 := hi
    rcases (show i = 0 ∨ i = 1 by omega) with rfl | rfl
    · exact ⟨h1, rfl, rfl⟩
    · exact ⟨h2, rfl, rfl⟩)
  unfold L0
  generalize newT id [portP one, portP two] = X at *
  generalize newT id' [portP one', portP two'] = X' at *
  exact rt_link L (rt_link L hn 0 true) 1 true
/-- There is a tree of small labels beside it. -/
theorem L0_small (id one two : Int) (hid : U64 id) (h1 : 1 ≤ one) (h2 : 1 ≤ two) (h3 : one ≤ 4000) (h4 : two ≤ 4000) (hne : one ≠ two) : ∃ (C D : Int → Int → Prop) (c : Tt), LabOk C D ∧ RT C D c (L0 id one two) ∧ okLp (if two < one then 1 else 0) 35 c = true := by
  obtain ⟨hi0, hi1⟩ := hid
  by_cases hlt : two < one
  · rw [if_pos hlt]
    have L := lab0 id two one (by omega) hlt (by omega)
    by_cases hz : id = 0
    · exact ⟨_, _, L0 0 2 1, L, rt_L0 L (.inl ⟨rfl, hz⟩) (.inr (.inr ⟨rfl, rfl⟩)) (.inr (.inl ⟨rfl, rfl⟩)), okL_02⟩
    · exact ⟨_, _, L0 1 2 1, L, rt_L0 L (.inr ⟨rfl, rfl, by omega⟩) (.inr (.inr ⟨rfl, rfl⟩)) (.inr (.inl ⟨rfl, rfl⟩)), okL_12⟩
  · rw [if_neg hlt]
    have L := lab0 id one two (by omega) (by omega) (by omega)
    by_cases hz : id = 0
    · exact ⟨_, _, L0 0 1 2, L, rt_L0 L (.inl ⟨rfl, hz⟩) (.inr (.inl ⟨rfl, rfl⟩)) (.inr (.inr ⟨rfl, rfl⟩)), okL_01⟩
    · exact ⟨_, _, L0 1 1 2, L, rt_L0 L (.inr ⟨rfl, rfl, by omega⟩) (.inr (.inl ⟨rfl, rfl⟩)) (.inr (.inr ⟨rfl, rfl⟩)), okL_11⟩
end Go.Proofs.Ytaepjiakehkeoaa
