/-
  Mathematics of TreePair. Conditions: those that each theorem names.
  Mathematics of TreePair: from small labels to any. Conditions: those that each theorem names.
-/
import Derived.Test.YtoejoneecanbbaaTree30
import Derived.Test.YtoejoneecanbbaaTree31
import Derived.Test.YtoejoneecanbbaaLTd
namespace Go.Proofs.Ytoejoneecanbbaa
open Go.RowKit
set_option linter.unusedVariables false
set_option maxRecDepth 100000

def passT (T : Tt) (l : List Ot) : Tt := l.foldl (fun U o => recvT U o.port o.m) T
theorem passT_push (T : Tt) (l : List Ot) (o : Ot) : passT T (l ++ [o]) = recvT (passT T l) o.port o.m := by simp [passT]
def pairN : Nat → Tt → Tt → Tt × Tt
  | 0, S, T => (S, T)
  | k + 1, S, T => if S.outs.length = 0 ∧ T.outs.length = 0 then (tookT S, tookT T) else pairN k (passT (tookT S) T.outs) (passT (tookT T) S.outs)
def okPr : Nat → Tt → Tt → Bool
  | 0, S, T => false
  | k + 1, S, T => decide (S.outs.length ≤ 1000 ∧ T.outs.length ≤ 1000) && (if S.outs.length = 0 ∧ T.outs.length = 0 then true else okPr k (passT (tookT S) T.outs) (passT (tookT T) S.outs))
def lkT (T : Tt) : Nat → Tt
  | 0 => T
  | k + 1 => linkT (lkT T k) k true
def P0 (id : Int) (n : Nat) : Tt := lkT (newT id ((idsL n).map portP)) n
/-- Behind both passings, and a second between. -/
def P1 (S T : Tt) : Tt × Tt := (tickT (pairN 200 S T).1, tickT (pairN 200 S T).2)
def P2 (S T : Tt) : Tt × Tt := pairN 200 (P1 S T).1 (P1 S T).2
/-- a: the lesser one, of the label lo. -/
def okEnd (lo : Int) (n : Nat) (a b : Tt) : Bool := decide (a.y.root = lo ∧ b.y.root = lo ∧ a.rp = -1 ∧ b.rp = 0 ∧ (a.at 0).state = 2) && (List.range n).all fun i => decide ((b.at i).state = 2) == decide (i = 0)
def okAll (lo hi : Int) (n : Nat) : Bool := okPr 200 (P0 lo n) (P0 hi n) && okPr 200 (P1 (P0 lo n) (P0 hi n)).1 (P1 (P0 lo n) (P0 hi n)).2 && okEnd lo n (P2 (P0 lo n) (P0 hi n)).1 (P2 (P0 lo n) (P0 hi n)).2
def okAlR (lo hi : Int) (n : Nat) : Bool := okPr 200 (P0 hi n) (P0 lo n) && okPr 200 (P1 (P0 hi n) (P0 lo n)).1 (P1 (P0 hi n) (P0 lo n)).2 && okEnd lo n (P2 (P0 hi n) (P0 lo n)).2 (P2 (P0 hi n) (P0 lo n)).1
set_option maxHeartbeats 40000000 in
theorem pr_a : ∀ n, n < 7 → 0 < n → okAll 0 1 n = true := by decide
set_option maxHeartbeats 40000000 in
theorem pr_b : ∀ n, n < 7 → 0 < n → okAll 1 2 n = true := by decide
set_option maxHeartbeats 40000000 in
theorem pr_c : ∀ n, n < 7 → 0 < n → okAlR 0 1 n = true := by decide
set_option maxHeartbeats 40000000 in
theorem pr_d : ∀ n, n < 7 → 0 < n → okAlR 1 2 n = true := by decide
end Go.Proofs.Ytoejoneecanbbaa

namespace Go.Proofs.Ytoejoneecanbbaa
open Go.RowKit
set_option linter.unusedVariables false
set_option maxRecDepth 20000

theorem okPr_le {k : Nat} {S T : Tt} (h : okPr k S T = true) : S.outs.length ≤ 1000 ∧ T.outs.length ≤ 1000 := by
  cases k with
  | zero => cases h
  | succ k =>
    unfold okPr at h
    rw [Bool.and_eq_true] at h
    exact of_decide_eq_true h.1
theorem okPr_next {k : Nat} {S T : Tt} (h : okPr (k + 1) S T = true) (hn : ¬ (S.outs.length = 0 ∧ T.outs.length = 0)) : okPr k (passT (tookT S) T.outs) (passT (tookT T) S.outs) = true := by
  unfold okPr at h
  rw [Bool.and_eq_true, if_neg hn] at h
  exact h.2
section
variable {C D : Int → Int → Prop}
theorem rt_pass (L : LabOk C D) {T T' : Tt} (h : RT C D T T') {l l' : List Ot} (hl : LR C D l l') : RT C D (passT T l) (passT T' l') := by
  induction hl with
  | nil => exact h
  | snoc hl hp hm ih =>
    rw [passT_push, passT_push, hp]
    exact rt_recv L ih _ hm
theorem rt_lk (L : LabOk C D) {T T' : Tt} (h : RT C D T T') : ∀ k, RT C D (lkT T k) (lkT T' k)
  | 0 => h
  | k + 1 => rt_link L (rt_lk L h k) k true
theorem rt_pair (L : LabOk C D) : ∀ (k : Nat) {S S' T T' : Tt}, RT C D S S' → RT C D T T' → RT C D (pairN k S T).1 (pairN k S' T').1 ∧ RT C D (pairN k S T).2 (pairN k S' T').2
  | 0, _, _, _, _, h, g => ⟨h, g⟩
  | k + 1, S, S', T, T', h, g => by
    unfold pairN
    rw [h.outs.len, g.outs.len]
    by_cases e : S'.outs.length = 0 ∧ T'.outs.length = 0
    · rw [if_pos e, if_pos e]
      exact ⟨rt_took h, rt_took g⟩
    · rw [if_neg e, if_neg e]
      exact rt_pair L k (rt_pass L (rt_took h) g.outs) (rt_pass L (rt_took g) h.outs)
end
theorem fine_pass {n : Nat} {id : Int} {T : Tt} (h : Fine n id T) : ∀ l : List Ot, (∀ o ∈ l, o.m.wf) → Fine n id (passT T l) := by
  intro l
  induction l generalizing T with
  | nil => intro _; exact h
  | cons o l ih =>
    intro hw
    show Fine n id (passT (recvT T o.port o.m) l)
    exact ih (fine_recv h _ (hw o (List.mem_cons_self ..))) (fun o' ho' => hw o' (List.mem_cons_of_mem _ ho'))
theorem fine_lk {n : Nat} {id : Int} {T : Tt} (h : Fine n id T) : ∀ k, Fine n id (lkT T k)
  | 0 => h
  | k + 1 => fine_link (fine_lk h k) k true
theorem fine_pair {n : Nat} {id id' : Int} : ∀ (k : Nat) {S T : Tt}, Fine n id S → Fine n id' T → Fine n id (pairN k S T).1 ∧ Fine n id' (pairN k S T).2
  | 0, _, _, h, g => ⟨h, g⟩
  | k + 1, S, T, h, g => by
    unfold pairN
    split
    · exact ⟨fine_took h, fine_took g⟩
    · exact fine_pair k (fine_pass (fine_took h) _ (fun o ho => (g.out o ho).2.2.2.2)) (fine_pass (fine_took g) _ (fun o ho => (h.out o ho).2.2.2.2))
theorem pairN_next {k : Nat} {S T : Tt} (hn : ¬ (S.outs.length = 0 ∧ T.outs.length = 0)) : pairN (k + 1) S T = pairN k (passT (tookT S) T.outs) (passT (tookT T) S.outs) := by
  conv => lhs; unfold pairN
  rw [if_neg hn]
theorem pairN_end {k : Nat} {S T : Tt} (hn : S.outs.length = 0 ∧ T.outs.length = 0) : pairN (k + 1) S T = (tookT S, tookT T) := by
  conv => lhs; unfold pairN
  rw [if_pos hn]
/-- The labels of two bridges. -/
def C2 (x y : Int) (a a' : Int) : Prop := (a = 0 ∧ a' = 0) ∨ (a = 1 ∧ a' = x) ∨ (a = 2 ∧ a' = y)
def C1 (y : Int) (a a' : Int) : Prop := (a = 0 ∧ a' = 0) ∨ (a = 1 ∧ a' = y)
def D1 (a a' : Int) : Prop := a = a' ∧ 0 ≤ a ∧ a ≤ 65535
theorem lab2 (x y : Int) (h1 : 0 < x) (h2 : x < y) : LabOk (C2 x y) D1 where
  c0 := .inl ⟨rfl, rfl⟩
  d0 := ⟨rfl, by omega, by omega⟩
  clt := by intro a a' b b' ha hb; unfold C2 at ha hb; omega
  dlt := by intro a a' b b' ha hb; unfold D1 at ha hb; omega
  drg := by intro a a' ha; unfold D1 at ha; omega
theorem lab1 (y : Int) (h2 : 0 < y) : LabOk (C1 y) D1 where
  c0 := .inl ⟨rfl, rfl⟩
  d0 := ⟨rfl, by omega, by omega⟩
  clt := by intro a a' b b' ha hb; unfold C1 at ha hb; omega
  dlt := by intro a a' b b' ha hb; unfold D1 at ha hb; omega
  drg := by intro a a' ha; unfold D1 at ha; omega
theorem rt_P0 {C : Int → Int → Prop} (L : LabOk C D1) {id id' : Int} (hid : C id id') (n : Nat) (hn : n ≤ 6) : RT C D1 (P0 id n) (P0 id' n) := by
  have hl : ((idsL n).map portP).length = n := by rw [List.length_map, idsL_len]
  have h := rt_new L hid (ps := (idsL n).map portP) (ps' := (idsL n).map portP) rfl (fun i hi => by
    rw [hl] at hi
    have e : ((idsL n).map portP).getD i Tp.zero = portP ((idsL n).getD i 0) := by simp [idsL, hi]
    rw [e, idsL_at n i hi]
    exact ⟨⟨rfl, by show (0 : Int) ≤ (i : Int) + 1; omega, by show (i : Int) + 1 ≤ 65535; omega⟩, rfl, rfl⟩)
  unfold P0
  generalize newT id ((idsL n).map portP) = X at *
  generalize newT id' ((idsL n).map portP) = X' at *
  exact rt_lk L h n
/-- What the statement asks in the end, of the lesser one first. -/
structure EndP (lo : Int) (n : Nat) (a b : Tt) : Prop where
  ra : a.y.root = lo
  rb : b.y.root = lo
  pa : a.rp = -1
  pb : b.rp = 0
  sa : (a.at 0).state = 2
  sb : ∀ i, i < n → ((b.at i).state = 2 ↔ i = 0)
theorem end_of {C : Int → Int → Prop} {lo lo' : Int} (hC : ∀ x, C lo x → x = lo') {n : Nat} {a a' b b' : Tt} (ha : RT C D1 a a') (hb : RT C D1 b b') (h : okEnd lo n a b = true) : EndP lo' n a' b' := by
  unfold okEnd at h
  rw [Bool.and_eq_true] at h
  obtain ⟨h1, h2, h3, h4, h5⟩ := of_decide_eq_true h.1
  refine ⟨hC _ (by rw [← h1]; exact ha.y.root), hC _ (by rw [← h2]; exact hb.y.root), by rw [← ha.rp]; exact h3, by rw [← hb.rp]; exact h4, by rw [← (ha.at' 0).state]; exact h5, fun i hi => ?_⟩
  have h6 := List.all_eq_true.1 h.2 i (List.mem_range.2 hi)
  rw [beq_iff_eq, decide_eq_decide] at h6
  rw [← (hb.at' i).state]
  exact h6
/-- Two bridges, whatever their ids: beside them are two of small labels. -/
theorem pair_small (one two : Int) (n : Nat) (h1 : U64 one) (h2 : U64 two) (hne : one ≠ two) (hn : n ≤ 6) (hp : 0 < n) : ∃ (C : Int → Int → Prop) (c d : Tt), LabOk C D1 ∧ RT C D1 c (P0 one n) ∧ RT C D1 d (P0 two n) ∧ okPr 200 c d = true ∧ okPr 200 (P1 c d).1 (P1 c d).2 = true ∧
    (two < one → EndP two n (P2 (P0 one n) (P0 two n)).2 (P2 (P0 one n) (P0 two n)).1) ∧ (¬ two < one → EndP one n (P2 (P0 one n) (P0 two n)).1 (P2 (P0 one n) (P0 two n)).2) := by
  obtain ⟨a0, a1⟩ := h1
  obtain ⟨b0, b1⟩ := h2
  have fin : ∀ {C : Int → Int → Prop} {c d : Tt}, LabOk C D1 → RT C D1 c (P0 one n) → RT C D1 d (P0 two n) → RT C D1 (P2 c d).1 (P2 (P0 one n) (P0 two n)).1 ∧ RT C D1 (P2 c d).2 (P2 (P0 one n) (P0 two n)).2 := fun L hc hd => by
    obtain ⟨e1, e2⟩ := rt_pair L 200 hc hd
    exact rt_pair L 200 (rt_tick L e1) (rt_tick L e2)
  by_cases hlt : two < one
  · by_cases hz : two = 0
    · have L := lab1 one (by omega)
      have hc := rt_P0 L (id := 1) (id' := one) (.inr ⟨rfl, rfl⟩) n hn
      have hd := rt_P0 L (id := 0) (id' := two) (.inl ⟨rfl, hz⟩) n hn
      have hk := pr_c n (by omega) hp
      unfold okAlR at hk
      rw [Bool.and_eq_true, Bool.and_eq_true] at hk
      obtain ⟨e1, e2⟩ := fin L hc hd
      exact ⟨_, _, _, L, hc, hd, hk.1.1, hk.1.2, fun _ => end_of (by intro x hx; unfold C1 at hx; omega) e2 e1 hk.2, fun e => absurd hlt e⟩
    · have L := lab2 two one (by omega) hlt
      have hc := rt_P0 L (id := 2) (id' := one) (.inr (.inr ⟨rfl, rfl⟩)) n hn
      have hd := rt_P0 L (id := 1) (id' := two) (.inr (.inl ⟨rfl, rfl⟩)) n hn
      have hk := pr_d n (by omega) hp
      unfold okAlR at hk
      rw [Bool.and_eq_true, Bool.and_eq_true] at hk
      obtain ⟨e1, e2⟩ := fin L hc hd
      exact ⟨_, _, _, L, hc, hd, hk.1.1, hk.1.2, fun _ => end_of (by intro x hx; unfold C2 at hx; omega) e2 e1 hk.2, fun e => absurd hlt e⟩
  · by_cases hz : one = 0
    · have L := lab1 two (by omega)
      have hc := rt_P0 L (id := 0) (id' := one) (.inl ⟨rfl, hz⟩) n hn
      have hd := rt_P0 L (id := 1) (id' := two) (.inr ⟨rfl, rfl⟩) n hn
      have hk := pr_a n (by omega) hp
      unfold okAll at hk
      rw [Bool.and_eq_true, Bool.and_eq_true] at hk
      obtain ⟨e1, e2⟩ := fin L hc hd
      exact ⟨_, _, _, L, hc, hd, hk.1.1, hk.1.2, fun e => absurd e hlt, fun _ => end_of (by intro x hx; unfold C1 at hx; omega) e1 e2 hk.2⟩
    · have L := lab2 one two (by omega) (by omega)
      have hc := rt_P0 L (id := 1) (id' := one) (.inr (.inl ⟨rfl, rfl⟩)) n hn
      have hd := rt_P0 L (id := 2) (id' := two) (.inr (.inr ⟨rfl, rfl⟩)) n hn
      have hk := pr_b n (by omega) hp
      unfold okAll at hk
      rw [Bool.and_eq_true, Bool.and_eq_true] at hk
      obtain ⟨e1, e2⟩ := fin L hc hd
      exact ⟨_, _, _, L, hc, hd, hk.1.1, hk.1.2, fun e => absurd e hlt, fun _ => end_of (by intro x hx; unfold C2 at hx; omega) e1 e2 hk.2⟩
end Go.Proofs.Ytoejoneecanbbaa
