
/-
  Mathematics of the tree: what of a port the calls change ('core'), and what holds between any two calls ('Inv'). No Go text. Conditions: those that each theorem names.
-/
import Derived.Test.YtoejoneecanbbaaTree23
namespace Go.Proofs.Ytoejoneecanbbaa
open Go.RowKit
set_option linter.unusedVariables false
set_option maxRecDepth 20000

/-- What of a port a change of roles is about. -/
structure Cr where
  (b : Rp) (edge : Bool) (role state : Int)
def Tp.core (p : Tp) : Cr := ⟨p.b, p.edge, p.role, p.state⟩
structure SameC (T U : Tt) : Prop where
  len : U.ps.length = T.ps.length
  at' : ∀ i, (U.at i).core = (T.at i).core
theorem SameC.refl (T : Tt) : SameC T T := ⟨rfl, fun _ => rfl⟩
theorem SameC.trans {T U V : Tt} (h : SameC T U) (g : SameC U V) : SameC T V := ⟨g.len.trans h.len, fun i => (g.at' i).trans (h.at' i)⟩
theorem at_beyond (T : Tt) (i : Nat) (h : ¬ i < T.ps.length) : T.at i = Tp.zero := by
  unfold Tt.at
  rw [List.getD_eq_getElem?_getD, List.getElem?_eq_none (by omega)]
  rfl
theorem samec_setP (T : Tt) (i : Nat) (p : Tp) (h : p.core = (T.at i).core) : SameC T (setP T i p) := by
  refine ⟨setP_len _ _ _, fun j => ?_⟩
  by_cases hi : i < T.ps.length
  · rw [setP_at T i j p hi]
    split
    · rename_i e; rw [e]; exact h
    · rfl
  · have : setP T i p = T := by unfold setP; rw [List.set_eq_of_length_le (by omega)]
    rw [this]
theorem samec_ps {T U : Tt} (h : U.ps = T.ps) : SameC T U := ⟨by rw [h], fun i => by unfold Tt.at; rw [h]⟩
theorem samec_stepS (fr : Int) (T : Tt) (i : Nat) : SameC T (stepS fr T i) := by
  unfold stepS
  split
  · exact (samec_setP T i (changeP (T.at i)) rfl).trans (samec_ps (T := setP T i (changeP (T.at i))) rfl)
  · exact SameC.refl _
theorem samec_spreadTo (T : Tt) (fr : Int) : ∀ k, SameC T (spreadTo T fr k)
  | 0 => SameC.refl _
  | k + 1 => (samec_spreadTo T fr k).trans (samec_stepS _ _ _)
theorem samec_disTo (T : Tt) : ∀ k, SameC T (disTo T k)
  | 0 => SameC.refl _
  | k + 1 => (samec_disTo T k).trans (samec_setP _ _ _ rfl)
theorem samec_hear (T : Tt) (i : Nat) : SameC T (hearT T i) := by
  unfold hearT
  split
  · exact samec_spreadTo _ _ _
  · exact SameC.refl _
theorem samec_tell (T : Tt) (i : Nat) (ag : Bool) : SameC T (tellT T i ag) := samec_ps (tellT_ps T i ag).1
theorem samec_all (T : Tt) : SameC T (allT T) := samec_ps (allTo_ps T _).1
def Cr.up (c : Cr) (s : Int) : Cr := ⟨c.b, c.edge, c.role, s⟩
theorem forward_core (T : Tt) (i : Nat) (hi : i < T.ps.length) (j : Nat) : ((forwardT T i).at j).core = if j = i then (T.at i).core.up 2 else (T.at j).core := by
  unfold forwardT
  split
  · rw [setP_at T i j _ hi]
    split
    · rfl
    · rfl
  · show ((spreadTo _ _ _).at j).core = _
    rw [(samec_spreadTo _ _ _).at' j, setP_at T i j _ hi]
    split
    · rfl
    · rfl
/-- What a port's core is, when its role is r. -/
def newC (c : Cr) (r : Int) : Cr := if c.role = r then c else ⟨c.b, c.edge, r, if r = 2 ∧ c.edge = true then 2 else 0⟩
theorem take_core (T : Tt) (i : Nat) (hi : i < T.ps.length) (r : Int) (j : Nat) : ((takeT T i r).at j).core = if j = i then ⟨(T.at i).b, (T.at i).edge, r, if r = 2 ∧ (T.at i).edge = true then 2 else 0⟩ else (T.at j).core := by
  have hl : ∀ p, i < (setP T i p).ps.length := fun p => by rw [setP_len]; exact hi
  have hself : ∀ p, (setP T i p).at i = p := fun p => by rw [setP_at T i i p hi, if_pos rfl]
  unfold takeT
  by_cases h2 : r = 2
  · rw [if_pos h2]
    show ((if (T.at i).edge = true then forwardT (setP T i (newP (T.at i) r)) i else setP T i (waitP (newP (T.at i) r))).at j).core = _
    by_cases he : (T.at i).edge = true
    · rw [if_pos he, forward_core _ i (hl _), hself]
      split
      · rw [if_pos ⟨h2, he⟩]; rfl
      · rename_i hne; rw [setP_at T i j _ hi, if_neg hne]
    · rw [if_neg he, setP_at T i j _ hi]
      split
      · rw [if_neg (fun e => he e.2)]; rfl
      · rfl
  · rw [if_neg h2]
    have hz : (if r = 2 ∧ (T.at i).edge = true then (2 : Int) else 0) = 0 := if_neg (fun e => h2 e.1)
    rw [hz]
    split
    · rw [setP_at T i j _ hi]
      split
      · rfl
      · rfl
    · show ((setP T i (newP (T.at i) r)).at j).core = _
      rw [setP_at T i j _ hi]
      split
      · rfl
      · rfl
theorem takeTo_core (T : Tt) (rs : List Int) : ∀ k, k ≤ T.ps.length → ∀ j, ((takeTo T rs k).at j).core = if j < k then newC (T.at j).core (rs.getD j 0) else (T.at j).core
  | 0, _, j => by rw [if_neg (by omega)]; rfl
  | k + 1, hk, j => by
    have ih := takeTo_core T rs k (by omega)
    have hk' : k < (takeTo T rs k).ps.length := by rw [takeTo_len]; omega
    have hself : ((takeTo T rs k).at k).core = (T.at k).core := by rw [ih k, if_neg (by omega)]
    have hrole : ((takeTo T rs k).at k).role = (T.at k).core.role := congrArg Cr.role hself
    have hb : ((takeTo T rs k).at k).b = (T.at k).core.b := congrArg Cr.b hself
    have he : ((takeTo T rs k).at k).edge = (T.at k).core.edge := congrArg Cr.edge hself
    rw [takeTo]
    by_cases hne : ((takeTo T rs k).at k).role ≠ rs.getD k 0
    · rw [if_pos hne, take_core _ k hk' _ j]
      by_cases hj : j = k
      · subst hj
        rw [if_pos rfl, if_pos (show j < j + 1 by omega), hb, he]
        unfold newC
        rw [if_neg (show ¬ (T.at j).core.role = rs.getD j 0 by rw [← hrole]; exact hne)]
      · rw [if_neg hj, ih j]
        by_cases hlt : j < k
        · rw [if_pos hlt, if_pos (by omega)]
        · rw [if_neg hlt, if_neg (by omega)]
    · rw [if_neg hne, ih j]
      by_cases hj : j = k
      · subst hj
        rw [if_neg (by omega), if_pos (by omega)]
        unfold newC
        rw [if_pos (by rw [← hrole]; exact Decidable.not_not.1 hne)]
      · by_cases hlt : j < k
        · rw [if_pos hlt, if_pos (by omega)]
        · rw [if_neg hlt, if_neg (by omega)]
/-- Behind the roles anew. -/
theorem renew_facts (T : Tt) (a : Bool) : (renewT T a).y = (selT T).y ∧ (renewT T a).rp = (selT T).rp ∧ (renewT T a).roles = (selT T).roles ∧ (renewT T a).tells = (selT T).tells ∧ (renewT T a).id = T.id := by
  have h4 : Same (selT T) (midT T) := by
    unfold midT
    refine Same.trans ?_ (same_root _)
    refine Same.trans ?_ (same_takeTo _ _ _)
    split
    · exact same_disTo _ _
    · exact Same.refl _
  rcases renewT_or T a with e | e <;> rw [e]
  · have h5 : ∀ (U : Tt) k, (allTo U k).y = U.y ∧ (allTo U k).rp = U.rp ∧ (allTo U k).roles = U.roles ∧ (allTo U k).tells = U.tells ∧ (allTo U k).id = U.id := by
      intro U k
      induction k with
      | zero => exact ⟨rfl, rfl, rfl, rfl, rfl⟩
      | succ k ih =>
        rw [allTo]
        split
        · have h6 := tellT_ps (allTo U k) k false
          exact ⟨h6.2.2.2.2.2.1.trans ih.1, h6.2.2.1.trans ih.2.1, h6.2.2.2.2.2.2.2.trans ih.2.2.1, h6.2.1.trans ih.2.2.2.1, h6.2.2.2.1.trans ih.2.2.2.2⟩
        · exact ih
    have h7 := h5 (midT T) (midT T).ps.length
    exact ⟨h7.1.trans h4.y, h7.2.1.trans h4.rp, h7.2.2.1.trans h4.roles, h7.2.2.2.1.trans h4.tells, h7.2.2.2.2.trans h4.id⟩
  · exact ⟨h4.y, h4.rp, h4.roles, h4.tells, h4.id⟩
theorem renew_core (T : Tt) (a : Bool) (j : Nat) (hj : j < T.ps.length) : ((renewT T a).at j).core = if (selT T).rp = j then (newC (T.at j).core ((selT T).roles.getD j 0)).up 2 else newC (T.at j).core ((selT T).roles.getD j 0) := by
  have hm : ((renewT T a).at j).core = ((midT T).at j).core := by
    rcases renewT_or T a with e | e <;> rw [e]
    exact (samec_all _).at' j
  rw [hm]
  unfold midT
  have hs : SameC T (if newsB T (selT T) = true then disT (selT T) else selT T) := by
    split
    · exact (samec_ps (T := T) (U := selT T) rfl).trans (samec_disTo _ _)
    · exact samec_ps rfl
  have hS : Same (selT T) (if newsB T (selT T) = true then disT (selT T) else selT T) := by
    split
    · exact same_disTo _ _
    · exact Same.refl _
  generalize (if newsB T (selT T) = true then disT (selT T) else selT T) = U at *
  have hc := takeTo_core U (selT T).roles T.ps.length (by rw [hs.len]; omega)
  have hrp : (takeTo U (selT T).roles T.ps.length).rp = (selT T).rp := (same_takeTo _ _ _).rp.trans hS.rp
  have hl : (takeTo U (selT T).roles T.ps.length).ps.length = T.ps.length := by rw [takeTo_len, hs.len]
  generalize takeTo U (selT T).roles T.ps.length = V at *
  have hb := bestW_place T.id T.bs T.ps.length
  have hcj := hc j
  rw [if_pos hj, hs.at' j] at hcj
  have hr0 : (selT T).rp < T.ps.length := hb.2
  unfold rootT
  rw [hrp]
  split
  · rename_i h0
    rw [forward_core V _ (by rw [hl]; omega) j]
    by_cases hjr : (selT T).rp = j
    · have e : j = (selT T).rp.toNat := by omega
      rw [if_pos e, if_pos hjr, ← e, hcj]
    · rw [if_neg (by omega), if_neg hjr, hcj]
  · rename_i h0
    by_cases hjr : (selT T).rp = j
    · rw [if_pos hjr]
      have e : j = (selT T).rp.toNat := by omega
      have hst : (V.at j).state = 2 := by
        rw [e]
        by_cases h2 : (V.at (selT T).rp.toNat).state = 2
        · exact h2
        · exact absurd ⟨by omega, h2⟩ h0
      rw [← hcj]
      show (V.at j).core = (⟨(V.at j).b, (V.at j).edge, (V.at j).role, 2⟩ : Cr)
      rw [← hst]
      rfl
    · rw [if_neg hjr, hcj]
end Go.Proofs.Ytoejoneecanbbaa
