
/-
  Mathematics of the tree: what holds between any two calls ('Inv', 'OutI'). No Go text. Conditions: those that each theorem names.
-/
import Derived.Test.YtoejoneecanbbaaTree26
namespace Go.Proofs.Ytoejoneecanbbaa
open Go.RowKit
set_option linter.unusedVariables false
set_option maxRecDepth 20000

structure Inv (T : Tt) : Prop where
  y : T.y = (selT T).y
  rp : T.rp = (selT T).rp
  roles : T.roles = (selT T).roles
  tells : T.tells = (selT T).tells
  role : ∀ i, i < T.ps.length → (T.at i).role = (selT T).roles.getD i 0
  root : ∀ i : Nat, i < T.ps.length → T.rp = i → (T.at i).state = 2
  st : ∀ i, (T.at i).state ≠ 0 → (T.at i).role = 1 ∨ (T.at i).role = 2
  has : ∀ i, (T.at i).b.has = true → (T.at i).b.up = true
theorem bs_same {T U : Tt} (hl : U.ps.length = T.ps.length) (h : ∀ i, (U.at i).b = (T.at i).b) : U.bs = T.bs := by
  apply List.ext_getElem?
  intro i
  by_cases hi : i < T.bs.length
  · have hi' : i < U.bs.length := by rw [bs_len, hl, ← bs_len]; exact hi
    have e := h i
    rw [← bs_at, ← bs_at, List.getD_eq_getElem?_getD, List.getD_eq_getElem?_getD, List.getElem?_eq_getElem hi, List.getElem?_eq_getElem hi'] at e
    rw [List.getElem?_eq_getElem hi, List.getElem?_eq_getElem hi']
    exact congrArg some e
  · have hi' : ¬ i < U.bs.length := by rw [bs_len, hl, ← bs_len]; exact hi
    rw [List.getElem?_eq_none (Nat.le_of_not_lt hi), List.getElem?_eq_none (Nat.le_of_not_lt hi')]
theorem sel_same {T U : Tt} (hid : U.id = T.id) (hl : U.ps.length = T.ps.length) (h : ∀ i, (U.at i).b = (T.at i).b) : (selT U).y = (selT T).y ∧ (selT U).rp = (selT T).rp ∧ (selT U).roles = (selT T).roles ∧ (selT U).tells = (selT T).tells := by
  have hb := bs_same hl h
  unfold selT
  rw [hid, hb, hl]
  exact ⟨rfl, rfl, rfl, rfl⟩
/-- Steps that leave the roles. -/
structure Stp (T U : Tt) : Prop where
  y : U.y = T.y
  rp : U.rp = T.rp
  roles : U.roles = T.roles
  tells : U.tells = T.tells
  id : U.id = T.id
  len : U.ps.length = T.ps.length
  at' : ∀ i, (U.at i).b = (T.at i).b ∧ (U.at i).role = (T.at i).role ∧ ((U.at i).state = (T.at i).state ∨ (T.at i).role = 2)
theorem Stp.refl (T : Tt) : Stp T T := ⟨rfl, rfl, rfl, rfl, rfl, rfl, fun _ => ⟨rfl, rfl, .inl rfl⟩⟩
theorem Stp.trans {T U V : Tt} (h : Stp T U) (g : Stp U V) : Stp T V := by
  refine ⟨g.y.trans h.y, g.rp.trans h.rp, g.roles.trans h.roles, g.tells.trans h.tells, g.id.trans h.id, g.len.trans h.len, fun i => ?_⟩
  obtain ⟨a1, a2, a3⟩ := h.at' i
  obtain ⟨b1, b2, b3⟩ := g.at' i
  refine ⟨b1.trans a1, b2.trans a2, ?_⟩
  rcases a3 with a3 | a3
  · rcases b3 with b3 | b3
    · exact .inl (b3.trans a3)
    · exact .inr (by rw [← a2]; exact b3)
  · exact .inr a3
theorem Stp.of {T U : Tt} (h : Same T U) (g : SameC T U) : Stp T U := ⟨h.y, h.rp, h.roles, h.tells, h.id, g.len, fun i => ⟨congrArg Cr.b (g.at' i), congrArg Cr.role (g.at' i), .inl (congrArg Cr.state (g.at' i))⟩⟩
theorem stp_setP (T : Tt) (i : Nat) (p : Tp) (hb : p.b = (T.at i).b) (hr : p.role = (T.at i).role) (hs : p.state = (T.at i).state ∨ (T.at i).role = 2) : Stp T (setP T i p) := by
  refine ⟨rfl, rfl, rfl, rfl, rfl, setP_len _ _ _, fun j => ?_⟩
  by_cases hi : i < T.ps.length
  · rw [setP_at T i j p hi]
    split
    · rename_i e; subst e; exact ⟨hb, hr, hs⟩
    · exact ⟨rfl, rfl, .inl rfl⟩
  · have : setP T i p = T := by unfold setP; rw [List.set_eq_of_length_le (by omega)]
    rw [this]
    exact ⟨rfl, rfl, .inl rfl⟩
theorem stp_forget (T : Tt) (i : Nat) : Stp T (forgetT T i) := ⟨rfl, rfl, rfl, rfl, rfl, rfl, fun _ => ⟨rfl, rfl, .inl rfl⟩⟩
theorem stp_tell (T : Tt) (i : Nat) (ag : Bool) : Stp T (tellT T i ag) := by
  have h := tellT_ps T i ag
  have hc := samec_tell T i ag
  exact ⟨h.2.2.2.2.2.1, h.2.2.1, h.2.2.2.2.2.2.2, h.2.1, h.2.2.2.1, hc.len, fun j => ⟨congrArg Cr.b (hc.at' j), congrArg Cr.role (hc.at' j), .inl (congrArg Cr.state (hc.at' j))⟩⟩
theorem stp_allTo (T : Tt) : ∀ k, Stp T (allTo T k)
  | 0 => Stp.refl _
  | k + 1 => by
    rw [allTo]
    split
    · exact (stp_allTo T k).trans (stp_tell _ _ _)
    · exact stp_allTo T k
theorem stp_spread (T : Tt) (fr : Int) : Stp T (spreadT T fr) := Stp.of (same_spreadTo T fr _) (samec_spreadTo T fr _)
theorem stp_hear (T : Tt) (i : Nat) : Stp T (hearT T i) := Stp.of (same_hear T i) (samec_hear T i)
theorem stp_forward (T : Tt) (i : Nat) (hi : i < T.ps.length) (h2 : (T.at i).role = 2) : Stp T (forwardT T i) := by
  have h := same_forward T i
  refine ⟨h.y, h.rp, h.roles, h.tells, h.id, forwardT_len _ _, fun j => ?_⟩
  have hc := forward_core T i hi j
  by_cases e : j = i
  · subst e
    rw [if_pos rfl] at hc
    exact ⟨congrArg Cr.b hc, congrArg Cr.role hc, .inr h2⟩
  · rw [if_neg e] at hc
    exact ⟨congrArg Cr.b hc, congrArg Cr.role hc, .inl (congrArg Cr.state hc)⟩
theorem stp_stepH (fr : Int) (T : Tt) (i : Nat) : Stp T (stepH fr T i) := by
  unfold stepH
  split
  · rename_i h
    have h2 : (T.at i).role = 2 := by
      have := h.2
      unfold unsB at this
      simp only [Bool.and_eq_true, decide_eq_true_eq] at this
      exact this.1.1.1
    exact (stp_setP T i (waitP (T.at i)) rfl rfl (.inr h2)).trans (stp_forget _ _)
  · exact Stp.refl _
theorem stp_holdTo (T : Tt) (fr : Int) : ∀ k, Stp T (holdTo T fr k)
  | 0 => Stp.refl _
  | k + 1 => (stp_holdTo T fr k).trans (stp_stepH _ _ _)
theorem stp_count (T : Tt) (i : Nat) (hi : i < T.ps.length) : Stp T (countT T i) := by
  unfold countT
  split
  · exact Stp.refl _
  · rename_i h
    have h2 : (T.at i).role = 2 := Decidable.by_contra fun e => h (.inl e)
    split
    · exact stp_setP _ _ _ rfl rfl (.inl rfl)
    · split
      · exact stp_setP _ _ _ rfl rfl (.inr h2)
      · have hat : (setP T i (downW (T.at i))).at i = downW (T.at i) := (setP_at T i i _ hi).trans (if_pos rfl)
        exact (stp_setP T i (downW (T.at i)) rfl rfl (.inl rfl)).trans (stp_forward _ i (by rw [setP_len]; exact hi) (by rw [hat]; exact h2))
theorem stp_cntTo (T : Tt) : ∀ k, k ≤ T.ps.length → Stp T (cntTo T k)
  | 0, _ => Stp.refl _
  | k + 1, hk => (stp_cntTo T k (by omega)).trans (stp_count _ k (by rw [cntTo_len]; omega))
theorem stp_setQ (T : Tt) (n : Int) : Stp T (setQ T n) := ⟨rfl, rfl, rfl, rfl, rfl, rfl, fun _ => ⟨rfl, rfl, .inl rfl⟩⟩
theorem stp_prop (T : Tt) (i : Nat) : Stp T (propT T i) := by
  unfold propT
  repeat' split
  · exact stp_tell _ _ _
  · exact ((stp_holdTo T i _).trans (stp_tell _ _ _)).trans (stp_allTo _ _)
  · exact Stp.refl _
theorem stp_ans (T : Tt) (i : Nat) (hi : i < T.ps.length) (b : Bp) : Stp T (ansT T i b) := by
  unfold ansT
  split
  · rename_i h
    have h2 : (T.at i).role = 2 := by
      unfold ansB at h
      simp only [Bool.and_eq_true, decide_eq_true_eq] at h
      exact h.1.1.1
    have hat : (setP T i (agreeP (T.at i))).at i = agreeP (T.at i) := (setP_at T i i _ hi).trans (if_pos rfl)
    exact ((stp_setP T i (agreeP (T.at i)) rfl rfl (.inl rfl)).trans (stp_forward _ i (by rw [setP_len]; exact hi) (by rw [hat]; exact h2))).trans (stp_tell _ _ _)
  · exact Stp.refl _
/-- The root's port is one that is up, and was told something. -/
theorem root_up (b : Int) (ps : List Rp) : ∀ k, (bestW b ps k).place = -1 ∨ ∃ i, i < k ∧ (bestW b ps k).place = (i : Nat) ∧ (ps.getD i Rp.zero).up = true ∧ (ps.getD i Rp.zero).has = true
  | 0 => .inl rfl
  | k + 1 => by
    have ih := root_up b ps k
    rw [bestW]
    unfold stepW
    split
    · rename_i h
      split
      · exact .inr ⟨k, by omega, rfl, h.1, h.2⟩
      · rcases ih with ih | ⟨i, h1, h2⟩
        · exact .inl ih
        · exact .inr ⟨i, by omega, h2⟩
    · rcases ih with ih | ⟨i, h1, h2⟩
      · exact .inl ih
      · exact .inr ⟨i, by omega, h2⟩
theorem sel_role (T : Tt) (i : Nat) (hi : i < T.ps.length) : (selT T).roles.getD i 0 = roleN (T.at i).b (decide ((i : Int) = (selT T).rp)) (tellV T.id (bestW T.id T.bs T.ps.length) (T.at i).b) := by
  show (rolesL T.id T.bs).getD i 0 = _
  rw [rolesL_at _ _ _ (by rw [bs_len]; exact hi), bs_at, bs_len]
  rfl
theorem root_role (T : Tt) (i : Nat) (hi : i < T.ps.length) (h : (selT T).rp = i) : (selT T).roles.getD i 0 = 1 := by
  rw [sel_role T i hi, h]
  rcases root_up T.id T.bs T.ps.length with e | ⟨j, h1, h2, h3, h4⟩
  · have : (selT T).rp = -1 := e
    omega
  · have : (selT T).rp = j := h2
    obtain rfl : i = j := by omega
    rw [bs_at] at h3
    unfold roleN
    rw [if_neg (by rw [h3]; simp), if_pos (by simp)]
theorem down_role (T : Tt) (i : Nat) (hi : i < T.ps.length) (h : (T.at i).b.up = false) : (selT T).roles.getD i 0 = 0 := by
  rw [sel_role T i hi]
  unfold roleN
  rw [if_pos h]
theorem newC_role (c : Cr) (r : Int) : (newC c r).role = r := by
  unfold newC
  split
  · assumption
  · rfl
theorem newC_b (c : Cr) (r : Int) : (newC c r).b = c.b := by
  unfold newC
  split <;> rfl
theorem renew_b (T : Tt) (a : Bool) (i : Nat) : ((renewT T a).at i).b = (T.at i).b := by
  by_cases hi : i < T.ps.length
  · have h := renew_core T a i hi
    split at h
    · exact (congrArg Cr.b h).trans (newC_b _ _)
    · exact (congrArg Cr.b h).trans (newC_b _ _)
  · rw [at_beyond T i hi, at_beyond _ i (by rw [renewT_len]; exact hi)]
/-- What renew makes of it. -/
theorem inv_renew {T : Tt} (hst : ∀ i, (T.at i).state ≠ 0 → (T.at i).role = 1 ∨ (T.at i).role = 2) (hhas : ∀ i, (T.at i).b.has = true → (T.at i).b.up = true) (a : Bool) : Inv (renewT T a) := by
  obtain ⟨f1, f2, f3, f4, f5⟩ := renew_facts T a
  obtain ⟨g1, g2, g3, g4⟩ := sel_same (T := T) (U := renewT T a) f5 (renewT_len T a) (renew_b T a)
  refine ⟨by rw [f1, g1], by rw [f2, g2], by rw [f3, g3], by rw [f4, g4], fun i hi => ?_, fun i hi hr => ?_, fun i hs => ?_, fun i h => ?_⟩
  · rw [renewT_len] at hi
    rw [g3]
    have h := renew_core T a i hi
    split at h
    · exact (congrArg Cr.role h).trans (newC_role _ _)
    · exact (congrArg Cr.role h).trans (newC_role _ _)
  · rw [renewT_len] at hi
    rw [f2] at hr
    have h := renew_core T a i hi
    rw [if_pos hr] at h
    exact congrArg Cr.state h
  · by_cases hi : i < T.ps.length
    · have h := renew_core T a i hi
      by_cases hr : (selT T).rp = i
      · rw [if_pos hr] at h
        have hrole := (congrArg Cr.role h).trans (newC_role (T.at i).core ((selT T).roles.getD i 0))
        exact .inl (hrole.trans (root_role T i hi hr))
      · rw [if_neg hr] at h
        have hrole := (congrArg Cr.role h).trans (newC_role (T.at i).core ((selT T).roles.getD i 0))
        have hstate := congrArg Cr.state h
        have hrole' : ((renewT T a).at i).role = (selT T).roles.getD i 0 := hrole
        have hstate' : ((renewT T a).at i).state = (newC (T.at i).core ((selT T).roles.getD i 0)).state := hstate
        rw [hstate'] at hs
        rw [hrole']
        unfold newC at hs
        by_cases e : (T.at i).core.role = (selT T).roles.getD i 0
        · rw [if_pos e] at hs
          have := hst i hs
          rw [← e]
          exact this
        · rw [if_neg e] at hs
          by_cases e2 : (selT T).roles.getD i 0 = 2 ∧ (T.at i).core.edge = true
          · exact .inr e2.1
          · dsimp only at hs
            rw [if_neg e2] at hs
            exact absurd rfl hs
    · rw [at_beyond _ i (by rw [renewT_len]; exact hi)] at hs
      exact absurd rfl hs
  · rw [renew_b] at h ⊢
    exact hhas i h
theorem Stp.inv {T U : Tt} (s : Stp T U) (h : Inv T) : Inv U := by
  obtain ⟨g1, g2, g3, g4⟩ := sel_same (T := T) (U := U) s.id s.len (fun i => (s.at' i).1)
  refine ⟨by rw [s.y, g1, h.y], by rw [s.rp, g2, h.rp], by rw [s.roles, g3, h.roles], by rw [s.tells, g4, h.tells], fun i hi => ?_, fun i hi hr => ?_, fun i hs => ?_, fun i hh => ?_⟩
  · rw [(s.at' i).2.1, g3]
    exact h.role i (by rw [← s.len]; exact hi)
  · rw [s.rp] at hr
    rw [s.len] at hi
    have h1 : (T.at i).role = 1 := by rw [h.role i hi]; exact root_role T i hi (by rw [← h.rp]; exact hr)
    rcases (s.at' i).2.2 with e | e
    · rw [e]; exact h.root i hi hr
    · rw [h1] at e; omega
  · rw [(s.at' i).2.1]
    rcases (s.at' i).2.2 with e | e
    · rw [e] at hs; exact h.st i hs
    · exact .inr e
  · rw [(s.at' i).1] at hh ⊢
    exact h.has i hh
theorem inv_new (id : Int) (ps : List Tp) : Inv (newT id ps) := by
  have hat : ∀ i, ((newT id ps).at i).b.up = false ∧ ((newT id ps).at i).b.has = false ∧ ((newT id ps).at i).role = 0 ∧ ((newT id ps).at i).state = 0 := fun i => by
    by_cases hi : i < ps.length
    · have e : (newT id ps).at i = bareP (ps.getD i Tp.zero) := preT_at id ps i hi
      rw [e]; exact ⟨rfl, rfl, rfl, rfl⟩
    · rw [at_beyond _ i (by rw [newT_len]; exact hi)]; exact ⟨rfl, rfl, rfl, rfl⟩
  have hss := sel_same (T := preT id ps) (U := newT id ps) rfl rfl (fun _ => rfl)
  refine ⟨hss.1.symm, hss.2.1.symm, hss.2.2.1.symm, hss.2.2.2.symm, fun i hi => ?_, fun i hi hr => ?_, fun i hs => absurd (hat i).2.2.2 hs, fun i hh => by rw [(hat i).2.1] at hh; cases hh⟩
  · rw [(hat i).2.2.1, down_role _ i hi (hat i).1]
  · rcases root_up (newT id ps).id (newT id ps).bs (newT id ps).ps.length with e | ⟨j, h1, h2, h3, h4⟩
    · have e1 : (newT id ps).rp = -1 := hss.2.1.symm.trans e
      omega
    · rw [bs_at, (hat j).1] at h3; cases h3
theorem inv_link {T : Tt} (h : Inv T) (i : Int) (up : Bool) : Inv (linkT T i up) := by
  unfold linkT
  split
  · rename_i hc
    have hi : i.toNat < T.ps.length := by omega
    refine inv_renew (fun j hs => ?_) (fun j hh => ?_) true
    · have e : (forgetT (setP T i.toNat (dropP (setUp (T.at i.toNat) up))) i.toNat).at j = (setP T i.toNat (dropP (setUp (T.at i.toNat) up))).at j := rfl
      rw [e, setP_at T _ j _ hi] at hs ⊢
      split at hs
      · rename_i ej; rw [if_pos ej]; exact h.st _ hs
      · rename_i ej; rw [if_neg ej]; exact h.st j hs
    · have e : (forgetT (setP T i.toNat (dropP (setUp (T.at i.toNat) up))) i.toNat).at j = (setP T i.toNat (dropP (setUp (T.at i.toNat) up))).at j := rfl
      rw [e, setP_at T _ j _ hi] at hh ⊢
      split at hh
      · cases hh
      · rename_i ej; rw [if_neg ej]; exact h.has j hh
  · exact h
theorem oldTo_at (T : Tt) : ∀ k, k ≤ T.ps.length → ∀ j, (oldTo T k).at j = if j < k then oldP (T.at j) else T.at j
  | 0, _, j => by rw [if_neg (by omega)]; rfl
  | k + 1, hk, j => by
    have ih := oldTo_at T k (by omega)
    rw [oldTo, setP_at _ k j _ (by rw [oldTo_len]; omega)]
    by_cases e : j = k
    · subst e
      rw [if_pos rfl, if_pos (by omega), ih j, if_neg (by omega)]
    · rw [if_neg e, ih j]
      by_cases hlt : j < k
      · rw [if_pos hlt, if_pos (by omega)]
      · rw [if_neg hlt, if_neg (by omega)]
theorem lostTo_no (T : Tt) : ∀ k, k ≤ T.ps.length → lostTo T k = false → ∀ j, j < k → lostP (T.at j) = false
  | 0, _, _, j, hj => by omega
  | k + 1, hk, h, j, hj => by
    rw [lostTo, Bool.or_eq_false_iff, oldTo_at T k (by omega) k, if_neg (by omega)] at h
    by_cases e : j = k
    · subst e; exact h.2
    · exact lostTo_no T k (by omega) h.1 j (by omega)
theorem oldP_facts (p : Tp) : (oldP p).role = p.role ∧ (oldP p).state = p.state ∧ (oldP p).edge = p.edge ∧ ((oldP p).b.has = true → p.b.has = true ∧ (oldP p).b.up = p.b.up) ∧ (lostP p = false → (oldP p).b = p.b) := by
  unfold oldP lostP
  by_cases h1 : p.b.has = false
  · rw [if_pos h1]
    exact ⟨rfl, rfl, rfl, fun h => ⟨h, rfl⟩, fun _ => rfl⟩
  · rw [if_neg h1]
    split
    · rename_i h2
      refine ⟨rfl, rfl, rfl, (fun h => by cases h), fun h => ?_⟩
      rw [decide_eq_true h2, Bool.and_true] at h
      exact absurd h h1
    · exact ⟨rfl, rfl, rfl, fun h => ⟨h, rfl⟩, fun _ => rfl⟩
theorem inv_seen {T : Tt} (h : Inv T) : Inv (seenT T) := by
  have hat := oldTo_at T T.ps.length (Nat.le_refl _)
  unfold seenT
  by_cases hl : lostTo T T.ps.length = true
  · rw [if_pos hl]
    refine inv_renew (fun j hs => ?_) (fun j hh => ?_) false
    · rw [hat j] at hs ⊢
      split at hs
      · rename_i e; rw [if_pos e]; rw [(oldP_facts _).2.1] at hs; rw [(oldP_facts _).1]; exact h.st j hs
      · rename_i e; rw [if_neg e]; exact h.st j hs
    · rw [hat j] at hh ⊢
      split at hh
      · rename_i e
        rw [if_pos e]
        obtain ⟨e1, e2⟩ := (oldP_facts (T.at j)).2.2.2.1 hh
        rw [e2]; exact h.has j e1
      · rename_i e; rw [if_neg e]; exact h.has j hh
  · rw [if_neg hl]
    have hs := same_oldTo T T.ps.length
    have hno := lostTo_no T T.ps.length (Nat.le_refl _) (by simpa using hl)
    refine Stp.inv (T := T) ⟨hs.y, hs.rp, hs.roles, hs.tells, hs.id, oldTo_len T _, fun j => ?_⟩ h
    rw [hat j]
    split
    · rename_i e
      have f := oldP_facts (T.at j)
      exact ⟨f.2.2.2.2 (hno j e), f.1, .inl f.2.1⟩
    · exact ⟨rfl, rfl, .inl rfl⟩
theorem inv_tick {T : Tt} (h : Inv T) : Inv (tickT T) := by
  have h1 : Inv (goneT T) := (stp_cntTo (seenT T) T.ps.length (by rw [seenT_len]; exact Nat.le_refl _)).inv (inv_seen h)
  unfold tickT
  split
  · exact ((stp_allTo (goneT T) _).trans (stp_setQ _ _)).inv h1
  · exact (stp_setQ _ _).inv h1
theorem took_facts (p : Tp) (m : Bp) : (tookP p m).role = p.role ∧ (tookP p m).state = p.state ∧ ((tookP p m).b.up = p.b.up) := by
  unfold tookP
  split <;> exact ⟨rfl, rfl, rfl⟩
theorem inv_told {T : Tt} (h : Inv T) (i : Nat) (hi : i < T.ps.length) (hup : (T.at i).b.up = true) (m : Bp) : Inv (toldT T i m) := by
  have h1 : Inv (renewT (setP T i (tookP (T.at i) m)) false) := by
    obtain ⟨f1, f2, f3⟩ := took_facts (T.at i) m
    refine inv_renew (fun j hs => ?_) (fun j hh => ?_) false
    · rw [setP_at T i j _ hi] at hs ⊢
      split at hs
      · rename_i e; rw [if_pos e, f1]; rw [f2] at hs; exact h.st i hs
      · rename_i e; rw [if_neg e]; exact h.st j hs
    · rw [setP_at T i j _ hi] at hh ⊢
      split at hh
      · rename_i e; rw [if_pos e, f3]; exact hup
      · rename_i e; rw [if_neg e]; exact h.has j hh
  unfold toldT gotT
  repeat' split
  · exact (stp_prop _ _).inv h1
  · exact h1
  · exact h
theorem inv_recv {T : Tt} (h : Inv T) (i : Int) (b : Bp) : Inv (recvT T i b) := by
  unfold recvT
  split
  · rename_i hc
    have hi : i.toNat < T.ps.length := by omega
    have h1 : Inv (setP T i.toNat (plainP (T.at i.toNat))) := (stp_setP T i.toNat (plainP (T.at i.toNat)) rfl rfl (.inl rfl)).inv h
    have hat : (setP T i.toNat (plainP (T.at i.toNat))).at i.toNat = plainP (T.at i.toNat) := (setP_at T _ _ _ hi).trans (if_pos rfl)
    have hl : i.toNat < (setP T i.toNat (plainP (T.at i.toNat))).ps.length := by rw [setP_len]; exact hi
    have h2 : Inv (midR (setP T i.toNat (plainP (T.at i.toNat))) i.toNat b) := by
      unfold midR
      repeat' split
      · exact (stp_hear _ _).inv h1
      · exact (stp_ans _ _ hl _).inv h1
      · have h3 := inv_told h1 i.toNat hl (by rw [hat]; exact hc.2.2.1) b
        unfold rootHT
        split
        · exact (stp_tell _ _ _).inv h3
        · exact h3
    unfold heardT
    split
    · exact (stp_hear _ _).inv h2
    · exact h2
  · exact h
/-- What goes out. -/
def OutI (n : Nat) (id : Int) (T : Tt) : Prop := ∀ o ∈ T.outs, bcheckE o.m = 0 ∧ 0 ≤ o.port ∧ o.port < n ∧ o.m.bridge = id ∧ o.m.wf
def TellI (n : Nat) (id : Int) (T : Tt) : Prop := T.ps.length = n ∧ ∀ i, i < n → (T.tells.getD i Vc.zero).bridge = id ∧ (T.tells.getD i Vc.zero).wf
theorem tellI_sel {T : Tt} (hok : T.ok) : TellI T.ps.length T.id (selT T) := by
  refine ⟨rfl, fun i hi => ⟨?_, (selT_ok hok).tells i hi⟩⟩
  show ((tellsL T.id T.bs).getD i Vc.zero).bridge = _
  rw [tellsL_at _ _ _ (by rw [bs_len]; exact hi)]
  rfl
theorem TellI.of {n : Nat} {id : Int} {T U : Tt} (h : TellI n id T) (hl : U.ps.length = T.ps.length) (ht : U.tells = T.tells) : TellI n id U := ⟨hl.trans h.1, by rw [ht]; exact h.2⟩
theorem outI_tell {n : Nat} {id : Int} {T : Tt} (h : OutI n id T) (ht : TellI n id T) (i : Nat) (hi : i < n) (ag : Bool) : OutI n id (tellT T i ag) := by
  unfold tellT
  split
  · rename_i hc
    intro o ho
    have ho' : o ∈ T.outs ++ [⟨i, msgT T i ag⟩] := ho
    rcases List.mem_append.1 ho' with h1 | h1
    · exact h o h1
    · obtain rfl := List.mem_singleton.1 h1
      have hv := (ht.2 i hi).2
      have ha := check_age hc (by show (1 : Int) ≠ 2; omega)
      have hr := msgRole_ok (T.at i).role
      exact ⟨hc, by show (0 : Int) ≤ (i : Int); omega, by show (i : Int) < n; omega, (ht.2 i hi).1, ⟨by simp [I64, msgT, msgP], hv.root, hv.cost, hv.bridge, hv.port, ⟨by have := hr.1; show -9223372036854775808 ≤ msgRole (T.at i).role; omega, by have := hr.2; show msgRole (T.at i).role ≤ 9223372036854775807; omega⟩, ⟨by have := ha.1; show -9223372036854775808 ≤ (msgT T i ag).age; omega, by have := ha.2; show (msgT T i ag).age ≤ 9223372036854775807; omega⟩, by simp [I64, msgT, msgP], by simp [I64, msgT, msgP], by simp [I64, msgT, msgP]⟩⟩
  · exact h
theorem tellI_tell {n : Nat} {id : Int} {T : Tt} (ht : TellI n id T) (i : Nat) (ag : Bool) : TellI n id (tellT T i ag) := ht.of (samec_tell T i ag).len (tellT_ps T i ag).2.1
theorem outI_allTo {n : Nat} {id : Int} {T : Tt} (h : OutI n id T) (ht : TellI n id T) : ∀ k, k ≤ n → OutI n id (allTo T k) ∧ TellI n id (allTo T k)
  | 0, _ => ⟨h, ht⟩
  | k + 1, hk => by
    obtain ⟨h1, h2⟩ := outI_allTo h ht k (by omega)
    rw [allTo]
    split
    · exact ⟨outI_tell h1 h2 k (by omega) false, tellI_tell h2 k false⟩
    · exact ⟨h1, h2⟩
theorem outI_all {n : Nat} {id : Int} {T : Tt} (h : OutI n id T) (ht : TellI n id T) : OutI n id (allT T) ∧ TellI n id (allT T) := outI_allTo h ht _ (by rw [ht.1]; exact Nat.le_refl _)
theorem outI_renew {n : Nat} {id : Int} {T : Tt} (hok : T.ok) (h : OutI n id T) (hn : T.ps.length = n) (hid : T.id = id) (a : Bool) : OutI n id (renewT T a) ∧ TellI n id (renewT T a) := by
  have hm : OutI n id (midT T) := by unfold OutI; rw [(midT_outs T).1]; exact h
  have ht : TellI n id (renewT T a) := by
    obtain ⟨f1, f2, f3, f4, f5⟩ := renew_facts T a
    have := (tellI_sel hok).of (U := renewT T a) (by rw [renewT_len]; rfl) f4
    rw [hn, hid] at this
    exact this
  refine ⟨?_, ht⟩
  rcases renewT_or T a with e | e
  · have hmt : TellI n id (midT T) := by
      have h5 : (allT (midT T)).tells = (midT T).tells := (stp_allTo (midT T) _).tells
      refine ht.of ?_ ?_
      · rw [e, allT_len]
      · rw [e, h5]
    rw [e]; exact (outI_all hm hmt).1
  · rw [e]; exact hm
theorem OutI.of {n : Nat} {id : Int} {T U : Tt} (h : OutI n id T) (e : U.outs = T.outs) : OutI n id U := by unfold OutI; rw [e]; exact h
/-- Between any two calls. -/
structure Fine (n : Nat) (id : Int) (T : Tt) : Prop where
  inv : Inv T
  out : OutI n id T
  len : T.ps.length = n
  id' : T.id = id
  ok : T.ok
theorem Fine.tell {n : Nat} {id : Int} {T : Tt} (h : Fine n id T) : TellI n id T := by
  have := (tellI_sel h.ok).of (U := T) rfl h.inv.tells
  rw [h.len, h.id'] at this
  exact this
theorem Fine.tellI {n : Nat} {id : Int} {T U : Tt} (h : Fine n id T) (s : Stp T U) : TellI n id U := h.tell.of s.len s.tells
theorem fine_new {id : Int} {ps : List Tp} (hid : U64 id) (h : ∀ i, i < ps.length → (ps.getD i Tp.zero).b.wf) : Fine ps.length id (newT id ps) := ⟨inv_new id ps, by intro o ho; simp [newT, selT, preT] at ho, newT_len id ps, rfl, newT_ok hid h⟩
theorem fine_link {n : Nat} {id : Int} {T : Tt} (h : Fine n id T) (i : Int) (up : Bool) : Fine n id (linkT T i up) := by
  refine ⟨inv_link h.inv i up, ?_, ?_, ?_, (linkT_facts h.ok i up).1⟩
  · unfold linkT
    split
    · have hp1 := at_ok h.ok i.toNat
      have hup : (setUp (T.at i.toNat) up).ok := ⟨⟨hp1.b.id, hp1.b.cost, hp1.b.told⟩, hp1.age, hp1.left, hp1.wait, hp1.change, hp1.role, hp1.state⟩
      exact (outI_renew (T := forgetT (setP T i.toNat (dropP (setUp (T.at i.toNat) up))) i.toNat) (forgetT_ok (setP_ok h.ok _ _ (dropP_ok hup)) _) h.out (by rw [forgetT_len, setP_len]; exact h.len) h.id' true).1
    · exact h.out
  · unfold linkT
    split
    · rw [renewT_len, forgetT_len, setP_len]; exact h.len
    · exact h.len
  · unfold linkT
    split
    · rw [(renew_facts _ _).2.2.2.2]; exact h.id'
    · exact h.id'
theorem fine_tick {n : Nat} {id : Int} {T : Tt} (h : Fine n id T) : Fine n id (tickT T) := by
  have hl0 := oldTo_len T T.ps.length
  have hs0 := same_oldTo T T.ps.length
  have h1 : OutI n id (seenT T) ∧ TellI n id (seenT T) ∧ (seenT T).id = id := by
    unfold seenT
    split
    · obtain ⟨a1, a2⟩ := outI_renew (T := oldTo T T.ps.length) (oldTo_ok h.ok _) (h.out.of hs0.outs) (hl0.trans h.len) (hs0.id.trans h.id') false
      exact ⟨a1, a2, by rw [(renew_facts _ _).2.2.2.2]; exact hs0.id.trans h.id'⟩
    · exact ⟨h.out.of hs0.outs, h.tell.of hl0 hs0.tells, hs0.id.trans h.id'⟩
  have hs1 := same_cntTo (seenT T) T.ps.length
  have hl1 : (goneT T).ps.length = (seenT T).ps.length := by unfold goneT; rw [cntTo_len]
  have h2 : OutI n id (goneT T) := h1.1.of hs1.outs
  have h3 : TellI n id (goneT T) := h1.2.1.of hl1 hs1.tells
  have h4 : (goneT T).id = id := hs1.id.trans h1.2.2
  have g1 := (goneT_facts h.ok).1
  refine ⟨inv_tick h.inv, ?_, ?_, ?_, ?_⟩
  · unfold tickT
    split
    · exact (outI_all h2 h3).1
    · exact h2
  · unfold tickT
    split
    · show (allT (goneT T)).ps.length = n
      rw [allT_len]; exact h3.1
    · exact h3.1
  · unfold tickT
    split
    · show (allT (goneT T)).id = id
      rw [show (allT (goneT T)).id = (goneT T).id from (stp_allTo (goneT T) _).id]; exact h4
    · exact h4
  · unfold tickT
    split
    · exact setQ_ok (allTo_ok g1 _) _
    · exact setQ_ok g1 _
theorem fine_recv {n : Nat} {id : Int} {T : Tt} (h : Fine n id T) (i : Int) {b : Bp} (hb : b.wf) : Fine n id (recvT T i b) := by
  refine ⟨inv_recv h.inv i b, ?_, (recvT_len T i b).trans h.len, ?_, recvT_ok h.ok i hb⟩
  · unfold recvT
    split
    · rename_i hc
      have hi : i.toNat < n := by have := h.len; omega
      have s1 := stp_setP T i.toNat (plainP (T.at i.toNat)) rfl rfl (.inl rfl)
      have t1 : TellI n id (setP T i.toNat (plainP (T.at i.toNat))) := h.tellI s1
      have o1 : OutI n id (setP T i.toNat (plainP (T.at i.toNat))) := h.out
      have d1 : (setP T i.toNat (plainP (T.at i.toNat))).id = id := h.id'
      have ok1 : (setP T i.toNat (plainP (T.at i.toNat))).ok := setP_ok h.ok _ _ (plainP_ok (at_ok h.ok _))
      unfold heardT
      generalize setP T i.toNat (plainP (T.at i.toNat)) = U at *
      have h2 : OutI n id (midR U i.toNat b) := by
        unfold midR
        repeat' split
        · exact o1.of (same_hear _ _).outs
        · unfold ansT
          split
          · exact outI_tell (T := forwardT (setP U i.toNat (agreeP (U.at i.toNat))) i.toNat) (o1.of (same_forward _ _).outs) (t1.of (by rw [forwardT_len, setP_len]) (same_forward _ _).tells) i.toNat hi false
          · exact o1
        · rename_i hk _
          have h3 : OutI n id (toldT U i.toNat b) ∧ TellI n id (toldT U i.toNat b) := by
            have h4 := outI_renew (T := setP U i.toNat (tookP (U.at i.toNat) b)) (setP_ok ok1 _ _ (tookP_ok (at_ok ok1 _) hb (check_age hc.2.2.2 hk))) o1 (by rw [setP_len]; exact t1.1) d1 false
            unfold toldT gotT
            repeat' split
            · generalize renewT (setP U i.toNat (tookP (U.at i.toNat) b)) false = V at *
              unfold propT
              repeat' split
              · exact ⟨outI_tell h4.1 h4.2 _ hi _, tellI_tell h4.2 _ _⟩
              · have hh := same_holdTo V i.toNat V.ps.length
                have o5 : OutI n id (holdT V i.toNat) := h4.1.of hh.outs
                have t5 : TellI n id (holdT V i.toNat) := h4.2.of (holdT_len _ _) hh.tells
                exact outI_all (outI_tell o5 t5 _ hi _) (tellI_tell t5 _ _)
              · exact h4
            · exact h4
            · exact ⟨o1, t1⟩
          unfold rootHT
          split
          · exact outI_tell h3.1 h3.2 _ hi _
          · exact h3.1
      split
      · exact h2.of (same_hear _ _).outs
      · exact h2
    · exact h.out
  · unfold recvT
    split
    · have hm : ∀ (U : Tt) (k : Nat), k < U.ps.length → (midR U k b).id = U.id := fun U k hk => by
        unfold midR
        repeat' split
        · exact (same_hear _ _).id
        · exact (stp_ans U k hk b).id
        · have h5 : (toldT U k b).id = U.id := by
            unfold toldT gotT
            repeat' split
            · rw [(stp_prop _ _).id, (renew_facts _ _).2.2.2.2]; rfl
            · rw [(renew_facts _ _).2.2.2.2]; rfl
            · rfl
          unfold rootHT
          split
          · rw [(stp_tell _ _ _).id]; exact h5
          · exact h5
      rename_i hc
      have hl : i.toNat < (setP T i.toNat (plainP (T.at i.toNat))).ps.length := by rw [setP_len]; omega
      unfold heardT
      split
      · rw [(same_hear _ _).id, hm _ _ hl]; exact h.id'
      · rw [hm _ _ hl]; exact h.id'
    · exact h.id'
theorem fine_took {n : Nat} {id : Int} {T : Tt} (h : Fine n id T) : Fine n id (tookT T) := ⟨Stp.inv (T := T) ⟨rfl, rfl, rfl, rfl, rfl, rfl, fun _ => ⟨rfl, rfl, .inl rfl⟩⟩ h.inv, by intro o ho; simp [tookT] at ho, h.len, h.id', tookT_ok h.ok⟩
theorem fine_clr {n : Nat} {id : Int} {T : Tt} (h : Fine n id T) : Fine n id (clrT T) := ⟨Stp.inv (T := T) ⟨rfl, rfl, rfl, rfl, rfl, rfl, fun _ => ⟨rfl, rfl, .inl rfl⟩⟩ h.inv, h.out, h.len, h.id', clrT_ok h.ok⟩
end Go.Proofs.Ytoejoneecanbbaa
