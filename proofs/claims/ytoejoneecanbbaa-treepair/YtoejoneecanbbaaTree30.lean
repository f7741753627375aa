
/-
  Mathematics of the tree: two trees in numbers that differ in their labels alone (bridges' ids by C, ports' by D) stay so. No Go text. Conditions: those that each theorem names.
-/
import Derived.Test.YtoejoneecanbbaaTree27
namespace Go.Proofs.Ytoejoneecanbbaa
open Go.RowKit
set_option linter.unusedVariables false
set_option maxRecDepth 20000

structure LabOk (C D : Int → Int → Prop) : Prop where
  c0 : C 0 0
  d0 : D 0 0
  clt : ∀ {a a' b b' : Int}, C a a' → C b b' → (a < b ↔ a' < b')
  dlt : ∀ {a a' b b' : Int}, D a a' → D b b' → (a < b ↔ a' < b')
  drg : ∀ {a a' : Int}, D a a' → (0 ≤ a ∧ a ≤ 65535) ∧ (0 ≤ a' ∧ a' ≤ 65535)
section
variable {C D : Int → Int → Prop}
theorem LabOk.ceq (h : LabOk C D) {a a' b b' : Int} (h1 : C a a') (h2 : C b b') : a = b ↔ a' = b' := by
  have e1 := h.clt h1 h2
  have e2 := h.clt h2 h1
  omega
theorem LabOk.deq (h : LabOk C D) {a a' b b' : Int} (h1 : D a a') (h2 : D b b') : a = b ↔ a' = b' := by
  have e1 := h.dlt h1 h2
  have e2 := h.dlt h2 h1
  omega
variable (C D)
structure RV (v v' : Vc) : Prop where
  root : C v.root v'.root
  cost : v.cost = v'.cost
  bridge : C v.bridge v'.bridge
  port : D v.port v'.port
structure RB (p p' : Rp) : Prop where
  id : D p.id p'.id
  cost : p.cost = p'.cost
  up : p.up = p'.up
  has : p.has = p'.has
  told : RV C D p.told p'.told
structure RP (p p' : Tp) : Prop where
  b : RB C D p.b p'.b
  edge : p.edge = p'.edge
  role : p.role = p'.role
  state : p.state = p'.state
  age : p.age = p'.age
  left : p.left = p'.left
  wait : p.wait = p'.wait
  change : p.change = p'.change
  agreed : p.agreed = p'.agreed
structure RM (m m' : Bp) : Prop where
  kind : m.kind = m'.kind
  not2 : m.kind ≠ 2
  root : C m.root m'.root
  cost : m.cost = m'.cost
  bridge : C m.bridge m'.bridge
  port : D m.port m'.port
  change : m.change = m'.change
  ack : m.ack = m'.ack
  proposal : m.proposal = m'.proposal
  agreement : m.agreement = m'.agreement
  learning : m.learning = m'.learning
  forwarding : m.forwarding = m'.forwarding
  role : m.role = m'.role
  age : m.age = m'.age
  maxAge : m.maxAge = m'.maxAge
  hello : m.hello = m'.hello
  delay : m.delay = m'.delay
inductive LR : List Ot → List Ot → Prop
  | nil : LR [] []
  | snoc {l l' : List Ot} {o o' : Ot} (h : LR l l') (hp : o.port = o'.port) (hm : RM C D o.m o'.m) : LR (l ++ [o]) (l' ++ [o'])
structure RT (T T' : Tt) : Prop where
  id : C T.id T'.id
  len : T.ps.length = T'.ps.length
  at' : ∀ i, RP C D (T.at i) (T'.at i)
  y : RV C D T.y T'.y
  rp : T.rp = T'.rp
  roles : T.roles = T'.roles
  tells : ∀ i, RV C D (T.tells.getD i Vc.zero) (T'.tells.getD i Vc.zero)
  outs : LR C D T.outs T'.outs
  fg : T.fg = T'.fg
  quiet : T.quiet = T'.quiet
structure RW (y y' : Wy) : Prop where
  v : RV C D y.v y'.v
  place : y.place = y'.place
  id : D y.id y'.id
variable {C D}
theorem LR.len {l l' : List Ot} (h : LR C D l l') : l.length = l'.length := by
  induction h with
  | nil => rfl
  | snoc h _ _ ih => simp [ih]
theorem RV.zero (h : LabOk C D) : RV C D Vc.zero Vc.zero := ⟨h.c0, rfl, h.c0, h.d0⟩
theorem RP.zero (h : LabOk C D) : RP C D Tp.zero Tp.zero := ⟨⟨h.d0, rfl, rfl, rfl, RV.zero h⟩, rfl, rfl, rfl, rfl, rfl, rfl, rfl, rfl⟩
theorem ordC (h : LabOk C D) {a a' b b' : Int} (h1 : C a a') (h2 : C b b') : ordN a b = ordN a' b' := by
  unfold ordN
  simp only [h.clt h1 h2, h.clt h2 h1]
theorem ordD (h : LabOk C D) {a a' b b' : Int} (h1 : D a a') (h2 : D b b') : ordN a b = ordN a' b' := by
  unfold ordN
  simp only [h.dlt h1 h2, h.dlt h2 h1]
theorem cmpR (h : LabOk C D) {a a' b b' : Vc} (h1 : RV C D a a') (h2 : RV C D b b') : cmpN a b = cmpN a' b' := by
  unfold cmpN
  rw [ordC h h1.root h2.root, ordC h h1.bridge h2.bridge, ordD h h1.port h2.port, h1.cost, h2.cost]
theorem betR (h : LabOk C D) {a a' b b' : Vc} (h1 : RV C D a a') (h2 : RV C D b b') : betB a b = betB a' b' := by
  unfold betB
  rw [cmpR h h1 h2]
theorem supR (h : LabOk C D) {a a' b b' : Vc} (h1 : RV C D a a') (h2 : RV C D b b') : supB a b = supB a' b' := by
  unfold supB
  rw [betR h h1 h2, decide_eq_decide.2 (h.ceq h1.bridge h2.bridge), decide_eq_decide.2 (h.deq h1.port h2.port)]
theorem wayR {p p' : Rp} (h1 : RB C D p p') (i : Nat) : RW C D (wayOf p i) (wayOf p' i) := ⟨⟨h1.told.root, by show overN p.told.cost p.cost = overN p'.told.cost p'.cost; rw [h1.told.cost, h1.cost], h1.told.bridge, h1.told.port⟩, rfl, h1.id⟩
theorem leadR (h : LabOk C D) {y y' : Wy} (h1 : RW C D y y') {b b' : Int} (hb : C b b') : leadB y b = leadB y' b' := by
  unfold leadB
  rw [decide_eq_decide.2 (h.clt h1.v.root hb), decide_eq_decide.2 (h.ceq h1.v.bridge hb)]
theorem befR (h : LabOk C D) {y y' z z' : Wy} (h1 : RW C D y y') (h2 : RW C D z z') : befB y z = befB y' z' := by
  unfold befB
  rw [cmpR h h1.v h2.v, decide_eq_decide.2 (h.dlt h1.id h2.id)]
theorem bestR (h : LabOk C D) {b b' : Int} (hb : C b b') {ps ps' : List Rp} (hp : ∀ i, RB C D (ps.getD i Rp.zero) (ps'.getD i Rp.zero)) : ∀ k, RW C D (bestW b ps k) (bestW b' ps' k)
  | 0 => ⟨⟨hb, rfl, hb, h.d0⟩, rfl, h.d0⟩
  | k + 1 => by
    have ih := bestR h hb hp k
    have hk := hp k
    have hw := wayR (C := C) (D := D) hk k
    rw [bestW, bestW]
    unfold stepW
    rw [hk.up, hk.has, leadR h hw hb, befR h hw ih]
    split
    · split
      · exact hw
      · exact ih
    · exact ih
theorem roleR (h : LabOk C D) {p p' : Rp} (h1 : RB C D p p') (r : Bool) {t t' : Vc} (ht : RV C D t t') : roleN p r t = roleN p' r t' := by
  unfold roleN
  rw [h1.up, h1.has, betR h h1.told ht]
  simp only [h.ceq h1.told.bridge ht.bridge]
theorem tellR {b b' : Int} (hb : C b b') {y y' : Wy} (hy : RW C D y y') {p p' : Rp} (h1 : RB C D p p') : RV C D (tellV b y p) (tellV b' y' p') := ⟨hy.v.root, hy.v.cost, hb, h1.id⟩
theorem rt_bs {T T' : Tt} (h : RT C D T T') (i : Nat) : RB C D (T.bs.getD i Rp.zero) (T'.bs.getD i Rp.zero) := by
  rw [bs_at, bs_at]; exact (h.at' i).b
theorem rt_sel (L : LabOk C D) {T T' : Tt} (h : RT C D T T') : RT C D (selT T) (selT T') := by
  have hl := h.len
  have hB := bestR L h.id (rt_bs h) T.ps.length
  have hbl : T.bs.length = T'.bs.length := by rw [bs_len, bs_len, hl]
  refine ⟨h.id, h.len, h.at', ?_, ?_, ?_, fun i => ?_, h.outs, h.fg, h.quiet⟩
  · show RV C D (bestW T.id T.bs T.ps.length).v (bestW T'.id T'.bs T'.ps.length).v
    rw [← hl]; exact hB.v
  · show (bestW T.id T.bs T.ps.length).place = (bestW T'.id T'.bs T'.ps.length).place
    rw [← hl]; exact hB.place
  · show rolesL T.id T.bs = rolesL T'.id T'.bs
    apply List.ext_getElem?
    intro i
    by_cases hi : i < T.bs.length
    · have hi' : i < T'.bs.length := by rw [← hbl]; exact hi
      have e1 := rolesL_at T.id T.bs i hi
      have e2 := rolesL_at T'.id T'.bs i hi'
      have l1 : i < (rolesL T.id T.bs).length := by rw [rolesL_len]; exact hi
      have l2 : i < (rolesL T'.id T'.bs).length := by rw [rolesL_len]; exact hi'
      rw [List.getD_eq_getElem?_getD, List.getElem?_eq_getElem l1] at e1
      rw [List.getD_eq_getElem?_getD, List.getElem?_eq_getElem l2] at e2
      rw [List.getElem?_eq_getElem l1, List.getElem?_eq_getElem l2]
      refine congrArg some ?_
      refine Eq.trans e1 (Eq.trans ?_ e2.symm)
      unfold roleV
      have hB' := bestR L h.id (rt_bs h) T.bs.length
      rw [← hbl, hB'.place]
      exact roleR L (rt_bs h i) _ (tellR h.id hB' (rt_bs h i))
    · rw [List.getElem?_eq_none (by rw [rolesL_len]; omega), List.getElem?_eq_none (by rw [rolesL_len, ← hbl]; omega)]
  · show RV C D ((tellsL T.id T.bs).getD i Vc.zero) ((tellsL T'.id T'.bs).getD i Vc.zero)
    by_cases hi : i < T.bs.length
    · rw [tellsL_at _ _ _ hi, tellsL_at _ _ _ (by rw [← hbl]; exact hi), ← hbl]
      exact tellR h.id (bestR L h.id (rt_bs h) T.bs.length) (rt_bs h i)
    · rw [List.getD_eq_getElem?_getD, List.getElem?_eq_none (by rw [tellsL_len]; omega), List.getD_eq_getElem?_getD, List.getElem?_eq_none (by rw [tellsL_len, ← hbl]; omega)]
      exact RV.zero L
theorem rt_setP (L : LabOk C D) {T T' : Tt} (h : RT C D T T') (i : Nat) {p p' : Tp} (hp : RP C D p p') : RT C D (setP T i p) (setP T' i p') := by
  refine ⟨h.id, by rw [setP_len, setP_len]; exact h.len, fun j => ?_, h.y, h.rp, h.roles, h.tells, h.outs, h.fg, h.quiet⟩
  by_cases hi : i < T.ps.length
  · rw [setP_at T i j p hi, setP_at T' i j p' (by rw [← h.len]; exact hi)]
    split
    · exact hp
    · exact h.at' j
  · have e1 : setP T i p = T := by unfold setP; rw [List.set_eq_of_length_le (by omega)]
    have e2 : setP T' i p' = T' := by unfold setP; rw [List.set_eq_of_length_le (by rw [← h.len]; omega)]
    rw [e1, e2]
    exact h.at' j
theorem rt_forget {T T' : Tt} (h : RT C D T T') (i : Nat) : RT C D (forgetT T i) (forgetT T' i) := ⟨h.id, h.len, h.at', h.y, h.rp, h.roles, h.tells, h.outs, by show T.fg.set i true = T'.fg.set i true; rw [h.fg], h.quiet⟩
theorem rp_act {p p' : Tp} (h : RP C D p p') : actB p = actB p' := by unfold actB; rw [h.role]
theorem rp_uns {p p' : Tp} (h : RP C D p p') : unsB p = unsB p' := by unfold unsB; rw [h.role, h.edge, h.agreed, h.state]
theorem rp_change {p p' : Tp} (h : RP C D p p') : RP C D (changeP p) (changeP p') := ⟨h.b, h.edge, h.role, h.state, h.age, h.left, h.wait, rfl, h.agreed⟩
theorem rp_fwd {p p' : Tp} (h : RP C D p p') : RP C D (fwdP p) (fwdP p') := ⟨h.b, h.edge, h.role, rfl, h.age, h.left, rfl, h.change, h.agreed⟩
theorem rp_wait {p p' : Tp} (h : RP C D p p') : RP C D (waitP p) (waitP p') := ⟨h.b, h.edge, h.role, rfl, h.age, h.left, rfl, h.change, h.agreed⟩
theorem rp_new {p p' : Tp} (h : RP C D p p') (r : Int) : RP C D (newP p r) (newP p' r) := ⟨h.b, h.edge, rfl, rfl, h.age, h.left, rfl, rfl, rfl⟩
theorem rp_dis {p p' : Tp} (h : RP C D p p') : RP C D (disP p) (disP p') := ⟨h.b, h.edge, h.role, h.state, h.age, h.left, h.wait, h.change, rfl⟩
theorem rp_drop (L : LabOk C D) {p p' : Tp} (h : RP C D p p') : RP C D (dropP p) (dropP p') := ⟨⟨h.b.id, h.b.cost, h.b.up, rfl, RV.zero L⟩, h.edge, h.role, h.state, rfl, rfl, h.wait, h.change, h.agreed⟩
theorem rt_stepS (L : LabOk C D) (fr : Int) {T T' : Tt} (h : RT C D T T') (i : Nat) : RT C D (stepS fr T i) (stepS fr T' i) := by
  unfold stepS
  rw [rp_act (h.at' i), (h.at' i).edge]
  split
  · exact rt_forget (rt_setP L h i (rp_change (h.at' i))) i
  · exact h
theorem rt_spreadTo (L : LabOk C D) {T T' : Tt} (h : RT C D T T') (fr : Int) : ∀ k, RT C D (spreadTo T fr k) (spreadTo T' fr k)
  | 0 => h
  | k + 1 => rt_stepS L fr (rt_spreadTo L h fr k) k
theorem rt_spread (L : LabOk C D) {T T' : Tt} (h : RT C D T T') (fr : Int) : RT C D (spreadT T fr) (spreadT T' fr) := by
  unfold spreadT
  rw [← h.len]
  exact rt_spreadTo L h fr _
theorem rt_forward (L : LabOk C D) {T T' : Tt} (h : RT C D T T') (i : Nat) : RT C D (forwardT T i) (forwardT T' i) := by
  unfold forwardT
  rw [(h.at' i).edge]
  split
  · exact rt_setP L h i (rp_fwd (h.at' i))
  · exact rt_spread L (rt_setP L h i (rp_change (rp_fwd (h.at' i)))) i
theorem rt_take (L : LabOk C D) {T T' : Tt} (h : RT C D T T') (i : Nat) (r : Int) : RT C D (takeT T i r) (takeT T' i r) := by
  unfold takeT
  rw [(h.at' i).edge]
  split
  · split
    · exact rt_forget (rt_forward L (rt_setP L h i (rp_new (h.at' i) r)) i) i
    · exact rt_forget (rt_setP L h i (rp_wait (rp_new (h.at' i) r))) i
  · split
    · exact rt_setP L h i (rp_new (h.at' i) r)
    · exact rt_forget (rt_setP L h i (rp_new (h.at' i) r)) i
theorem rt_takeTo (L : LabOk C D) {T T' : Tt} (h : RT C D T T') (rs : List Int) : ∀ k, RT C D (takeTo T rs k) (takeTo T' rs k)
  | 0 => h
  | k + 1 => by
    have ih := rt_takeTo L h rs k
    rw [takeTo, takeTo, (ih.at' k).role]
    split
    · exact rt_take L ih k _
    · exact ih
theorem ch_R (L : LabOk C D) {T T' : Tt} (h : RT C D T T') (rs : List Int) (b : Bool) : ∀ k, chTo T rs b k = chTo T' rs b k
  | 0 => rfl
  | k + 1 => by
    rw [chTo, chTo, ((rt_takeTo L h rs k).at' k).role, ch_R L h rs b k]
theorem rt_disTo (L : LabOk C D) {T T' : Tt} (h : RT C D T T') : ∀ k, RT C D (disTo T k) (disTo T' k)
  | 0 => h
  | k + 1 => by
    have ih := rt_disTo L h k
    exact rt_setP L ih k (rp_dis (ih.at' k))
theorem rt_root (L : LabOk C D) {T T' : Tt} (h : RT C D T T') : RT C D (rootT T) (rootT T') := by
  unfold rootT
  rw [h.rp, (h.at' T'.rp.toNat).state]
  split
  · exact rt_forward L h _
  · exact h
theorem news_R (L : LabOk C D) {T T' U U' : Tt} (h : RT C D T T') (g : RT C D U U') : newsB T U = newsB T' U' := by
  unfold newsB
  rw [g.y.cost, h.y.cost, int_bne U.y.root, int_bne U'.y.root, decide_eq_decide.2 (L.ceq g.y.root h.y.root)]
theorem rt_pre (L : LabOk C D) {T T' : Tt} (h : RT C D T T') : RT C D (if newsB T (selT T) = true then disT (selT T) else selT T) (if newsB T' (selT T') = true then disT (selT T') else selT T') := by
  have hs := rt_sel L h
  rw [news_R L h hs]
  split
  · unfold disT
    rw [← hs.len]
    exact rt_disTo L hs _
  · exact hs
theorem rt_mid (L : LabOk C D) {T T' : Tt} (h : RT C D T T') : RT C D (midT T) (midT T') := by
  have hp := rt_pre L h
  have hs := rt_sel L h
  unfold midT
  rw [← h.len, ← hs.roles]
  exact rt_root L (rt_takeTo L hp _ _)
theorem age_R {T T' : Tt} (h : RT C D T T') : ageT T = ageT T' := by
  unfold ageT
  rw [h.rp, (h.at' T'.rp.toNat).age]
theorem rm_msg {T T' : Tt} (h : RT C D T T') (i : Nat) (ag : Bool) : RM C D (msgT T i ag) (msgT T' i ag) := by
  have hp := h.at' i
  have ht := h.tells i
  have ha := age_R h
  unfold msgT msgP
  rw [hp.change, hp.role, hp.state, hp.edge, ha]
  exact ⟨rfl, by simp, ht.root, ht.cost, ht.bridge, ht.port, rfl, rfl, rfl, rfl, rfl, rfl, rfl, rfl, rfl, rfl, rfl⟩
theorem check_R (L : LabOk C D) {m m' : Bp} (h : RM C D m m') : bcheckE m = bcheckE m' := by
  have hd := L.drg h.port
  have hn : numsB m = numsB m' := by
    have e1 : pairB m.port = true := by unfold pairB; exact decide_eq_true hd.1
    have e2 : pairB m'.port = true := by unfold pairB; exact decide_eq_true hd.2
    unfold numsB Bp.five
    simp only [List.all_cons, e1, e2, h.role, h.cost, h.age, h.maxAge, h.hello, h.delay]
  have ht : tellsB m = tellsB m' := by unfold tellsB; rw [h.proposal, h.agreement, h.learning, h.forwarding, h.role]
  have h2 : m'.kind ≠ 2 := by rw [← h.kind]; exact h.not2
  unfold bcheckE
  rw [hn, ht, h.kind, h.maxAge, h.age, if_neg h2, if_neg h2]
theorem rt_tell (L : LabOk C D) {T T' : Tt} (h : RT C D T T') (i : Nat) (ag : Bool) : RT C D (tellT T i ag) (tellT T' i ag) := by
  have hm := rm_msg h i ag
  unfold tellT
  rw [check_R L hm]
  split
  · exact ⟨h.id, h.len, h.at', h.y, h.rp, h.roles, h.tells, LR.snoc h.outs rfl hm, h.fg, h.quiet⟩
  · exact h
theorem rt_allTo (L : LabOk C D) {T T' : Tt} (h : RT C D T T') : ∀ k, RT C D (allTo T k) (allTo T' k)
  | 0 => h
  | k + 1 => by
    have ih := rt_allTo L h k
    have hb : tellB (T.at k) = tellB (T'.at k) := by unfold tellB; rw [(h.at' k).role, (h.at' k).change]
    rw [allTo, allTo, hb]
    split
    · exact rt_tell L ih k false
    · exact ih
theorem rt_all (L : LabOk C D) {T T' : Tt} (h : RT C D T T') : RT C D (allT T) (allT T') := by
  unfold allT
  rw [← h.len]
  exact rt_allTo L h _
theorem rt_renew (L : LabOk C D) {T T' : Tt} (h : RT C D T T') (a : Bool) : RT C D (renewT T a) (renewT T' a) := by
  have hs := rt_sel L h
  have hp := rt_pre L h
  have e : (chTo (if newsB T (selT T) = true then disT (selT T) else selT T) (selT T).roles (newsB T (selT T)) T.ps.length || a) = (chTo (if newsB T' (selT T') = true then disT (selT T') else selT T') (selT T').roles (newsB T' (selT T')) T'.ps.length || a) := by
    rw [ch_R L hp, ← h.len, ← hs.roles, news_R L h hs]
  unfold renewT
  rw [e]
  generalize (chTo (if newsB T' (selT T') = true then disT (selT T') else selT T') (selT T').roles (newsB T' (selT T')) T'.ps.length || a) = x
  cases x
  · exact rt_mid L h
  · exact rt_all L (rt_mid L h)
theorem rt_link (L : LabOk C D) {T T' : Tt} (h : RT C D T T') (i : Int) (up : Bool) : RT C D (linkT T i up) (linkT T' i up) := by
  have hp := h.at' i.toNat
  unfold linkT
  rw [← h.len, hp.b.up]
  split
  · refine rt_renew L (rt_forget (rt_setP L h _ (rp_drop L ?_)) _) true
    exact ⟨⟨hp.b.id, hp.b.cost, rfl, hp.b.has, hp.b.told⟩, hp.edge, hp.role, hp.state, hp.age, hp.left, hp.wait, hp.change, hp.agreed⟩
  · exact h
theorem rp_old (L : LabOk C D) {p p' : Tp} (h : RP C D p p') : RP C D (oldP p) (oldP p') := by
  have hd : RP C D (dimP p) (dimP p') := ⟨h.b, h.edge, h.role, h.state, h.age, h.left, h.wait, by show dimN p.change = dimN p'.change; rw [h.change], h.agreed⟩
  have hl : RP C D (lessP p) (lessP p') := ⟨h.b, h.edge, h.role, h.state, h.age, by show p.left - 1 = p'.left - 1; rw [h.left], h.wait, hd.change, h.agreed⟩
  unfold oldP
  rw [h.b.has, h.left]
  split
  · exact hd
  · split
    · exact rp_drop L hl
    · exact hl
theorem rt_oldTo (L : LabOk C D) {T T' : Tt} (h : RT C D T T') : ∀ k, RT C D (oldTo T k) (oldTo T' k)
  | 0 => h
  | k + 1 => by
    have ih := rt_oldTo L h k
    exact rt_setP L ih k (rp_old L (ih.at' k))
theorem lost_R (L : LabOk C D) {T T' : Tt} (h : RT C D T T') : ∀ k, lostTo T k = lostTo T' k
  | 0 => rfl
  | k + 1 => by
    have hk := (rt_oldTo L h k).at' k
    rw [lostTo, lostTo, lost_R L h k]
    unfold lostP
    rw [hk.b.has, hk.left]
theorem rt_count (L : LabOk C D) {T T' : Tt} (h : RT C D T T') (i : Nat) : RT C D (countT T i) (countT T' i) := by
  have hp := h.at' i
  have hd : RP C D (downW (T.at i)) (downW (T'.at i)) := ⟨hp.b, hp.edge, hp.role, hp.state, hp.age, hp.left, by show (T.at i).wait - 1 = (T'.at i).wait - 1; rw [hp.wait], hp.change, hp.agreed⟩
  have hl : RP C D (learnP (T.at i)) (learnP (T'.at i)) := ⟨hp.b, hp.edge, hp.role, rfl, hp.age, hp.left, rfl, hp.change, hp.agreed⟩
  unfold countT
  rw [hp.role, hp.state, hp.wait]
  split
  · exact h
  · split
    · exact rt_setP L h i hd
    · split
      · exact rt_setP L h i hl
      · exact rt_forward L (rt_setP L h i hd) i
theorem rt_cntTo (L : LabOk C D) {T T' : Tt} (h : RT C D T T') : ∀ k, RT C D (cntTo T k) (cntTo T' k)
  | 0 => h
  | k + 1 => rt_count L (rt_cntTo L h k) k
theorem rt_seen (L : LabOk C D) {T T' : Tt} (h : RT C D T T') : RT C D (seenT T) (seenT T') := by
  unfold seenT
  rw [← h.len, lost_R L h]
  split
  · exact rt_renew L (rt_oldTo L h _) false
  · exact rt_oldTo L h _
theorem rt_setQ {T T' : Tt} (h : RT C D T T') (n : Int) : RT C D (setQ T n) (setQ T' n) := ⟨h.id, h.len, h.at', h.y, h.rp, h.roles, h.tells, h.outs, h.fg, rfl⟩
theorem rt_tick (L : LabOk C D) {T T' : Tt} (h : RT C D T T') : RT C D (tickT T) (tickT T') := by
  have hg : RT C D (goneT T) (goneT T') := by
    unfold goneT
    rw [← h.len]
    exact rt_cntTo L (rt_seen L h) _
  unfold tickT
  rw [hg.quiet]
  split
  · exact rt_setQ (rt_all L hg) 1
  · exact rt_setQ hg _
theorem rt_hear (L : LabOk C D) {T T' : Tt} (h : RT C D T T') (i : Nat) : RT C D (hearT T i) (hearT T' i) := by
  unfold hearT
  rw [rp_act (h.at' i)]
  split
  · exact rt_spread L h i
  · exact h
theorem rt_ans (L : LabOk C D) {T T' : Tt} (h : RT C D T T') (i : Nat) {m m' : Bp} (hm : RM C D m m') : RT C D (ansT T i m) (ansT T' i m') := by
  have hp := h.at' i
  have hb : ansB T i m = ansB T' i m' := by
    unfold ansB
    rw [hp.role, hp.state, hm.agreement, decide_eq_decide.2 (L.ceq hm.root (h.tells i).root)]
  have ha : RP C D (agreeP (T.at i)) (agreeP (T'.at i)) := ⟨hp.b, hp.edge, hp.role, hp.state, hp.age, hp.left, hp.wait, hp.change, rfl⟩
  unfold ansT
  rw [hb]
  split
  · exact rt_tell L (rt_forward L (rt_setP L h i ha) i) i false
  · exact h
theorem rt_holdTo (L : LabOk C D) {T T' : Tt} (h : RT C D T T') (fr : Int) : ∀ k, RT C D (holdTo T fr k) (holdTo T' fr k)
  | 0 => h
  | k + 1 => by
    have ih := rt_holdTo L h fr k
    rw [holdTo, holdTo]
    unfold stepH
    rw [rp_uns (ih.at' k)]
    split
    · exact rt_forget (rt_setP L ih k (rp_wait (ih.at' k))) k
    · exact ih
theorem rt_prop (L : LabOk C D) {T T' : Tt} (h : RT C D T T') (i : Nat) : RT C D (propT T i) (propT T' i) := by
  have hh : RT C D (holdT T i) (holdT T' i) := by
    unfold holdT
    rw [← h.len]
    exact rt_holdTo L h i _
  unfold propT
  rw [(h.at' i).role]
  split
  · exact rt_tell L h i true
  · split
    · exact rt_all L (rt_tell L hh i true)
    · exact h
theorem rv_vec {m m' : Bp} (hm : RM C D m m') : RV C D m.vec m'.vec := ⟨hm.root, hm.cost, hm.bridge, hm.port⟩
theorem rp_took (L : LabOk C D) {p p' : Tp} (h : RP C D p p') {m m' : Bp} (hm : RM C D m m') : RP C D (tookP p m) (tookP p' m') := by
  unfold tookP
  rw [hm.age, hm.maxAge]
  split
  · exact ⟨⟨h.b.id, h.b.cost, h.b.up, rfl, rv_vec hm⟩, h.edge, h.role, h.state, by show m.age + 256 = m'.age + 256; rw [hm.age], rfl, h.wait, h.change, h.agreed⟩
  · exact rp_drop L h
theorem rt_told (L : LabOk C D) {T T' : Tt} (h : RT C D T T') (i : Nat) {m m' : Bp} (hm : RM C D m m') : RT C D (toldT T i m) (toldT T' i m') := by
  have hp := h.at' i
  have hr := rt_renew L (rt_setP L h i (rp_took L hp hm)) false
  unfold toldT gotT
  rw [hp.b.has, supR L (rv_vec hm) hp.b.told, hm.proposal]
  split
  · split
    · exact rt_prop L hr i
    · exact hr
  · exact h
theorem rt_rootH (L : LabOk C D) {T T' : Tt} (h : RT C D T T') (i : Nat) {m m' : Bp} (hm : RM C D m m') : RT C D (rootHT T i m) (rootHT T' i m') := by
  have ht := rt_told L h i hm
  unfold rootHT
  rw [(ht.at' i).role, betR L (ht.tells i) (rv_vec hm)]
  split
  · exact rt_tell L ht i false
  · exact ht
theorem rt_recv (L : LabOk C D) {T T' : Tt} (h : RT C D T T') (i : Int) {m m' : Bp} (hm : RM C D m m') : RT C D (recvT T i m) (recvT T' i m') := by
  have hp := h.at' i.toNat
  have h0 : RT C D (setP T i.toNat (plainP (T.at i.toNat))) (setP T' i.toNat (plainP (T'.at i.toNat))) := rt_setP L h _ ⟨hp.b, rfl, hp.role, hp.state, hp.age, hp.left, hp.wait, hp.change, hp.agreed⟩
  have h1 : RT C D (midR (setP T i.toNat (plainP (T.at i.toNat))) i.toNat m) (midR (setP T' i.toNat (plainP (T'.at i.toNat))) i.toNat m') := by
    unfold midR
    rw [hm.kind, hm.role]
    split
    · exact rt_hear L h0 _
    · split
      · exact rt_ans L h0 _ hm
      · exact rt_rootH L h0 _ hm
  unfold recvT heardT
  rw [← h.len, hp.b.up, check_R L hm, hm.change]
  split
  · split
    · exact rt_hear L h1 _
    · exact h1
  · exact h
theorem rt_took {T T' : Tt} (h : RT C D T T') : RT C D (tookT T) (tookT T') := ⟨h.id, h.len, h.at', h.y, h.rp, h.roles, h.tells, LR.nil, h.fg, h.quiet⟩
theorem rt_new (L : LabOk C D) {id id' : Int} (hid : C id id') {ps ps' : List Tp} (hl : ps.length = ps'.length) (hp : ∀ i, i < ps.length → D (ps.getD i Tp.zero).b.id (ps'.getD i Tp.zero).b.id ∧ (ps.getD i Tp.zero).b.cost = (ps'.getD i Tp.zero).b.cost ∧ (ps.getD i Tp.zero).edge = (ps'.getD i Tp.zero).edge) : RT C D (newT id ps) (newT id' ps') := by
  refine rt_sel L ⟨hid, by simp [preT, hl], fun i => ?_, RV.zero L, rfl, rfl, fun i => by simp [preT]; exact RV.zero L, LR.nil, rfl, rfl⟩
  by_cases hi : i < ps.length
  · rw [preT_at id ps i hi, preT_at id' ps' i (by rw [← hl]; exact hi)]
    obtain ⟨h1, h2, h3⟩ := hp i hi
    exact ⟨⟨h1, h2, rfl, rfl, RV.zero L⟩, h3, rfl, rfl, rfl, rfl, rfl, rfl, rfl⟩
  · rw [at_beyond (preT id ps) i (by simpa [preT] using hi), at_beyond (preT id' ps') i (by simpa [preT, ← hl] using hi)]
    exact RP.zero L
end
end Go.Proofs.Ytoejoneecanbbaa
