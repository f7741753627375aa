/-
  The walk of TreeDown. Conditions: those that the theorem names.
  The walk of TreeStates. Conditions: those that the theorem names.
  Mathematics of TreeHello. Conditions: those that each theorem names.
-/
import Derived.Test.YtoejoneecanbbaaOpn2
namespace Go.Proofs.Ytoejoneecanbbaa
open Go.RowKit
set_option linter.unusedVariables false
set_option maxRecDepth 20000

theorem link_down {T : Tt} (h : Inv T) (q : Nat) (hq : q < T.ps.length) : ((linkT T q false).at q).b.up = false ∧ ((linkT T q false).at q).b.has = false ∧ ((linkT T q false).at q).state = 0 ∧ ((linkT T q false).at q).role = 0 := by
  have hI := inv_link h (q : Int) false
  have hl : (linkT T q false).ps.length = T.ps.length := by
    unfold linkT
    split
    · rw [renewT_len, forgetT_len, setP_len]
    · rfl
  have hb : ((linkT T q false).at q).b.up = false ∧ ((linkT T q false).at q).b.has = false := by
    unfold linkT
    by_cases hc : 0 ≤ (q : Int) ∧ (q : Int) < T.ps.length ∧ (T.at (q : Int).toNat).b.up ≠ false
    · rw [if_pos hc, renew_b]
      have e : (forgetT (setP T (q : Int).toNat (dropP (setUp (T.at (q : Int).toNat) false))) (q : Int).toNat).at q = dropP (setUp (T.at q) false) := (setP_at T q q _ hq).trans (if_pos rfl)
      rw [e]
      exact ⟨rfl, rfl⟩
    · rw [if_neg hc]
      have hu : (T.at q).b.up = false := by
        cases e : (T.at q).b.up
        · rfl
        · exact absurd ⟨by omega, by omega, by rw [show (q : Int).toNat = q by omega, e]; simp⟩ hc
      refine ⟨hu, ?_⟩
      cases e : (T.at q).b.has
      · rfl
      · have := h.has q e
        rw [hu] at this; cases this
  have hr : ((linkT T q false).at q).role = 0 := by
    rw [hI.role q (by rw [hl]; exact hq)]
    exact down_role _ q (by rw [hl]; exact hq) hb.1
  refine ⟨hb.1, hb.2, ?_, hr⟩
  by_cases e : ((linkT T q false).at q).state = 0
  · exact e
  · have := hI.st q e
    rw [hr] at this
    omega
theorem link_up {T : Tt} (h : Inv T) (q : Nat) (hq : q < T.ps.length) (hu : (T.at q).b.up = false) : ((linkT T q true).at q).b.up = true ∧ ((linkT T q true).at q).b.has = false ∧ ((linkT T q true).at q).b.told = Vc.zero ∧ ((linkT T q true).at q).role = 2 ∧ ((linkT T q true).at q).state = (if ((linkT T q true).at q).edge = true then 2 else 0) := by
  have hr0 : (T.at q).role = 0 := by rw [h.role q hq]; exact down_role T q hq hu
  have hc : 0 ≤ (q : Int) ∧ (q : Int) < T.ps.length ∧ (T.at (q : Int).toNat).b.up ≠ true := ⟨by omega, by omega, by rw [show (q : Int).toNat = q by omega, hu]; simp⟩
  unfold linkT
  rw [if_pos hc]
  have e : (forgetT (setP T (q : Int).toNat (dropP (setUp (T.at (q : Int).toNat) true))) (q : Int).toNat).at q = dropP (setUp (T.at q) true) := (setP_at T q q _ hq).trans (if_pos rfl)
  have hl : (forgetT (setP T (q : Int).toNat (dropP (setUp (T.at (q : Int).toNat) true))) (q : Int).toNat).ps.length = T.ps.length := by rw [forgetT_len, setP_len]
  generalize forgetT (setP T (q : Int).toNat (dropP (setUp (T.at (q : Int).toNat) true))) (q : Int).toNat = U at *
  have hq' : q < U.ps.length := by rw [hl]; exact hq
  have hb : (U.at q).b.up = true ∧ (U.at q).b.has = false ∧ (U.at q).b.told = Vc.zero ∧ (U.at q).role = 0 := by rw [e]; exact ⟨rfl, rfl, rfl, hr0⟩
  have hnr : (selT U).rp ≠ q := fun er => by
    rcases root_up U.id U.bs U.ps.length with e1 | ⟨j, h1, h2, h3, h4⟩
    · have : (selT U).rp = -1 := e1
      omega
    · have : (selT U).rp = j := h2
      obtain rfl : q = j := by omega
      rw [bs_at, hb.2.1] at h4; cases h4
  have hrole : (selT U).roles.getD q 0 = 2 := by
    rw [sel_role U q hq']
    unfold roleN
    rw [if_neg (by rw [hb.1]; simp), if_neg (by simp; omega), if_pos (.inl hb.2.1)]
  have hcore := renew_core U true q hq'
  rw [if_neg hnr, hrole] at hcore
  unfold newC at hcore
  rw [if_neg (show ¬ (U.at q).core.role = 2 by show ¬ (U.at q).role = 2; rw [hb.2.2.2]; omega)] at hcore
  have k1 := congrArg Cr.b hcore
  have k2 := congrArg Cr.edge hcore
  have k3 := congrArg Cr.role hcore
  have k4 := congrArg Cr.state hcore
  have k1' : ((renewT U true).at q).b = (U.at q).b := k1
  have k2' : ((renewT U true).at q).edge = (U.at q).edge := k2
  refine ⟨by rw [k1']; exact hb.1, by rw [k1']; exact hb.2.1, by rw [k1']; exact hb.2.2.1, k3, ?_⟩
  rw [k2']
  have k4' : ((renewT U true).at q).state = if (2 : Int) = 2 ∧ (U.at q).edge = true then 2 else 0 := k4
  rw [k4']
  cases (U.at q).edge <;> simp
def doL (T : Tt) : List Ac → Nat → Tt
  | l, 0 => T
  | l, k + 1 => doT (doL T l k) (l.getD k Ac.zero)
theorem fine_doL {n : Nat} {id : Int} {T : Tt} (h : Fine n id T) (l : List Ac) : ∀ k, (∀ i, i < k → (l.getD i Ac.zero).m.wf) → Fine n id (doL T l k)
  | 0, _ => h
  | k + 1, hw => fine_do (fine_doL h l k fun i hi => hw i (by omega)) _ (hw k (by omega))
end Go.Proofs.Ytoejoneecanbbaa

namespace Go.Proofs.Ytoejoneecanbbaa
open Go.RowKit
set_option linter.unusedVariables false
set_option maxRecDepth 20000

theorem otLen (o : Ot) : (Try.prog.info? 77).map (·.size) = some (fO o).length := by kernel_rfl
@[reducible] def Ot.row (o : Ot) : Array Value := #[.int .i64 o.port, .int .i64 o.m.kind, .int .u64 o.m.root, .int .u64 o.m.cost, .int .u64 o.m.bridge, .int .i64 o.m.port, .bool o.m.change, .bool o.m.ack, .bool o.m.proposal, .bool o.m.agreement, .bool o.m.learning, .bool o.m.forwarding, .int .i64 o.m.role, .int .i64 o.m.age, .int .i64 o.m.maxAge, .int .i64 o.m.hello, .int .i64 o.m.delay]
theorem otSize (o : Ot) : (Try.prog.info? 77).map (·.size) = some o.row.size := by kernel_rfl
theorem Ot.row_all (o : Ot) : o.row.all (·.oneCell') = true := by simp [Value.oneCell']
/-- What the statement asks of a port. -/
structure PortS (p : Tp) (i : Nat) (rp : Int) : Prop where
  root : (i : Int) = rp → p.role = 1 ∧ p.state = 2
  act : p.state ≠ 0 → p.role = 1 ∨ p.role = 2
  up : p.b.up = false → p.state = 0
  rng : 0 ≤ p.state ∧ p.state ≤ 2
theorem Fine.port {n : Nat} {id : Int} {T : Tt} (h : Fine n id T) (hok : T.ok) (i : Nat) (hi : i < n) : PortS (T.at i) i T.rp := by
  have hi' : i < T.ps.length := by rw [h.len]; exact hi
  refine ⟨fun e => ⟨?_, h.inv.root i hi' e.symm⟩, h.inv.st i, fun hu => ?_, (at_ok hok i).state⟩
  · rw [h.inv.role i hi']
    exact root_role T i hi' (by rw [← h.inv.rp]; exact e.symm)
  · have hr : (T.at i).role = 0 := by rw [h.inv.role i hi']; exact down_role T i hi' hu
    by_cases e : (T.at i).state = 0
    · exact e
    · have := h.inv.st i e
      rw [hr] at this
      omega
theorem OutI.at {n : Nat} {id : Int} {T : Tt} (h : OutI n id T) (i : Nat) (hi : i < T.outs.length) : bcheckE (T.outs.getD i Ot.zero).m = 0 ∧ 0 ≤ (T.outs.getD i Ot.zero).port ∧ (T.outs.getD i Ot.zero).port < n ∧ (T.outs.getD i Ot.zero).m.bridge = id ∧ (T.outs.getD i Ot.zero).m.wf := by
  have e : T.outs.getD i Ot.zero = T.outs[i] := by simp [hi]
  rw [e]
  exact h _ (List.getElem_mem hi)
@[reducible] def fBp (b : Bp) : List Value := fB b
def stL (T : Tt) (l : List Ac) : Nat → Tt
  | 0 => T
  | k + 1 => tookT (doT (stL T l k) (l.getD k Ac.zero))
theorem fine_stL {n : Nat} {id : Int} {T : Tt} (h : Fine n id T) (l : List Ac) : ∀ k, (∀ i, i < k → (l.getD i Ac.zero).m.wf) → Fine n id (stL T l k)
  | 0, _ => h
  | k + 1, hw => fine_took (fine_do (fine_stL h l k fun i hi => hw i (by omega)) _ (hw k (by omega)))
end Go.Proofs.Ytoejoneecanbbaa

namespace Go.Proofs.Ytoejoneecanbbaa
open Go.RowKit
set_option linter.unusedVariables false
set_option maxRecDepth 20000

/-- A bridge that stands still: the first port is up, nobody told anything. -/
structure Hel (n : Nat) (id : Int) (T : Tt) : Prop where
  fine : Fine n id T
  pos : 0 < n
  has : ∀ i, (T.at i).b.has = false
  first : (T.at 0).b.up = true ∧ (T.at 0).b.id = 1
  rest : ∀ i, i ≠ 0 → (T.at i).b.up = false
theorem lost_none (T : Tt) (h : ∀ i, (T.at i).b.has = false) : ∀ k, k ≤ T.ps.length → lostTo T k = false
  | 0, _ => rfl
  | k + 1, hk => by
    rw [lostTo, lost_none T h k (by omega), oldTo_at T k (by omega) k, if_neg (by omega)]
    unfold lostP
    rw [h k]
    rfl
theorem seen_still (T : Tt) (h : ∀ i, (T.at i).b.has = false) : seenT T = oldTo T T.ps.length := by
  unfold seenT
  rw [lost_none T h _ (Nat.le_refl _)]
  rfl
theorem gone_b (T : Tt) (h : ∀ i, (T.at i).b.has = false) (i : Nat) : ((goneT T).at i).b = (T.at i).b := by
  have h1 := (stp_cntTo (seenT T) T.ps.length (by rw [seenT_len]; exact Nat.le_refl _)).at' i
  have h2 : ((seenT T).at i).b = (T.at i).b := by
    rw [seen_still T h, oldTo_at T _ (Nat.le_refl _) i]
    split
    · unfold oldP; rw [if_pos (h i)]; rfl
    · rfl
  exact h1.1.trans h2
theorem tick_b (T : Tt) (h : ∀ i, (T.at i).b.has = false) (i : Nat) : ((tickT T).at i).b = (T.at i).b := by
  have hg := gone_b T h i
  unfold tickT
  split
  · have h1 := ((stp_allTo (goneT T) (goneT T).ps.length).trans (stp_setQ _ 1)).at' i
    exact h1.1.trans hg
  · exact hg
theorem Hel.tick {n : Nat} {id : Int} {T : Tt} (h : Hel n id T) : Hel n id (tickT T) := by
  have hb := tick_b T h.has
  exact ⟨fine_tick h.fine, h.pos, fun i => by rw [hb]; exact h.has i, by rw [hb]; exact h.first, fun i hi => by rw [hb]; exact h.rest i hi⟩
theorem Hel.took {n : Nat} {id : Int} {T : Tt} (h : Hel n id T) : Hel n id (tookT T) := ⟨fine_took h.fine, h.pos, h.has, h.first, h.rest⟩
theorem best_none (b : Int) (ps : List Rp) (h : ∀ i, (ps.getD i Rp.zero).has = false) : ∀ k, bestW b ps k = ⟨⟨b, 0, b, 0⟩, -1, 0⟩
  | 0 => rfl
  | k + 1 => by
    rw [bestW, best_none b ps h k]
    unfold stepW
    rw [if_neg (by rw [h k]; simp)]
/-- What such a bridge's ports are, and tell. -/
theorem Hel.at {n : Nat} {id : Int} {T : Tt} (h : Hel n id T) : T.rp = -1 ∧ T.tells.getD 0 Vc.zero = ⟨id, 0, id, 1⟩ ∧ (T.at 0).role = 2 ∧ ∀ i, i ≠ 0 → i < n → (T.at i).role = 0 := by
  have hl := h.fine.len
  have hbw : bestW T.id T.bs T.ps.length = ⟨⟨T.id, 0, T.id, 0⟩, -1, 0⟩ := best_none _ _ (fun i => by rw [bs_at]; exact h.has i) _
  have hrp : T.rp = -1 := by rw [h.fine.inv.rp]; show (bestW T.id T.bs T.ps.length).place = _; rw [hbw]
  have h0 : 0 < T.ps.length := by rw [hl]; exact h.pos
  refine ⟨hrp, ?_, ?_, fun i hi hn => ?_⟩
  · rw [h.fine.inv.tells]
    show (tellsL T.id T.bs).getD 0 Vc.zero = _
    rw [tellsL_at _ _ _ (by rw [bs_len]; exact h0), bs_len, hbw, bs_at]
    unfold tellV
    rw [h.first.2, h.fine.id']
  · rw [h.fine.inv.role 0 h0, sel_role T 0 h0]
    unfold roleN
    rw [if_neg (by rw [h.first.1]; simp), if_neg (by rw [← h.fine.inv.rp, hrp]; simp), if_pos (.inl (h.has 0))]
  · rw [h.fine.inv.role i (by rw [hl]; exact hn)]
    exact down_role T i (by rw [hl]; exact hn) (h.rest i hi)
/-- What is asked of a message. -/
structure HelM (id : Int) (m : Bp) : Prop where
  root : m.root = id
  cost : m.cost = 0
  bridge : m.bridge = id
  port : m.port = 1
  role : m.role = 3
  age : m.age = 0
  maxAge : m.maxAge = 5120
  hello : m.hello = 512
  delay : m.delay = 3840
theorem all_hel {n : Nat} {id : Int} {U : Tt} (h : Hel n id U) (ho : U.outs = []) : ∃ m, (allT U).outs = [⟨0, m⟩] ∧ HelM id m := by
  obtain ⟨h1, h2, h3, h4⟩ := h.at
  have hage : ageT U = 0 := by unfold ageT; rw [if_pos (by omega)]
  have hm : HelM id (msgT U 0 false) := by
    unfold msgT msgP
    rw [h2, hage, h3]
    exact ⟨rfl, rfl, rfl, rfl, rfl, rfl, rfl, rfl, rfl⟩
  have hc : bcheckE (msgT U 0 false) = 0 := by
    have hk : (msgT U 0 false).kind = 1 := rfl
    have hn : numsB (msgT U 0 false) = true := by
      unfold numsB Bp.five
      rw [hm.role, hm.cost, hm.port, hm.age, hm.maxAge, hm.hello, hm.delay]
      decide
    unfold bcheckE
    rw [hk, if_neg (by omega), if_neg (by omega), if_neg (by rw [hn]; simp), if_neg (by rw [hm.age, hm.maxAge]; omega)]
  have key : ∀ k, k + 1 ≤ n → (allTo U (k + 1)).outs = [⟨0, msgT U 0 false⟩] := by
    intro k
    induction k with
    | zero =>
      intro _
      rw [allTo, if_pos (by unfold tellB; rw [h3]; rfl)]
      show (tellT U 0 false).outs = _
      unfold tellT
      rw [if_pos hc]
      show U.outs ++ _ = _
      rw [ho]
      rfl
    | succ k ih =>
      intro hk
      rw [allTo, if_neg (by unfold tellB; rw [h4 (k + 1) (by omega) (by omega)]; simp)]
      exact ih (by omega)
  refine ⟨msgT U 0 false, ?_, hm⟩
  have := key (n - 1) (by have := h.pos; omega)
  rw [show n - 1 + 1 = n by have := h.pos; omega] at this
  show (allTo U U.ps.length).outs = _
  rw [h.fine.len]
  exact this
theorem tick_hel {n : Nat} {id : Int} {T : Tt} (h : Hel n id T) (ho : T.outs = []) (s : Nat) (hq : T.quiet = ((s % 2 : Nat) : Int)) : (tickT T).quiet = (((s + 1) % 2 : Nat) : Int) ∧ (s % 2 = 1 → (tickT T).outs = []) ∧ (s % 2 = 0 → ∃ m, (tickT T).outs = [⟨0, m⟩] ∧ HelM id m) := by
  have hgq : (goneT T).quiet = T.quiet := (goneT_facts h.fine.ok).2.1
  have hgo : (goneT T).outs = [] := by
    have h1 := (same_cntTo (seenT T) T.ps.length).outs
    have h2 : (seenT T).outs = T.outs := by rw [seen_still T h.has]; exact (same_oldTo T _).outs
    show (cntTo (seenT T) T.ps.length).outs = []
    rw [h1, h2, ho]
  have hgh : Hel n id (goneT T) := by
    have hb := gone_b T h.has
    refine ⟨⟨?_, by intro o ho'; rw [hgo] at ho'; simp at ho', (goneT_facts h.fine.ok).2.2.2.trans h.fine.len, ?_, (goneT_facts h.fine.ok).1⟩, h.pos, fun i => by rw [hb]; exact h.has i, by rw [hb]; exact h.first, fun i hi => by rw [hb]; exact h.rest i hi⟩
    · exact (stp_cntTo (seenT T) T.ps.length (by rw [seenT_len]; exact Nat.le_refl _)).inv (inv_seen h.fine.inv)
    · have h1 := (same_cntTo (seenT T) T.ps.length).id
      have h2 : (seenT T).id = T.id := by rw [seen_still T h.has]; exact (same_oldTo T _).id
      show (cntTo (seenT T) T.ps.length).id = id
      rw [h1, h2, h.fine.id']
  rcases (show s % 2 = 0 ∨ s % 2 = 1 by omega) with e | e
  · have hz : (goneT T).quiet = 0 := by rw [hgq, hq, e]; rfl
    have ht : tickT T = setQ (allT (goneT T)) 1 := by unfold tickT; rw [if_pos hz]
    rw [ht]
    exact ⟨by show (1 : Int) = _; omega, fun e' => by omega, fun _ => all_hel hgh hgo⟩
  · have hz : (goneT T).quiet = 1 := by rw [hgq, hq, e]; rfl
    have ht : tickT T = setQ (goneT T) ((goneT T).quiet - 1) := by unfold tickT; rw [if_neg (by omega)]
    rw [ht]
    exact ⟨by show (goneT T).quiet - 1 = _; rw [hz]; omega, fun _ => hgo, fun e' => by omega⟩
def idsL (n : Nat) : List Int := (List.range n).map fun (i : Nat) => (i : Int) + 1
theorem idsL_push (n : Nat) : idsL n ++ [(n : Int) + 1] = idsL (n + 1) := by simp [idsL, List.range_succ]
theorem idsL_len (n : Nat) : (idsL n).length = n := by simp [idsL]
theorem idsL_at (n i : Nat) (hi : i < n) : (idsL n).getD i 0 = (i : Int) + 1 := by simp [idsL, hi]
def H0 (id : Int) (n : Nat) : Tt := tookT (linkT (newT id ((idsL n).map portP)) 0 true)
def helT (id : Int) (n : Nat) : Nat → Tt
  | 0 => H0 id n
  | k + 1 => tookT (tickT (helT id n k))
theorem ids_wf (n : Nat) (hn : n ≤ 1000) : ∀ i, i < ((idsL n).map portP).length → (((idsL n).map portP).getD i Tp.zero).b.wf := ports_wf (fun i hi => by
  rw [idsL_len] at hi
  rw [idsL_at n i hi]
  exact ⟨by omega, by omega⟩)
theorem H0_hel (id : Int) (n : Nat) (hid : U64 id) (hn : n ≤ 1000) (hp : 0 < n) : Hel n id (H0 id n) := by
  have hF := fine_new (id := id) (ps := (idsL n).map portP) hid (ids_wf n hn)
  have hlen : ((idsL n).map portP).length = n := by rw [List.length_map, idsL_len]
  rw [hlen] at hF
  have hat : ∀ i, i < n → ((newT id ((idsL n).map portP)).at i).b = ⟨(i : Int) + 1, 10, false, false, Vc.zero⟩ := fun i hi => by
    have e : (newT id ((idsL n).map portP)).at i = bareP (((idsL n).map portP).getD i Tp.zero) := preT_at id _ i (by rw [hlen]; exact hi)
    have e2 : ((idsL n).map portP).getD i Tp.zero = portP ((idsL n).getD i 0) := by simp [idsL, hi]
    rw [e, e2, idsL_at n i hi]
    rfl
  have hlb : ∀ k, ((linkT (newT id ((idsL n).map portP)) 0 true).at k).b = if k = 0 then ⟨1, 10, true, false, Vc.zero⟩ else ((newT id ((idsL n).map portP)).at k).b := fun k => by
    have h0 := hat 0 hp
    unfold linkT
    rw [if_pos ⟨by omega, by rw [hF.len]; omega, by show ((newT id ((idsL n).map portP)).at 0).b.up ≠ true; rw [h0]; simp⟩, renew_b]
    have e : (forgetT (setP (newT id ((idsL n).map portP)) (0 : Int).toNat (dropP (setUp ((newT id ((idsL n).map portP)).at (0 : Int).toNat) true))) (0 : Int).toNat).at k = (setP (newT id ((idsL n).map portP)) 0 (dropP (setUp ((newT id ((idsL n).map portP)).at 0) true))).at k := rfl
    rw [e, setP_at _ 0 k _ (by rw [hF.len]; exact hp)]
    split
    · show (⟨((newT id ((idsL n).map portP)).at 0).b.id, ((newT id ((idsL n).map portP)).at 0).b.cost, true, false, Vc.zero⟩ : Rp) = _
      rw [h0]; rfl
    · rfl
  refine Hel.took ⟨fine_link hF 0 true, hp, fun i => ?_, by rw [hlb 0, if_pos rfl]; exact ⟨rfl, rfl⟩, fun i hi => ?_⟩
  · rw [hlb i]
    split
    · rfl
    · by_cases hi : i < n
      · rw [hat i hi]
      · rw [at_beyond _ i (by rw [hF.len]; exact hi)]
  · rw [hlb i, if_neg hi]
    by_cases hi : i < n
    · rw [hat i hi]
    · rw [at_beyond _ i (by rw [hF.len]; exact hi)]
theorem helT_all (id : Int) (n : Nat) (hid : U64 id) (hn : n ≤ 1000) (hp : 0 < n) : ∀ s, Hel n id (helT id n s) ∧ (helT id n s).outs = [] ∧ (helT id n s).quiet = ((s % 2 : Nat) : Int)
  | 0 => ⟨H0_hel id n hid hn hp, rfl, by
    show (linkT (newT id ((idsL n).map portP)) 0 true).quiet = _
    rw [(linkT_facts (newT_ok hid (ids_wf n hn)) 0 true).2.1]
    rfl⟩
  | s + 1 => by
    obtain ⟨h1, h2, h3⟩ := helT_all id n hid hn hp s
    exact ⟨h1.tick.took, rfl, (tick_hel h1 h2 s h3).1⟩
end Go.Proofs.Ytoejoneecanbbaa
