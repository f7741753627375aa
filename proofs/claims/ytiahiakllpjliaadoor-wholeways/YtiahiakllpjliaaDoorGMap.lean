
/-
  Maps, whatever their keys and elements, each told by a function ('Mp'), and ranging over them ('Rg'). No Go text. Conditions: those that each theorem names.
-/
import Derived.Maps.RangeWalk
import Derived.WalkKit
import Derived.Below
namespace Go.Proofs.YtiahiakllpjliaaDoor
open Go.RowKit Go.Maps
set_option linter.unusedVariables false

/-- A map's type: how its keys and its elements are told. -/
structure MT (κ α : Type) where
  t : TypeId
  k : TypeId
  e : TypeId
  R : Value → Option (DataW Unit × List MemPlace)
  kv : κ → Value
  kl : κ → Lit
  okk : κ → Prop
  ev : α → Value
  ed : α → DataW Unit
  oka : α → Prop
  d0 : α
structure MT.Good {κ α : Type} (P : Program) (M : MT κ α) : Prop where
  ht : P.underlying M.t = some (.map M.k M.e)
  keyed : Keyed P M.k
  kmk : ∀ k, M.okk k → keyOf P M.k (M.kv k) = some (M.kl k)
  kinv : ∀ v l, keyOf P M.k v = some l → ∃ k, M.okk k ∧ v = M.kv k ∧ l = M.kl k
  kinj : ∀ a b, M.okk a → M.okk b → M.kl a = M.kl b → a = b
  emk : ∀ a, M.oka a → M.R (M.ev a) = some (M.ed a, [])
  einv : ∀ v y, M.R v = some y → ∃ a, M.oka a ∧ v = M.ev a ∧ y = (M.ed a, [])
  einj : ∀ a b, M.ed a = M.ed b → a = b
  zero : ∀ w, (zeroValue M.e).run P w = .ok (M.ev M.d0) w
  zok : M.oka M.d0
theorem MT.Good.lit {κ α : Type} {P : Program} {M : MT κ α} (G : M.Good P) {k : κ} (h : M.okk k) : WideAt.IsKeyLit (M.kl k) := G.keyed.key (G.kmk k h)
theorem MT.Good.ne {κ α : Type} {P : Program} {M : MT κ α} (G : M.Good P) {a b : κ} (ha : M.okk a) (hb : M.okk b) (h : a ≠ b) : M.kl a ≠ M.kl b := fun e => h (G.kinj a b ha hb e)
/-- What a datum tells. -/
def Told {κ α : Type} (M : MT κ α) (D : DataW Unit) (f : κ → Option α) : Prop :=
  ∀ k, M.okk k → Maps.has D (M.kl k) = (f k).isSome ∧ ∀ a, f k = some a → ∀ z, D.atKey (M.kl k) z = M.ed a
def updK {κ β : Type} [DecidableEq κ] (f : κ → β) (k : κ) (v : β) : κ → β := fun i => if i = k then v else f i
theorem updK_same {κ β : Type} [DecidableEq κ] (f : κ → β) (k : κ) (v : β) : updK f k v k = v := by simp [updK]
theorem updK_other {κ β : Type} [DecidableEq κ] (f : κ → β) (k i : κ) (v : β) (h : i ≠ k) : updK f k v i = f i := by simp [updK, h]
theorem Told.put {κ α : Type} [DecidableEq κ] {P : Program} {M : MT κ α} (G : M.Good P) {D : DataW Unit} {f : κ → Option α} (h : Told M D f) (hD : IsMap D) (k : κ) (hk : M.okk k) (a : α) : Told M (D.put (M.kl k) (M.ed a)) (updK f k (some a)) := by
  intro i hi
  by_cases e : i = k
  · subst e
    rw [updK_same, has_put_same hD (G.lit hi)]
    refine ⟨rfl, fun a' ha z => ?_⟩
    cases ha
    exact atKey_put_same hD (G.lit hi) _ _
  · rw [updK_other _ _ _ _ e, has_put_other (G.ne hi hk e)]
    exact ⟨(h i hi).1, fun a' ha z => by rw [atKey_put_other (G.ne hi hk e)]; exact (h i hi).2 a' ha z⟩
theorem Told.del {κ α : Type} [DecidableEq κ] {P : Program} {M : MT κ α} (G : M.Good P) {D : DataW Unit} {f : κ → Option α} (h : Told M D f) (k : κ) (hk : M.okk k) : Told M (D.del (M.kl k)) (updK f k none) := by
  intro i hi
  by_cases e : i = k
  · subst e
    rw [updK_same, has_del_same]
    exact ⟨rfl, fun a' ha => by cases ha⟩
  · rw [updK_other _ _ _ _ e, has_del_other (G.ne hi hk e)]
    exact ⟨(h i hi).1, fun a' ha z => by rw [atKey_del_other (G.ne hi hk e)]; exact (h i hi).2 a' ha z⟩
/-- Block B is a map of c entries that has f. -/
def Mp {κ α : Type} (P : Program) (M : MT κ α) (w : World) (B c : Nat) (f : κ → Option α) : Prop :=
  ∃ D : DataW Unit, w.ownsMap P M.k M.R B c D ∧ Maps.size D = c ∧ Told M D f
theorem owns_tight {P : Program} {k : TypeId} {R : Value → Option (DataW Unit × List MemPlace)} {w : World} {b n : Nat} {D : DataW Unit} (h : w.ownsMap P k R b n D) : w.ownsMap P k R b (Maps.size D) D := by
  obtain ⟨es, clock, hb, F, hs, rfl⟩ := h
  exact ⟨es, clock, hb, F, by simp [Maps.size, length_sorted], rfl⟩
section
variable {κ α : Type} {P : Program} {M : MT κ α} {w : World} {B c : Nat} {f : κ → Option α}
theorem Mp.made (P : Program) (M : MT κ α) (w : World) : Mp P M (w.alloc (.map #[] 0)) w.heap.size 0 (fun _ => none) :=
  ⟨.map [], World.ownsMap_made w _ _ _, rfl, fun k _ => ⟨rfl, fun a ha => by cases ha⟩⟩
theorem Mp.blk (h : Mp P M w B c f) {w' : World} (e : w'.heap[B]? = w.heap[B]?) : Mp P M w' B c f := by
  obtain ⟨D, ⟨es, cl, hb, r⟩, h2⟩ := h
  exact ⟨D, ⟨es, cl, e.trans hb, r⟩, h2⟩
theorem Mp.lt (h : Mp P M w B c f) : B < w.heap.size := by obtain ⟨D, h1, _⟩ := h; exact h1.lt
theorem Mp.below (h : Mp P M w B c f) {w' : World} (hb : Below w.heap.size w w') : Mp P M w' B c f := h.blk (hb.block B h.lt)
theorem Mp.ext (h : Mp P M w B c f) {g : κ → Option α} (e : ∀ k, M.okk k → f k = g k) : Mp P M w B c g := by
  obtain ⟨D, h1, h2, h3⟩ := h
  exact ⟨D, h1, h2, fun k hk => by rw [← e k hk]; exact h3 k hk⟩
theorem Told.val (G : M.Good P) {D : DataW Unit} (h : Told M D f) {k : κ} (hk : M.okk k) {v : Value} {ps : List MemPlace} (hv : M.R v = some (D.atKey (M.kl k) (M.ed M.d0), ps)) : v = M.ev ((f k).getD M.d0) ∧ M.oka ((f k).getD M.d0) := by
  obtain ⟨a, ha, rfl, hy⟩ := G.einv v _ hv
  simp only [Prod.mk.injEq] at hy
  have hk' := h k hk
  cases hf : f k with
  | none =>
    rw [hf] at hk'
    have e := hy.1
    rw [atKey_of_not_has hk'.1] at e
    have := G.einj _ _ e
    subst this
    exact ⟨rfl, ha⟩
  | some b =>
    have e := hy.1
    rw [hk'.2 b hf] at e
    have := G.einj _ _ e
    subst this
    exact ⟨rfl, ha⟩
theorem Mp.look' (h : Mp P M w B c f) (G : M.Good P) (k : κ) (hk : M.okk k) :
    (Instr.lookup M.t (.map (some B)) (M.kv k) false).run P w = .ok (M.ev ((f k).getD M.d0)) w ∧ M.oka ((f k).getD M.d0) := by
  obtain ⟨D, h1, h2, h3⟩ := h
  obtain ⟨v, ps, hrun, hv⟩ := h1.lookup G.keyed G.ht (G.zero w) (G.emk _ G.zok) (G.kmk k hk)
  obtain ⟨rfl, ho⟩ := h3.val G hk hv
  exact ⟨hrun, ho⟩
theorem Mp.look (h : Mp P M w B c f) (G : M.Good P) (k : κ) (hk : M.okk k) : (Instr.lookup M.t (.map (some B)) (M.kv k) false).run P w = .ok (M.ev ((f k).getD M.d0)) w := (h.look' G k hk).1
theorem Mp.lookok (h : Mp P M w B c f) (G : M.Good P) (k : κ) (hk : M.okk k) :
    (Instr.lookup M.t (.map (some B)) (M.kv k) true).run P w = .ok (.tuple #[M.ev ((f k).getD M.d0), .bool (f k).isSome]) w := by
  obtain ⟨D, h1, h2, h3⟩ := h
  obtain ⟨v, ps, hrun, hv⟩ := h1.look_ok G.keyed G.ht (G.zero w) (G.emk _ G.zok) (G.kmk k hk)
  obtain ⟨rfl, ho⟩ := h3.val G hk hv
  rw [hrun, (h3 k hk).1]
theorem Mp.oka (h : Mp P M w B c f) (G : M.Good P) (k : κ) (hk : M.okk k) (a : α) (ha : f k = some a) : M.oka a := by
  have := (h.look' G k hk).2
  rw [ha] at this
  exact this
theorem Mp.len (h : Mp P M w B c f) (G : M.Good P) (ty : TypeId) : (Builtin.len_ #[M.t] ty #[.map (some B)]).run P w = .ok (.int .i64 c) w := by
  obtain ⟨D, h1, h2, h3⟩ := h
  rw [h1.len G.ht ty, h2]
theorem Mp.put [DecidableEq κ] (h : Mp P M w B c f) (G : M.Good P) (k : κ) (hk : M.okk k) (a : α) (ha : M.oka a) (hc : c < maxLen) :
    ∃ w', (Instr.mapUpdate M.t (.map (some B)) (M.kv k) (M.ev a)).run P w = .ok () w' ∧ Mp P M w' B (if (f k).isSome then c else c + 1) (updK f k (some a)) ∧ w.grownBy w' (some B) := by
  obtain ⟨D, h1, h2, h3⟩ := h
  obtain ⟨w', hrun, ho, hg⟩ := h1.update G.keyed G.ht hc (G.kmk k hk) (G.emk a ha)
  have hs : Maps.size (D.put (M.kl k) (M.ed a)) = if (f k).isSome then c else c + 1 := by
    rw [size_put (h1.tidy G.keyed), (h3 k hk).1, h2]
  exact ⟨w', hrun, ⟨_, by rw [← hs]; exact owns_tight ho, hs, h3.put G h1.isMap k hk a⟩, hg⟩
theorem Mp.del [DecidableEq κ] (h : Mp P M w B c f) (G : M.Good P) (k : κ) (hk : M.okk k) (ty : TypeId) :
    ∃ w', (Builtin.delete_ #[M.t, M.k] ty #[.map (some B), M.kv k]).run P w = .ok (.tuple #[]) w' ∧ Mp P M w' B (if (f k).isSome then c - 1 else c) (updK f k none) ∧ w.grownBy w' (some B) := by
  obtain ⟨D, h1, h2, h3⟩ := h
  obtain ⟨w', hrun, ho, hg⟩ := h1.drop G.keyed G.ht (G.kmk k hk) ty
  have hs : Maps.size (D.del (M.kl k)) = if (f k).isSome then c - 1 else c := by
    have := size_del (k := M.kl k) (h1.tidy G.keyed)
    rw [(h3 k hk).1, h2] at this
    cases hh : (f k).isSome
    · rw [hh] at this; simpa using this
    · rw [hh] at this; simp at this ⊢; omega
  exact ⟨w', hrun, ⟨_, by rw [← hs]; exact owns_tight ho, hs, h3.del G k hk⟩, hg.grown⟩
/-- As many entries as keys. -/
theorem Mp.count (h : Mp P M w B c f) (G : M.Good P) (l : List κ) (hn : l.Nodup) (hl : ∀ k ∈ l, M.okk k) (hf : ∀ k, M.okk k → ((f k).isSome = true ↔ k ∈ l)) : c = l.length := by
  obtain ⟨D, ⟨es, cl, hb, F, hs, rfl⟩, h2, h3⟩ := h
  have hin : ∀ q, Maps.has (DataW.map ((es.toList.map (WideElems.rg P M.k M.R)).foldr DataW.insert [])) q = true → ∃ p ∈ es.toList.map (WideElems.rg P M.k M.R), p.1 = q := by
    intro q hq
    obtain ⟨p, hp, hpk⟩ := List.any_eq_true.1 hq
    exact ⟨p, mem_sorted.1 hp, WideAt.sameKey_eq hpk⟩
  have hkey : ∀ p ∈ es.toList.map (WideElems.rg P M.k M.R), ∃ k, M.okk k ∧ p.1 = M.kl k := by
    intro p hp
    obtain ⟨x, hx, rfl⟩ := List.mem_map.1 hp
    obtain ⟨y, hy⟩ := F.reads x hx
    rw [WideElems.rg_of hy]
    obtain ⟨k, h1, _, h3⟩ := G.kinv _ _ (WideElems.rd_key hy)
    exact ⟨k, h1, h3⟩
  have hhas : ∀ p ∈ es.toList.map (WideElems.rg P M.k M.R), Maps.has (DataW.map ((es.toList.map (WideElems.rg P M.k M.R)).foldr DataW.insert [])) p.1 = true := by
    intro p hp
    obtain ⟨k, hk, e⟩ := hkey p hp
    exact List.any_eq_true.2 ⟨p, mem_sorted.2 hp, WideAt.sameKey_self (by rw [e]; exact G.lit hk)⟩
  have ap := Maps.fit_apart G.keyed F
  have n1 : ((es.toList.map (WideElems.rg P M.k M.R)).map Prod.fst).Nodup := by
    rw [List.nodup_iff_pairwise_ne, List.pairwise_map]; exact ap
  have n2 : (l.map M.kl).Nodup := by
    rw [List.nodup_iff_pairwise_ne, List.pairwise_map]
    have := List.nodup_iff_pairwise_ne.1 hn
    exact this.imp_of_mem (fun {a b} ha hb hab => G.ne (hl a ha) (hl b hb) hab)
  have hp : ((es.toList.map (WideElems.rg P M.k M.R)).map Prod.fst).Perm (l.map M.kl) := by
    rw [List.perm_ext_iff_of_nodup n1 n2]
    intro q
    constructor
    · intro hq
      obtain ⟨p, hp, rfl⟩ := List.mem_map.1 hq
      obtain ⟨k, hk, e⟩ := hkey p hp
      have := hhas p hp
      rw [e, (h3 k hk).1] at this
      rw [e]
      exact List.mem_map.2 ⟨k, (hf k hk).1 this, rfl⟩
    · intro hq
      obtain ⟨k, hk, rfl⟩ := List.mem_map.1 hq
      have := (hf k (hl k hk)).2 hk
      rw [← (h3 k (hl k hk)).1] at this
      obtain ⟨p, hp, e⟩ := hin _ this
      exact List.mem_map.2 ⟨p, hp, e⟩
  have := hp.length_eq
  rw [List.length_map, List.length_map, List.length_map] at this
  rw [← h2, ← this]
  simp [Maps.size, length_sorted]
/-- Ranging: block r is the iterator; lf: the entry is still to come. -/
def Rg (P : Program) (M : MT κ α) (w : World) (B r n c : Nat) (f : κ → Option α) (lf : κ → Bool) (cnt : Nat) : Prop :=
  ∃ (D : DataW Unit) (left : Lit → Bool), w.ranges P M.k M.R B r n D left cnt ∧ Maps.size D = c ∧ Told M D f ∧ ∀ k, M.okk k → left (M.kl k) = lf k
theorem Rg.mp {r n cnt : Nat} {lf : κ → Bool} (h : Rg P M w B r n c f lf cnt) : Mp P M w B c f := by
  obtain ⟨D, left, h1, h2, h3, h4⟩ := h
  exact ⟨D, by rw [← h2]; exact owns_tight h1.owns, h2, h3⟩
theorem Rg.left_eq {r n cnt : Nat} {lf : κ → Bool} (h : Rg P M w B r n c f lf cnt) : w.rangeLeft B r = cnt := by
  obtain ⟨D, left, h1, _⟩ := h; exact h1.left_eq
theorem Rg.ltr {r n cnt : Nat} {lf : κ → Bool} (h : Rg P M w B r n c f lf cnt) : r < w.heap.size := by
  obtain ⟨D, left, h1, _⟩ := h; exact h1.lt
theorem Rg.ne {r n cnt : Nat} {lf : κ → Bool} (h : Rg P M w B r n c f lf cnt) : r ≠ B := by
  obtain ⟨D, left, h1, _⟩ := h; exact h1.ne
theorem Rg.blk {r n cnt : Nat} {lf : κ → Bool} (h : Rg P M w B r n c f lf cnt) {w' : World} (e1 : w'.heap[B]? = w.heap[B]?) (e2 : w'.heap[r]? = w.heap[r]?) : Rg P M w' B r n c f lf cnt := by
  obtain ⟨D, left, ⟨es, clock, since, seen, c0, hb, F, hs, hD, hr, rest⟩, h2⟩ := h
  exact ⟨D, left, ⟨es, clock, since, seen, c0, e1.trans hb, F, hs, hD, e2.trans hr, rest⟩, h2⟩
theorem wpList_Mp_range {ops : Array Oper} {rest : List Oper} {o : Oper} {a : Act} {Q : Exit → Act → World → Prop} (hg : o.guard = none) (m : Operand) (G : M.Good P) (hop : o.op = Op.range M.t m) (hm : a.eval m = .map (some B)) (h : Mp P M w B c f)
    (hK : ∀ w', Rg P M w' B w.heap.size c c f (fun k => (f k).isSome) c → w.grownBy w' none → w'.heap.size = w.heap.size + 1 → wpList P ops Q rest (a.put o.dst (.pointer (some ⟨w.heap.size, 0, none⟩))) w') : wpList P ops Q (o :: rest) a w := by
  obtain ⟨D, h1, h2, h3⟩ := h
  refine wpList_range_own _ hg m M.t hop M.k M.e G.keyed G.ht _ B c D hm h1 fun w' hr hgr hs => ?_
  rw [h2] at hr
  exact hK w' ⟨D, _, hr, h2, h3, fun k hk => (h3 k hk).1⟩ hgr hs
theorem wpList_Rg_next [DecidableEq κ] {r n cnt : Nat} {lf : κ → Bool} {ops : Array Oper} {rest : List Oper} {o : Oper} {a : Act} {Q : Exit → Act → World → Prop} (hg : o.guard = none) (it : Operand) (G : M.Good P) (hop : o.op = Op.next it false) (hit : a.eval it = .pointer (some ⟨r, 0, none⟩)) (h : Rg P M w B r n c f lf cnt)
    (hDone : (∀ k, M.okk k → lf k = false) → wpList P ops Q rest (a.put o.dst (.tuple #[.bool false])) w)
    (hMore : ∀ (x : κ) (y : α) (w' : World) (cnt' : Nat), M.okk x → M.oka y → lf x = true → f x = some y → Rg P M w' B r n c f (updK lf x false) cnt' → cnt' < cnt → w.grownBy w' (some r) → w'.heap.size = w.heap.size →
      (Instr.entry (.pointer (some ⟨r, 0, none⟩))).run P w' = .ok (.tuple #[M.kv x, M.ev y]) w' → wpList P ops Q rest (a.put o.dst (.tuple #[.bool true, M.kv x, M.ev y])) w') : wpList P ops Q (o :: rest) a w := by
  obtain ⟨D, left, h1, h2, h3, h4⟩ := h
  refine wpList_next_ranges w (α := κ) (β := α) hg it hop M.k G.keyed M.R M.kv M.ev (fun key kl hk => by obtain ⟨k, _, e, _⟩ := G.kinv _ _ hk; exact ⟨k, e⟩) (fun v y hv => by obtain ⟨z, _, e, _⟩ := G.einv _ _ hv; exact ⟨z, e⟩) B r n D left cnt hit h1 (fun _ hl => hDone fun k hk => by rw [← h4 k hk]; exact hl _) ?_
  intro x cc kl y w' cnt' hkey hlk hv hat hrg hlt hgr hsz hen
  obtain ⟨k, hk, e1, rfl⟩ := G.kinv _ _ hkey
  obtain ⟨z, hz, e2, rfl⟩ := G.einv _ _ hv
  rw [e1, e2] at hen ⊢
  have hlf : lf k = true := by rw [← h4 k hk]; exact hlk
  have hsome : (f k).isSome = true := by
    rw [← (h3 k hk).1]
    exact has_true_of_atKey hat
  obtain ⟨b, hb⟩ := Option.isSome_iff_exists.1 hsome
  have hbz : b = z := by
    have e := (h3 k hk).2 b hb (M.ed M.d0)
    rw [hat] at e
    exact (G.einj _ _ e).symm
  subst hbz
  refine hMore k b w' cnt' hk hz hlf hb ⟨D, _, hrg, h2, h3, fun i hi => ?_⟩ hlt hgr hsz hen
  by_cases e : i = k
  · subst e
    rw [updK_same, WideAt.sameKey_self (G.lit hi)]
    simp
  · rw [updK_other _ _ _ _ e, sameKey_ne (G.ne hi hk e), h4 i hi]
    simp
theorem wpList_Rg_del [DecidableEq κ] {r n cnt : Nat} {lf : κ → Bool} {ops : Array Oper} {rest : List Oper} {o : Oper} {a : Act} {Q : Exit → Act → World → Prop} (hg : o.guard = none) (m x : Operand) (G : M.Good P) (hop : o.op = Op.call { callee := Callee.builtin Builtin.delete, args := #[m, x], argTypes := #[M.t, M.k] })
    (hm : a.eval m = .map (some B)) (k : κ) (hk : M.okk k) (hx : a.eval x = M.kv k) (hlf : lf k = false) (hsome : (f k).isSome = true) (h : Rg P M w B r n c f lf cnt)
    (hK : ∀ w' cnt', Rg P M w' B r n (c - 1) (updK f k none) lf cnt' → cnt' ≤ cnt → w.grownBy w' (some B) → wpList P ops Q rest (a.put o.dst (.tuple #[])) w') : wpList P ops Q (o :: rest) a w := by
  obtain ⟨D, left, h1, h2, h3, h4⟩ := h
  refine wpList_delete_ranges w hg m x M.t M.k hop M.e G.keyed G.ht M.R B r n D left cnt hm h1 (M.kv k) (M.kl k) hx (G.kmk k hk) fun w' cnt' hr hle ht => ?_
  refine hK w' cnt' ⟨_, _, hr, ?_, h3.del G k hk, fun i hi => ?_⟩ hle ht.grown
  · have := size_del (k := M.kl k) (h1.owns.tidy G.keyed)
    rw [(h3 k hk).1, h2, hsome] at this
    simp at this
    omega
  · by_cases e : i = k
    · subst e
      rw [h4 i hi, hlf]; simp
    · rw [sameKey_ne (G.ne hi hk e), h4 i hi]; simp
end
/-! Elements and keys of numbers. -/
theorem wfI {n : Int} (h1 : -9223372036854775808 ≤ n) (h2 : n ≤ 9223372036854775807) : (Lit.int .i64 n).wf = true := by simp [Lit.wf, IntKind.min, IntKind.max, IntKind.signed, IntKind.bits]; omega
@[reducible] def I64G (n : Int) : Prop := -9223372036854775808 ≤ n ∧ n ≤ 9223372036854775807
theorem kinv_int {P : Program} {k : TypeId} (hk : P.underlying k = some (.int .i64)) (v : Value) (l : Lit) (h : keyOf P k v = some l) : ∃ n : Int, I64G n ∧ v = .int .i64 n ∧ l = .int .i64 n := by
  obtain ⟨x, rfl, rfl, hw⟩ := Maps.keyOf_int_inv hk h
  refine ⟨x, ?_, rfl, rfl⟩
  simp [Lit.wf, IntKind.min, IntKind.max, IntKind.signed, IntKind.bits] at hw
  exact hw
/-- A number. -/
def oneElem : Value → Option (DataW Unit × List MemPlace)
  | .int .i64 n => if -9223372036854775808 ≤ n ∧ n ≤ 9223372036854775807 then some (.lit (.int .i64 n), []) else none
  | _ => none
theorem oneElem_mk (n : Int) (h : I64G n) : oneElem (.int .i64 n) = some (.lit (.int .i64 n), []) := if_pos h
theorem oneElem_inv (v : Value) (y : DataW Unit × List MemPlace) (h : oneElem v = some y) : ∃ n : Int, I64G n ∧ v = .int .i64 n ∧ y = (.lit (.int .i64 n), []) := by
  unfold oneElem at h
  split at h
  · rename_i n
    split at h
    · rename_i hn
      cases h
      exact ⟨n, hn, rfl, rfl⟩
    · cases h
  · cases h
/-- Two numbers. -/
def twoElem : Value → Option (DataW Unit × List MemPlace)
  | .agg cs => match cs.toList with
    | [.int .i64 a, .int .i64 b] => some (.agg [.lit (.int .i64 a), .lit (.int .i64 b)], [])
    | _ => none
  | _ => none
theorem twoElem_inv (v : Value) (y : DataW Unit × List MemPlace) (h : twoElem v = some y) : ∃ p : Int × Int, v = .agg #[.int .i64 p.1, .int .i64 p.2] ∧ y = (.agg [.lit (.int .i64 p.1), .lit (.int .i64 p.2)], []) := by
  unfold twoElem at h
  split at h
  · rename_i cs
    split at h
    · rename_i a b e
      cases h
      refine ⟨(a, b), ?_, rfl⟩
      congr 1
      apply Array.toList_inj.1
      rw [e]
    · cases h
  · cases h
end Go.Proofs.YtiahiakllpjliaaDoor
