
/-
  Two trees of the program's own, apart from each other ('Two'), and tree's calls in these words. Conditions: those that each theorem names.
-/
import Derived.Test.YtoejoneecanbbaaTree23
namespace Go.Proofs.Ytoejoneecanbbaa
open Go.RowKit
set_option linter.unusedVariables false
set_option maxRecDepth 20000

/-- What of a tree is its own, or what it reads. -/
def Mt.all (m : Mt) (k : Nat) : Prop := m.foot k ∨ k = m.ib ∨ k = m.vb
structure Two (w : World) (ta tb : Nat) (B : Nat → Prop) (N M : Nat) (S T : Tt) : Prop where
  ex : ∃ ma mb, ma.tb = ta ∧ mb.tb = tb ∧ Tr w ma S ∧ Tr w mb T ∧ (∀ k, ma.foot k → ¬ mb.foot k) ∧ ∀ k, B k → ¬ ma.foot k ∧ ¬ mb.foot k ∧ k < w.heap.size
  oks : S.ok
  okt : T.ok
  qs : 0 ≤ S.quiet ∧ S.quiet ≤ 2
  qt : 0 ≤ T.quiet ∧ T.quiet ≤ 2
  os : S.outs.length ≤ N
  ot : T.outs.length ≤ M
theorem Two.swap {w : World} {ta tb N M : Nat} {B : Nat → Prop} {S T : Tt} (h : Two w ta tb B N M S T) : Two w tb ta B M N T S := by
  obtain ⟨ma, mb, h1, h2, h3, h4, h5, h6⟩ := h.ex
  exact ⟨⟨mb, ma, h2, h1, h4, h3, fun k hk e => h5 k e hk, fun k hk => ⟨(h6 k hk).2.1, (h6 k hk).1, (h6 k hk).2.2⟩⟩, h.okt, h.oks, h.qt, h.qs, h.ot, h.os⟩
/-- A block of one type isn't a block of another. -/
theorem ne_type {w : World} {a b : Nat} {cs ds : Array Value} {s t : TypeId} {f g : Nat × Nat} (h1 : w.heap[a]? = some (.cells cs s f)) (h2 : w.heap[b]? = some (.cells ds t g)) (hst : s ≠ t) : a ≠ b := fun e => by
  subst e
  rw [h1] at h2
  simp only [Option.some.injEq, Obj.cells.injEq] at h2
  exact hst h2.2.1
theorem Sl.type {α : Type} {w : World} {v : Value} {e : TypeId} {m : Nat} {f : α → List Value} {l : List α} (h : Sl w v e m f l) {k : Nat} (hk : v.ownBlock = some k) : ∃ cs, w.heap[k]? = some (.cells cs e (0, 0)) := by
  rcases h with ⟨rfl, _⟩ | ⟨b, cap, sp, rfl, h1, _⟩
  · simp [Value.ownBlock] at hk
  · have e1 : b = k := Option.some.inj hk
    subst e1
    exact ⟨_, h1⟩
theorem Tr.not_foot {w : World} {m : Mt} {T : Tt} (h : Tr w m T) {k : Nat} {cs : Array Value} {t : TypeId} {f : Nat × Nat} (hk : w.heap[k]? = some (.cells cs t f)) (h1 : t ≠ 67) (h2 : t ≠ 34) (h3 : t ≠ 77) : ¬ m.foot k := fun e => by
  rcases e with e | e | e
  · exact ne_type hk h.row h1 e
  · obtain ⟨ds, hd⟩ := h.ports.type e
    exact ne_type hk hd h2 rfl
  · obtain ⟨ds, hd⟩ := h.outs.type e
    exact ne_type hk hd h3 rfl
/-- One of them as it is used alone. -/
theorem Two.first {w : World} {ta tb N M : Nat} {B : Nat → Prop} {S T : Tt} (h : Two w ta tb B N M S T) : ∃ mb, mb.tb = tb ∧ Tr w mb T ∧ Ow w ta (fun k => B k ∨ mb.all k) N S ∧ ∀ k, B k → ¬ mb.foot k := by
  obtain ⟨ma, mb, h1, h2, h3, h4, h5, h6⟩ := h.ex
  refine ⟨mb, h2, h4, ⟨⟨ma, h1, h3, fun k hk => ?_⟩, h.oks, h.qs, h.os⟩, fun k hk => (h6 k hk).2.1⟩
  rcases hk with hk | hk | rfl | rfl
  · exact ⟨(h6 k hk).1, (h6 k hk).2.2⟩
  · exact ⟨fun e => h5 k e hk, h4.lt k hk⟩
  · exact ⟨h3.not_foot h4.roles (by decide) (by decide) (by decide), h4.roles.lt⟩
  · exact ⟨h3.not_foot h4.tells (by decide) (by decide) (by decide), h4.tells.lt⟩
/-- Back. -/
theorem Two.back {w w' : World} {ta tb N M N' : Nat} {B : Nat → Prop} {S T S' : Tt} (h : Two w ta tb B N M S T) {mb : Mt} (h2 : mb.tb = tb) (h4 : Tr w mb T) (hB : ∀ k, B k → ¬ mb.foot k) (hO : Ow w' ta (fun k => B k ∨ mb.all k) N' S') (hK : Kp (fun k => B k ∨ mb.all k) w w') : Two w' ta tb B N' M S' T ∧ Kp B w w' := by
  obtain ⟨ma, g1, g2, g3⟩ := hO.ex
  have hT : Tr w' mb T := h4.blk fun k hk => hK.block k (.inr hk)
  refine ⟨⟨⟨ma, mb, g1, h2, g2, hT, fun k hk e => (g3 k (.inr (.inl e))).1 hk, fun k hk => ⟨(g3 k (.inl hk)).1, hB k hk, (g3 k (.inl hk)).2⟩⟩, hO.ok, h.okt, hO.q, h.qt, hO.outs, h.ot⟩, hK.mono fun k hk => .inl hk⟩
theorem TLink {w : World} {ta tb N M : Nat} {B : Nat → Prop} {S T : Tt} (h : Two w ta tb B N M S T) (hN : N ≤ 400000) (i : Int) (up : Bool) :
    Calls Try.prog 15 #[.pointer (some ⟨ta, 0, none⟩), .int .i64 i, .bool up] w fun e w' => e = .returned (.tuple #[]) ∧ Two w' ta tb B (N + 40) M (linkT S i up) T ∧ Kp B w w' := by
  obtain ⟨mb, h2, h4, hO, hB⟩ := h.first
  refine (OLink hO hN i up).mono ?_
  rintro e w' ⟨rfl, g1, g2⟩
  exact ⟨rfl, h.back h2 h4 hB g1 g2⟩
theorem TTick {w : World} {ta tb N M : Nat} {B : Nat → Prop} {S T : Tt} (h : Two w ta tb B N M S T) (hN : N ≤ 400000) :
    Calls Try.prog 17 #[.pointer (some ⟨ta, 0, none⟩)] w fun e w' => e = .returned (.tuple #[]) ∧ Two w' ta tb B (N + 40) M (tickT S) T ∧ Kp B w w' := by
  obtain ⟨mb, h2, h4, hO, hB⟩ := h.first
  refine (OTick hO hN).mono ?_
  rintro e w' ⟨rfl, g1, g2⟩
  exact ⟨rfl, h.back h2 h4 hB g1 g2⟩
theorem TReceive {w : World} {ta tb N M : Nat} {B : Nat → Prop} {S T : Tt} (h : Two w ta tb B N M S T) (hN : N ≤ 400000) (i : Int) (b : Bp) (hb : b.wf) :
    Calls Try.prog 25 #[.pointer (some ⟨ta, 0, none⟩), .int .i64 i, .agg b.row] w fun e w' => e = .returned (.tuple #[]) ∧ Two w' ta tb B (N + 40) M (recvT S i b) T ∧ Kp B w w' := by
  obtain ⟨mb, h2, h4, hO, hB⟩ := h.first
  refine (OReceive hO hN i b hb).mono ?_
  rintro e w' ⟨rfl, g1, g2⟩
  exact ⟨rfl, h.back h2 h4 hB g1 g2⟩
theorem TState {w : World} {ta tb N M : Nat} {B : Nat → Prop} {S T : Tt} (h : Two w ta tb B N M S T) (i : Int) :
    Calls Try.prog 19 #[.pointer (some ⟨ta, 0, none⟩), .int .i64 i] w fun e w' => e = .returned (.int .i64 (if 0 ≤ i ∧ i < S.ps.length then (S.at i.toNat).state else 0)) ∧ w' = w := by
  obtain ⟨mb, h2, h4, hO, hB⟩ := h.first
  exact OState hO i
theorem TRoot {w : World} {ta tb N M : Nat} {B : Nat → Prop} {S T : Tt} (h : Two w ta tb B N M S T) :
    Calls Try.prog 18 #[.pointer (some ⟨ta, 0, none⟩)] w fun e w' => e = .returned (.tuple #[.agg S.y.row, .int .i64 S.rp]) ∧ Below w.heap.size w w' := by
  obtain ⟨mb, h2, h4, hO, hB⟩ := h.first
  exact ORoot hO
theorem TOuts {w : World} {ta tb N M : Nat} {B : Nat → Prop} {S T : Tt} (h : Two w ta tb B N M S T) (hN : N ≤ 400000) :
    Calls Try.prog 21 #[.pointer (some ⟨ta, 0, none⟩)] w fun r w' => ∃ v', r = .returned v' ∧ Sl w' v' 77 17 fO S.outs ∧ Two w' ta tb (fun k => B k ∨ v'.ownBlock = some k) 0 M (tookT S) T ∧ Kp B w w' := by
  obtain ⟨mb, h2, h4, hO, hB⟩ := h.first
  refine (OOuts hO hN).mono ?_
  rintro e w' ⟨v', rfl, hS, hF, g1, g2⟩
  have hT : Tr w' mb T := h4.blk fun k hk => g2.block k (.inr hk)
  obtain ⟨ma, e1, e2, e3⟩ := g1.ex
  refine ⟨v', rfl, hS, ⟨⟨ma, mb, e1, h2, e2, hT, fun k hk e => (e3 k (.inl (.inr (.inl e)))).1 hk, fun k hk => ?_⟩, g1.ok, h.okt, g1.q, h.qt, g1.outs, h.ot⟩, g2.mono fun k hk => .inl hk⟩
  rcases hk with hk | hk
  · exact ⟨(e3 k (.inl (.inl hk))).1, hB k hk, (e3 k (.inl (.inl hk))).2⟩
  · exact ⟨(e3 k (.inr hk)).1, fun e => by have := hF k hk; have := h4.lt k e; omega, (e3 k (.inr hk)).2⟩
theorem Two.mono {w : World} {ta tb N M : Nat} {B B' : Nat → Prop} {S T : Tt} (h : Two w ta tb B N M S T) (hb : ∀ k, B' k → B k) : Two w ta tb B' N M S T := by
  obtain ⟨ma, mb, h1, h2, h3, h4, h5, h6⟩ := h.ex
  exact ⟨⟨ma, mb, h1, h2, h3, h4, h5, fun k hk => h6 k (hb k hk)⟩, h.oks, h.okt, h.qs, h.qt, h.os, h.ot⟩
theorem Two.tight {w : World} {ta tb N M N' M' : Nat} {B : Nat → Prop} {S T : Tt} (h : Two w ta tb B N M S T) (h1 : S.outs.length ≤ N') (h2 : T.outs.length ≤ M') : Two w ta tb B N' M' S T := ⟨h.ex, h.oks, h.okt, h.qs, h.qt, h1, h2⟩
theorem Two.below {w w' : World} {ta tb N M : Nat} {B : Nat → Prop} {S T : Tt} (h : Two w ta tb B N M S T) (hb : Below w.heap.size w w') : Two w' ta tb B N M S T := by
  obtain ⟨ma, mb, h1, h2, h3, h4, h5, h6⟩ := h.ex
  exact ⟨⟨ma, mb, h1, h2, h3.below hb, h4.below hb, h5, fun k hk => ⟨(h6 k hk).1, (h6 k hk).2.1, Nat.lt_of_lt_of_le (h6 k hk).2.2 hb.size⟩⟩, h.oks, h.okt, h.qs, h.qt, h.os, h.ot⟩
/-- A second one is made. -/
theorem Ow.two {w w' : World} {ta tb : Nat} {A : Nat → Prop} {N : Nat} {S T : Tt} (h : Ow w ta A N S) (hb : Below w.heap.size w w') (hO : Ow w' tb (fun k => k < w.heap.size) 0 T) : Two w' ta tb A N 0 S T := by
  obtain ⟨ma, h1, h3, h6⟩ := h.ex
  obtain ⟨mb, g1, g3, g6⟩ := hO.ex
  exact ⟨⟨ma, mb, h1, g1, h3.below hb, g3, fun k hk => (g6 k (h3.lt k hk)).1, fun k hk => ⟨(h6 k hk).1, (g6 k (h6 k hk).2).1, Nat.lt_of_lt_of_le (h6 k hk).2 hb.size⟩⟩, h.ok, hO.ok, h.q, hO.q, h.outs, hO.outs⟩
end Go.Proofs.Ytoejoneecanbbaa
