
/-
  A tree of the program's own, apart from what is kept ('Ow'), and tree's calls in these words. Conditions: those that each theorem names.
-/
import Derived.Test.YtoejoneecanbbaaTree22
namespace Go.Proofs.Ytoejoneecanbbaa
open Go.RowKit
set_option linter.unusedVariables false
set_option maxRecDepth 20000

/-- From world to world: what is kept stays. -/
structure Kp (A : Nat → Prop) (w w' : World) : Prop where
  os : w'.os = w.os
  tape : w'.tape = w.tape
  output : w'.output = w.output
  size : w.heap.size ≤ w'.heap.size
  block : ∀ k, A k → w'.heap[k]? = w.heap[k]?
theorem Kp.refl (A : Nat → Prop) (w : World) : Kp A w w := ⟨rfl, rfl, rfl, Nat.le_refl _, fun _ _ => rfl⟩
theorem Kp.trans {A : Nat → Prop} {w w1 w2 : World} (h : Kp A w w1) (g : Kp A w1 w2) : Kp A w w2 := ⟨g.os.trans h.os, g.tape.trans h.tape, g.output.trans h.output, Nat.le_trans h.size g.size, fun k hk => (g.block k hk).trans (h.block k hk)⟩
theorem Kp.mono {A A' : Nat → Prop} {w w' : World} (h : Kp A w w') (ha : ∀ k, A' k → A k) : Kp A' w w' := ⟨h.os, h.tape, h.output, h.size, fun k hk => h.block k (ha k hk)⟩
theorem Kp.of_below {A : Nat → Prop} {w w' : World} (h : Below w.heap.size w w') (ha : ∀ k, A k → k < w.heap.size) : Kp A w w' := ⟨h.os, h.tape, h.output, h.size, fun k hk => h.block k (ha k hk)⟩
theorem Kp.below {A : Nat → Prop} {B : Nat} {W w w' : World} (h : Kp A w w') (hb : Below B W w) (ha : ∀ k, k < B → A k) : Below B W w' := hb.trans ⟨h.os, h.tape, h.output, h.size, fun k hk => h.block k (ha k hk)⟩
/-- A tree of the program's own; what is in A lies apart from it. -/
structure Ow (w : World) (tb : Nat) (A : Nat → Prop) (N : Nat) (T : Tt) : Prop where
  ex : ∃ m, m.tb = tb ∧ Tr w m T ∧ ∀ k, A k → ¬ m.foot k ∧ k < w.heap.size
  ok : T.ok
  q : 0 ≤ T.quiet ∧ T.quiet ≤ 2
  outs : T.outs.length ≤ N
theorem Ow.few {w : World} {tb N : Nat} {A : Nat → Prop} {T : Tt} (h : Ow w tb A N T) : T.ps.length ≤ 16 := by
  obtain ⟨m, _, h1, _⟩ := h.ex
  exact h1.few
theorem Ow.mono {w : World} {tb N : Nat} {A A' : Nat → Prop} {T : Tt} (h : Ow w tb A N T) (ha : ∀ k, A' k → A k) : Ow w tb A' N T := by
  obtain ⟨m, h0, h1, h2⟩ := h.ex
  exact ⟨⟨m, h0, h1, fun k hk => h2 k (ha k hk)⟩, h.ok, h.q, h.outs⟩
theorem Ow.le {w : World} {tb N N' : Nat} {A : Nat → Prop} {T : Tt} (h : Ow w tb A N T) (hn : N ≤ N') : Ow w tb A N' T := ⟨h.ex, h.ok, h.q, Nat.le_trans h.outs hn⟩
theorem Ow.below {w w' : World} {tb N : Nat} {A : Nat → Prop} {T : Tt} (h : Ow w tb A N T) (hb : Below w.heap.size w w') : Ow w' tb A N T := by
  obtain ⟨m, h0, h1, h2⟩ := h.ex
  exact ⟨⟨m, h0, h1.below hb, fun k hk => ⟨(h2 k hk).1, Nat.lt_of_lt_of_le (h2 k hk).2 hb.size⟩⟩, h.ok, h.q, h.outs⟩
/-- What is new lies apart, too. -/
theorem Ow.fresh {w w' : World} {tb N : Nat} {A : Nat → Prop} {T : Tt} (h : Ow w tb A N T) (hb : Below w.heap.size w w') (A' : Nat → Prop) (hA : ∀ k, A' k → A k ∨ (w.heap.size ≤ k ∧ k < w'.heap.size)) : Ow w' tb A' N T := by
  obtain ⟨m, h0, h1, h2⟩ := h.ex
  refine ⟨⟨m, h0, h1.below hb, fun k hk => ?_⟩, h.ok, h.q, h.outs⟩
  rcases hA k hk with h3 | ⟨h3, h4⟩
  · exact ⟨(h2 k h3).1, Nat.lt_of_lt_of_le (h2 k h3).2 hb.size⟩
  · exact ⟨fun e => by have := h1.lt k e; omega, h4⟩
theorem Ow.lt {w : World} {tb N : Nat} {A : Nat → Prop} {T : Tt} (h : Ow w tb A N T) : ∀ k, A k → k < w.heap.size := fun k hk => by
  obtain ⟨m, h0, h1, h2⟩ := h.ex
  exact (h2 k hk).2
theorem Goes.kp {m m' : Mt} {w w' : World} {A : Nat → Prop} (h : Goes m w m' w') (ha : ∀ k, A k → ¬ m.foot k ∧ k < w.heap.size) : Kp A w w' ∧ ∀ k, A k → ¬ m'.foot k ∧ k < w'.heap.size := by
  refine ⟨⟨h.os, h.tape, h.output, h.size, fun k hk => h.block k (ha k hk).2 (ha k hk).1⟩, fun k hk => ⟨fun e => ?_, Nat.lt_of_lt_of_le (ha k hk).2 h.size⟩⟩
  rcases h.foot k e with h1 | h1
  · exact (ha k hk).1 h1
  · have := (ha k hk).2; omega
theorem linkT_facts {T : Tt} (h : T.ok) (i : Int) (up : Bool) : (linkT T i up).ok ∧ (linkT T i up).quiet = T.quiet ∧ (linkT T i up).outs.length ≤ T.outs.length + T.ps.length ∧ (linkT T i up).ps.length = T.ps.length := by
  unfold linkT
  split
  · have hp1 := at_ok h i.toNat
    have hup : (setUp (T.at i.toNat) up).ok := ⟨⟨hp1.b.id, hp1.b.cost, hp1.b.told⟩, hp1.age, hp1.left, hp1.wait, hp1.change, hp1.role, hp1.state⟩
    have h1 := renewT_outs (forgetT (setP T i.toNat (dropP (setUp (T.at i.toNat) up))) i.toNat) true
    rw [forgetT_len, setP_len] at h1
    exact ⟨renewT_ok (forgetT_ok (setP_ok h _ _ (dropP_ok hup)) _) true, h1.2, h1.1, by rw [renewT_len, forgetT_len, setP_len]⟩
  · exact ⟨h, rfl, by omega, rfl⟩
theorem goneT_facts {T : Tt} (h : T.ok) : (goneT T).ok ∧ (goneT T).quiet = T.quiet ∧ (goneT T).outs.length ≤ T.outs.length + T.ps.length ∧ (goneT T).ps.length = T.ps.length := by
  have h1 := seenT_outs T
  have h2 := same_cntTo (seenT T) T.ps.length
  refine ⟨cntTo_ok (seenT_ok h) _ (by rw [seenT_len]; exact Nat.le_refl _), h2.quiet.trans h1.2, ?_, by unfold goneT; rw [cntTo_len, seenT_len]⟩
  show (cntTo (seenT T) T.ps.length).outs.length ≤ _
  rw [h2.outs]; exact h1.1
theorem tickT_facts {T : Tt} (h : T.ok) (hq : 0 ≤ T.quiet ∧ T.quiet ≤ 2) : (tickT T).ok ∧ (0 ≤ (tickT T).quiet ∧ (tickT T).quiet ≤ 2) ∧ (tickT T).outs.length ≤ T.outs.length + 2 * T.ps.length ∧ (tickT T).ps.length = T.ps.length := by
  obtain ⟨g1, g2, g3, g4⟩ := goneT_facts h
  unfold tickT
  split
  · have h1 := (allTo_ps (goneT T) (goneT T).ps.length).2
    refine ⟨setQ_ok (allTo_ok g1 _) _, by simp [setQ], ?_, by show (allT (goneT T)).ps.length = _; rw [allT_len]; exact g4⟩
    show (allTo (goneT T) (goneT T).ps.length).outs.length ≤ _
    omega
  · rename_i hne
    refine ⟨setQ_ok g1 _, ?_, by show (goneT T).outs.length ≤ _; omega, g4⟩
    show 0 ≤ (goneT T).quiet - 1 ∧ (goneT T).quiet - 1 ≤ 2
    rw [g2] at hne ⊢
    omega
theorem spread_quiet (T : Tt) (fr : Int) : (spreadT T fr).quiet = T.quiet := (same_spreadTo T fr _).quiet
theorem tellT_quiet (T : Tt) (i : Nat) (ag : Bool) : (tellT T i ag).quiet = T.quiet := (tellT_ps T i ag).2.2.2.2.2.2.1
theorem propT_quiet (T : Tt) (i : Nat) : (propT T i).quiet = T.quiet := by
  unfold propT
  repeat' split
  · exact tellT_quiet _ _ _
  · show (allTo _ _).quiet = _
    rw [allTo_quiet, tellT_quiet]
    exact (same_holdTo T i _).quiet
  · rfl
theorem midR_quiet (U : Tt) (i : Nat) (b : Bp) : (midR U i b).quiet = U.quiet := by
  unfold midR
  repeat' split
  · exact (same_hear _ _).quiet
  · unfold ansT
    split
    · rw [tellT_quiet, (same_forward _ _).quiet]; rfl
    · rfl
  · have h1 : (toldT U i b).quiet = U.quiet := by
      unfold toldT gotT
      repeat' split
      · rw [propT_quiet, (renewT_outs _ _).2]; rfl
      · rw [(renewT_outs _ _).2]; rfl
      · rfl
    unfold rootHT
    split
    · rw [tellT_quiet]; exact h1
    · exact h1
theorem recvT_quiet (T : Tt) (i : Int) (b : Bp) : (recvT T i b).quiet = T.quiet := by
  unfold recvT heardT
  repeat' split
  · rw [(same_hear _ _).quiet, midR_quiet]; rfl
  · rw [midR_quiet]; rfl
  · rfl
theorem OLink {w : World} {tb N : Nat} {A : Nat → Prop} {T : Tt} (h : Ow w tb A N T) (hN : N ≤ 400000) (i : Int) (up : Bool) :
    Calls Try.prog 15 #[.pointer (some ⟨tb, 0, none⟩), .int .i64 i, .bool up] w fun e w' => e = .returned (.tuple #[]) ∧ Ow w' tb A (N + 40) (linkT T i up) ∧ Kp A w w' := by
  obtain ⟨m, rfl, h1, h2⟩ := h.ex
  have ho := h.outs
  have hf := h1.few
  obtain ⟨g1, g2, g3, g4⟩ := linkT_facts h.ok i up
  refine (Link_any h1 h.ok (by omega) i up).mono ?_
  rintro e w' ⟨rfl, m', hT, hG⟩
  obtain ⟨k1, k2⟩ := hG.kp h2
  exact ⟨rfl, ⟨⟨m', hG.tb, hT, k2⟩, g1, by rw [g2]; exact h.q, by omega⟩, k1⟩
theorem OTick {w : World} {tb N : Nat} {A : Nat → Prop} {T : Tt} (h : Ow w tb A N T) (hN : N ≤ 400000) :
    Calls Try.prog 17 #[.pointer (some ⟨tb, 0, none⟩)] w fun e w' => e = .returned (.tuple #[]) ∧ Ow w' tb A (N + 40) (tickT T) ∧ Kp A w w' := by
  obtain ⟨m, rfl, h1, h2⟩ := h.ex
  have ho := h.outs
  have hf := h1.few
  obtain ⟨g1, g2, g3, g4⟩ := tickT_facts h.ok h.q
  refine (Tick_any h1 h.ok (by omega) h.q).mono ?_
  rintro e w' ⟨rfl, m', hT, hG⟩
  obtain ⟨k1, k2⟩ := hG.kp h2
  exact ⟨rfl, ⟨⟨m', hG.tb, hT, k2⟩, g1, g2, by omega⟩, k1⟩
theorem OReceive {w : World} {tb N : Nat} {A : Nat → Prop} {T : Tt} (h : Ow w tb A N T) (hN : N ≤ 400000) (i : Int) (b : Bp) (hb : b.wf) :
    Calls Try.prog 25 #[.pointer (some ⟨tb, 0, none⟩), .int .i64 i, .agg b.row] w fun e w' => e = .returned (.tuple #[]) ∧ Ow w' tb A (N + 40) (recvT T i b) ∧ Kp A w w' := by
  obtain ⟨m, rfl, h1, h2⟩ := h.ex
  have ho := h.outs
  have hf := h1.few
  have g3 := recvT_outs T i b
  refine (Receive_any h1 h.ok (by omega) i b hb).mono ?_
  rintro e w' ⟨rfl, m', hT, hG⟩
  obtain ⟨k1, k2⟩ := hG.kp h2
  exact ⟨rfl, ⟨⟨m', hG.tb, hT, k2⟩, recvT_ok h.ok i hb, by rw [recvT_quiet]; exact h.q, by omega⟩, k1⟩
theorem OState {w : World} {tb N : Nat} {A : Nat → Prop} {T : Tt} (h : Ow w tb A N T) (i : Int) :
    Calls Try.prog 19 #[.pointer (some ⟨tb, 0, none⟩), .int .i64 i] w fun e w' => e = .returned (.int .i64 (if 0 ≤ i ∧ i < T.ps.length then (T.at i.toNat).state else 0)) ∧ w' = w := by
  obtain ⟨m, rfl, h1, h2⟩ := h.ex
  exact State_any h1 i
theorem ORoot {w : World} {tb N : Nat} {A : Nat → Prop} {T : Tt} (h : Ow w tb A N T) :
    Calls Try.prog 18 #[.pointer (some ⟨tb, 0, none⟩)] w fun e w' => e = .returned (.tuple #[.agg T.y.row, .int .i64 T.rp]) ∧ Below w.heap.size w w' := by
  obtain ⟨m, rfl, h1, h2⟩ := h.ex
  exact Root_any h1
theorem OPorts {w : World} {tb N : Nat} {A : Nat → Prop} {T : Tt} (h : Ow w tb A N T) :
    Calls Try.prog 20 #[.pointer (some ⟨tb, 0, none⟩)] w fun r w' => ∃ v', r = .returned v' ∧ Sl w' v' 34 16 fT T.ps ∧ Below w.heap.size w w' ∧ Fresh w.heap.size v' := by
  obtain ⟨m, rfl, h1, h2⟩ := h.ex
  exact Ports_any h1
theorem OOuts {w : World} {tb N : Nat} {A : Nat → Prop} {T : Tt} (h : Ow w tb A N T) (hN : N ≤ 400000) :
    Calls Try.prog 21 #[.pointer (some ⟨tb, 0, none⟩)] w fun r w' => ∃ v', r = .returned v' ∧ Sl w' v' 77 17 fO T.outs ∧ Fresh w.heap.size v' ∧ Ow w' tb (fun k => A k ∨ v'.ownBlock = some k) 0 (tookT T) ∧ Kp A w w' := by
  obtain ⟨m, rfl, h1, h2⟩ := h.ex
  have ho := h.outs
  refine (Outs_any h1 (by omega)).mono ?_
  rintro e w' ⟨v', rfl, hS, hF, m', hT, hG, hft⟩
  obtain ⟨k1, k2⟩ := hG.kp h2
  refine ⟨v', rfl, hS, hF, ⟨⟨m', hG.tb, hT, fun k hk => ?_⟩, tookT_ok h.ok, h.q, Nat.le_refl _⟩, k1⟩
  rcases hk with hk | hk
  · exact k2 k hk
  · exact ⟨fun e => by have e1 := h1.lt k (hft k e); have e2 := hF k hk; omega, hS.lt hk⟩
theorem OFlushes {w : World} {tb N : Nat} {A : Nat → Prop} {T : Tt} (h : Ow w tb A N T) :
    Calls Try.prog 22 #[.pointer (some ⟨tb, 0, none⟩)] w fun r w' => ∃ v', r = .returned v' ∧ Sl w' v' 3 1 fI (flL T.fg 16) ∧ Fresh w.heap.size v' ∧ Ow w' tb A N (clrT T) ∧ Kp A w w' := by
  obtain ⟨m, rfl, h1, h2⟩ := h.ex
  refine (Flushes_any h1).mono ?_
  rintro e w' ⟨v', rfl, hS, hF, hT, hG⟩
  obtain ⟨k1, k2⟩ := hG.kp h2
  exact ⟨v', rfl, hS, hF, ⟨⟨m, rfl, hT, k2⟩, clrT_ok h.ok, h.q, h.outs⟩, k1⟩
theorem ONew (id : Int) (a : Option Addr) (n cap : Nat) (ps : List Tp) (w : World) (A : Nat → Prop) (hA : ∀ k, A k → k < w.heap.size) (hid : U64 id) (hn : n ≤ 16) (hc : n ≤ cap) (hc0 : a = none → cap = 0) (hI : Hid (Tps w a n ps)) :
    Calls Try.prog 6 #[.int .u64 id, .slice a n cap] w fun r w' => ∃ tb, r = .returned (.pointer (some ⟨tb, 0, none⟩)) ∧ Ow w' tb A 0 (newT id ps) ∧ Below w.heap.size w w' := by
  refine (New_any id a n cap ps w hid hn hc hc0 hI).mono ?_
  rintro e w' ⟨m, rfl, hT, hB, hf⟩
  have hwf : ∀ i, i < ps.length → (ps.getD i Tp.zero).b.wf := fun i hi => by
    rw [hI.out.1] at hi
    obtain ⟨_, _, _, _, h⟩ := hI.out.2 i hi
    exact h
  exact ⟨m.tb, rfl, ⟨⟨m, rfl, hT, fun k hk => ⟨fun e => by have := hf k e; have := hA k hk; omega, Nat.lt_of_lt_of_le (hA k hk) hB.size⟩⟩, newT_ok hid hwf, by simp [newT, selT, preT], by simp [newT, selT, preT]⟩, hB⟩
/-- A row of ports of the program's own, as New takes it. -/
theorem Sl.tps {w : World} {v : Value} {l : List Tp} (h : Sl w v 34 16 fT l) (hw : ∀ i, i < l.length → (l.getD i Tp.zero).b.wf) : ∃ a cap, v = .slice a l.length cap ∧ l.length ≤ cap ∧ (a = none → cap = 0) ∧ Tps w a l.length l := by
  rcases h with ⟨rfl, rfl⟩ | ⟨b, cap, sp, rfl, h1, h2, h3, h4⟩
  · exact ⟨none, 0, rfl, Nat.le_refl _, fun _ => rfl, rfl, fun i hi => by simp at hi⟩
  · refine ⟨_, cap, rfl, h2, fun e => by simp at e, rfl, fun i hi => ⟨b, 0, rfl, ?_, hw i hi⟩⟩
    rw [Nat.zero_add]
    exact h1.tp i hi
end Go.Proofs.Ytoejoneecanbbaa
