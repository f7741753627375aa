
/-
  A frame that carries a header and bytes, through other tags, too (mathematics); Retag of any tag; the front of a slice. Conditions: those that each theorem names.
-/
import Derived.Test.YtiahiakllpjliaaDoorHdEq
import Derived.Test.YtiahiakllpjliaaDoorMacU
import Derived.Test.YtiahiakllpjliaaDoorMacV
import Derived.Test.YtiahiakllpjliaaDoorFlat
import Derived.BigQuiet
namespace Go.Proofs.YtiahiakllpjliaaDoor
open Go.RowKit

/-- A frame that carries this header, and these bytes with noughts behind. -/
structure Carr (f : List Int) (h : Hd) (l : List Int) : Prop where
  good : Good f
  hd : hdOf (f.take (f.length - 4)) = h
  rest : ∃ k, restOf (f.take (f.length - 4)) = l ++ List.replicate k 0
  llc : h.llc = true → h.typ = l.length
theorem build_take (h : Hd) (r : List Int) : (buildL h r).take ((buildL h r).length - 4) = bodyL h (r ++ List.replicate (padN h r) 0) := by
  unfold buildL
  rw [sealL_take, pad_body]
theorem carr_build {h : Hd} {l : List Int} (hB : h.bytes) (hE : checkE h l.length = 0) : Carr (buildL h l) h l := by
  obtain ⟨hF, _, _, h2⟩ := fits_of_check hB hE
  obtain ⟨e1, e2⟩ := hdOf_body hF (l ++ List.replicate (padN h l) 0)
  exact ⟨(parsed_of_check hB hE).1, by rw [build_take, e1], ⟨_, by rw [build_take, e2]⟩, h2⟩
theorem carr_retag {f : List Int} {h : Hd} {l : List Int} (hb : Byte f) (hC : Carr f h l) (tg : Bool) (p : Int) (de : Bool) (v : Int) (hE : checkE (withTag h tg p de v) 0 = 0) (hn : tg = true ∨ h.typ ≠ 33024) : Carr (retagL f tg p de v) (h.retag tg p de v) l := by
  obtain ⟨hG, hH, ⟨k, hR⟩, hL⟩ := hC
  have hlen : (f.take (f.length - 4)).length = f.length - 4 := by simp
  have hleast := hG.least
  have hF := fits_of_body (hb.take (f.length - 4)) (by omega) hG.may
  rw [hH] at hF
  have hF' := fits_retag hF tg p de v hE hn
  obtain ⟨_, hG', _⟩ := parsed_retag hb hG tg p de v (by rw [hH]; exact hE) (by rw [hH]; exact hn)
  have hrb := retag_build hb hG tg p de v
  rw [hH, hR] at hrb
  obtain ⟨e1, e2⟩ := hdOf_body hF' ((l ++ List.replicate k 0) ++ List.replicate (padN (h.retag tg p de v) (l ++ List.replicate k 0)) 0)
  refine ⟨hG', by rw [hrb, build_take, e1], ⟨k + padN (h.retag tg p de v) (l ++ List.replicate k 0), ?_⟩, hL⟩
  rw [hrb, build_take, e2, List.append_assoc, List.replicate_append_replicate]
theorem carr_parsed {f : List Int} {h : Hd} {l : List Int} (hC : Carr f h l) : ∃ m, parsed f = (h, l ++ List.replicate m 0, 0) ∧ (h.llc = true → m = 0) := by
  obtain ⟨hG, hH, ⟨k, hR⟩, hL⟩ := hC
  rw [hG.is, hH, hR]
  unfold payN
  cases hl : h.llc
  · exact ⟨k, by rw [if_neg (by simp), List.take_of_length_le (by simp)], fun h => by cases h⟩
  · refine ⟨0, ?_, fun _ => rfl⟩
    rw [if_pos rfl, hL hl, Int.toNat_natCast, List.take_append_of_le_length (by omega), List.take_of_length_le (by omega)]
    simp
theorem check_with {h : Hd} (hs : ¬ h.s0 % 2 = 1) (tg : Bool) (p : Int) (de : Bool) (v : Int) : checkE (withTag h tg p de v) 0 = if tagFitsB (withTag h tg p de v) = false then 1 else 0 := by
  unfold checkE
  rw [if_neg (by omega)]
  by_cases h1 : tagFitsB (withTag h tg p de v) = false
  · rw [if_pos h1, if_pos h1]
  · rw [if_neg h1, if_neg h1, if_neg]
    simp [typeFitsB, hs]
theorem check_odd {h : Hd} {n : Int} (hE : checkE h n = 0) : ¬ h.s0 % 2 = 1 := by
  intro h1
  unfold checkE at hE
  split at hE
  · cases hE
  · split at hE
    · cases hE
    · rw [if_pos (.inl h1)] at hE; cases hE
theorem Retag_ok {v : Value} {l : List Int} {w : World} (hv : Bs w v l) (hT : Tab w) (hG : Good l) (tg : Bool) (p : Int) (de : Bool) (vid : Int) (hE : checkE (withTag (hdOf (l.take (l.length - 4))) tg p de vid) 0 = 0) (hY : tg = true ∨ (hdOf (l.take (l.length - 4))).typ ≠ 33024) :
    Calls Tryd.prog 28 #[v, .bool tg, .int .i64 p, .bool de, .int .i64 vid] w fun e w' => ∃ g n, e = .returned (.tuple #[.slice (some ⟨g, 0, none⟩) n n, .int .i64 0]) ∧ n = (retagL l tg p de vid).length ∧ Bs w' (.slice (some ⟨g, 0, none⟩) n n) (retagL l tg p de vid) ∧ Below w.heap.size w w' := by
  cases tg
  · exact Retag_okF hv hT hG p de vid hE (by rcases hY with h | h; cases h; exact h)
  · exact Retag_okT hv hT hG p de vid hE
/-- The front of what is in memory. -/
theorem Bs.front_of {w : World} {a : Option Addr} {n c : Nat} {l r : List Int} (h : Bs w (.slice a n c) (l ++ r)) : Bs w (.slice a l.length c) l ∧ n = l.length + r.length ∧ l.length ≤ c := by
  obtain ⟨h0, a', cap, e, h1, h2, h3, h4⟩ := h
  simp only [Value.slice.injEq] at e
  obtain ⟨rfl, rfl, rfl⟩ := e
  have hla : (l ++ r).length = l.length + r.length := List.length_append
  refine ⟨⟨fun z hz => h0 z (by simp [hz]), a, c, rfl, by omega, h2, h3, fun i hi => ?_⟩, hla, by omega⟩
  obtain ⟨b, off, e, hc⟩ := h4 i (by omega)
  refine ⟨b, off, e, ?_⟩
  rw [hc]
  congr 2
  simp [List.getD_eq_getElem?_getD, List.getElem?_append_left hi]
theorem slice_front (a : Option Addr) (n cap k : Nat) (hk : k ≤ cap) (w : World) :
    (Instr.slice 26 (.slice a n cap) none (some (.int .i64 k)) none).run Tryd.prog w = .ok (.slice a k cap) w := by
  have hk' : (k : Int) ≤ cap := by omega
  cases a with
  | none => simp [go_sem, Instr.slice, hk']
  | some a => obtain ⟨b, off, e⟩ := a; cases e <;> simp [go_sem, Instr.slice, hk', Addr.add]
/-- A whole row is read in a region that draws its order, and only reads. -/
theorem wpQuiet_row {P : Program} {ops : Array Oper} {Q : Act → Prop} {a : Act} {o : Oper} {rest : List Oper} {w : World} (hw : Region.wanted o (yielded ops a.tmps) = true) (ty : TypeId) (x : Operand) (ho : o.op = .load ty x) (v : Value)
    (hl : ∀ n, (Instr.loadAt ty (a.eval x)).run P (w.drewN n) = .ok v (w.drewN n)) (h : wpQuiet P ops (fun w' => ∃ n, w' = w.drewN n) Q rest (a.put o.dst v)) : wpQuiet P ops (fun w' => ∃ n, w' = w.drewN n) Q (o :: rest) a := by
  refine BigFrame.wpQuiet_want hw fun K hK => ⟨v, ?_, hK _ h⟩
  rintro _ ⟨n, rfl⟩
  unfold Oper.quietAt
  have : (execOp a.eval o).run P (w.drewN n) = .ok (.value v) (w.drewN n) := by
    unfold execOp
    simp only [ho, Sem.run_bind, hl n, Result.andThen_ok, Sem.run_pure]
  rw [this]
  exact ⟨rfl, rfl⟩
end Go.Proofs.YtiahiakllpjliaaDoor
