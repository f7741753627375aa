/-
  The acts of layer 11's statements; the table and what the statements keep beside it. Conditions: those that each theorem names.
-/
import Derived.Test.YtffbblcohgkmjaaVlan7
import Derived.Test.YtffbblcohgkmjaaOpnB
namespace Go.Proofs.Ytffbblcohgkmjaa
open Go.RowKit Go.Maps Go.Deep Go.ChangeShapes Go.WideShapes Go.ChangeAt
set_option linter.unusedVariables false
set_option maxRecDepth 20000

structure Va where
  (kind vid mem pl : Int) (p : Pv) (at' : Int)
@[reducible] def Va.zero : Va := ⟨0, 0, 0, 0, Pv.zero, 0⟩
@[reducible] def fVa (x : Va) : List Value := [.int .i64 x.kind, .int .i64 x.vid, .int .i64 x.mem, .int .i64 x.pl, .int .i64 x.p.acc, .int .i64 x.p.pvid, .int .i64 x.p.pcp, .bool x.p.flt, .int .i64 x.at']
structure Va.wf (x : Va) : Prop where
  kind : I64 x.kind
  vid : I64 x.vid
  mem : I64 x.mem
  pl : I64 x.pl
  acc : I64 x.p.acc
  pvid : I64 x.p.pvid
  pcp : I64 x.p.pcp
  at' : I64 x.at'
theorem vaLen (x : Va) : (Try.prog.info? 82).map (·.size) = some (fVa x).length := by kernel_rfl
theorem vaSize (x : Va) : (Try.prog.info? 82).map (·.size) = some (fVa x).toArray.size := by kernel_rfl
theorem va_all (x : Va) : (fVa x).toArray.all (·.oneCell') = true := by simp [Value.oneCell']
theorem cellsB_int : Try.prog.cellsOf 3 = 1 := by kernel_rfl
theorem cellsB_bool : Try.prog.cellsOf 4 = 1 := by kernel_rfl
theorem cellsB_port : Try.prog.cellsOf 44 = 4 := by kernel_rfl
theorem cellsB_va : Try.prog.cellsOf 82 = 9 := by kernel_rfl
theorem pv_of_trod {H : Type} {enc : TypeId × Value → H} {W : World} {base : Nat} {sp : Nat → Bool} {held : Bool} {fuel : Nat} {cs : List Value} {x : DataW H × List MemPlace} (hl : cs.length = 4)
    (h : DataW.trod enc Try.prog W base sp held fuel 44 cs = some x) : ∃ p : Pv, cs = fPv p ∧ I64 p.acc ∧ I64 p.pvid ∧ I64 p.pcp := by
  obtain ⟨xs, k, hk, hxy, _, hxl, hf⟩ := DataW.trod_struct Try.underlying44 h
  match xs, hxl, cs, hl with
  | [y0, y1, y2, y3], _, [v0, v1, v2, v3], _ =>
    have g0 := hf 0 _ rfl
    have g1 := hf 1 _ rfl
    have g2 := hf 2 _ rfl
    have g3 := hf 3 _ rfl
    simp [cellsB_int, cellsB_bool] at g0 g1 g2 g3
    obtain ⟨k0, e0, _, w0⟩ := DataW.trod_int Try.underlying3 g0
    obtain ⟨k1, e1, _, w1⟩ := DataW.trod_int Try.underlying3 g1
    obtain ⟨k2, e2, _, w2⟩ := DataW.trod_int Try.underlying3 g2
    obtain ⟨k3, e3, _⟩ := DataW.trod_bool Try.underlying4 g3
    simp only [List.cons.injEq, and_true] at e0 e1 e2 e3
    subst e0 e1 e2 e3
    exact ⟨⟨k0, k1, k2, k3⟩, rfl, bounds_i64 w0, bounds_i64 w1, bounds_i64 w2⟩
theorem va_of_trod {H : Type} {enc : TypeId × Value → H} {W : World} {base : Nat} {sp : Nat → Bool} {held : Bool} {fuel : Nat} {cs : List Value} {x : DataW H × List MemPlace} (hl : cs.length = 9)
    (h : DataW.trod enc Try.prog W base sp held fuel 82 cs = some x) : ∃ p : Va, cs = fVa p ∧ p.wf := by
  obtain ⟨xs, k, hk, hxy, _, hxl, hf⟩ := DataW.trod_struct Try.underlying82 h
  match xs, hxl, cs, hl with
  | [y0, y1, y2, y3, y4, y5], _, [v0, v1, v2, v3, v4, v5, v6, v7, v8], _ =>
    have g0 := hf 0 _ rfl
    have g1 := hf 1 _ rfl
    have g2 := hf 2 _ rfl
    have g3 := hf 3 _ rfl
    have g4 := hf 4 _ rfl
    have g5 := hf 5 _ rfl
    simp [cellsB_int, cellsB_port] at g0 g1 g2 g3 g4 g5
    obtain ⟨k0, e0, _, w0⟩ := DataW.trod_int Try.underlying3 g0
    obtain ⟨k1, e1, _, w1⟩ := DataW.trod_int Try.underlying3 g1
    obtain ⟨k2, e2, _, w2⟩ := DataW.trod_int Try.underlying3 g2
    obtain ⟨k3, e3, _, w3⟩ := DataW.trod_int Try.underlying3 g3
    obtain ⟨p, e4, b1, b2, b3⟩ := pv_of_trod rfl g4
    obtain ⟨k5, e5, _, w5⟩ := DataW.trod_int Try.underlying3 g5
    simp only [fPv, List.cons.injEq, and_true] at e0 e1 e2 e3 e4 e5
    obtain ⟨rfl, rfl, rfl, rfl⟩ := e4
    subst e0 e1 e2 e3 e5
    exact ⟨⟨k0, k1, k2, k3, p, k5⟩, rfl, ⟨bounds_i64 w0, bounds_i64 w1, bounds_i64 w2, bounds_i64 w3, b1, b2, b3, bounds_i64 w5⟩⟩
/-- Acts that came in. -/
def Vas (W : World) (a : Option Addr) (n : Nat) (ys : List Va) : Prop := RowsIn W a n fVa 9 Va.zero ys ∧ ∀ i, i < n → (ys.getD i Va.zero).wf
theorem vas_of_trod {H : Type} {enc : TypeId × Value → H} {W : World} {base : Nat} {held : Bool} {fuel : Nat} {a : Option Addr} {len cap : Nat} {x : DataW H × List MemPlace}
    (h : DataW.trod enc Try.prog W base (fun _ => true) held fuel 22 [.slice a len cap] = some x) : ∃ xs : List Va, Vas W a len xs ∧ len ≤ maxLen := by
  obtain ⟨ys, h1, h2, h3⟩ := rowsIn_of_trod (m := 9) Va.zero Try.underlying22 (by omega) cellsB_va (fun hl h => va_of_trod hl h) h
  exact ⟨ys, ⟨h1, h2⟩, h3⟩
theorem Vas.below {W W' : World} {a : Option Addr} {n : Nat} {ys : List Va} (h : Vas W a n ys) (hb : Below W.heap.size W W') : Vas W' a n ys := ⟨h.1.below hb (fun _ => by simp), h.2⟩
/-- The table, and the statement's own list and maps. -/
structure Vs (K0 : Nat) (W w : World) (g pb mb a s m1 m2 : Nat) (ps qs : List Pv) (f : Int → Option (Int × Int)) (c : Nat) (fm fp : Int → Option Int) (cm cp : Nat) : Prop where
  tbl : Vt w g pb mb ps f c
  len : qs.length = ps.length
  row : w.heap[a]? = some (.cells #[.slice (some ⟨s, 0, none⟩) ps.length ps.length, .map (some m1), .map (some m2)] 28 (0, 0))
  fl : Fl w s 44 fPv qs []
  mm : Mp Try.prog iT w m1 cm fm
  mp : Mp Try.prog iT w m2 cp fp
  ne : (g < K0 ∧ pb < K0 ∧ mb < K0) ∧ (K0 ≤ a ∧ K0 ≤ s ∧ K0 ≤ m1 ∧ K0 ≤ m2) ∧ a ≠ s ∧ a ≠ m1 ∧ a ≠ m2 ∧ s ≠ m1 ∧ s ≠ m2 ∧ m1 ≠ m2
  base : W.heap.size ≤ g ∧ W.heap.size ≤ pb ∧ W.heap.size ≤ mb ∧ W.heap.size ≤ K0
  below : Below W.heap.size W w
section
variable {K0 : Nat} {W w : World} {g pb mb a s m1 m2 : Nat} {ps qs : List Pv} {f : Int → Option (Int × Int)} {c : Nat} {fm fp : Int → Option Int} {cm cp : Nat}
theorem Vs.lta (h : Vs K0 W w g pb mb a s m1 m2 ps qs f c fm fp cm cp) : a < w.heap.size := (Array.getElem?_eq_some_iff.1 h.row).1
theorem Vs.a0 (h : Vs K0 W w g pb mb a s m1 m2 ps qs f c fm fp cm cp) : w.cell? ⟨a, 0, none⟩ = some (.slice (some ⟨s, 0, none⟩) ps.length ps.length) := cell_of_row _ _ _ _ _ _ h.row
theorem Vs.a1 (h : Vs K0 W w g pb mb a s m1 m2 ps qs f c fm fp cm cp) : w.cell? ⟨a, 1, none⟩ = some (.map (some m1)) := cell_of_row _ _ _ _ _ _ h.row
theorem Vs.a2 (h : Vs K0 W w g pb mb a s m1 m2 ps qs f c fm fp cm cp) : w.cell? ⟨a, 2, none⟩ = some (.map (some m2)) := cell_of_row _ _ _ _ _ _ h.row
theorem Vs.later (h : Vs K0 W w g pb mb a s m1 m2 ps qs f c fm fp cm cp) {w' : World} (hb : Below w.heap.size w w') : Vs K0 W w' g pb mb a s m1 m2 ps qs f c fm fp cm cp :=
  ⟨h.tbl.below hb, h.len, heap_kept hb h.row, h.fl.below hb, h.mm.below hb, h.mp.below hb, h.ne, h.base, h.below.trans (hb.mono h.below.size)⟩
theorem Vs.tab (h : Vs K0 W w g pb mb a s m1 m2 ps qs f c fm fp cm cp) {w' : World} {ps' : List Pv} {f' : Int → Option (Int × Int)} {c' : Nat} {S : Nat → Prop} (hC : Ch S w w') (hS : ∀ k, S k → k = pb ∨ k = mb) (hV : Vt w' g pb mb ps' f' c') (hl : ps'.length = ps.length) : Vs K0 W w' g pb mb a s m1 m2 ps' qs f' c' fm fp cm cp := by
  have hn := h.ne
  have hb := h.base
  have hk : ∀ k, k < w.heap.size → K0 ≤ k → w'.heap[k]? = w.heap[k]? := fun k hk h0 => hC.block k hk fun e => by rcases hS k e with rfl | rfl <;> omega
  exact ⟨hV, by rw [hl]; exact h.len, by rw [hk a h.lta hn.2.1.1, hl]; exact h.row, h.fl.blk (hk s h.fl.lt hn.2.1.2.1), h.mm.blk (hk m1 h.mm.lt hn.2.1.2.2.1), h.mp.blk (hk m2 h.mp.lt hn.2.1.2.2.2), hn, hb, hC.below h.below h.below.size (fun k e => by rcases hS k e with rfl | rfl <;> omega)⟩
theorem Vs.map1 (h : Vs K0 W w g pb mb a s m1 m2 ps qs f c fm fp cm cp) {w' : World} {cm' : Nat} {fm' : Int → Option Int} (hg : w.grownBy w' (some m1)) (hm : Mp Try.prog iT w' m1 cm' fm') : Vs K0 W w' g pb mb a s m1 m2 ps qs f c fm' fp cm' cp := by
  have hn := h.ne
  have hb := h.base
  have hl := h.tbl.lt
  have hk : ∀ k, k < w.heap.size → k ≠ m1 → w'.heap[k]? = w.heap[k]? := fun k hk h0 => hg.block k hk fun e => h0 (by simpa using e)
  refine ⟨h.tbl.blk fun k e => ?_, h.len, by rw [hk a h.lta (by omega)]; exact h.row, h.fl.blk (hk s h.fl.lt (by omega)), hm, h.mp.blk (hk m2 h.mp.lt (by omega)), hn, hb, h.below.grownS hg (by omega) h.below.size⟩
  rcases e with rfl | rfl | rfl
  · exact hk _ hl.1 (by omega)
  · exact hk _ hl.2.1 (by omega)
  · exact hk _ hl.2.2 (by omega)
theorem Vs.map2 (h : Vs K0 W w g pb mb a s m1 m2 ps qs f c fm fp cm cp) {w' : World} {cp' : Nat} {fp' : Int → Option Int} (hg : w.grownBy w' (some m2)) (hm : Mp Try.prog iT w' m2 cp' fp') : Vs K0 W w' g pb mb a s m1 m2 ps qs f c fm fp' cm cp' := by
  have hn := h.ne
  have hb := h.base
  have hl := h.tbl.lt
  have hk : ∀ k, k < w.heap.size → k ≠ m2 → w'.heap[k]? = w.heap[k]? := fun k hk h0 => hg.block k hk fun e => h0 (by simpa using e)
  refine ⟨h.tbl.blk fun k e => ?_, h.len, by rw [hk a h.lta (by omega)]; exact h.row, h.fl.blk (hk s h.fl.lt (by omega)), h.mm.blk (hk m1 h.mm.lt (by omega)), hm, hn, hb, h.below.grownS hg (by omega) h.below.size⟩
  rcases e with rfl | rfl | rfl
  · exact hk _ hl.1 (by omega)
  · exact hk _ hl.2.1 (by omega)
  · exact hk _ hl.2.2 (by omega)
theorem Vs.port (h : Vs K0 W w g pb mb a s m1 m2 ps qs f c fm fp cm cp) {w' : World} {qs' : List Pv} (hC : Ch (· = s) w w') (hF : Fl w' s 44 fPv qs' []) (hq : qs'.length = ps.length) : Vs K0 W w' g pb mb a s m1 m2 ps qs' f c fm fp cm cp := by
  have hn := h.ne
  have hb := h.base
  have hl := h.tbl.lt
  have hk : ∀ k, k < w.heap.size → k ≠ s → w'.heap[k]? = w.heap[k]? := fun k hk h0 => hC.block k hk h0
  refine ⟨h.tbl.blk fun k e => ?_, hq, by rw [hk a h.lta (by omega)]; exact h.row, hF, h.mm.blk (hk m1 h.mm.lt (by omega)), h.mp.blk (hk m2 h.mp.lt (by omega)), hn, hb, hC.below h.below h.below.size (fun k e => by omega)⟩
  rcases e with rfl | rfl | rfl
  · exact hk _ hl.1 (by omega)
  · exact hk _ hl.2.1 (by omega)
  · exact hk _ hl.2.2 (by omega)
end
theorem pvOne_wf (n : Nat) : ∀ p ∈ List.replicate n pvOne, I64 p.pvid := fun p hp => by
  rw [List.eq_of_mem_replicate hp]; simp [I64]
/-- What ties the table to the statement's maps. -/
structure Tie (n : Nat) (f : Int → Option (Int × Int)) (c : Nat) (fm : Int → Option Int) (cm : Nat) (fp : Int → Option Int) : Prop where
  pos : 0 < n → cm = c ∧ ∀ k, fm k = (f k).map Prod.fst ∧ fp k = (f k).map Prod.snd
  nul : n = 0 → (∀ k, f k = none) ∧ ∀ k, (fm k).getD 0 = 0 ∧ (fp k).getD 0 = 0
  rng : ∀ k q, f k = some q → 0 ≤ q.1 ∧ q.1 < 2 ^ n
section
variable {n : Nat} {f : Int → Option (Int × Int)} {c : Nat} {fm : Int → Option Int} {cm : Nat} {fp : Int → Option Int}
theorem Tie.new (n : Nat) (hn : n ≤ 16) : Tie n (newF n) (newC n) (updK (fun _ => none) 1 (some (allN n))) 1 (updK (fun _ => none) 1 (some (allN n))) := by
  refine ⟨fun h => ?_, fun h => ?_, fun k q e => ?_⟩
  · have h0 : n ≠ 0 := by omega
    unfold newF newC
    rw [if_neg h0, if_neg h0]
    refine ⟨rfl, fun k => ?_⟩
    unfold updK
    split <;> exact ⟨rfl, rfl⟩
  · subst h
    refine ⟨fun k => rfl, fun k => ?_⟩
    unfold updK
    split <;> exact ⟨rfl, rfl⟩
  · unfold newF updK at e
    have := allN_pos hn
    split at e
    · cases e
    · dsimp only at e
      split at e
      · cases e; exact ⟨this.1, this.2.2⟩
      · cases e
theorem Tie.mem (h : Tie n f c fm cm fp) (k : Int) : (fm k).getD 0 = memN f k ∧ (fp k).getD 0 = plnN f k := by
  unfold memN plnN
  rcases Nat.eq_zero_or_pos n with h0 | h0
  · rw [(h.nul h0).1 k, ((h.nul h0).2 k).1, ((h.nul h0).2 k).2]
    exact ⟨rfl, rfl⟩
  · rw [((h.pos h0).2 k).1, ((h.pos h0).2 k).2]
    cases f k <;> exact ⟨rfl, rfl⟩
theorem Tie.there (h : Tie n f c fm cm fp) (h0 : 0 < n) (k : Int) : (fm k).isSome = (f k).isSome := by
  rw [((h.pos h0).2 k).1]; cases f k <;> rfl
theorem Tie.del (h : Tie n f c fm cm fp) (v : Int) : Tie n (updK f v none) (if (f v).isSome then c - 1 else c) (updK fm v none) (if (fm v).isSome then cm - 1 else cm) (updK fp v none) := by
  refine ⟨fun h0 => ?_, fun h0 => ?_, fun k q e => ?_⟩
  · rw [h.there h0, (h.pos h0).1]
    refine ⟨rfl, fun k => ?_⟩
    unfold updK
    split
    · exact ⟨rfl, rfl⟩
    · exact (h.pos h0).2 k
  · refine ⟨fun k => ?_, fun k => ?_⟩
    · unfold updK; split
      · rfl
      · exact (h.nul h0).1 k
    · unfold updK; split
      · exact ⟨rfl, rfl⟩
      · exact (h.nul h0).2 k
  · unfold updK at e
    split at e
    · cases e
    · exact h.rng k q e
theorem Tie.put (h : Tie n f c fm cm fp) (h0 : 0 < n) (v m p : Int) (hm : 0 ≤ m ∧ m < 2 ^ n) : Tie n (updK f v (some (m, p))) (if (f v).isSome then c else c + 1) (updK fm v (some m)) (if (fm v).isSome then cm else cm + 1) (updK fp v (some p)) := by
  refine ⟨fun h0 => ?_, fun h1 => by omega, fun k q e => ?_⟩
  · rw [h.there h0, (h.pos h0).1]
    refine ⟨rfl, fun k => ?_⟩
    unfold updK
    split
    · exact ⟨rfl, rfl⟩
    · exact (h.pos h0).2 k
  · unfold updK at e
    split at e
    · cases e; exact hm
    · exact h.rng k q e
end
theorem Set_all {w : World} {g pb mb c : Nat} {ps : List Pv} {f : Int → Option (Int × Int)} (h : Vt w g pb mb ps f c) (v m p : Int) (hc : c ≤ 900) :
    Calls Try.prog 20 #[.pointer (some ⟨g, 0, none⟩), .int .i64 v, .int .i64 m, .int .i64 p] w fun r w' => ∃ e f' c', r = .returned (.int .i64 e) ∧ Vt w' g pb mb ps f' c' ∧ Ch (· = mb) w w' ∧
      ((setB ps.length v m p = false ∧ e = 1 ∧ f' = f ∧ c' = c) ∨ (setB ps.length v m p = true ∧ m = 0 ∧ e = 0 ∧ f' = updK f v none ∧ c' = if (f v).isSome then c - 1 else c) ∨
       (setB ps.length v m p = true ∧ m ≠ 0 ∧ (f v).isSome = false ∧ 64 ≤ c ∧ e = 20 ∧ f' = f ∧ c' = c) ∨ (setB ps.length v m p = true ∧ m ≠ 0 ∧ ((f v).isSome = true ∨ c < 64) ∧ e = 0 ∧ f' = updK f v (some (m, p)) ∧ c' = if (f v).isSome then c else c + 1)) := by
  cases hE : setB ps.length v m p
  · refine (Set_bad h v m p hE).mono ?_
    rintro r w' ⟨rfl, rfl⟩
    exact ⟨_, _, _, rfl, h, Ch.refl _ _, .inl ⟨rfl, rfl, rfl, rfl⟩⟩
  · by_cases h0 : m = 0
    · subst h0
      refine (Set_del h v p hE).mono ?_
      rintro r w' ⟨rfl, h1, h2⟩
      exact ⟨_, _, _, rfl, h1, h2, .inr (.inl ⟨rfl, rfl, rfl, rfl, rfl⟩)⟩
    · by_cases hf : (f v).isSome = false ∧ 64 ≤ c
      · refine (Set_full h v m p hE h0 hf.1 hf.2 (by omega)).mono ?_
        rintro r w' ⟨rfl, h1⟩
        exact ⟨_, _, _, rfl, h.below h1, Ch.of_below h1, .inr (.inr (.inl ⟨rfl, h0, hf.1, hf.2, rfl, rfl, rfl⟩))⟩
      · have hf' : (f v).isSome = true ∨ c < 64 := by
          cases h1 : (f v).isSome
          · right
            rcases Nat.lt_or_ge c 64 with h2 | h2
            · exact h2
            · exact absurd ⟨h1, h2⟩ hf
          · exact .inl rfl
        refine (Set_ok h v m p hE h0 hf' (by omega)).mono ?_
        rintro r w' ⟨rfl, h1, h2⟩
        exact ⟨_, _, _, rfl, h1, h2, .inr (.inr (.inr ⟨rfl, h0, hf', rfl, rfl, rfl⟩))⟩
theorem SetPort_all {w : World} {g pb mb c : Nat} {ps : List Pv} {f : Int → Option (Int × Int)} (h : Vt w g pb mb ps f c) (i : Int) (p : Pv) :
    Calls Try.prog 30 #[.pointer (some ⟨g, 0, none⟩), .int .i64 i, .agg (fPv p).toArray] w fun r w' => ∃ e ps', r = .returned (.int .i64 e) ∧ Vt w' g pb mb ps' f c ∧ Ch (· = pb) w w' ∧
      ((spE ps.length i p = false ∧ e = 1 ∧ ps' = ps) ∨ (spE ps.length i p = true ∧ e = 0 ∧ ps' = ps.set i.toNat p)) := by
  cases hE : spE ps.length i p
  · refine (SetPort_no h i p hE).mono ?_
    rintro r w' ⟨rfl, h1⟩
    exact ⟨_, _, rfl, h.below h1, Ch.of_below h1, .inl ⟨rfl, rfl, rfl⟩⟩
  · refine (SetPort_yes h i p hE).mono ?_
    rintro r w' ⟨rfl, h1, h2⟩
    exact ⟨_, _, rfl, h1, h2, .inr ⟨rfl, rfl, rfl⟩⟩
theorem step_mapUpdate {P : Program} {ops : Array Oper} {o : Oper} {a : Act} {w w' : World} {K : Act → World → Prop} {Q : Exit → Act → World → Prop} {E : Prop} (hw : Region.wanted o (yielded ops a.tmps) = true) (t : TypeId) (m k x : Operand) (ho : o.op = .mapUpdate t m k x) (mv kv xv : Value)
    (hm : a.eval m = mv) (hk : a.eval k = kv) (hx : a.eval x = xv) (hrun : (Instr.mapUpdate t mv kv xv).run P w = .ok () w')
    (h : K (a.put o.dst undef) w') : if Region.wanted o (yielded ops a.tmps) = true then Oper.wp P o a w K Q else E := by
  rw [if_pos hw]
  unfold Oper.wp
  simp only [execOp, ho, hm, hk, hx, Sem.run_bind, Sem.run_pure, Result.andThen_ok, hrun]
  exact h
theorem results_tct {fn : Func} {t p u : Tmp} {ty : TypeId} (h : fn.results = #[.tmp t, .cell p ty, .tmp u]) {P : Program} (tmps : Array Value) (w : World) (g : Nat) (cs : Array Value)
    (hp : tmps.getD p undef = .pointer (some ⟨g, 0, none⟩)) (hl : (loadVar ty ⟨g, 0, none⟩).run P w = .ok (.agg cs) w) :
    (results fn tmps).run P w = .ok (.tuple #[tmps.getD t undef, .agg cs, tmps.getD u undef]) w := by
  have hp' : tmps[p]?.getD undef = .pointer (some ⟨g, 0, none⟩) := by simpa using hp
  simp [results, h, hp', asAddr, hl]
theorem Vs.other {K0 : Nat} {W w : World} {g pb mb a s m1 m2 : Nat} {ps qs : List Pv} {f : Int → Option (Int × Int)} {c : Nat} {fm fp : Int → Option Int} {cm cp : Nat} (h : Vs K0 W w g pb mb a s m1 m2 ps qs f c fm fp cm cp) {w' : World} {x : Nat} (hC : Ch (· = x) w w') (h1 : W.heap.size ≤ x) (hx : x < g ∧ x < pb ∧ x < mb ∧ x < K0) : Vs K0 W w' g pb mb a s m1 m2 ps qs f c fm fp cm cp := by
  have hn := h.ne
  have hb := h.base
  have hl := h.tbl.lt
  have hk : ∀ k, k < w.heap.size → x < k → w'.heap[k]? = w.heap[k]? := fun k hk h0 => hC.block k hk fun e => by omega
  refine ⟨h.tbl.blk fun k e => ?_, h.len, by rw [hk a h.lta (by omega)]; exact h.row, h.fl.blk (hk s h.fl.lt (by omega)), h.mm.blk (hk m1 h.mm.lt (by omega)), h.mp.blk (hk m2 h.mp.lt (by omega)), hn, hb, hC.below h.below h.below.size (fun k e => by omega)⟩
  rcases e with rfl | rfl | rfl
  · exact hk _ hl.1 (by omega)
  · exact hk _ hl.2.1 (by omega)
  · exact hk _ hl.2.2 (by omega)
theorem setB_iff {n : Nat} (hn : n ≤ 16) (v m p : Int) (hm : I64 m) (hp : I64 p) : setB n v m p = true ↔ (1 ≤ v ∧ v ≤ 4094) ∧ (0 ≤ m ∧ m < 2 ^ n) ∧ 0 ≤ p ∧ bits .and .i64 p m = p := by
  unfold setB vidB allN
  simp only [Bool.and_eq_true, decide_eq_true_eq, beq_iff_eq]
  rw [sub_all hn m hm]
  constructor
  · rintro ⟨⟨h1, h2⟩, h3⟩
    exact ⟨h1, h2, (sub_of hn p m hp h2.1 h2.2).1 h3⟩
  · rintro ⟨h1, h2, h3⟩
    exact ⟨⟨h1, h2⟩, (sub_of hn p m hp h2.1 h2.2).2 h3⟩
theorem spE_iff {n : Nat} (i : Int) (p : Pv) : spE n i p = true ↔ (0 ≤ i ∧ i < n) ∧ (0 ≤ p.acc ∧ p.acc ≤ 2) ∧ (1 ≤ p.pvid ∧ p.pvid ≤ 4094) ∧ 0 ≤ p.pcp ∧ p.pcp ≤ 7 := by
  unfold spE hasP mayB vidB
  simp only [Bool.and_eq_true, decide_eq_true_eq]
  constructor
  · rintro ⟨h1, ⟨⟨⟨h2, h3⟩, h4⟩, h5⟩, h6⟩
    exact ⟨h1, ⟨h2, h3⟩, h4, h5, h6⟩
  · rintro ⟨h1, ⟨h2, h3⟩, h4, h5, h6⟩
    exact ⟨h1, ⟨⟨⟨h2, h3⟩, h4⟩, h5⟩, h6⟩
theorem mdSize (s n m1 m2 : Nat) : (Try.prog.info? 28).map (·.size) = some (#[Value.slice (some ⟨s, 0, none⟩) n n, .map (some m1), .map (some m2)] : Array Value).size := by kernel_rfl
theorem Vs.start {W w2 wc : World} {g pb mb n a s m1 m2 : Nat} (hn : n ≤ 16) (hV : Vt w2 g pb mb (List.replicate n pvOne) (newF n) (newC n)) (hb : Below W.heap.size W w2) (hl : W.heap.size ≤ g ∧ W.heap.size ≤ pb ∧ W.heap.size ≤ mb)
    (h : Ini w2 wc n (allN n) (some s) (some m1) (some m2) (some a) true true) :
    Vs w2.heap.size W (wc.setRow a #[.slice (some ⟨s, 0, none⟩) n n, .map (some m1), .map (some m2)]) g pb mb a s m1 m2 (List.replicate n pvOne) (List.replicate n Pv.zero) (newF n) (newC n) (updK (fun _ => none) 1 (some (allN n))) (updK (fun _ => none) 1 (some (allN n))) 1 1 := by
  obtain ⟨hs0, hs⟩ := h.hs s rfl
  obtain ⟨h10, h1⟩ := h.h1 m1 rfl
  obtain ⟨h20, h2⟩ := h.h2 m2 rfl
  obtain ⟨ha0, ha⟩ := h.ha a rfl
  have hne := h.ne m1 m2 rfl rfl
  have hlt := hV.lt
  have has : a ≠ s := by
    rintro rfl
    have h0 : wc.heap[a]? = some (.cells _ 44 (0, 0)) := hs
    rw [ha] at h0
    simp at h0
  have hmp : ∀ {b : Nat} {cc : Nat} {ff : Int → Option Int}, Mp Try.prog iT wc b cc ff → a ≠ b := by
    rintro b cc ff hM rfl
    obtain ⟨D, ⟨es, cl, hb, _⟩, _⟩ := hM
    rw [ha] at hb
    cases hb
  have ha1 := hmp h1
  have ha2 := hmp h2
  have hs1 := hs.cells_ne h1
  have hs2 := hs.cells_ne h2
  refine ⟨(hV.below h.below).blk fun k e => Go.setRow_other wc a k _ ?_, by simp, ?_, hs.blk (Go.setRow_other wc a s _ (by omega)), h1.blk (Go.setRow_other wc a m1 _ (by omega)), h2.blk (Go.setRow_other wc a m2 _ (by omega)), ⟨⟨hlt.1, hlt.2.1, hlt.2.2⟩, ⟨ha0, hs0, h10, h20⟩, has, ha1, ha2, hs1, hs2, hne⟩, ⟨hl.1, hl.2.1, hl.2.2, hb.size⟩, ?_⟩
  · rcases e with rfl | rfl | rfl <;> omega
  · rw [List.length_replicate]
    exact setRow_heap _ _ _ _ _ _ ha
  · have h3 : Below w2.heap.size w2 (wc.setRow a #[.slice (some ⟨s, 0, none⟩) n n, .map (some m1), .map (some m2)]) := below_setRow h.below ha0 _
    exact hb.trans (h3.mono hb.size)
/-- All that is kept between two acts. -/
def Ks (K0 : Nat) (W w : World) (g pb mb a s m1 m2 n j : Nat) : Prop := ∃ ps f c fm fp cm cp, Vs K0 W w g pb mb a s m1 m2 ps ps f c fm fp cm cp ∧ Tie n f c fm cm fp ∧ ps.length = n ∧ (cm ≤ j + 1 ∧ cp ≤ j + 1 ∧ c ≤ j + 1) ∧ ∀ p ∈ ps, I64 p.pvid
theorem tests19 {n : Nat} (hn : n ≤ 16) (v m p : Int) (hm : I64 m) (hp : I64 p) : (((((decide (v < 1) || decide (4094 < v)) || decide (m < 0)) || decide ((2 : Int) ^ n ≤ m)) || decide (p < 0)) || (bits .and .i64 p m != p)) = !setB n v m p := by
  have h := setB_iff hn v m p hm hp
  cases hE : setB n v m p
  · rw [hE] at h
    simp only [Bool.not_false]
    by_cases h1 : v < 1
    · simp [h1]
    by_cases h2 : 4094 < v
    · simp [h2]
    by_cases h3 : m < 0
    · simp [h3]
    by_cases h4 : (2 : Int) ^ n ≤ m
    · simp [h4]
    by_cases h5 : p < 0
    · simp [h5]
    have h6 : bits .and .i64 p m ≠ p := fun e => by
      have := h.2 ⟨⟨by omega, by omega⟩, ⟨by omega, by omega⟩, by omega, e⟩
      cases this
    simp [h6]
  · obtain ⟨⟨h1, h2⟩, ⟨h3, h4⟩, h5, h6⟩ := h.1 hE
    rw [decide_eq_false (show ¬ v < 1 by omega), decide_eq_false (show ¬ 4094 < v by omega), decide_eq_false (show ¬ m < 0 by omega), decide_eq_false (show ¬ (2 : Int) ^ n ≤ m by omega), decide_eq_false (show ¬ p < 0 by omega), h6]
    simp
/-- What 'of' comes to. -/
def OfIs (w : World) (m : Int) (b : Option Addr) (L cap : Nat) : Prop :=
  Calls Try.prog 13 #[.int .i64 m, .slice b L cap] w fun r w' => ∃ K0 g pb mb a s m1 m2, r = .returned (.tuple #[.pointer (some ⟨g, 0, none⟩), .agg #[.slice (some ⟨s, 0, none⟩) (portsN m) (portsN m), .map (some m1), .map (some m2)], .bool true]) ∧ Ks K0 w w' g pb mb a s m1 m2 (portsN m) L
end Go.Proofs.Ytffbblcohgkmjaa
