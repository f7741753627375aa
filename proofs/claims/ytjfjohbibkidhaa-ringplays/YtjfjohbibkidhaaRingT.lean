/-
  RingPlays: the acts that came in; contracts of the port's functions beside the statement's own rows. Conditions: those that each theorem names.
-/
import Derived.Test.YtjfjohbibkidhaaRingS
import Derived.Test.YtjfjohbibkidhaaThree
namespace Go.Proofs.Ytjfjohbibkidhaa
open Go.RowKit Go.Deep Go.ChangeShapes Go.WideShapes Go.ChangeAt
set_option linter.unusedVariables false

/-- Something that is done with rows. -/
structure Ac where
  (kind cls id : Int)
instance : Inhabited Ac := ⟨⟨0, 0, 0⟩⟩
@[reducible] def Ac.none : Ac := ⟨0, 0, 0⟩
/-- A row of acts in memory. -/
def Acs (w : World) (a : Option Addr) (n : Nat) (xs : List Ac) : Prop := ∀ i, i < n → ∃ b off, a = some ⟨b, off, none⟩ ∧ w.cell? ⟨b, off + i * 3, none⟩ = some (.int .i64 (xs.getD i Ac.none).kind) ∧ w.cell? ⟨b, off + i * 3 + 1, none⟩ = some (.int .i64 (xs.getD i Ac.none).cls) ∧
  w.cell? ⟨b, off + i * 3 + 2, none⟩ = some (.int .i64 (xs.getD i Ac.none).id)
theorem Acs.below {w w' : World} {a : Option Addr} {n : Nat} {xs : List Ac} (h : Acs w a n xs) (hb : Below w.heap.size w w') : Acs w' a n xs := by
  intro i hi
  obtain ⟨b, off, rfl, h1, h2, h3⟩ := h i hi
  have hl := block_lt_of_cell h1
  exact ⟨b, off, rfl, (hb.cell (p := ⟨b, off + i * 3, none⟩) hl).trans h1, (hb.cell (p := ⟨b, off + i * 3 + 1, none⟩) hl).trans h2, (hb.cell (p := ⟨b, off + i * 3 + 2, none⟩) hl).trans h3⟩
theorem Try.cellsAct7 : Try.prog.cellsOf 30 = 3 := by kernel_rfl
theorem Try.cellsInt7 : Try.prog.cellsOf 3 = 1 := by kernel_rfl
theorem acts7_of_trod {H : Type} {enc : TypeId × Value → H} {W : World} {base : Nat} {held : Bool} {fuel : Nat} {a : Option Addr} {len cap : Nat} {x : DataW H × List MemPlace}
    (h : DataW.trod enc Try.prog W base (fun _ => true) held fuel 23 [.slice a len cap] = some x) : ∃ xs : List Ac, Acs W a len xs ∧ xs.length = len ∧ len ≤ maxLen := by
  rcases open_slice_three Try.underlying23 Try.underlying30 Try.cellsAct7 rfl rfl rfl Try.cellsInt7 Try.cellsInt7 Try.cellsInt7 h with hcs | ⟨ad, l, c, hcs, hlc, hcm, hel⟩
  · simp at hcs
    obtain ⟨rfl, rfl, rfl⟩ := hcs
    exact ⟨[], fun i hi => by omega, rfl, Nat.zero_le _⟩
  · simp at hcs
    obtain ⟨rfl, rfl, rfl⟩ := hcs
    have key : ∀ i, i < len → ∃ p : Ac, W.cell? (ad.add (i * 3)) = some (.int .i64 p.kind) ∧ W.cell? (ad.add (i * 3 + 1)) = some (.int .i64 p.cls) ∧ W.cell? (ad.add (i * 3 + 2)) = some (.int .i64 p.id) := by
      intro i hi
      obtain ⟨n, v0, v1, v2, x0, x1, x2, h0, h1, h2, t0, t1, t2⟩ := hel i hi
      obtain ⟨k0, e0, _, w0⟩ := DataW.trod_int Try.underlying3 t0
      obtain ⟨k1, e1, _, w1⟩ := DataW.trod_int Try.underlying3 t1
      obtain ⟨k2, e2, _, w2⟩ := DataW.trod_int Try.underlying3 t2
      simp only [List.cons.injEq, and_true] at e0 e1 e2
      subst e0 e1 e2
      exact ⟨⟨k0, k1, k2⟩, h0, h1, h2⟩
    obtain ⟨f, hf⟩ := choose_lt key
    refine ⟨(List.range len).map f, fun i hi => ?_, by simp, by omega⟩
    have hg : ((List.range len).map f).getD i Ac.none = f i := by simp [hi]
    rw [hg]
    obtain ⟨h0, h1, h2⟩ := hf i hi
    obtain ⟨b, off, spot⟩ := ad
    have hspot : spot = none := by
      have h00 := (hf 0 (by omega)).1
      simpa [Addr.add] using World.cell?_spot h00
    subst hspot
    rw [Go.WideShapes.add_plain] at h0 h1 h2
    exact ⟨b, off, rfl, h0, by rw [Nat.add_assoc]; exact h1, by rw [Nat.add_assoc]; exact h2⟩
theorem SPush_ok {W w : World} {g gb R L : Nat} {bs : List Value} {rs : List Rw} {ms : List Mw} {f fm : Nat → List Int} {b ls lm : Nat → Nat} (h : Sy W w g gb R L bs rs ms f fm b ls lm) (k : Nat) (hk : k < 8) (id : Int) (hf : (f k).length < b k) (hs : b k ≤ 100000) :
    Calls Try.prog 16 #[.pointer (some ⟨g, 0, none⟩), .int .i64 k, .int .i64 id] w fun e w' => e = .returned (.int .i64 0) ∧ (∃ rs', Sy W w' g gb R L bs rs' ms (updN f k (f k ++ [id])) fm b ls lm) ∧ Tch g rs w w' := by
  obtain ⟨e1, e2, e3⟩ := h.vw k hk
  refine (Push_ok h.pt k hk id (by rw [e1, e2]; exact hf) (by rw [e2]; exact hs)).mono ?_
  rintro e w' ⟨rfl, v', hp, ht, ho⟩
  refine ⟨rfl, ⟨_, h.ring hp ?_ ht (fun i hi c e => ?_)⟩, ht⟩
  · have := h.vw.set h.pt.len k hk v' ((rs.getD k Rw.none).l ++ [id]) (rs.getD k Rw.none).lost
    rw [e3, updN_self, e1] at this
    rw [e1, e3]
    exact this
  · rw [getD_setR _ _ _ _ (by rw [h.pt.len]; exact hk)] at e
    by_cases e' : i = k
    · rw [if_pos e'] at e
      rcases ho c e with h1 | h1
      · exact .inl ⟨k, hk, h1⟩
      · exact .inr h1
    · rw [if_neg e'] at e; exact .inl ⟨i, hi, e⟩
theorem SPush_full {W w : World} {g gb R L : Nat} {bs : List Value} {rs : List Rw} {ms : List Mw} {f fm : Nat → List Int} {b ls lm : Nat → Nat} (h : Sy W w g gb R L bs rs ms f fm b ls lm) (k : Nat) (hk : k < 8) (id : Int) (hf : b k ≤ (f k).length) (hs : (f k).length ≤ 1000000) (hL : ls k ≤ 1000000000) :
    Calls Try.prog 16 #[.pointer (some ⟨g, 0, none⟩), .int .i64 k, .int .i64 id] w fun e w' => e = .returned (.int .i64 20) ∧ ∃ rs', Sy W w' g gb R L bs rs' ms f fm b (updN ls k (ls k + 1)) lm := by
  obtain ⟨e1, e2, e3⟩ := h.vw k hk
  refine (Push_full h.pt k hk id (by rw [e1, e2]; exact hf) (by rw [e1]; exact hs) (by rw [e3]; exact hL)).mono ?_
  rintro e w' ⟨rfl, hp, ht⟩
  refine ⟨rfl, _, h.ring hp ?_ ht (fun i hi c e => ?_)⟩
  · have := h.vw.set h.pt.len k hk (rs.getD k Rw.none).v (rs.getD k Rw.none).l ((rs.getD k Rw.none).lost + 1)
    rw [e1, updN_self, e3] at this
    rw [e1, e3]
    exact this
  · rw [getD_setR _ _ _ _ (by rw [h.pt.len]; exact hk)] at e
    by_cases e' : i = k
    · rw [if_pos e'] at e; exact .inl ⟨k, hk, e⟩
    · rw [if_neg e'] at e; exact .inl ⟨i, hi, e⟩
theorem SPop_yes {W w : World} {g gb R L : Nat} {bs : List Value} {rs : List Rw} {ms : List Mw} {f fm : Nat → List Int} {b ls lm : Nat → Nat} (h : Sy W w g gb R L bs rs ms f fm b ls lm) (k : Nat) (hk : k < 8) (x : Int) (r : List Int) (hf : f k = x :: r) :
    Calls Try.prog 18 #[.pointer (some ⟨g, 0, none⟩), .int .i64 k] w fun e w' => e = .returned (.tuple #[.int .i64 x, .int .i64 0]) ∧ (∃ rs', Sy W w' g gb R L bs rs' ms (updN f k r) fm b ls lm) ∧ Tch g rs w w' := by
  obtain ⟨e1, e2, e3⟩ := h.vw k hk
  refine (Pop_yes h.pt k hk x r (e1.trans hf)).mono ?_
  rintro e w' ⟨rfl, v', hp, ht, ho⟩
  refine ⟨rfl, ⟨_, h.ring hp ?_ ht (fun i hi c e => ?_)⟩, ht⟩
  · have := h.vw.set h.pt.len k hk v' r (rs.getD k Rw.none).lost
    rw [e3, updN_self] at this
    rw [e3]
    exact this
  · rw [getD_setR _ _ _ _ (by rw [h.pt.len]; exact hk)] at e
    by_cases e' : i = k
    · rw [if_pos e'] at e
      rcases ho c e with h1 | h1
      · exact .inl ⟨k, hk, h1⟩
      · exact .inr h1
    · rw [if_neg e'] at e; exact .inl ⟨i, hi, e⟩
theorem SHead_yes {W w : World} {g gb R L : Nat} {bs : List Value} {rs : List Rw} {ms : List Mw} {f fm : Nat → List Int} {b ls lm : Nat → Nat} (h : Sy W w g gb R L bs rs ms f fm b ls lm) (k : Nat) (hk : k < 8) (x : Int) (r : List Int) (hf : f k = x :: r) :
    Calls Try.prog 17 #[.pointer (some ⟨g, 0, none⟩), .int .i64 k] w fun e w' => e = .returned (.tuple #[.int .i64 x, .int .i64 0]) ∧ w' = w := Head_yes h.pt k hk x r ((h.vw k hk).1.trans hf)
theorem SHead_no {W w : World} {g gb R L : Nat} {bs : List Value} {rs : List Rw} {ms : List Mw} {f fm : Nat → List Int} {b ls lm : Nat → Nat} (h : Sy W w g gb R L bs rs ms f fm b ls lm) (k : Nat) (hk : k < 8) (hf : f k = []) :
    Calls Try.prog 17 #[.pointer (some ⟨g, 0, none⟩), .int .i64 k] w fun e w' => e = .returned (.tuple #[.int .i64 0, .int .i64 21]) ∧ w' = w := Head_no h.pt k hk ((h.vw k hk).1.trans hf)
theorem SPop_no {W w : World} {g gb R L : Nat} {bs : List Value} {rs : List Rw} {ms : List Mw} {f fm : Nat → List Int} {b ls lm : Nat → Nat} (h : Sy W w g gb R L bs rs ms f fm b ls lm) (k : Nat) (hk : k < 8) (hf : f k = []) :
    Calls Try.prog 18 #[.pointer (some ⟨g, 0, none⟩), .int .i64 k] w fun e w' => e = .returned (.tuple #[.int .i64 0, .int .i64 21]) ∧ w' = w := Pop_no h.pt k hk ((h.vw k hk).1.trans hf)
theorem SFlush {W w w5 : World} {g gb R L : Nat} {bs : List Value} {rs : List Rw} {ms : List Mw} {f fm : Nat → List Int} {b ls lm : Nat → Nat} (h : Sy W w g gb R L bs rs ms f fm b ls lm) (hf : ∀ k, k < 8 → (f k).length ≤ 10000) (h5 : Sy W w5 g gb R L bs rs ms f fm b ls lm) (u : Value) (l : List Int) (hu : Qe w u l) (hu5 : ∀ c, u.ownBlock = some c → w5.heap.size ≤ c) :
    Calls Try.prog 19 #[.pointer (some ⟨g, 0, none⟩)] w fun e w' => ∃ a c, e = .returned (.slice a (catF f 8).length c) ∧ Qe w' (.slice a (catF f 8).length c) (catF f 8) ∧ Qe w' u l ∧ ∃ rs', Sy W w' g gb R L bs rs' ms (fun _ => []) fm b ls lm := by
  refine (Flush_any h.pt (fun k hk => by rw [(h.vw k hk).1]; exact hf k hk)).mono ?_
  rintro e w' ⟨v, rfl, hF⟩
  have hq := hF.qe
  rw [(h.vw.all 8 (Nat.le_refl _)).2.2] at hq
  obtain ⟨a, c, rfl⟩ := hq.shape
  refine ⟨a, c, rfl, hq, hu.blk fun d e => hF.tch.block d (hu.lt e) (by have := hu5 d e; have := h5.pt.ltg; omega) (fun i hi e' => by have := hu5 d e; have := (h5.pt.row i hi).lt e'; omega), _, h.ring hF.pt (fun k hk => ?_) hF.tch (fun i hi d e => ?_)⟩
  · rw [goneR_at rs k 8 (by rw [h.pt.len]; omega), if_pos hk]
    exact ⟨rfl, (h.vw k hk).2⟩
  · rw [goneR_at rs i 8 (by rw [h.pt.len]; omega), if_pos hi] at e
    simp [Value.ownBlock] at e
theorem mrow_at (ms : List Mw) (hl : ms.length = 8) (j : Nat) (hj : j < 8) : ∀ w, (Instr.index 28 (.agg (rowM ms).toArray) (.int .i64 (j : Nat))).run Try.prog w = .ok (ms.getD j Mw.none).v w := by
  intro w
  match ms, hl with
  | [m0, m1, m2, m3, m4, m5, m6, m7], _ =>
    rcases (show j = 0 ∨ j = 1 ∨ j = 2 ∨ j = 3 ∨ j = 4 ∨ j = 5 ∨ j = 6 ∨ j = 7 by omega) with rfl | rfl | rfl | rfl | rfl | rfl | rfl | rfl
    all_goals simp [Instr.index, run_underlying Try.underlying28, asIntOf, go_sem, rowM]
theorem Ssame {W w : World} {g gb R L : Nat} {bs : List Value} {rs : List Rw} {ms : List Mw} {f : Nat → List Int} {b ls : Nat → Nat} (h : Sy W w g gb R L bs rs ms f f b ls ls) (hf : ∀ k, k < 8 → (f k).length ≤ 10000) (hls : ∀ k, k < 8 → ls k ≤ 100000) :
    Calls Try.prog 20 #[.pointer (some ⟨g, 0, none⟩), .agg (rowM ms).toArray, .agg (lostRow ls).toArray] w fun e w' => e = .returned (.bool true) ∧ Below w.heap.size w w' :=
  same_any h.pt h.vw (rowM ms).toArray (lostRow ls).toArray (fun j => (ms.getD j Mw.none).v) (by rw [List.size_toArray, rowM_length, h.mt.len]) (by simp [lostRow]) (fun j hj => mrow_at ms h.mt.len j hj) (fun j hj => by rw [← h.mv j hj]; exact h.mt.row j hj) (fun j hj => by rw [List.getElem?_toArray]; exact lostRow_at ls j hj) hf hls
theorem Sy.app {W w w1 : World} {g gb R L : Nat} {bs : List Value} {rs : List Rw} {ms : List Mw} {f fm : Nat → List Int} {b ls lm : Nat → Nat} (h : Sy W w g gb R L bs rs ms f fm b ls lm) (k : Nat) (hk : k < 8) (id : Int) (v' : Value) (hq1 : Qe w1 v' (fm k ++ [id]))
    (hgr : (w.alloc (.cells #[.int .i64 id] 3)).grownBy w1 (ms.getD k Mw.none).v.ownBlock) (hl : v'.ownBlock = (ms.getD k Mw.none).v.ownBlock ∨ v'.ownBlock = some (w.heap.size + 1)) :
    Sy W (w1.setCell ⟨R, k, none⟩ v') g gb R L bs rs (ms.set k ⟨v', fm k ++ [id]⟩) f (updN fm k (fm k ++ [id])) b ls lm ∧ w1.heap[R]? = w.heap[R]? := by
  have hb := below1 w (.cells #[.int .i64 id] 3)
  have hs : ∀ c, c < w.heap.size → (ms.getD k Mw.none).v.ownBlock ≠ some c → w1.heap[c]? = w.heap[c]? := fun c hc hne => (hgr.block c (Nat.lt_of_lt_of_le hc hb.size) (Ne.symm hne)).trans (hb.block c hc)
  refine ⟨h.put k hk v' (fm k ++ [id]) hq1 (hgr.os.trans hb.os) (hgr.tape.trans hb.tape) (hgr.output.trans hb.output) (Nat.le_trans hb.size hgr.size) hs (fun c e => ?_), hs R h.mt.ltr (fun e => (h.mt.own k hk R e).2 rfl)⟩
  rcases hl with e' | e'
  · rw [e'] at e; exact .inl e
  · rw [e'] at e
    simp only [Option.some.injEq] at e
    exact .inr (by omega)
theorem Tch.act {g : Nat} {rs : List Rw} {w w' : World} {ga : Nat} {o : Obj} (h : Tch g rs w w') (ho : w.heap[ga]? = some o) (hg : g < ga) (hr : ∀ i, i < 8 → ∀ c, (rs.getD i Rw.none).v.ownBlock = some c → c < ga) : w'.heap[ga]? = some o :=
  (h.block ga (Array.getElem?_eq_some_iff.1 ho).1 (by omega) (fun i hi e => by have := hr i hi ga e; omega)).trans ho
end Go.Proofs.Ytjfjohbibkidhaa
