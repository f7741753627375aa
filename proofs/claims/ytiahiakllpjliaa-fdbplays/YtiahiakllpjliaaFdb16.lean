/-
  'gone' of FdbPlays: what is old goes from the map, and is counted. Conditions: those that each theorem names.
-/
import Derived.Test.YtiahiakllpjliaaFdb15
import Derived.Laws.EntriesVeiled
namespace Go.Proofs.Ytiahiakllpjliaa
open Go.RowKit Go.Maps
set_option linter.unusedVariables false
set_option linter.unusedSimpArgs false
set_option maxRecDepth 20000

theorem kSize (k : Int × M6) : (Try.prog.info? 32).map (·.size) = some (kRow k).size := by kernel_rfl
theorem eSize (p : Int × Int) : (Try.prog.info? 34).map (·.size) = some (#[Value.int .i64 p.1, Value.int .i64 p.2]).size := by kernel_rfl
@[reducible] def kZero : Int × M6 := (0, ⟨0, 0, 0, 0, 0, 0⟩)
theorem go_gone (args : Array Value) (w : World) : (callFunc 15 args).run Try.prog w = .ok (.enter 15 args) w := by
  simp [callFunc, go_sem, Try.func15]
  rfl
theorem stop_next {P : Program} {ops : Array Oper} {rest : List Oper} {o : Oper} {a : Act} {w : World} {Q : Exit → Act → World → Prop} (it : Operand) (_ho : o.op = .next it false) (h : Hid (wpList P ops Q (o :: rest) a w)) : wpList P ops Q (o :: rest) a w := h.out
theorem Rg.del {κ α : Type} [DecidableEq κ] {P : Program} {M : MT κ α} {w : World} {B r n c cnt : Nat} {f : κ → Option α} {lf : κ → Bool} (h : Rg P M w B r n c f lf cnt) (G : M.Good P) (k : κ) (hk : M.okk k) (hlf : lf k = false) (hsome : (f k).isSome = true) (ty : TypeId) :
    ∃ w' cnt', (Builtin.delete_ #[M.t, M.k] ty #[.map (some B), M.kv k]).run P w = .ok (.tuple #[]) w' ∧ Rg P M w' B r n (c - 1) (updK f k none) lf cnt' ∧ cnt' ≤ cnt ∧ w.grownBy w' (some B) := by
  obtain ⟨D, left, h1, h2, h3, h4⟩ := h
  obtain ⟨w', cnt', hrun, hr, hle, ht⟩ := h1.drop G.keyed G.ht (G.kmk k hk) ty
  refine ⟨w', cnt', hrun, ⟨_, _, hr, ?_, h3.del G k hk, fun i hi => ?_⟩, hle, ht.grown⟩
  · have := size_del (k := M.kl k) (h1.owns.tidy G.keyed)
    rw [(h3 k hk).1, h2, hsome] at this
    simp at this
    omega
  · by_cases e : i = k
    · subst e
      rw [h4 i hi, hlf]; simp
    · rw [sameKey_ne (G.ne hi hk e), h4 i hi]; simp
theorem Rg.below {κ α : Type} {P : Program} {M : MT κ α} {w w' : World} {B r n c cnt : Nat} {f : κ → Option α} {lf : κ → Bool} (h : Rg P M w B r n c f lf cnt) (hb : Below w.heap.size w w') : Rg P M w' B r n c f lf cnt := h.blk (hb.block B h.mp.lt) (hb.block r h.ltr)
theorem Mp.pos {κ α : Type} {P : Program} {M : MT κ α} {w : World} {B c : Nat} {f : κ → Option α} (h : Mp P M w B c f) {k : κ} (hk : M.okk k) (hs : (f k).isSome = true) : 1 ≤ c := by
  obtain ⟨D, ⟨es, cl, hb, F, h1, rfl⟩, h2, h3⟩ := h
  have := (h3 k hk).1
  rw [hs] at this
  obtain ⟨p, hp, _⟩ := List.any_eq_true.1 this
  rw [← h2]
  exact List.length_pos_of_mem hp
/-- Where the ranging is. -/
structure Gn (q : Int × Int → Bool) (f f1 : Int × M6 → Option (Int × Int)) (lf : Int × M6 → Bool) : Prop where
  left : ∀ k, kOk k → lf k = true → f1 k = f k
  done : ∀ k, kOk k → lf k = false → f1 k = (f k).filter (fun x => !q x)
theorem Gn.start (q : Int × Int → Bool) (f : Int × M6 → Option (Int × Int)) : Gn q f f (fun k => (f k).isSome) :=
  ⟨fun k _ _ => rfl, fun k _ h => by
    cases hf : f k with
    | none => rfl
    | some x => rw [hf] at h; cases h⟩
theorem Gn.stay {q : Int × Int → Bool} {f f1 : Int × M6 → Option (Int × Int)} {lf : Int × M6 → Bool} (h : Gn q f f1 lf) {x : Int × M6} {y : Int × Int} (hx : kOk x) (hl : lf x = true) (hf : f1 x = some y) (ho : q y = false) : Gn q f f1 (updK lf x false) :=
  ⟨fun k hk e => by
    by_cases ek : k = x
    · subst ek; rw [updK_same] at e; cases e
    · rw [updK_other _ _ _ _ ek] at e; exact h.left k hk e,
   fun k hk e => by
    by_cases ek : k = x
    · subst ek; rw [← h.left k hk hl, hf]; simp [Option.filter, ho]
    · rw [updK_other _ _ _ _ ek] at e; exact h.done k hk e⟩
theorem Gn.goes {q : Int × Int → Bool} {f f1 : Int × M6 → Option (Int × Int)} {lf : Int × M6 → Bool} (h : Gn q f f1 lf) {x : Int × M6} {y : Int × Int} (hx : kOk x) (hl : lf x = true) (hf : f1 x = some y) (ho : q y = true) : Gn q f (updK f1 x none) (updK lf x false) :=
  ⟨fun k hk e => by
    by_cases ek : k = x
    · subst ek; rw [updK_same] at e; cases e
    · rw [updK_other _ _ _ _ ek] at e ⊢; exact h.left k hk e,
   fun k hk e => by
    by_cases ek : k = x
    · subst ek; rw [updK_same, ← h.left k hk hl, hf]; simp [Option.filter, ho]
    · rw [updK_other _ _ _ _ ek] at e ⊢; exact h.done k hk e⟩
theorem filter_sub {f : Option (Int × Int)} {q : Int × Int → Bool} {y : Int × Int} (h : f.filter q = some y) : f = some y := by
  cases f with
  | none => cases h
  | some x => simp [Option.filter] at h; rw [h.2]
set_option maxHeartbeats 8000000 in
theorem gone_any {w : World} {B c am pn pa : Nat} {f : Int × M6 → Option (Int × Int)} (age now : Int) (hm : Mp Try.prog kT w B c f) (h0 : w.cell? ⟨am, 0, none⟩ = some (.map (some B))) (h1 : w.cell? ⟨pn, 0, none⟩ = some (.int .i64 now)) (h2 : w.cell? ⟨pa, 0, none⟩ = some (.int .i64 age))
    (hne : am ≠ B ∧ pn ≠ B ∧ pa ≠ B) (hn : timeOk now) (hv : ∀ k p, kOk k → f k = some p → timeOk p.2) (hc : c ≤ 100000) :
    Calls Try.prog 15 #[.pointer (some ⟨am, 0, none⟩), .pointer (some ⟨pn, 0, none⟩), .pointer (some ⟨pa, 0, none⟩)] w fun r w' => ∃ c' : Nat, ∃ f', r = .returned (.int .i64 ((c : Int) - c')) ∧ Mp Try.prog kT w' B c' f' ∧ (∀ k, kOk k → f' k = (f k).filter (fun x => !oldQ age now x)) ∧ Ch (· = B) w w' := by
  have hS := hide (Gn.start (oldQ age now) f)
  replace hv := hide hv
  have hcell := hide (And.intro h0 (And.intro h1 h2))
  replace hne := hide hne
  obtain ⟨hn1, hn2⟩ := hn
  clear h1 h2
  go_enter Try.func15, Try.ntmps15
  go_wp2_with (at_range; refine wpList_Mp_range rfl (.tmp 7) kT_good rfl rfl hm ?_; intro w5 hRg0 hg0 hs0)
  have hb5 : Hid (Ch (· = B) w w5) := ⟨hg0.os, hg0.tape, hg0.output, hg0.size, fun k hk _ => hg0.block k hk (by simp)⟩
  have hrl : Hid (B < w.heap.size) := hm.lt
  replace hRg0 := hide hRg0
  clear hg0 hs0 h0 hm
  generalize hr : w.heap.size = r at hRg0 hrl
  replace hr := hide hr
  go_frame
  go_loopw [4] (fun i wr => ∃ lf cnt c1 f1, i = .int .i64 ((c : Int) - (c1 : Nat)) ∧ c1 ≤ c ∧ Hid (Rg Try.prog kT wr B r c c1 f1 lf cnt) ∧ Hid (Gn (oldQ age now) f f1 lf) ∧ Hid (Ch (· = B) w wr)) (fun _ wr => wr.rangeLeft B r)
  case atStart => exact ⟨_, _, c, f, by simp, Nat.le_refl _, hRg0, hS, hb5⟩
  case round =>
    obtain ⟨lf, cnt, c1, f1, rfl, hc1, hRg, hG, hb⟩ := hrel
    clear hRg0 hS hb5
    go_wp2_with (at_next; refine stop_next (.tmp 8) rfl ?_)
    refine hide (wpList_Rg_next rfl (.tmp 8) kT_good rfl rfl hRg.out ?_ ?_)
    · intro hl
      have hfin : Hid (∀ k, kOk k → f1 k = (f k).filter (fun x => !oldQ age now x)) := fun k hk => hG.out.done k hk (hl k hk)
      have hmp := hide hRg.out.mp
      clear hRg hG hl
      go_wp2
      go_ret
      exact ⟨c1, f1, rfl, hmp.out, hfin.out, hb.out⟩
    · intro x y w6 cnt' hx hy hlx hfx hRg6 hlt hgr hsz hen
      have hb6 : Hid (Ch (· = B) w w6) := ⟨hgr.os.trans hb.out.os, hgr.tape.trans hb.out.tape, hgr.output.trans hb.out.output, Nat.le_trans hb.out.size hgr.size, fun k hk hne => (hgr.block k (Nat.lt_of_lt_of_le hk hb.out.size) (fun e => by have h1 := hr.out; have h2 := Option.some.inj e; omega)).trans (hb.out.block k hk hne)⟩
      have hc6 : Hid (∀ w', Below w6.heap.size w6 w' → w'.cell? ⟨am, 0, none⟩ = some (.map (some B)) ∧ w'.cell? ⟨pn, 0, none⟩ = some (.int .i64 now) ∧ w'.cell? ⟨pa, 0, none⟩ = some (.int .i64 age)) := fun w' hb' => by
        have hk : ∀ k, k < w.heap.size → k ≠ B → w'.heap[k]? = w.heap[k]? := fun k k1 k2 => (hb'.block k (Nat.lt_of_lt_of_le k1 hb6.out.size)).trans (hb6.out.block k k1 k2)
        obtain ⟨g1, g2, g3⟩ := hcell.out
        obtain ⟨n1, n2, n3⟩ := hne.out
        exact ⟨(cell_later (hk am (block_lt_of_cell g1) n1) 0).trans g1, (cell_later (hk pn (block_lt_of_cell g2) n2) 0).trans g2, (cell_later (hk pa (block_lt_of_cell g3) n3) 0).trans g3⟩
      have hyt : timeOk y.2 := hv.out x y hx (by rw [← hG.out.left x hx hlx]; exact hfx)
      have hsome : Hid ((f1 x).isSome = true) := by rw [hfx]; rfl
      have hRg6' := hide hRg6
      have hG' : Hid (oldQ age now y = false → Gn (oldQ age now) f f1 (updK lf x false)) := fun ho => hG.out.stay hx hlx hfx ho
      have hG'' : Hid (oldQ age now y = true → Gn (oldQ age now) f (updK f1 x none) (updK lf x false)) := fun ho => hG.out.goes hx hlx hfx ho
      have hc1p : Hid (1 ≤ c1) := hRg.out.mp.pos hx hsome.out
      replace hx := hide hx
      obtain ⟨t1, t2⟩ := hyt
      have hlt' : Hid (cnt' < wr.rangeLeft B r) := by rw [hRg.out.left_eq]; exact hlt
      clear hRg hG hb hlx hfx hRg6 hgr hsz hlt
      obtain ⟨y1, y2⟩ := y
      dsimp only at t1 t2 hen
      go_wp2_with ((with_reducible change wpList _ _ _ _ _ _); refine stop_storeB 32 (.tmp 5) (.tmp 12) rfl ?_)
      have hza := heap_alloc_new w6 (.cells (kRow kZero) 32)
      have hzb := heap_alloc_new (w6.alloc (.cells (kRow kZero) 32)) (.cells #[Value.int .i64 0, Value.int .i64 0] 34)
      rw [World.size_alloc] at hzb
      have hza2 := heap_kept (below1 (w6.alloc (.cells (kRow kZero) 32)) (.cells #[Value.int .i64 0, Value.int .i64 0] 34)) hza
      have hbz := (below1 w6 (.cells (kRow kZero) 32)).later (below1 _ (.cells #[Value.int .i64 0, Value.int .i64 0] 34))
      clear hza hen
      generalize ha : w6.heap.size = a at *
      generalize (w6.alloc (.cells (kRow kZero) 32)).alloc (.cells #[Value.int .i64 0, Value.int .i64 0] 34) = w7 at *
      have hra : (w7.setRow a (kRow x)).heap[a]? = some (.cells (kRow x) 32 (0, 0)) := setRow_heap _ _ _ _ _ _ hza2
      have hzb2 := (Go.setRow_other w7 a (a + 1) (kRow x) (by omega)).trans hzb
      have hrb : ((w7.setRow a (kRow x)).setRow (a + 1) #[Value.int .i64 y1, Value.int .i64 y2]).heap[a + 1]? = some (.cells #[Value.int .i64 y1, Value.int .i64 y2] 34 (0, 0)) := setRow_heap _ _ _ _ _ _ hzb2
      have hra2 := (Go.setRow_other (w7.setRow a (kRow x)) (a + 1) a #[Value.int .i64 y1, Value.int .i64 y2] (by omega)).trans hra
      refine hide (wpList_store_row rfl 32 (.tmp 5) (.tmp 12) rfl a (kRow x) rfl rfl 32 _ hza2 (kSize x) rfl (by simp [Value.oneCell']) ?_)
      go_wp2_with ((with_reducible change wpList _ _ _ _ _ _); refine stop_storeB 34 (.tmp 6) (.tmp 13) rfl ?_)
      refine hide (wpList_store_row rfl 34 (.tmp 6) (.tmp 13) rfl (a + 1) #[Value.int .i64 y1, Value.int .i64 y2] rfl rfl 34 _ hzb2 (eSize (y1, y2)) rfl (by simp [Value.oneCell']) ?_)
      have hb8 : Below a w6 ((w7.setRow a (kRow x)).setRow (a + 1) #[Value.int .i64 y1, Value.int .i64 y2]) := hbz.trans ⟨rfl, rfl, rfl, by simp [World.setRow], fun k hk => (Go.setRow_other _ _ _ _ (by omega)).trans (Go.setRow_other _ _ _ _ (by omega))⟩
      generalize (w7.setRow a (kRow x)).setRow (a + 1) #[Value.int .i64 y1, Value.int .i64 y2] = w8 at *
      subst ha
      have hrk := hide hra2
      have hce : w8.cell? ⟨w6.heap.size + 1, 1, none⟩ = some (.int .i64 y2) := (cell_of_row _ _ _ _ _ _ hrb).trans rfl
      have hR8 := hide (hRg6'.out.below hb8)
      have hC8 : Hid (Ch (· = B) w w8) := hb6.out.trans (Ch.of_below hb8)
      obtain ⟨cm, cn, ca⟩ := hc6.out w8 hb8
      clear hc6 hb6 hRg6' hb8 hrb hzb2 hzb hza2 hra hra2 hbz w7
      by_cases ho : age ≤ now - y2
      · have hG9 := hide (hG''.out (decide_eq_true ho))
        clear hG' hG''
        obtain ⟨w9, cnt9, hrun9, hR9, hle9, hg9⟩ := hR8.out.del kT_good x hx.out (updK_same lf x false) hsome.out 0
        have hrun9' : (Builtin.delete_ #[26, 32] 0 #[.map (some B), .agg (kRow x)]).run Try.prog w8 = .ok (.tuple #[]) w9 := hrun9
        clear hrun9
        go_wp2_with ((with_reducible change wpList _ _ _ _ _ _); refine wpList_load_row rfl 32 (.tmp 5) rfl w6.heap.size rfl 32 _ _ _ hrk.out Try.underlying32 rfl (kSize _) ?_)
        have hR9' := hide hR9
        have hC9 : Hid (Ch (· = B) w w9) := hC8.out.trans (Ch.of_grown hg9)
        clear hR9 hg9 hR8 hC8 hrk hce cm cn ca hx hsome hrun9'
        have h1 := hc1p.out
        go_wp2
        go_roundw
        case rel => exact ⟨_, _, c1 - 1, _, by simp; omega, by omega, hR9', hG9, hC9⟩
        case measure => rw [hR9'.out.left_eq]; have := hlt'.out; omega
      · have hG9 := hide (hG'.out (decide_eq_false ho))
        clear hG' hG'' hsome hrk
        go_wp2
        go_roundw
        case rel => exact ⟨_, _, c1, _, rfl, hc1, hR8, hG9, hC8⟩
        case measure => rw [hR8.out.left_eq]; exact hlt'.out
end Go.Proofs.Ytiahiakllpjliaa
