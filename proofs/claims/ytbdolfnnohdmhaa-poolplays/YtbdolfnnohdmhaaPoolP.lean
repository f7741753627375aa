/-
  The pool of PoolPlays beside the model's maps. Conditions: those that each theorem names.
-/
import Derived.Test.YtbdolfnnohdmhaaActs6
import Derived.Test.YtbdolfnnohdmhaaIMap
import Derived.Test.YtbdolfnnohdmhaaPoolL3
import Derived.Deep.MidRow
namespace Go.Proofs.Ytbdolfnnohdmhaa
open Go.RowKit Go.Maps
set_option linter.unusedVariables false

theorem Bs.blkP {w w' : World} {v : Value} {l : List Int} (h : Bs w v l) (hv : ∀ a n c, v = .slice (some a) n c → 0 < l.length → w'.heap[a.block]? = w.heap[a.block]?) : Bs w' v l := by
  obtain ⟨h0, a, cap, rfl, h1, h2, h3, h4⟩ := h
  refine ⟨h0, a, cap, rfl, h1, h2, h3, fun i hi => ?_⟩
  obtain ⟨b', off, e, hc⟩ := h4 i hi
  subst e
  exact ⟨b', off, rfl, (World.cell?_of_block (w := w) (w' := w') (a := ⟨b', off + i, none⟩) (hv ⟨b', off, none⟩ _ _ rfl (by omega))).trans hc⟩
/-- The pool and the model's two maps in memory. -/
structure Play (w : World) (g b BF BH room : Nat) (ps : List Pc) (nf nh : Nat) (f : Int → Int) (s : Int → ByteArray) : Prop where
  pl : Pl w g b ps
  hm : HM w BH nh f room
  fm : FM w BF nf s
  apart : ∀ p ∈ ps, ∀ a n c, p.v = .slice (some a) n c → a.block ≠ BF ∧ a.block ≠ BH
  ne : BF ≠ BH ∧ BF ≠ g ∧ BF ≠ b ∧ BH ≠ g ∧ BH ≠ b
theorem Play.below {w w' : World} {g b BF BH room nf nh : Nat} {ps : List Pc} {f : Int → Int} {s : Int → ByteArray} (h : Play w g b BF BH room ps nf nh f s) (hb : Below w.heap.size w w') : Play w' g b BF BH room ps nf nh f s :=
  ⟨h.pl.below hb, h.hm.blk (hb.block _ h.hm.lt), h.fm.blk (hb.block _ h.fm.lt), h.apart, h.ne⟩
/-- Behind a call of the pool's. -/
theorem Play.pool {w w' : World} {g b BF BH room nf nh : Nat} {ps ps' : List Pc} {f : Int → Int} {s : Int → ByteArray} (h : Play w g b BF BH room ps nf nh f s) (hP : Pl w' g b ps') (hb : But b w w') (ha : ∀ p ∈ ps', p ∉ ps → ∀ a n c, p.v = .slice (some a) n c → a.block ≠ BF ∧ a.block ≠ BH) : Play w' g b BF BH room ps' nf nh f s := by
  classical
  refine ⟨hP, h.hm.blk (hb.block _ h.hm.lt h.ne.2.2.2.2), h.fm.blk (hb.block _ h.fm.lt h.ne.2.2.1), fun p hp => ?_, h.ne⟩
  by_cases hq : p ∈ ps
  · exact h.apart p hq
  · exact ha p hp hq
theorem Pl.grown {w w' : World} {g b B : Nat} {ps : List Pc} (h : Pl w g b ps) (hg : w.grownBy w' (some B)) (h1 : g ≠ B) (h2 : b ≠ B) (h3 : ∀ p ∈ ps, ∀ a n c, p.v = .slice (some a) n c → a.block ≠ B) : Pl w' g b ps := by
  have hl := h.lt
  refine ⟨h.ne, h.few, by rw [hg.block g hl.1 (by simpa using h1)]; exact h.at_g, by rw [hg.block b hl.2 (by simpa using h2)]; exact h.at_b, fun p hp => ⟨(h.frames p hp).1.blkP fun a n c e hl0 => ?_, (h.frames p hp).2⟩⟩
  have hB := (h.frames p hp).1
  have hlt : a.block < w.heap.size := by
    rw [e] at hB
    obtain ⟨_, a', cap, e2, _, _, _, h4⟩ := hB
    simp only [Value.slice.injEq] at e2
    obtain ⟨rfl, _, _⟩ := e2
    obtain ⟨b', off, e3, hc⟩ := h4 0 hl0
    cases e3
    exact block_lt_of_cell hc
  exact hg.block a.block hlt (by simpa using h3 p hp a n c e)
/-- holds[k] = v. -/
theorem Play.putH {w : World} {g b BF BH room nf nh : Nat} {ps : List Pc} {f : Int → Int} {s : Int → ByteArray} (h : Play w g b BF BH room ps nf nh f s) (k v : Int) (hk : (Lit.int .i64 k).wf = true) (hv : (Lit.int .i64 v).wf = true) (h0 : 0 ≤ k) (hR : k < room) (hn : nh < maxLen) :
    ∃ w', (Instr.mapUpdate 41 (.map (some BH)) (.int .i64 k) (.int .i64 v)).run Try.prog w = .ok () w' ∧ Play w' g b BF BH room ps nf (nh + 1) (upd f k v) s ∧ w.grownBy w' (some BH) := by
  obtain ⟨w', hr, hH, hg⟩ := h.hm.put k v hk hv h0 hR hn
  exact ⟨w', hr, ⟨h.pl.grown hg (Ne.symm h.ne.2.2.2.1) (Ne.symm h.ne.2.2.2.2) (fun p hp a n c e => (h.apart p hp a n c e).2), hH, h.fm.blk (hg.block _ h.fm.lt (by simpa using h.ne.1)), h.apart, h.ne⟩, hg⟩
/-- frames[k] = v. -/
theorem Play.putF {w : World} {g b BF BH room nf nh : Nat} {ps : List Pc} {f : Int → Int} {s : Int → ByteArray} (h : Play w g b BF BH room ps nf nh f s) (k : Int) (v : ByteArray) (hk : (Lit.int .i64 k).wf = true) (hv : v.size ≤ maxLen) (hn : nf < maxLen) :
    ∃ w', (Instr.mapUpdate 40 (.map (some BF)) (.int .i64 k) (.string v)).run Try.prog w = .ok () w' ∧ Play w' g b BF BH room ps (nf + 1) nh f (upd s k v) ∧ w.grownBy w' (some BF) := by
  obtain ⟨w', hr, hF, hg⟩ := h.fm.put k v hk hv hn
  exact ⟨w', hr, ⟨h.pl.grown hg (Ne.symm h.ne.2.1) (Ne.symm h.ne.2.2.1) (fun p hp a n c e => (h.apart p hp a n c e).1), h.hm.blk (hg.block _ h.hm.lt (by simpa using Ne.symm h.ne.1)), hF, h.apart, h.ne⟩, hg⟩
/-- What the model says of the pool. -/
structure Tie (room : Nat) (ps : List Pc) (f : Int → Int) (s : Int → ByteArray) : Prop where
  len : ps.length = room
  holds : ∀ t : Nat, t < room → f t = ((ps.getD t Pc.none).h : Int)
  text : ∀ t : Nat, t < room → 0 < (ps.getD t Pc.none).h → s t = bstr (ps.getD t Pc.none).l
  short : ∀ t : Nat, t < room → (ps.getD t Pc.none).l.length ≤ 100
theorem Tie.start (room : Nat) : Tie room (List.replicate room Pc.none) (fun _ => 0) (fun _ => ByteArray.empty) :=
  ⟨by simp, fun t ht => by rw [getD_rep]; rfl, fun t ht h => by rw [getD_rep] at h; simp at h, fun t ht => by rw [getD_rep]; simp⟩
theorem Tie.set {room : Nat} {ps : List Pc} {f : Int → Int} {s : Int → ByteArray} (h : Tie room ps f s) (k : Nat) (p : Pc) (hk : k < room) (s' : Int → ByteArray) (hs : ∀ t : Nat, t ≠ k → s' t = s t) (hp : 0 < p.h → s' k = bstr p.l) (hl : p.l.length ≤ 100) : Tie room (ps.set k p) (upd f k p.h) s' := by
  have hkl : k < ps.length := by rw [h.len]; exact hk
  refine ⟨by rw [List.length_set]; exact h.len, fun t ht => ?_, fun t ht hh => ?_, fun t ht => ?_⟩
  · by_cases e : t = k
    · subst e; rw [getD_set_same _ _ _ hkl]; simp [upd]
    · rw [getD_set_other _ _ _ _ (Ne.symm e), ← h.holds t ht]; simp [upd, show ¬ ((t : Int) = (k : Int)) by omega]
  · by_cases e : t = k
    · subst e; rw [getD_set_same _ _ _ hkl] at hh ⊢; exact hp hh
    · rw [getD_set_other _ _ _ _ (Ne.symm e)] at hh ⊢; rw [hs t e]; exact h.text t ht hh
  · by_cases e : t = k
    · subst e; rw [getD_set_same _ _ _ hkl]; exact hl
    · rw [getD_set_other _ _ _ _ (Ne.symm e)]; exact h.short t ht
theorem sumH_F : ∀ (ps : List Pc), (sumH ps : Int) = sumF ps.length fun t => ((ps.getD t Pc.none).h : Int) := by
  intro ps
  have : ∀ k, k ≤ ps.length → (sumH (ps.take k) : Int) = sumF k fun t => ((ps.getD t Pc.none).h : Int) := by
    intro k
    induction k with
    | zero => intro _; simp [sumH, sumF]
    | succ k ih => intro hk; rw [sumH_take ps k (by omega), sumF, ← ih (by omega)]; simp
  have h := this ps.length (Nat.le_refl _)
  rwa [List.take_length] at h
theorem usedN_F : ∀ (ps : List Pc), (usedN ps : Int) = sumF ps.length fun t => if 0 < (ps.getD t Pc.none).h then 1 else 0 := by
  intro ps
  have : ∀ k, k ≤ ps.length → (usedN (ps.take k) : Int) = sumF k fun t => if 0 < (ps.getD t Pc.none).h then 1 else 0 := by
    intro k
    induction k with
    | zero => intro _; simp [usedN, sumF]
    | succ k ih =>
      intro hk
      rw [usedN_take ps k (by omega), sumF, ← ih (by omega)]
      by_cases h : (ps.getD k Pc.none).h = 0
      · rw [if_pos h, if_neg (by omega)]; simp
      · rw [if_neg h, if_pos (by omega)]; simp
  have h := this ps.length (Nat.le_refl _)
  rwa [List.take_length] at h
theorem sumH_rep : ∀ n : Nat, sumH (List.replicate n Pc.none) = 0
  | 0 => rfl
  | n + 1 => by rw [List.replicate_succ, sumH, sumH_rep n]
theorem actSize : (Try.prog.info? 44).map (·.size) = some 3 := by kernel_rfl
theorem wpList_store_freshP {P : Program} {ops : Array Oper} {rest : List Oper} {o : Oper} {a : Act} {w2 : World} {Q : Exit → Act → World → Prop} (hgd : o.guard = none) (ty : TypeId) (x y : Operand) (ho : o.op = .store ty x y)
    (cells old : Array Value) (hx : a.eval x = .pointer (some ⟨w2.heap.size, 0, none⟩)) (hy : a.eval y = .agg cells)
    (t : TypeId) (hi : (P.info? ty).map (·.size) = some cells.size) (hold : old.size = cells.size) (h1 : cells.all (·.oneCell') = true)
    (h : ∀ w3 : World, w3.heap[w2.heap.size]? = some (.cells cells t (0, 0)) → Below w2.heap.size w2 w3 → wpList P ops Q rest (a.put o.dst undef) w3) : wpList P ops Q (o :: rest) a (w2.alloc (.cells old t)) := by
  refine wpList_store_row hgd ty x y ho w2.heap.size cells hx hy t old (heap_alloc_new w2 _) hi hold h1 ?_
  exact h _ (setRow_heap _ _ _ _ _ _ (heap_alloc_new w2 _)) (((Below.refl _ _).alloc (Nat.le_refl _) _).trans ⟨rfl, rfl, rfl, by simp [World.setRow], fun k hk => Go.setRow_other _ _ _ _ (by omega)⟩)
theorem sumF_le {g g' : Nat → Int} : ∀ R, (∀ t, t < R → g t ≤ g' t) → sumF R g ≤ sumF R g'
  | 0, _ => Int.le_refl _
  | R + 1, h => by
    have h1 := sumF_le R (fun t ht => h t (by omega))
    have h2 := h R (by omega)
    simp only [sumF]
    omega
theorem soFar_le (R : Nat) (left : Lit → Bool) (g : Int → Int) (h : ∀ t : Nat, t < R → 0 ≤ g t) : 0 ≤ soFar R left g ∧ soFar R left g ≤ sumF R fun t => g t := by
  constructor
  · have : sumF R (fun _ => (0 : Int)) ≤ soFar R left g := sumF_le R (fun t ht => by have := h t ht; split <;> omega)
    rwa [sumF_zero R (fun _ _ => rfl)] at this
  · exact sumF_le R (fun t ht => by have := h t ht; split <;> omega)
theorem sumF_ones (R : Nat) (g : Int → Int) (h : ∀ t : Nat, t < R → g t ≤ 1) : (sumF R fun t => g t) ≤ R := by
  induction R with
  | zero => simp [sumF]
  | succ R ih =>
    have h1 := ih (fun t ht => h t (by omega))
    have h2 := h R (by omega)
    simp only [sumF]
    omega
/-- What the model counts is what the pool counts. -/
theorem Tie.sums {room : Nat} {ps : List Pc} {f : Int → Int} {s : Int → ByteArray} (h : Tie room ps f s) : (sumF room fun t => f t) = (sumH ps : Int) ∧ (sumF room fun t => if 0 < f t then 1 else 0) = (usedN ps : Int) := by
  rw [sumH_F, usedN_F, h.len]
  constructor
  · exact sumF_congr room (fun t ht => h.holds t ht)
  · refine sumF_congr room (fun t ht => ?_)
    rw [h.holds t ht]
    by_cases hh : 0 < (ps.getD t Pc.none).h
    · rw [if_pos hh, if_pos (by omega)]
    · rw [if_neg hh, if_neg (by omega)]
theorem Tie.count {room : Nat} {ps : List Pc} {f : Int → Int} {s : Int → ByteArray} (h : Tie room ps f s) (left : Lit → Bool) (m : Nat) (hs : sumH ps ≤ m) :
    (0 ≤ soFar room left f ∧ soFar room left f ≤ m) ∧ (0 ≤ soFar room left (fun k => if 0 < f k then 1 else 0) ∧ soFar room left (fun k => if 0 < f k then 1 else 0) ≤ room) := by
  have h1 := soFar_le room left f (fun t ht => by rw [h.holds t ht]; omega)
  have h2 := soFar_le room left (fun k => if 0 < f k then 1 else 0) (fun t ht => by split <;> omega)
  have h3 := sumF_ones room (fun k => if 0 < f k then 1 else 0) (fun t ht => by split <;> omega)
  rw [h.sums.1] at h1
  refine ⟨⟨h1.1, by omega⟩, h2.1, Int.le_trans h2.2 h3⟩
theorem Tie.held {room : Nat} {ps : List Pc} {f : Int → Int} {s : Int → ByteArray} (h : Tie room ps f s) (x : Int) (h0 : 0 ≤ x) (hR : x < room) (m : Nat) (hs : sumH ps ≤ m) : 0 ≤ f x ∧ f x ≤ m := by
  obtain ⟨t, rfl⟩ := Int.eq_ofNat_of_zero_le h0
  rw [h.holds t (by omega)]
  have hk : t < ps.length := by rw [h.len]; omega
  have h1 := sumH_take ps t hk
  have h2 := sumH_take_le ps (t + 1)
  omega
theorem Tie.has {room : Nat} {ps : List Pc} {f : Int → Int} {s : Int → ByteArray} (h : Tie room ps f s) {w : World} {B n : Nat} (hm : HM w B n f room) (id : Int) : hasB ps id = decide (0 < f id) := by
  by_cases h1 : id < 0 ∨ (room : Int) ≤ id
  · rw [hm.out id h1]
    cases hh : hasB ps id
    · rfl
    · obtain ⟨k, rfl, hk, _⟩ := has_index hh
      rw [h.len] at hk
      omega
  · obtain ⟨k, rfl⟩ := Int.eq_ofNat_of_zero_le (show 0 ≤ id by omega)
    rw [hasB_nat, h.holds k (by omega), Bool.eq_iff_iff]
    simp
    omega
theorem sumH_set : ∀ (ps : List Pc) (k : Nat) (p : Pc), k < ps.length → sumH (ps.set k p) + (ps.getD k Pc.none).h = sumH ps + p.h
  | [], k, p, h => by simp at h
  | q :: ps, 0, p, _ => by simp [sumH]; omega
  | q :: ps, k + 1, p, h => by
    have := sumH_set ps k p (by simpa using h)
    simp only [List.set_cons_succ, sumH, List.getD_cons_succ]
    omega
theorem upd_self {f : Int → Int} {k : Int} {v v' : Int} (h : v = v') : upd f k v = upd f k v' := by rw [h]
/-- Behind a hold: the pool, the model, and what ties them. -/
theorem Tie.hold {room : Nat} {ps : List Pc} {f : Int → Int} {s : Int → ByteArray} (h : Tie room ps f s) (k : Nat) (hk : k < room) (h0 : 0 < (ps.getD k Pc.none).h) :
    Tie room (ps.set k ⟨(ps.getD k Pc.none).v, (ps.getD k Pc.none).l, (ps.getD k Pc.none).h + 1⟩) (upd f k (f k + 1)) s ∧ sumH (ps.set k ⟨(ps.getD k Pc.none).v, (ps.getD k Pc.none).l, (ps.getD k Pc.none).h + 1⟩) = sumH ps + 1 := by
  have h1 := h.set k ⟨(ps.getD k Pc.none).v, (ps.getD k Pc.none).l, (ps.getD k Pc.none).h + 1⟩ hk s (fun _ _ => rfl) (fun _ => h.text k hk h0) (h.short k hk)
  have h2 := sumH_set ps k ⟨(ps.getD k Pc.none).v, (ps.getD k Pc.none).l, (ps.getD k Pc.none).h + 1⟩ (by rw [h.len]; exact hk)
  refine ⟨?_, by simp only at h2; omega⟩
  rw [upd_self (v' := (((ps.getD k Pc.none).h + 1 : Nat) : Int)) (by rw [h.holds k hk]; simp)]
  exact h1
theorem Tie.drop {room : Nat} {ps : List Pc} {f : Int → Int} {s : Int → ByteArray} (h : Tie room ps f s) (k : Nat) (hk : k < room) (h0 : 0 < (ps.getD k Pc.none).h) :
    Tie room (ps.set k (dropPc (ps.getD k Pc.none))) (upd f k (f k - 1)) s ∧ sumH (ps.set k (dropPc (ps.getD k Pc.none))) ≤ sumH ps := by
  have hl : (dropPc (ps.getD k Pc.none)).h = (ps.getD k Pc.none).h - 1 := by
    unfold dropPc
    split
    · rename_i e; rw [e]
    · rfl
  have h1 := h.set k (dropPc (ps.getD k Pc.none)) hk s (fun _ _ => rfl) (fun hp => by
    unfold dropPc at hp ⊢
    split
    · rename_i e; rw [if_pos e] at hp; simp at hp
    · exact h.text k hk h0) (by
    unfold dropPc
    split
    · simp
    · exact h.short k hk)
  have h2 := sumH_set ps k (dropPc (ps.getD k Pc.none)) (by rw [h.len]; exact hk)
  refine ⟨?_, by omega⟩
  rw [upd_self (v' := ((dropPc (ps.getD k Pc.none)).h : Int)) (by rw [h.holds k hk, hl]; omega)]
  exact h1
theorem lowest (ps : List Pc) (h : ¬ ∀ t, t < ps.length → 0 < (ps.getD t Pc.none).h) : ∃ k, k < ps.length ∧ (ps.getD k Pc.none).h = 0 ∧ ∀ t, t < k → 0 < (ps.getD t Pc.none).h := by
  have : ∀ m, m ≤ ps.length → (∀ t, t < m → 0 < (ps.getD t Pc.none).h) ∨ ∃ k, k < m ∧ (ps.getD k Pc.none).h = 0 ∧ ∀ t, t < k → 0 < (ps.getD t Pc.none).h := by
    intro m
    induction m with
    | zero => intro _; exact .inl fun t ht => by omega
    | succ m ih =>
      intro hm
      rcases ih (by omega) with h1 | ⟨k, hk, h2⟩
      · by_cases h0 : (ps.getD m Pc.none).h = 0
        · exact .inr ⟨m, by omega, h0, h1⟩
        · exact .inl fun t ht => by
            rcases (show t < m ∨ t = m by omega) with h3 | rfl
            · exact h1 t h3
            · omega
      · exact .inr ⟨k, by omega, h2⟩
  rcases this ps.length (Nat.le_refl _) with h1 | ⟨k, hk, h2⟩
  · exact absurd h1 h
  · exact ⟨k, hk, h2⟩
theorem usedN_lt : ∀ (ps : List Pc) (k : Nat), k < ps.length → (ps.getD k Pc.none).h = 0 → usedN ps < ps.length
  | [], k, h, _ => by simp at h
  | p :: ps, 0, _, h0 => by
    have h1 : p.h = 0 := h0
    have := usedN_le ps
    simp only [usedN, List.length_cons, h1, if_true]
    omega
  | p :: ps, k + 1, h, h0 => by
    have := usedN_lt ps k (by simpa using h) (by simpa using h0)
    simp only [usedN, List.length_cons]
    split <;> omega
theorem bstr_size (l : List Int) : (bstr l).size = l.length := by simp [bstr, ByteArray.size]
end Go.Proofs.Ytbdolfnnohdmhaa
