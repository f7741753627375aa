/-
  The table beside the statement's own map and clock ('Fz'). Conditions: those that each theorem names.
-/
import Derived.Test.YtiahiakllpjliaaFdb16
import Derived.Test.YtiahiakllpjliaaFdb13
namespace Go.Proofs.Ytiahiakllpjliaa
open Go.RowKit Go.Maps
set_option linter.unusedVariables false
set_option linter.unusedSimpArgs false
set_option maxRecDepth 20000

/-- The blocks that the table leaves alone. -/
def zA (am pn pa B : Nat) (L : List Nat) (k : Nat) : Prop := (k = am ∨ k = pn ∨ k = pa ∨ k = B) ∨ k ∈ L
structure Fz (W w : World) (L : List Nat) (t am pn pa B : Nat) (room age now lost : Int) (l : List Fe) (f : Int × M6 → Option (Int × Int)) (c : Nat) : Prop where
  fo : Fo W.heap.size (zA am pn pa B L) w t room age lost l
  mp : Mp Try.prog kT w B c f
  cm : w.heap[am]? = some (.cells #[.map (some B)] 26 (0, 0))
  cn : w.heap[pn]? = some (.cells #[.int .i64 now] 2 (0, 0))
  ca : w.heap[pa]? = some (.cells #[.int .i64 age] 2 (0, 0))
  ne : am ≠ B ∧ pn ≠ B ∧ pa ≠ B ∧ pn ≠ am ∧ pn ≠ pa
  ge : W.heap.size ≤ am ∧ W.heap.size ≤ pn ∧ W.heap.size ≤ pa ∧ W.heap.size ≤ B
  lne : ∀ k ∈ L, k ≠ B ∧ k ≠ pn
  below : Below W.heap.size W w
section
variable {W w w' : World} {L : List Nat} {t am pn pa B : Nat} {room age now lost : Int} {l : List Fe} {f : Int × M6 → Option (Int × Int)} {c : Nat}
theorem Fz.m0 (h : Fz W w L t am pn pa B room age now lost l f c) : w.cell? ⟨am, 0, none⟩ = some (.map (some B)) := cell_of_row _ _ _ _ _ _ h.cm
theorem Fz.n0 (h : Fz W w L t am pn pa B room age now lost l f c) : w.cell? ⟨pn, 0, none⟩ = some (.int .i64 now) := cell_of_row _ _ _ _ _ _ h.cn
theorem Fz.a0 (h : Fz W w L t am pn pa B room age now lost l f c) : w.cell? ⟨pa, 0, none⟩ = some (.int .i64 age) := cell_of_row _ _ _ _ _ _ h.ca
theorem Fz.nz (h : Fz W w L t am pn pa B room age now lost l f c) : w.frozen? ⟨pn, 0, none⟩ = false := by simp [World.frozen?, h.cn]
theorem Fz.later (h : Fz W w L t am pn pa B room age now lost l f c) (hb : Below w.heap.size w w') : Fz W w' L t am pn pa B room age now lost l f c :=
  ⟨h.fo.below hb, h.mp.below hb, heap_kept hb h.cm, heap_kept hb h.cn, heap_kept hb h.ca, h.ne, h.ge, h.lne, h.below.trans (hb.mono h.below.size)⟩
theorem Fz.add (h : Fz W w L t am pn pa B room age now lost l f c) (hb : Below w.heap.size w w') (k : Nat) (h1 : w.heap.size ≤ k) (h2 : k < w'.heap.size) : Fz W w' (k :: L) t am pn pa B room age now lost l f c := by
  have h0 := h.later hb
  refine ⟨h.fo.more hb fun i hi => ?_, h0.mp, h0.cm, h0.cn, h0.ca, h0.ne, h0.ge, fun i hi => ?_, h0.below⟩
  · rcases hi with e | e
    · exact .inl (.inl e)
    · rcases List.mem_cons.1 e with rfl | e
      · exact .inr ⟨h1, h2⟩
      · exact .inl (.inr e)
  · rcases List.mem_cons.1 hi with rfl | e
    · have e1 := h.mp.lt
      have e2 := (Array.getElem?_eq_some_iff.1 h.cn).1
      omega
    · exact h.lne i e
theorem Fz.drop (h : Fz W w L t am pn pa B room age now lost l f c) : Fz W w [] t am pn pa B room age now lost l f c :=
  ⟨h.fo.sub (fun k hk => by rcases hk with e | e; exact .inl e; cases e), h.mp, h.cm, h.cn, h.ca, h.ne, h.ge, (fun k hk => by cases hk), h.below⟩
/-- A call of the table's. -/
theorem Fz.tab (h : Fz W w L t am pn pa B room age now lost l f c) {lost' : Int} {l' : List Fe} (hF : Fo W.heap.size (zA am pn pa B L) w' t room age lost' l') (hb : Below W.heap.size w w') (hk : Kpt (zA am pn pa B L) w w') : Fz W w' L t am pn pa B room age now lost' l' f c :=
  ⟨hF, h.mp.blk (hk B (.inl (.inr (.inr (.inr rfl))))), (hk am (.inl (.inl rfl))).trans h.cm, (hk pn (.inl (.inr (.inl rfl)))).trans h.cn, (hk pa (.inl (.inr (.inr (.inl rfl))))).trans h.ca, h.ne, h.ge, h.lne, h.below.trans hb⟩
/-- The map is written. -/
theorem Fz.mapc (h : Fz W w L t am pn pa B room age now lost l f c) {c' : Nat} {f' : Int × M6 → Option (Int × Int)} (hm : Mp Try.prog kT w' B c' f') (hC : Ch (· = B) w w') : Fz W w' L t am pn pa B room age now lost l f' c' := by
  obtain ⟨n1, n2, n3, n4, n5⟩ := h.ne
  have hk : ∀ k o, w.heap[k]? = some o → k ≠ B → w'.heap[k]? = some o := fun k o ho hne => (hC.block k (Array.getElem?_eq_some_iff.1 ho).1 hne).trans ho
  exact ⟨h.fo.wrote (hC.mono fun k e => .inl (.inr (.inr (.inr e)))), hm, hk _ _ h.cm n1, hk _ _ h.cn n2, hk _ _ h.ca n3, h.ne, h.ge, h.lne, h.below.trans (hC.belowK (K := W.heap.size) (by rintro k rfl; exact h.ge.2.2.2) h.below.size)⟩
/-- The clock is set. -/
theorem Fz.clock (h : Fz W w L t am pn pa B room age now lost l f c) (now' : Int) : Fz W (w.setCell ⟨pn, 0, none⟩ (.int .i64 now')) L t am pn pa B room age now' lost l f c := by
  obtain ⟨n1, n2, n3, n4, n5⟩ := h.ne
  have ho : ∀ k, k ≠ pn → (w.setCell ⟨pn, 0, none⟩ (.int .i64 now')).heap[k]? = w.heap[k]? := fun k hk => heap_setCell_other w ⟨pn, 0, none⟩ k _ hk
  have hC : Ch (zA am pn pa B L) w (w.setCell ⟨pn, 0, none⟩ (.int .i64 now')) := ⟨rfl, rfl, rfl, by simp [World.setCell], fun k _ hk => ho k (fun e => hk (.inl (.inr (.inl e))))⟩
  refine ⟨h.fo.wrote hC, h.mp.blk (ho B (Ne.symm n2)), (ho am (Ne.symm n4)).trans h.cm, ?_, (ho pa (Ne.symm n5)).trans h.ca, h.ne, h.ge, h.lne, h.below.trans ⟨rfl, rfl, rfl, by simp [World.setCell], fun k hk => ho k (by have := h.ge.2.1; omega)⟩⟩
  rw [heap_setCell_same _ _ _ _ _ _ h.cn]; simp
theorem Fz.locT (h : Fz W w L t am pn pa B room age now lost l f c) {k : Nat} (hk : k ∈ L) {o : Obj} (ho : w.heap[k]? = some o) (hK : Kpt (zA am pn pa B L) w w') : w'.heap[k]? = some o := (hK k (.inr hk)).trans ho
theorem Fz.locM (h : Fz W w L t am pn pa B room age now lost l f c) {k : Nat} (hk : k ∈ L) {o : Obj} (ho : w.heap[k]? = some o) (hC : Ch (· = B) w w') : w'.heap[k]? = some o := (hC.block k (Array.getElem?_eq_some_iff.1 ho).1 (h.lne k hk).1).trans ho
theorem Fz.locN (h : Fz W w L t am pn pa B room age now lost l f c) {k : Nat} (hk : k ∈ L) {o : Obj} (ho : w.heap[k]? = some o) (now' : Int) : (w.setCell ⟨pn, 0, none⟩ (.int .i64 now')).heap[k]? = some o := (heap_setCell_other w ⟨pn, 0, none⟩ k _ (h.lne k hk).2).trans ho
/-- What is old goes from the map. -/
theorem Fz.gone (h : Fz W w L t am pn pa B room age now lost l f c) (hn : timeOk now) (hv : ∀ k p, kOk k → f k = some p → timeOk p.2) (hc : c ≤ 100000) :
    Calls Try.prog 15 #[.pointer (some ⟨am, 0, none⟩), .pointer (some ⟨pn, 0, none⟩), .pointer (some ⟨pa, 0, none⟩)] w fun r w' => ∃ c' : Nat, ∃ f', r = .returned (.int .i64 ((c : Int) - c')) ∧ Fz W w' L t am pn pa B room age now lost l f' c' ∧ (∀ k, kOk k → f' k = (f k).filter (fun x => !oldQ age now x)) ∧ Ch (· = B) w w' :=
  (gone_any age now h.mp h.m0 h.n0 h.a0 ⟨h.ne.1, h.ne.2.1, h.ne.2.2.1⟩ hn hv hc).mono fun r w' ⟨c', f', e, h1, h2, h3⟩ => ⟨c', f', e, h.mapc h1 h3, h2, h3⟩
end
/-- What holds between two acts. -/
structure Sd (room now lost : Int) (k : Nat) (l : List Fe) (f : Int × M6 → Option (Int × Int)) : Prop where
  tie : TieF now l f
  len : (l.length : Int) ≤ room
  rm : 0 ≤ room ∧ room ≤ 1024
  now : 0 ≤ now ∧ now ≤ k * 1099511627776
  lost : 0 ≤ lost ∧ lost ≤ k
section
variable {room age now lost : Int} {k : Nat} {l : List Fe} {f : Int × M6 → Option (Int × Int)}
theorem Sd.time (h : Sd room now lost k l f) (hk : k ≤ 150) : timeOk now := ⟨h.now.1, by have := h.now.2; omega⟩
theorem Sd.fes (h : Sd room now lost k l f) (hk : k ≤ 150) : Fes l := h.tie.fes (by have := h.now.2; omega) (by have := h.len; have := h.rm; omega)
theorem Sd.vals (h : Sd room now lost k l f) (hk : k ≤ 150) : ∀ x p, kOk x → f x = some p → timeOk p.2 := fun x p hx hp => by
  rw [h.tie.look x hx] at hp
  unfold lookF at hp
  cases hf : l.find? (isB x.1 x.2) with
  | none => rw [hf] at hp; cases hp
  | some e =>
    rw [hf] at hp
    cases hp
    have := h.tie.ok e (List.mem_of_find?_eq_some hf)
    have h1 := h.now.2
    have h2 := this.2.2
    exact ⟨this.2.1, by show e.seen ≤ _; omega⟩
theorem Sd.tick (h : Sd room now lost k l f) {d : Int} (hd : 0 ≤ d ∧ d ≤ 1099511627776) : Sd room (now + d) lost (k + 1) l f :=
  ⟨h.tie.later (by omega), h.len, h.rm, by have := h.now; omega, by have := h.lost; omega⟩
theorem kept_le (p : Fe → Bool) (l : List Fe) : (kept p l).length ≤ l.length := List.length_filter_le _ _
theorem Sd.old (h : Sd room now lost k l f) {f' : Int × M6 → Option (Int × Int)} (hf : ∀ k, kOk k → f' k = (f k).filter (fun x => !oldQ age now x)) : Sd room now lost k (kept (oldB age now) l) f' :=
  ⟨h.tie.rid (p := oldB age now) (q := oldQ age now) (fun e => rfl) hf, by have := h.len; have := kept_le (oldB age now) l; omega, h.rm, h.now, h.lost⟩
theorem Sd.at (h : Sd room now lost k l f) (port : Int) {f' : Int × M6 → Option (Int × Int)} (hf : ∀ k, kOk k → f' k = (f k).filter (fun x => !atQ port x)) : Sd room now lost k (kept (atB port) l) f' :=
  ⟨h.tie.rid (p := atB port) (q := atQ port) (fun e => rfl) hf, by have := h.len; have := kept_le (atB port) l; omega, h.rm, h.now, h.lost⟩
/-- A station is heard, and there is no room for it. -/
theorem Sd.full {f0 : Int × M6 → Option (Int × Int)} (h : Sd room now lost (k + 1) (kept (oldB age now) l) f0) (hl : lost ≤ k) (vid : Int) (m : M6) (port : Int) (hg : grpB m = false) (hk : kOk (vid, m)) (hno : (f0 (vid, m)).isSome = false) (hr : room ≤ ((kept (oldB age now) l).length : Int)) :
    learnR room age lost l vid m port now = (20, lost + 1, kept (oldB age now) l) ∧ Sd room now (lost + 1) (k + 1) (kept (oldB age now) l) f0 := by
  have hn : lookF (kept (oldB age now) l) (vid, m) = none := by
    rw [← h.tie.look _ hk]
    cases hf : f0 (vid, m) with
    | none => rfl
    | some x => rw [hf] at hno; cases hno
  have ha : aheadL age now vid m l = kept (oldB age now) l := (kept_isB h.tie.nd (vid, m)).1 hn
  refine ⟨?_, ⟨h.tie, h.len, h.rm, h.now, by have := h.lost; omega⟩⟩
  unfold learnR
  rw [hg, if_neg (by decide), ha]
  simp only []
  rw [if_pos hr]
theorem Sd.heard {f0 : Int × M6 → Option (Int × Int)} (h : Sd room now lost k (kept (oldB age now) l) f0) (vid : Int) (m : M6) (port : Int) (hg : grpB m = false) (hk : kOk (vid, m)) (hr : (f0 (vid, m)).isSome = true ∨ ((kept (oldB age now) l).length : Int) < room) :
    ∃ l', learnR room age lost l vid m port now = (0, lost, l') ∧ Sd room now lost k l' (updK f0 (vid, m) (some (port, now))) := by
  have hlen : ((aheadL age now vid m l).length : Int) < room := by
    have hll := h.len
    rcases hr with e | e
    · rw [h.tie.look _ hk] at e
      have h1 : (kept (isB vid m) (kept (oldB age now) l)).length + 1 = _ := (kept_isB h.tie.nd (vid, m)).2 e
      unfold aheadL
      omega
    · have := kept_le (isB vid m) (kept (oldB age now) l)
      unfold aheadL
      omega
  refine ⟨aheadL age now vid m l ++ [⟨vid, m, port, now⟩], ?_, ⟨h.tie.heard vid m port hk h.now.1, ?_, h.rm, h.now, h.lost⟩⟩
  · unfold learnR
    rw [hg, if_neg (by decide)]
    simp only []
    rw [if_neg (by omega)]
  · have : (aheadL age now vid m l ++ [(⟨vid, m, port, now⟩ : Fe)]).length = (aheadL age now vid m l).length + 1 := by simp
    rw [this]
    omega
end
theorem learn_grp {room age lost vid port now : Int} {l : List Fe} {m : M6} (hg : grpB m = true) : learnR room age lost l vid m port now = (4, lost, l) := by unfold learnR; rw [hg, if_pos rfl]
end Go.Proofs.Ytiahiakllpjliaa
