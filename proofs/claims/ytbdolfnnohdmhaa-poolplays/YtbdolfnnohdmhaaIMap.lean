/-
  A map of numbers by numbers that a law makes ('HM'), one of texts by numbers ('FM'), and ranging over the first ('HR'). Conditions: those that each theorem names.
-/
import Derived.Test.YtbdolfnnohdmhaaChecked
import Derived.Maps.RangeWalk
import Derived.Maps.OwnOps
import Derived.Maps.StringElems
import Derived.WalkKit
import Derived.Below
namespace Go.Proofs.Ytbdolfnnohdmhaa
open Go.RowKit Go.Maps

theorem kInt : Keyed Try.prog 3 := int_keyed Try.underlying3
theorem zInt (w : World) : (zeroValue 3).run Try.prog w = .ok (.int .i64 0) w := by kernel_rfl
theorem zStr (w : World) : (zeroValue 9).run Try.prog w = .ok (.string ByteArray.empty) w := by kernel_rfl
theorem wfI {n : Int} (h1 : -9223372036854775808 ≤ n) (h2 : n ≤ 9223372036854775807) : (Lit.int .i64 n).wf = true := by simp [Lit.wf, IntKind.min, IntKind.max, IntKind.signed, IntKind.bits]; omega

/-- Block B is a map that gives f k at k (nought where there is no entry), and has entries from 0 below R alone. -/
def HM (w : World) (B n : Nat) (f : Int → Int) (R : Int) : Prop :=
  ∃ D : DataW Unit, w.ownsMap Try.prog 3 (plainElem Try.prog 3) B n D ∧ (∀ k, D.atKey (.int .i64 k) (.lit (.int .i64 0)) = .lit (.int .i64 (f k))) ∧ ∀ k, Maps.has D (.int .i64 k) = true → 0 ≤ k ∧ k < R
theorem HM.made (w : World) (R : Int) : HM (w.alloc (.map #[] 0)) w.heap.size 0 (fun _ => 0) R :=
  ⟨.map [], World.ownsMap_made w _ _ _, fun _ => rfl, fun k h => by simp [Maps.has] at h⟩
theorem HM.blk {w w' : World} {B n : Nat} {f : Int → Int} {R : Int} (h : HM w B n f R) (e : w'.heap[B]? = w.heap[B]?) : HM w' B n f R := by
  obtain ⟨D, ⟨es, c, hb, r⟩, h2, h3⟩ := h
  exact ⟨D, ⟨es, c, e.trans hb, r⟩, h2, h3⟩
theorem HM.lt {w : World} {B n : Nat} {f : Int → Int} {R : Int} (h : HM w B n f R) : B < w.heap.size := by
  obtain ⟨D, h1, _⟩ := h; exact h1.lt
theorem HM.look {w : World} {B n : Nat} {f : Int → Int} {R : Int} (h : HM w B n f R) (k : Int) (hk : (Lit.int .i64 k).wf = true) :
    (Instr.lookup 41 (.map (some B)) (.int .i64 k) false).run Try.prog w = .ok (.int .i64 (f k)) w := by
  obtain ⟨D, h1, h2, _⟩ := h
  obtain ⟨c, hrun, hat, _⟩ := h1.lookup_int kInt Try.underlying41 Try.underlying3 (zInt w) (keyOf_int_mk Try.underlying3 hk)
  rw [h2 k] at hat
  simp only [DataW.lit.injEq, Lit.int.injEq, true_and] at hat
  rw [hrun, hat]
/-- Where there can be no entry, it gives nought. -/
theorem HM.out {w : World} {B n : Nat} {f : Int → Int} {R : Int} (h : HM w B n f R) (k : Int) (hk : k < 0 ∨ R ≤ k) : f k = 0 := by
  obtain ⟨D, h1, h2, h3⟩ := h
  have hn : Maps.has D (.int .i64 k) = false := by
    cases hh : Maps.has D (.int .i64 k)
    · rfl
    · have := h3 k hh; omega
  have := h2 k
  rw [atKey_of_not_has hn] at this
  simpa using this.symm
def upd {α : Type} (f : Int → α) (k : Int) (v : α) : Int → α := fun i => if i = k then v else f i
theorem HM.put {w : World} {B n : Nat} {f : Int → Int} {R : Int} (h : HM w B n f R) (k v : Int) (hk : (Lit.int .i64 k).wf = true) (hv : (Lit.int .i64 v).wf = true) (h0 : 0 ≤ k) (hR : k < R) (hn : n < maxLen) :
    ∃ w', (Instr.mapUpdate 41 (.map (some B)) (.int .i64 k) (.int .i64 v)).run Try.prog w = .ok () w' ∧ HM w' B (n + 1) (upd f k v) R ∧ w.grownBy w' (some B) := by
  obtain ⟨D, h1, h2, h3⟩ := h
  obtain ⟨w', hrun, ho, hg⟩ := h1.update kInt Try.underlying41 hn (keyOf_int_mk Try.underlying3 hk) (plainElem_int Try.underlying3 hv)
  refine ⟨w', hrun, ⟨_, ho, fun i => ?_, fun i hi => ?_⟩, hg⟩
  · unfold upd
    split
    · rename_i e; subst e; rw [atKey_put_same (k := .int .i64 i) h1.isMap (show WideAt.IsKeyLit (.int .i64 i) from trivial)]
    · rename_i e; rw [atKey_put_other (by simpa using e), h2]
  · by_cases e : i = k
    · subst e; exact ⟨h0, hR⟩
    · rw [has_put_other (by simpa using e)] at hi; exact h3 i hi
/-- Block B is a map that gives the text s k at k. -/
def FM (w : World) (B n : Nat) (s : Int → ByteArray) : Prop :=
  ∃ D : DataW Unit, w.ownsMap Try.prog 3 (plainElem Try.prog 9) B n D ∧ ∀ k, D.atKey (.int .i64 k) (.lit (.string [])) = .lit (.string (s k).data.toList)
theorem FM.made (w : World) : FM (w.alloc (.map #[] 0)) w.heap.size 0 (fun _ => ByteArray.empty) :=
  ⟨.map [], World.ownsMap_made w _ _ _, fun _ => rfl⟩
theorem FM.blk {w w' : World} {B n : Nat} {s : Int → ByteArray} (h : FM w B n s) (e : w'.heap[B]? = w.heap[B]?) : FM w' B n s := by
  obtain ⟨D, ⟨es, c, hb, r⟩, h2⟩ := h
  exact ⟨D, ⟨es, c, e.trans hb, r⟩, h2⟩
theorem FM.lt {w : World} {B n : Nat} {s : Int → ByteArray} (h : FM w B n s) : B < w.heap.size := by
  obtain ⟨D, h1, _⟩ := h; exact h1.lt
theorem FM.look {w : World} {B n : Nat} {s : Int → ByteArray} (h : FM w B n s) (k : Int) (hk : (Lit.int .i64 k).wf = true) :
    (Instr.lookup 40 (.map (some B)) (.int .i64 k) false).run Try.prog w = .ok (.string (s k)) w := by
  obtain ⟨D, h1, h2⟩ := h
  obtain ⟨v, ps, hrun, hv⟩ := h1.lookup kInt Try.underlying40 (zStr w) (plainElem_string Try.underlying9 (by decide)) (keyOf_int_mk Try.underlying3 hk)
  obtain ⟨c, rfl, hc, _⟩ := plainElem_string_inv Try.underlying9 hv
  simp only [Prod.mk.injEq] at hc
  have e := hc.1
  rw [show (ByteArray.empty.data.toList : List UInt8) = [] from rfl, h2 k] at e
  simp only [DataW.lit.injEq, Lit.string.injEq] at e
  have : s k = c := by
    cases hs : s k; cases c
    simp_all
  rw [hrun, this]
theorem FM.put {w : World} {B n : Nat} {s : Int → ByteArray} (h : FM w B n s) (k : Int) (v : ByteArray) (hk : (Lit.int .i64 k).wf = true) (hv : v.size ≤ maxLen) (hn : n < maxLen) :
    ∃ w', (Instr.mapUpdate 40 (.map (some B)) (.int .i64 k) (.string v)).run Try.prog w = .ok () w' ∧ FM w' B (n + 1) (upd s k v) ∧ w.grownBy w' (some B) := by
  obtain ⟨D, h1, h2⟩ := h
  obtain ⟨w', hrun, ho, hg⟩ := h1.update kInt Try.underlying40 hn (keyOf_int_mk Try.underlying3 hk) (plainElem_string Try.underlying9 hv)
  refine ⟨w', hrun, ⟨_, ho, fun i => ?_⟩, hg⟩
  unfold upd
  split
  · rename_i e; subst e; rw [atKey_put_same (k := .int .i64 i) h1.isMap (show WideAt.IsKeyLit (.int .i64 i) from trivial)]
  · rename_i e; rw [atKey_put_other (by simpa using e), h2]
/-- Ranging over such a map: block r is the iterator, 'left k': the entry at k is still to come. -/
def HR (w : World) (B r n : Nat) (f : Int → Int) (R : Int) (left : Lit → Bool) (cnt : Nat) : Prop :=
  ∃ D : DataW Unit, w.ranges Try.prog 3 (plainElem Try.prog 3) B r n D left cnt ∧ (∀ k, D.atKey (.int .i64 k) (.lit (.int .i64 0)) = .lit (.int .i64 (f k))) ∧ (∀ k, Maps.has D (.int .i64 k) = true → 0 ≤ k ∧ k < R)
theorem HR.hm {w : World} {B r n : Nat} {f : Int → Int} {R : Int} {left : Lit → Bool} {cnt : Nat} (h : HR w B r n f R left cnt) : HM w B n f R := by
  obtain ⟨D, h1, h2, h3⟩ := h; exact ⟨D, h1.owns, h2, h3⟩
theorem HR.left_eq {w : World} {B r n : Nat} {f : Int → Int} {R : Int} {left : Lit → Bool} {cnt : Nat} (h : HR w B r n f R left cnt) : w.rangeLeft B r = cnt := by
  obtain ⟨D, h1, _⟩ := h; exact h1.left_eq
/-- The start. -/
theorem wpList_HM_range {w : World} {ops : Array Oper} {rest : List Oper} {o : Oper} {a : Act} {Q : Exit → Act → World → Prop} (hg : o.guard = none) (m : Operand) (hop : o.op = Op.range 41 m) (B n : Nat) (f : Int → Int) (R : Int) (hm : a.eval m = .map (some B)) (h : HM w B n f R)
    (hK : ∀ w' left cnt, HR w' B w.heap.size n f R left cnt → (∀ k, left (.int .i64 k) = false → f k = 0) → w.grownBy w' none → w'.heap.size = w.heap.size + 1 → wpList Try.prog ops Q rest (a.put o.dst (.pointer (some ⟨w.heap.size, 0, none⟩))) w') : wpList Try.prog ops Q (o :: rest) a w := by
  obtain ⟨D, h1, h2, h3⟩ := h
  refine wpList_range_own _ hg m 41 hop 3 3 kInt Try.underlying41 _ B n D hm h1 fun w' hr hgr hs => ?_
  refine hK w' _ _ ⟨D, hr, h2, h3⟩ (fun k hk => ?_) hgr hs
  have := h2 k
  rw [atKey_of_not_has hk] at this
  simpa using this.symm
/-- A step: an entry that was still to come, or the end. -/
theorem wpList_HR_next {w : World} {ops : Array Oper} {rest : List Oper} {o : Oper} {a : Act} {Q : Exit → Act → World → Prop} (hg : o.guard = none) (it : Operand) (hop : o.op = Op.next it false) (B r n : Nat) (f : Int → Int) (R : Int) (left : Lit → Bool) (cnt : Nat) (hit : a.eval it = .pointer (some ⟨r, 0, none⟩)) (h : HR w B r n f R left cnt)
    (hDone : (∀ kl, left kl = false) → wpList Try.prog ops Q rest (a.put o.dst (.tuple #[.bool false])) w)
    (hMore : ∀ (x : Int) (w' : World) (cnt' : Nat), left (.int .i64 x) = true → 0 ≤ x → x < R → HR w' B r n f R (fun z => left z && !z.sameKey (.int .i64 x)) cnt' → cnt' < cnt → w.grownBy w' (some r) → w'.heap.size = w.heap.size →
      (Instr.entry (.pointer (some ⟨r, 0, none⟩))).run Try.prog w' = .ok (.tuple #[.int .i64 x, .int .i64 (f x)]) w' → wpList Try.prog ops Q rest (a.put o.dst (.tuple #[.bool true, .int .i64 x, .int .i64 (f x)])) w') : wpList Try.prog ops Q (o :: rest) a w := by
  obtain ⟨D, h1, h2, h3⟩ := h
  refine wpList_next_ranges_ii _ hg it hop 3 3 .i64 .i64 kInt Try.underlying3 Try.underlying3 B r n D left cnt hit h1 (fun _ hl => hDone hl) ?_
  intro x c w' cnt' hwx hwc hlx hat hrg hlt hgr hsz hen
  have hc : c = f x := by
    have := (hat (.lit (.int .i64 0))).symm.trans (h2 x)
    simpa using this
  subst hc
  obtain ⟨p, q⟩ := h3 x (has_true_of_atKey hat)
  exact hMore x w' cnt' hlx p q ⟨D, hrg, h2, h3⟩ hlt hgr hsz hen
/-- A sum over the first R numbers. -/
def sumF : Nat → (Nat → Int) → Int
  | 0, _ => 0
  | R + 1, g => sumF R g + g R
theorem sumF_congr {g g' : Nat → Int} : ∀ R, (∀ t, t < R → g t = g' t) → sumF R g = sumF R g'
  | 0, _ => rfl
  | R + 1, h => by rw [sumF, sumF, sumF_congr R (fun t ht => h t (by omega)), h R (by omega)]
theorem sumF_zero {g : Nat → Int} (R : Nat) (h : ∀ t, t < R → g t = 0) : sumF R g = 0 := by
  induction R with
  | zero => rfl
  | succ R ih => rw [sumF, ih (fun t ht => h t (by omega)), h R (by omega)]; rfl
theorem sumF_one {g g' : Nat → Int} (x : Nat) (d : Int) : ∀ R, x < R → g' x = g x + d → (∀ t, t ≠ x → g' t = g t) → sumF R g' = sumF R g + d
  | 0, hx, _, _ => by omega
  | R + 1, hx, h1, h2 => by
    rw [sumF, sumF]
    rcases (show x = R ∨ x < R by omega) with rfl | h
    · rw [h1, sumF_congr x (fun t ht => h2 t (by omega))]; omega
    · rw [sumF_one x d R h h1 h2, h2 R (by omega)]; omega
/-- What has come so far of a sum over the entries. -/
def soFar (R : Nat) (left : Lit → Bool) (g : Int → Int) : Int := sumF R fun t => if left (.int .i64 t) = true then 0 else g t
theorem soFar_step (R : Nat) (left : Lit → Bool) (g : Int → Int) (x : Int) (hl : left (.int .i64 x) = true) (h0 : 0 ≤ x) (hR : x < R) : soFar R (fun z => left z && !z.sameKey (.int .i64 x)) g = soFar R left g + g x := by
  obtain ⟨x, rfl⟩ := Int.eq_ofNat_of_zero_le h0
  refine sumF_one x (g x) R (by omega) ?_ (fun t ht => ?_)
  · simp [Lit.sameKey, hl]
  · have : ¬ ((t : Int) = (x : Int)) := by omega
    simp [Lit.sameKey, this]
theorem soFar_start (R : Nat) (left : Lit → Bool) (g : Int → Int) (h : ∀ k, left (.int .i64 k) = false → g k = 0) : soFar R left g = 0 := by
  refine sumF_zero R (fun t _ => ?_)
  split
  · rfl
  · rename_i hn; exact h t (Bool.eq_false_iff.2 hn)
theorem soFar_end (R : Nat) (left : Lit → Bool) (g : Int → Int) (h : ∀ kl, left kl = false) : soFar R left g = sumF R fun t => g t :=
  sumF_congr R (fun t _ => by simp [h])
end Go.Proofs.Ytbdolfnnohdmhaa
