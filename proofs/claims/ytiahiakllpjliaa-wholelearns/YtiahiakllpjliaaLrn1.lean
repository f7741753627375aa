/-
  The map of WholeLearns (ports by VLAN and byte), and the stations that are in it. Conditions: those that each theorem names.
-/
import Derived.Test.YtiahiakllpjliaaFdb15
import Derived.Test.YtiahiakllpjliaaFdb12
namespace Go.Proofs.Ytiahiakllpjliaa
open Go.RowKit Go.Maps
set_option linter.unusedVariables false
set_option linter.unusedSimpArgs false
set_option maxRecDepth 20000

@[reducible] def nRow (k : Int × Int) : Array Value := #[.int .i64 k.1, .int .u8 k.2]
def nLits (k : Int × Int) : List Lit := [.int .i64 k.1, .int .u8 k.2]
def nOk (k : Int × Int) : Prop := I64 k.1 ∧ 0 ≤ k.2 ∧ k.2 ≤ 255
theorem rowN : (88 : TypeId) < Try.prog.types.size := of_decide_eq_true (by kernel_rfl)
theorem wideN : (match Try.prog.underlying 88 with | some (.array _ _) | some (.struct _) => true | _ => false) = true := by rw [Try.underlying88]
theorem lawN : WideMaps.KeyLaw Try.prog 88 := deep_law_laid laid12 (m := 3) (by omega) rowN (by kernel_rfl) wideN
theorem cellsN : Try.prog.cellsOf 88 = 2 := by kernel_rfl
theorem keyTypeN : Try.prog.keyType 88 = true := by kernel_rfl
theorem n_lits (d : Nat) (k : Int × Int) (h : nOk k) : Try.prog.keyLits (d + 2) 88 (nRow k).toList = some (nLits k) := by
  have h1 := lit64 d _ h.1
  have h2 := lit8 d _ h.2
  unfold Program.keyLits
  rw [Try.underlying88]
  simp [cellsN, cells12i, cells6_u8, h1, h2, nLits]
theorem n_inv {d : Nat} {cs : List Value} {L : List Lit} (h : Try.prog.keyLits d 88 cs = some L) : ∃ k : Int × Int, nOk k ∧ cs = (nRow k).toList := by
  cases d with
  | zero => simp [Program.keyLits] at h
  | succ d =>
    unfold Program.keyLits at h
    rw [Try.underlying88] at h
    simp only [cellsN] at h
    split at h
    · rename_i hc
      match cs, hc.1 with
      | [v0, v1], _ =>
        simp [cells12i, cells6_u8] at h
        cases h0 : Try.prog.keyLits d 3 [v0] with
        | none => simp [h0] at h
        | some a0 =>
        cases h1 : Try.prog.keyLits d 5 [v1] with
        | none => simp [h0, h1] at h
        | some a1 =>
        obtain ⟨n0, b0, rfl⟩ := leaf64 h0
        obtain ⟨n1, b1, rfl⟩ := leaf8 h1
        exact ⟨(n0, n1), ⟨b0, b1⟩, rfl⟩
    · cases h
theorem n_formed (k : Int × Int) : (Value.agg (nRow k)).formed Try.prog 88 = true := by simp [Value.formed, Try.underlying88, cellsN]
theorem n_key (k : Int × Int) (h : nOk k) : keyOf Try.prog 88 (.agg (nRow k)) = some (.string (keyBytes (nLits k))) := by
  have hd : ∃ d, Try.prog.types.size + 1 = d + 2 := ⟨Try.prog.types.size - 1, by have h2 : (2 : Nat) < Try.prog.types.size := Nat.lt_of_le_of_lt (by decide) rowN; omega⟩
  obtain ⟨d, hd⟩ := hd
  unfold keyOf
  rw [Try.underlying88]
  simp only []
  rw [if_pos (by rw [keyTypeN, n_formed]; rfl), hd]
  show Option.map _ (Try.prog.keyLits (d + 2) 88 (nRow k).toList) = _
  rw [n_lits d k h]
  rfl
theorem nRow_inj {a b : Int × Int} (h : Value.agg (nRow a) = Value.agg (nRow b)) : a = b := by
  obtain ⟨x, a0⟩ := a
  obtain ⟨y, b0⟩ := b
  simp at h
  simp [h]
@[reducible] def nT : MT (Int × Int) Int :=
  { t := 83, k := 88, e := 3, R := oneElem, kv := fun k => .agg (nRow k), kl := fun k => .string (keyBytes (nLits k)), okk := nOk, ev := .int .i64, ed := fun n => .lit (.int .i64 n), oka := I64, d0 := 0 }
theorem nT_good : nT.Good Try.prog where
  ht := Try.underlying83
  keyed := Keyed.of_law lawN
  kmk k hk := n_key k hk
  kinv v l h := by
    obtain ⟨xs, L, rfl, h1, h2⟩ := keyOf_top wideN h
    obtain ⟨k, hk, e⟩ := n_inv h1
    have e2 : xs = nRow k := Array.toList_inj.1 e
    subst e2
    refine ⟨k, hk, rfl, ?_⟩
    rw [n_key k hk] at h
    exact (Option.some.inj h).symm
  kinj a b ha hb h := nRow_inj ((Keyed.of_law lawN).inj (n_key a ha) (by rw [n_key b hb]; exact congrArg some h.symm))
  emk a ha := oneElem_mk a ha
  einv v y h := oneElem_inv v y h
  einj a b h := by simpa using h
  zero w := by kernel_rfl
  zok := ⟨by decide, by decide⟩
/-- The station of a byte. -/
@[reducible] def mB (b : Int) : M6 := ⟨2, b, 0, 0, 0, 0⟩
theorem mB_wf {b : Int} (h : 0 ≤ b ∧ b ≤ 255) : (mB b).wf := by simp only [M6.wf]; omega
theorem mB_inj {a b : Int} (h : mB a = mB b) : a = b := by simpa using h
theorem mB_grp (b : Int) : grpB (mB b) = false := rfl
/-- What is learnt, and where. -/
structure Ln (j : Nat) (l : List Fe) (f : Int × Int → Option Int) : Prop where
  tie : TieF 5 l (lookF l)
  len : l.length ≤ j
  mac : ∀ e ∈ l, ∃ b, (0 ≤ b ∧ b ≤ 255) ∧ e.m = mB b
  vids : ∀ e ∈ l, 1 ≤ e.vid ∧ e.vid ≤ 4094
  look : ∀ v b, nOk (v, b) → f (v, b) = (lookF l (v, mB b)).map Prod.fst
theorem Ln.nil : Ln 0 [] (fun _ => none) := ⟨⟨List.nodup_nil, fun k _ => rfl, fun e he => (by cases he), List.Pairwise.nil⟩, Nat.le_refl _, fun e he => (by cases he), fun e he => (by cases he), fun v b _ => rfl⟩
theorem kept_same {p : Fe → Bool} {l : List Fe} (h : ∀ e ∈ l, p e = false) : kept p l = l := by
  unfold kept
  rw [List.filter_eq_self]
  intro e he
  rw [h e he]; rfl
theorem Ln.fes {j : Nat} {l : List Fe} {f : Int × Int → Option Int} (h : Ln j l f) (hj : j ≤ 90) : Fes l := h.tie.fes (by decide) (by have := h.len; omega)
theorem Ln.learn {j : Nat} {l : List Fe} {f : Int × Int → Option Int} (h : Ln j l f) (hj : j < 90) (vid b port : Int) (hv : 1 ≤ vid ∧ vid ≤ 4094) (hb : 0 ≤ b ∧ b ≤ 255) :
    ∃ l', learnR 100 1000 0 l vid (mB b) port 5 = (0, 0, l') ∧ Ln (j + 1) l' (updK f (vid, b) (some port)) := by
  have hold : kept (oldB 1000 5) l = l := kept_same fun e he => by
    have := h.tie.ok e he
    unfold oldB
    rw [decide_eq_false_iff_not]
    omega
  have ha : aheadL 1000 5 vid (mB b) l = kept (isB vid (mB b)) l := by unfold aheadL; rw [hold]
  have hlen : (kept (isB vid (mB b)) l).length ≤ l.length := List.length_filter_le _ _
  have hl := h.len
  have hk : kOk (vid, mB b) := ⟨⟨by omega, by omega⟩, mB_wf hb⟩
  have hH := h.tie.heard vid (mB b) port hk (by decide)
  refine ⟨kept (isB vid (mB b)) l ++ [⟨vid, mB b, port, 5⟩], ?_, ⟨⟨hH.nd, fun k _ => rfl, hH.ok, hH.sorted⟩, by simp; omega, fun e he => ?_, fun e he => ?_, fun v c hc => ?_⟩⟩
  · unfold learnR
    rw [mB_grp, if_neg (by decide), ha]
    simp only []
    rw [if_neg (by omega)]
  · rcases List.mem_append.1 he with he | he
    · exact h.mac e (mem_kept.1 he).1
    · simp at he; subst he; exact ⟨b, hb, rfl⟩
  · rcases List.mem_append.1 he with he | he
    · exact h.vids e (mem_kept.1 he).1
    · simp at he; subst he; exact hv
  · have hk' : kOk (v, mB c) := ⟨hc.1, mB_wf hc.2⟩
    rw [← hH.look _ hk']
    by_cases e : (v, c) = (vid, b)
    · obtain ⟨rfl, rfl⟩ := Prod.mk.inj e
      rw [updK_same, updK_same]; rfl
    · rw [updK_other _ _ _ _ e, updK_other _ _ _ _ (fun e' => e (by
        obtain ⟨h1, h2⟩ := Prod.mk.inj e'
        rw [h1, mB_inj h2])), h.look v c hc]
theorem Ln.count {j : Nat} {l : List Fe} {f : Int × Int → Option Int} (h : Ln j l f) {w : World} {B c : Nat} (hm : Mp Try.prog nT w B c f) : c = l.length := by
  have hkey : ∀ e ∈ l, e.m = mB e.m.b ∧ (0 ≤ e.m.b ∧ e.m.b ≤ 255) := fun e he => by
    obtain ⟨b, hb, e1⟩ := h.mac e he
    rw [e1]; exact ⟨rfl, hb⟩
  have hn : (l.map (fun e => (e.vid, e.m.b))).Nodup := by
    rw [List.nodup_iff_pairwise_ne, List.pairwise_map]
    have h0 : (l.map keyF).Pairwise (· ≠ ·) := List.nodup_iff_pairwise_ne.1 h.tie.nd
    rw [List.pairwise_map] at h0
    refine h0.imp_of_mem fun {a b} ha hb hne e => hne ?_
    obtain ⟨e1, e2⟩ := Prod.mk.inj e
    unfold keyF
    rw [(hkey a ha).1, (hkey b hb).1, e1, e2]
  have := hm.count nT_good (l.map (fun e => (e.vid, e.m.b))) hn (fun k hk => by
    obtain ⟨e, he, rfl⟩ := List.mem_map.1 hk
    exact ⟨(h.tie.ok e he).1.1, (hkey e he).2⟩) (fun k hk => by
    obtain ⟨v, b⟩ := k
    rw [h.look v b hk, Option.isSome_map, lookF_some]
    constructor
    · intro hm
      obtain ⟨e, he, e1⟩ := List.mem_map.1 hm
      obtain ⟨e2, e3⟩ := Prod.mk.inj e1
      refine List.mem_map.2 ⟨e, he, ?_⟩
      rw [e2, e3]
    · intro hm
      obtain ⟨e, he, e1⟩ := List.mem_map.1 hm
      obtain ⟨e2, e3⟩ := Prod.mk.inj e1
      refine List.mem_map.2 ⟨e, he, ?_⟩
      unfold keyF
      rw [(hkey e he).1, e2, e3])
  rw [this, List.length_map]
/-- What is in the map is found, at its port; and in no other VLAN. -/
theorem Ln.find {j : Nat} {l : List Fe} {f : Int × Int → Option Int} (h : Ln j l f) {v b p : Int} (hk : nOk (v, b)) (hf : f (v, b) = some p) : findR 1000 6 v (mB b) l = (p, 0) ∧ findR 1000 6 (v + 5000) (mB b) l = (0, 21) ∧ 1 ≤ v ∧ v ≤ 4094 := by
  have hl := h.look v b hk
  rw [hf] at hl
  cases hx : lookF l (v, mB b) with
  | none => rw [hx] at hl; cases hl
  | some x =>
    rw [hx] at hl
    obtain ⟨x1, x2⟩ := x
    simp only [Option.map_some, Option.some.injEq] at hl
    subst hl
    have hmem : (v, mB b) ∈ l.map keyF := lookF_some.1 (by rw [hx]; rfl)
    obtain ⟨e, he, e1⟩ := List.mem_map.1 hmem
    have hle := lookF_mem h.tie.nd he
    rw [e1, hx] at hle
    have hse := (h.tie.ok e he).2
    have hve := h.vids e he
    have e2 : e.vid = v := (Prod.mk.inj e1).1
    rw [e2] at hve
    have e3 : x2 = e.seen := (Prod.mk.inj (Option.some.inj hle)).2
    refine ⟨?_, ?_, hve⟩
    · rw [show findR 1000 6 v (mB b) l = findR 1000 6 (v, mB b).1 (v, mB b).2 l from rfl, find_and h.tie.nd 1000 6 (v, mB b), hx]
      simp only [findQ]
      rw [if_pos (by omega)]
    · rw [show findR 1000 6 (v + 5000) (mB b) l = findR 1000 6 (v + 5000, mB b).1 (v + 5000, mB b).2 l from rfl, find_and h.tie.nd 1000 6 (v + 5000, mB b), lookF_none.2]
      · rfl
      · intro hm
        obtain ⟨e', he', e4⟩ := List.mem_map.1 hm
        have := h.vids e' he'
        have e5 : e'.vid = v + 5000 := (Prod.mk.inj e4).1
        omega
end Go.Proofs.Ytiahiakllpjliaa
