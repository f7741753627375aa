/-
  The maps of layer 12's statements: stations by VLAN and address. Conditions: those that each theorem names.
-/
import Derived.Test.YtiahiakllpjliaaFdb12
import Derived.DeepKeys4
namespace Go.Proofs.Ytiahiakllpjliaa
open Go.RowKit Go.Maps
set_option linter.unusedVariables false
set_option linter.unusedSimpArgs false
set_option maxRecDepth 20000

@[reducible] def kRow (k : Int × M6) : Array Value := #[.int .i64 k.1, .int .u8 k.2.a, .int .u8 k.2.b, .int .u8 k.2.c, .int .u8 k.2.d, .int .u8 k.2.e, .int .u8 k.2.f]
def kLits (k : Int × M6) : List Lit := .int .i64 k.1 :: k.2.lits
def kOk (k : Int × M6) : Prop := I64 k.1 ∧ k.2.wf
@[reducible] def eV (p : Int × Int) : Value := .agg #[.int .i64 p.1, .int .i64 p.2]
theorem laid12 : laidOutB Try.prog = true := by kernel_rfl
theorem row12 : (32 : TypeId) < Try.prog.types.size := of_decide_eq_true (by kernel_rfl)
theorem wide12 : (match Try.prog.underlying 32 with | some (.array _ _) | some (.struct _) => true | _ => false) = true := by rw [Try.underlying32]
theorem law12 : WideMaps.KeyLaw Try.prog 32 := deep_law_laid laid12 (m := 3) (by omega) row12 (by kernel_rfl) wide12
theorem cells12 : Try.prog.cellsOf 32 = 7 := by kernel_rfl
theorem cells12i : Try.prog.cellsOf 3 = 1 := by kernel_rfl
theorem keyType12 : Try.prog.keyType 32 = true := by kernel_rfl
theorem lit64 (d : Nat) (n : Int) (h : I64 n) : Try.prog.keyLits (d + 1) 3 [.int .i64 n] = some [.int .i64 n] := by
  simp [Program.keyLits, Try.underlying3, wfI h.1 h.2]
theorem k_lits (d : Nat) (k : Int × M6) (h : kOk k) : Try.prog.keyLits (d + 3) 32 (kRow k).toList = some (kLits k) := by
  have h1 := lit64 (d + 1) _ h.1
  have h2 := m6_lits d _ h.2
  unfold Program.keyLits
  rw [Try.underlying32]
  simp [cells12, cells12i, cells6_mac, h1, h2, kLits]
theorem leaf64 {d : Nat} {v : Value} {L : List Lit} (h : Try.prog.keyLits d 3 [v] = some L) : ∃ n, I64 n ∧ v = .int .i64 n := by
  cases d with
  | zero => simp [Program.keyLits] at h
  | succ d =>
    unfold Program.keyLits at h
    rw [Try.underlying3] at h
    cases v <;> simp at h
    rename_i q n
    obtain ⟨⟨rfl, hw⟩, _⟩ := h
    refine ⟨n, ?_, rfl⟩
    simp [Lit.wf, IntKind.min, IntKind.max, IntKind.signed, IntKind.bits] at hw
    exact hw
theorem leaf8 {d : Nat} {v : Value} {L : List Lit} (h : Try.prog.keyLits d 5 [v] = some L) : ∃ n : Int, (0 ≤ n ∧ n ≤ 255) ∧ v = .int .u8 n := by
  cases d with
  | zero => simp [Program.keyLits] at h
  | succ d =>
    unfold Program.keyLits at h
    rw [Try.underlying5] at h
    cases v <;> simp at h
    rename_i q n
    obtain ⟨⟨rfl, hw⟩, _⟩ := h
    refine ⟨n, ?_, rfl⟩
    simp [Lit.wf, IntKind.min, IntKind.max, IntKind.signed, IntKind.bits] at hw
    exact hw
theorem mac_inv {d : Nat} {v0 v1 v2 v3 v4 v5 : Value} {L : List Lit} (h : Try.prog.keyLits d 28 [v0, v1, v2, v3, v4, v5] = some L) : ∃ m : M6, m.wf ∧ [v0, v1, v2, v3, v4, v5] = m.row.toList := by
  cases d with
  | zero => simp [Program.keyLits] at h
  | succ d =>
    unfold Program.keyLits at h
    rw [Try.underlying28] at h
    simp [cells6_mac, cells6_u8, List.range_succ] at h
    cases h0 : Try.prog.keyLits d 5 [v0] with
    | none => simp [h0] at h
    | some a0 =>
    cases h1 : Try.prog.keyLits d 5 [v1] with
    | none => simp [h0, h1] at h
    | some a1 =>
    cases h2 : Try.prog.keyLits d 5 [v2] with
    | none => simp [h0, h1, h2] at h
    | some a2 =>
    cases h3 : Try.prog.keyLits d 5 [v3] with
    | none => simp [h0, h1, h2, h3] at h
    | some a3 =>
    cases h4 : Try.prog.keyLits d 5 [v4] with
    | none => simp [h0, h1, h2, h3, h4] at h
    | some a4 =>
    cases h5 : Try.prog.keyLits d 5 [v5] with
    | none => simp [h0, h1, h2, h3, h4, h5] at h
    | some a5 =>
    obtain ⟨n0, b0, rfl⟩ := leaf8 h0
    obtain ⟨n1, b1, rfl⟩ := leaf8 h1
    obtain ⟨n2, b2, rfl⟩ := leaf8 h2
    obtain ⟨n3, b3, rfl⟩ := leaf8 h3
    obtain ⟨n4, b4, rfl⟩ := leaf8 h4
    obtain ⟨n5, b5, rfl⟩ := leaf8 h5
    exact ⟨⟨n0, n1, n2, n3, n4, n5⟩, ⟨b0, b1, b2, b3, b4, b5⟩, rfl⟩
theorem k_inv {d : Nat} {cs : List Value} {L : List Lit} (h : Try.prog.keyLits d 32 cs = some L) : ∃ k : Int × M6, kOk k ∧ cs = (kRow k).toList := by
  cases d with
  | zero => simp [Program.keyLits] at h
  | succ d =>
    unfold Program.keyLits at h
    rw [Try.underlying32] at h
    simp only [cells12] at h
    split at h
    · rename_i hc
      match cs, hc.1 with
      | [v0, v1, v2, v3, v4, v5, v6], _ =>
        simp [cells12i, cells6_mac] at h
        cases h0 : Try.prog.keyLits d 3 [v0] with
        | none => simp [h0] at h
        | some a0 =>
        cases h1 : Try.prog.keyLits d 28 [v1, v2, v3, v4, v5, v6] with
        | none => simp [h0, h1] at h
        | some a1 =>
        obtain ⟨n0, b0, rfl⟩ := leaf64 h0
        obtain ⟨m, hm, e⟩ := mac_inv h1
        simp only [M6.row, List.cons.injEq, and_true] at e
        obtain ⟨rfl, rfl, rfl, rfl, rfl, rfl⟩ := e
        exact ⟨(n0, m), ⟨b0, hm⟩, rfl⟩
    · cases h
theorem k_formed (k : Int × M6) : (Value.agg (kRow k)).formed Try.prog 32 = true := by simp [Value.formed, Try.underlying32, cells12]
theorem k_key (k : Int × M6) (h : kOk k) : keyOf Try.prog 32 (.agg (kRow k)) = some (.string (keyBytes (kLits k))) := by
  have hd : ∃ d, Try.prog.types.size + 1 = d + 3 := ⟨Try.prog.types.size - 2, by have h2 : (2 : Nat) < Try.prog.types.size := Nat.lt_of_le_of_lt (by decide) row12; omega⟩
  obtain ⟨d, hd⟩ := hd
  unfold keyOf
  rw [Try.underlying32]
  simp only []
  rw [if_pos (by rw [keyType12, k_formed]; rfl), hd]
  show Option.map _ (Try.prog.keyLits (d + 3) 32 (kRow k).toList) = _
  rw [k_lits d k h]
  rfl
theorem kRow_inj {a b : Int × M6} (h : Value.agg (kRow a) = Value.agg (kRow b)) : a = b := by
  obtain ⟨x, ⟨a0, a1, a2, a3, a4, a5⟩⟩ := a
  obtain ⟨y, ⟨b0, b1, b2, b3, b4, b5⟩⟩ := b
  simp at h
  simp [h]
@[reducible] def kT : MT (Int × M6) (Int × Int) :=
  { t := 26, k := 32, e := 34, R := twoElem, kv := fun k => .agg (kRow k), kl := fun k => .string (keyBytes (kLits k)), okk := kOk, ev := eV, ed := fun p => .agg [.lit (.int .i64 p.1), .lit (.int .i64 p.2)], oka := fun _ => True, d0 := (0, 0) }
theorem kT_good : kT.Good Try.prog where
  ht := Try.underlying26
  keyed := Keyed.of_law law12
  kmk k hk := k_key k hk
  kinv v l h := by
    obtain ⟨xs, L, rfl, h1, h2⟩ := keyOf_top wide12 h
    obtain ⟨k, hk, e⟩ := k_inv h1
    have e2 : xs = kRow k := Array.toList_inj.1 e
    subst e2
    refine ⟨k, hk, rfl, ?_⟩
    rw [k_key k hk] at h
    exact (Option.some.inj h).symm
  kinj a b ha hb h := kRow_inj ((Keyed.of_law law12).inj (k_key a ha) (by rw [k_key b hb]; exact congrArg some h.symm))
  emk a ha := rfl
  einv v y h := by obtain ⟨p, h1, h2⟩ := twoElem_inv v y h; exact ⟨p, trivial, h1, h2⟩
  einj a b h := by
    obtain ⟨a1, a2⟩ := a
    obtain ⟨b1, b2⟩ := b
    simp at h
    simp [h]
  zero w := by kernel_rfl
  zok := trivial
end Go.Proofs.Ytiahiakllpjliaa
