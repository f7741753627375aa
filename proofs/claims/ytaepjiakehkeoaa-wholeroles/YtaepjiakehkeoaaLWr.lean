/-
  The walk of WholeRoles. Conditions: those that the theorem names.
-/
import Derived.Test.YtaepjiakehkeoaaLTd
namespace Go.Proofs.Ytaepjiakehkeoaa
open Go.RowKit
set_option linter.unusedVariables false
set_option maxRecDepth 20000

def cfgM (v : Vc) : Bp := ⟨0, v.root, v.cost, v.bridge, v.port, false, false, false, false, false, false, 0, 0, 5120, 0, 0⟩
def fitV (v : Vc) : Prop := v.cost ≤ 4294967295 ∧ 0 ≤ v.port ∧ v.port ≤ 65535
theorem cfg_check {v : Vc} (h : fitV v) : bcheckE (cfgM v) = 0 := by
  obtain ⟨h1, h2, h3⟩ := h
  have hn : numsB (cfgM v) = true := by
    simp [numsB, cfgM, Bp.five, pairB]
    omega
  unfold bcheckE
  rw [if_neg (by simp [cfgM]), if_neg (by simp [cfgM]), if_neg (by rw [hn]; simp [cfgM, tellsB]), if_neg (by simp [cfgM])]
def wrP (i : Nat) : Tp := ⟨⟨(i : Int) + 1, 7, false, false, Vc.zero⟩, false, 0, 0, 0, 0, 0, 0, false⟩
def hrP (i : Nat) (v : Vc) : Rp := ⟨(i : Int) + 1, 7, true, true, v⟩
def wrT (T : Tt) (i : Nat) (v : Vc) : Tt := recvT (linkT T i true) i (cfgM v)
theorem setP_b (T : Tt) (i : Nat) (p : Tp) (h : p.b = (T.at i).b) (j : Nat) : ((setP T i p).at j).b = (T.at j).b := by
  by_cases hi : i < T.ps.length
  · rw [setP_at T i j p hi]
    split
    · rename_i e; rw [e]; exact h
    · rfl
  · have : setP T i p = T := by unfold setP; rw [List.set_eq_of_length_le (by omega)]
    rw [this]
/-- What a port was told, behind one message. -/
theorem wrT_b {T : Tt} (i : Nat) (hi : i < T.ps.length) (hu : (T.at i).b.up = false) {v : Vc} (hv : fitV v) (j : Nat) : ((wrT T i v).at j).b = if j = i then ⟨(T.at i).b.id, (T.at i).b.cost, true, true, v⟩ else (T.at j).b := by
  have hl : (linkT T i true).ps.length = T.ps.length := by
    unfold linkT
    split
    · rw [renewT_len, forgetT_len, setP_len]
    · rfl
  have hcl : 0 ≤ (i : Int) ∧ (i : Int) < T.ps.length ∧ (T.at (i : Int).toNat).b.up ≠ true := ⟨by omega, by omega, by rw [show (i : Int).toNat = i by omega, hu]; simp⟩
  have hlb : ∀ k, ((linkT T i true).at k).b = if k = i then ⟨(T.at i).b.id, (T.at i).b.cost, true, false, Vc.zero⟩ else (T.at k).b := fun k => by
    unfold linkT
    rw [if_pos hcl, renew_b]
    have e : (forgetT (setP T (i : Int).toNat (dropP (setUp (T.at (i : Int).toNat) true))) (i : Int).toNat).at k = (setP T i (dropP (setUp (T.at i) true))).at k := rfl
    rw [e, setP_at T i k _ hi]
    split <;> rfl
  unfold wrT
  generalize linkT T i true = U at *
  have hbi := hlb i
  rw [if_pos rfl] at hbi
  have hiU : i < U.ps.length := by rw [hl]; exact hi
  have hcr : 0 ≤ (i : Int) ∧ (i : Int) < U.ps.length ∧ (U.at (i : Int).toNat).b.up = true ∧ bcheckE (cfgM v) = 0 := ⟨by omega, by omega, by rw [show (i : Int).toNat = i by omega, hbi], cfg_check hv⟩
  unfold recvT
  rw [if_pos hcr, show (i : Int).toNat = i by omega]
  unfold heardT
  rw [if_neg (by simp [cfgM])]
  have hat : (setP U i (plainP (U.at i))).at i = plainP (U.at i) := (setP_at U i i _ hiU).trans (if_pos rfl)
  have hUb : ∀ k, ((setP U i (plainP (U.at i))).at k).b = (U.at k).b := setP_b U i (plainP (U.at i)) rfl
  have hUl : i < (setP U i (plainP (U.at i))).ps.length := by rw [setP_len]; exact hiU
  generalize setP U i (plainP (U.at i)) = X at *
  have hXi := hUb i
  rw [hbi] at hXi
  unfold midR
  rw [if_neg (by simp [cfgM]), if_neg (by simp [cfgM])]
  have hto : toldT X i (cfgM v) = renewT (setP X i (tookP (X.at i) (cfgM v))) false := by
    unfold toldT
    rw [if_pos (by rw [hXi]; rfl)]
    unfold gotT
    rw [if_neg (by simp [cfgM])]
  have hrb : ((rootHT X i (cfgM v)).at j).b = ((renewT (setP X i (tookP (X.at i) (cfgM v))) false).at j).b := by
    unfold rootHT
    rw [hto]
    split
    · exact congrArg Cr.b ((samec_tell _ _ _).at' j)
    · rfl
  rw [hrb, renew_b, setP_at X i j _ hUl]
  by_cases hj : j = i
  · rw [if_pos hj, if_pos hj]
    unfold tookP
    rw [if_pos (by simp [cfgM])]
    show (⟨(X.at i).b.id, (X.at i).b.cost, (X.at i).b.up, true, (cfgM v).vec⟩ : Rp) = _
    rw [hXi]
    rfl
  · rw [if_neg hj, if_neg hj, hUb j, hlb j, if_neg hj]
theorem wrT_facts {n : Nat} {id : Int} {T : Tt} (h : Fine n id T) (i : Nat) {v : Vc} (hv : v.wf) : Fine n id (wrT T i v) := fine_recv (fine_link h i true) i ⟨by simp [I64, cfgM], hv.root, hv.cost, hv.bridge, hv.port, by simp [I64, cfgM], by simp [I64, cfgM], by simp [I64, cfgM], by simp [I64, cfgM], by simp [I64, cfgM]⟩
def wrL (T : Tt) (l : List Vc) : Nat → Tt
  | 0 => T
  | k + 1 => wrT (wrL T l k) k (l.getD k Vc.zero)
def wrPs (n : Nat) : List Tp := (List.range n).map wrP
def hrPs (l : List Vc) (n : Nat) : List Rp := (List.range n).map fun i => hrP i (l.getD i Vc.zero)
theorem wrPs_at (n i : Nat) (hi : i < n) : (wrPs n).getD i Tp.zero = wrP i := by simp [wrPs, hi]
theorem hrPs_at (l : List Vc) (n i : Nat) (hi : i < n) : (hrPs l n).getD i Rp.zero = hrP i (l.getD i Vc.zero) := by simp [hrPs, hi]
theorem wrPs_push (n : Nat) : wrPs n ++ [wrP n] = wrPs (n + 1) := by simp [wrPs, List.range_succ]
theorem hrPs_push (l : List Vc) (n : Nat) : hrPs l n ++ [hrP n (l.getD n Vc.zero)] = hrPs l (n + 1) := by simp [hrPs, List.range_succ]
theorem wrPs_len (n : Nat) : (wrPs n).length = n := by simp [wrPs]
theorem hrPs_len (l : List Vc) (n : Nat) : (hrPs l n).length = n := by simp [hrPs]
theorem wrP_wf (i : Nat) (h : i ≤ 1000) : (wrP i).b.wf := ⟨⟨by show -9223372036854775808 ≤ (i : Int) + 1; omega, by show (i : Int) + 1 ≤ 9223372036854775807; omega⟩, by simp [U64, wrP], ⟨by simp [U64, wrP], by simp [U64, wrP], by simp [U64, wrP], by simp [I64, wrP]⟩⟩
theorem wrPs_wf (n : Nat) (hn : n ≤ 1000) : ∀ i, i < (wrPs n).length → ((wrPs n).getD i Tp.zero).b.wf := fun i hi => by
  rw [wrPs_len] at hi
  rw [wrPs_at n i hi]
  exact wrP_wf i (by omega)
theorem hrP_wf (i : Nat) (h : i ≤ 1000) {v : Vc} (hv : v.wf) : (hrP i v).wf := ⟨⟨by show -9223372036854775808 ≤ (i : Int) + 1; omega, by show (i : Int) + 1 ≤ 9223372036854775807; omega⟩, by simp [U64, hrP], hv⟩
theorem wrL_b (id : Int) (l : List Vc) (n : Nat) (hfit : ∀ i, i < n → fitV (l.getD i Vc.zero)) : ∀ k, k ≤ n → (wrL (newT id (wrPs n)) l k).ps.length = n ∧ ∀ j, j < n → ((wrL (newT id (wrPs n)) l k).at j).b = if j < k then hrP j (l.getD j Vc.zero) else (wrP j).b
  | 0, _ => ⟨by show (newT id (wrPs n)).ps.length = n; rw [newT_len, wrPs_len], fun j hj => by
    rw [if_neg (by omega)]
    show ((preT id (wrPs n)).at j).b = _
    rw [preT_at id _ j (by rw [wrPs_len]; exact hj), wrPs_at n j hj]
    rfl⟩
  | k + 1, hk => by
    obtain ⟨h1, h2⟩ := wrL_b id l n hfit k (by omega)
    have hkb := h2 k (by omega)
    rw [if_neg (by omega)] at hkb
    have hw := wrT_b (T := wrL (newT id (wrPs n)) l k) k (by rw [h1]; omega) (by rw [hkb]; rfl) (hfit k (by omega))
    refine ⟨?_, fun j hj => ?_⟩
    · show (wrT (wrL (newT id (wrPs n)) l k) k _).ps.length = n
      unfold wrT
      rw [recvT_len]
      unfold linkT
      split
      · rw [renewT_len, forgetT_len, setP_len]; exact h1
      · exact h1
    · show ((wrT (wrL (newT id (wrPs n)) l k) k (l.getD k Vc.zero)).at j).b = _
      rw [hw j]
      by_cases e : j = k
      · subst e
        rw [if_pos rfl, if_pos (by omega), hkb]
        rfl
      · rw [if_neg e, h2 j hj]
        by_cases hlt : j < k
        · rw [if_pos hlt, if_pos (by omega)]
        · rw [if_neg hlt, if_neg (by omega)]
theorem wrL_bs (id : Int) (l : List Vc) (n : Nat) (hfit : ∀ i, i < n → fitV (l.getD i Vc.zero)) : (wrL (newT id (wrPs n)) l n).bs = hrPs l n := by
  obtain ⟨h1, h2⟩ := wrL_b id l n hfit n (Nat.le_refl _)
  apply List.ext_getElem?
  intro i
  by_cases hi : i < n
  · have e := h2 i hi
    rw [if_pos hi, ← bs_at] at e
    have l1 : i < (wrL (newT id (wrPs n)) l n).bs.length := by rw [bs_len, h1]; exact hi
    have l2 : i < (hrPs l n).length := by rw [hrPs_len]; exact hi
    rw [List.getD_eq_getElem?_getD, List.getElem?_eq_getElem l1] at e
    have e2 := hrPs_at l n i hi
    rw [List.getD_eq_getElem?_getD, List.getElem?_eq_getElem l2] at e2
    rw [List.getElem?_eq_getElem l1, List.getElem?_eq_getElem l2]
    exact congrArg some (e.trans e2.symm)
  · rw [List.getElem?_eq_none (by rw [bs_len, h1]; omega), List.getElem?_eq_none (by rw [hrPs_len]; omega)]
theorem fine_wrL {n : Nat} {id : Int} {T : Tt} (h : Fine n id T) (l : List Vc) : ∀ k, (∀ i, i < k → (l.getD i Vc.zero).wf) → Fine n id (wrL T l k)
  | 0, _ => h
  | k + 1, hw => wrT_facts (fine_wrL h l k fun i hi => hw i (by omega)) k (hw k (by omega))
end Go.Proofs.Ytaepjiakehkeoaa
