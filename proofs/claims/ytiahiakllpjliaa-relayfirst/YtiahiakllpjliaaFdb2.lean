/-
  A function that tells some entries ('Cls'); contract of slices.IndexFunc at entries. Conditions: those that each theorem names.
-/
import Derived.Test.YtiahiakllpjliaaFdb1
import Derived.Test.YtiahiakllpjliaaSls
namespace Go.Proofs.Ytiahiakllpjliaa
open Go.RowKit Go.Maps
set_option linter.unusedVariables false
set_option maxRecDepth 20000

/-- A function of entries that tells those of p, as long as the blocks from B on are as they are in w. -/
def Cls (B : Nat) (w : World) (F : FuncId) (caps : Array Value) (p : Fe → Bool) (ok : Fe → Prop) : Prop :=
  ∀ w' : World, w.heap.size ≤ w'.heap.size → (∀ k, B ≤ k → k < w.heap.size → w'.heap[k]? = w.heap[k]?) → ∀ e, ok e →
    Calls Try.prog F (#[.agg (fFe e).toArray] ++ caps) w' fun r w'' => r = .returned (.bool (p e)) ∧ Below w'.heap.size w' w''
theorem Cls.later {B : Nat} {w w1 : World} {F : FuncId} {caps : Array Value} {p : Fe → Bool} {ok : Fe → Prop} (h : Cls B w F caps p ok) (h1 : w.heap.size ≤ w1.heap.size) (h2 : ∀ k, B ≤ k → k < w.heap.size → w1.heap[k]? = w.heap[k]?) : Cls B w1 F caps p ok :=
  fun w' g1 g2 e he => h w' (by omega) (fun k k1 k2 => (g2 k k1 (by omega)).trans (h2 k k1 k2)) e he
set_option maxHeartbeats 4000000 in
theorem Index_any {B : Nat} {w : World} {v : Value} {l : List Fe} {F : FuncId} {caps : Array Value} {p : Fe → Bool} {ok : Fe → Prop} (h : Sl w v 46 9 fFe l) (hl : l.length ≤ 100000) (hok : ∀ e ∈ l, ok e) (hc : Hid (Cls B w F caps p ok)) (hgo : ∀ (args : Array Value) (w : World), (callFunc F args).run Try.prog w = .ok (.enter F args) w) :
    Calls Try.prog 41 #[v, .func (.func F) #[] caps] w fun r w' => ∃ i : Int, r = .returned (.int .i64 i) ∧ Below w.heap.size w w' ∧
      ((i = -1 ∧ ∀ j, j < l.length → p (l.getD j Fe.zero) = false) ∨ ∃ k : Nat, i = k ∧ k < l.length ∧ p (l.getD k Fe.zero) = true ∧ ∀ j, j < k → p (l.getD j Fe.zero) = false) := by
  obtain ⟨a, cap, rfl⟩ := h.shape
  have hS := hide h
  have hn : Hid (l.length = l.length) := rfl
  generalize hL : l.length = L at *
  replace hL := hide hL
  clear h hn
  go_enter Try.func41, Try.ntmps41
  go_wp2
  go_loopw [8] (fun i wr => ∃ j : Nat, j ≤ L ∧ i = .int .i64 j ∧ Hid (Below w.heap.size w wr) ∧ Hid (∀ k, k < j → p (l.getD k Fe.zero) = false)) (fun i _ => L - (intOf i).toNat)
  case atStart => exact ⟨0, Nat.zero_le _, rfl, Below.refl _ _, fun k hk => by omega⟩
  case round =>
    obtain ⟨j, hj, rfl, hB, hno⟩ := hrel
    by_cases hlt : j < L
    · have hSr := hS.out.below hB.out
      rw [← hL.out] at hSr
      obtain ⟨b, cap', sp, hv, hF, _, _⟩ := hSr.at_i (by rw [hL.out]; omega)
      simp only [Value.slice.injEq] at hv
      obtain ⟨rfl, _, rfl⟩ := hv
      have hrg := hide (hF.range wide_Fe Fe.zero j (by rw [hL.out]; exact hlt))
      have hme : ok (l.getD j Fe.zero) := hok _ (by rw [List.getD_eq_getElem?_getD, List.getElem?_eq_getElem (by rw [hL.out]; exact hlt)]; exact List.getElem_mem _)
      have hcall := hide (hc.out wr hB.out.size (fun k _ hk => hB.out.block k hk) _ hme)
      clear hF hSr hme
      generalize hpe : p (l.getD j Fe.zero) = pe at *
      generalize hee : l.getD j Fe.zero = e at *
      replace hee := hide hee
      go_wp2_with ((with_reducible change wpList _ _ _ _ _ _); refine wpList_load_mid rfl 46 (.tmp 14) rfl b (j * 9) rfl (fFe e) _ hrg.out Try.underlying46 rfl (feLen _) ?_)
      refine hcall.out.mono ?_
      rintro r w2 ⟨rfl, hb2⟩
      have hB2 : Hid (Below w.heap.size w w2) := hB.out.later hb2
      clear hcall hrg hb2
      cases pe
      · go_wp2
        go_roundw
        case rel => exact ⟨j + 1, by omega, by go_num, hB2, fun k hk => by
          rcases (show k < j ∨ k = j by omega) with h | rfl
          · exact hno.out k h
          · rw [hee.out]; exact hpe⟩
        case measure => simp [intOf]; omega
      · replace hpe := hide hpe
        go_wp2
        go_ret
        exact ⟨_, rfl, hB2.out, .inr ⟨j, rfl, hlt, by rw [hee.out]; exact hpe.out, fun k hk => hno.out k hk⟩⟩
    · obtain rfl : j = L := by omega
      go_wp2
      go_ret
      exact ⟨_, rfl, hB.out, .inl ⟨rfl, fun k hk => hno.out k hk⟩⟩
end Go.Proofs.Ytiahiakllpjliaa
