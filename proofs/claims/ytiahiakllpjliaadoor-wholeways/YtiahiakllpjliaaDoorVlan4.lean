
/-
  Contract of the table's New. Conditions: those that each theorem names.
-/
import Derived.Test.YtiahiakllpjliaaDoorVlan1
import Derived.Test.YtiahiakllpjliaaDoorVBits
import Derived.Lib.MinMax
namespace Go.Proofs.YtiahiakllpjliaaDoor
open Go.RowKit Go.Maps
set_option linter.unusedVariables false
set_option maxRecDepth 20000

def portsN (n : Int) : Nat := (min (max n 0) 16).toNat
@[reducible] def pvOne : Pv := ⟨0, 1, 0, false⟩
def newF (n : Nat) : Int → Option (Int × Int) := if n = 0 then fun _ => none else updK (fun _ => none) 1 (some (allN n, allN n))
def newC (n : Nat) : Nat := if n = 0 then 0 else 1
theorem Tryd.infoPv : (Tryd.prog.info? 85).map (fun i => (i.zero, i.size, i.bytes)) = some (some (.agg (fPv Pv.zero).toArray), 4, 32) := by kernel_rfl
def halfL (n j : Nat) : List Pv := List.replicate j pvOne ++ List.replicate (n - j) Pv.zero
theorem halfL_len {n j : Nat} (h : j ≤ n) : (halfL n j).length = n := by simp [halfL]; omega
theorem halfL_set {n j : Nat} (h : j < n) : (halfL n j).set j pvOne = halfL n (j + 1) := by
  unfold halfL
  rw [List.set_append_right _ _ (by simp), List.length_replicate, Nat.sub_self, show n - j = (n - (j + 1)) + 1 by omega, List.replicate_succ, List.set_cons_zero, List.replicate_succ', List.append_assoc]
  rfl
theorem allN_pos {n : Nat} (h : n ≤ 16) : 0 ≤ allN n ∧ allN n < 65536 ∧ allN n < 2 ^ n := by
  have h1 := pow16 h
  have h2 := Nat.two_pow_pos n
  have hc' : ((2 : Int) ^ n) = ((2 ^ n : Nat) : Int) := by simp
  unfold allN
  rw [hc']
  omega
theorem allN_ne {n : Nat} (h : n ≠ 0) : allN n ≠ 0 := by
  have hc' : ((2 : Int) ^ n) = ((2 ^ n : Nat) : Int) := by simp
  have h1 : 2 ^ 1 ≤ 2 ^ n := Nat.pow_le_pow_right (by decide) (by omega)
  unfold allN
  rw [hc']
  omega
theorem setB_new {n : Nat} (h : n ≤ 16) : setB n 1 (allN n) (allN n) = true := by
  have h1 := allN_pos h
  have : bits .andNot .i64 (allN n) (allN n) = 0 := sub_self _ h1.1 h1.2.1
  unfold setB
  rw [this]
  rfl
theorem Vt_new (w : World) (n : Nat) (hn : n ≤ 16) : Vt (((w.alloc (.cells (flat fPv (List.replicate n Pv.zero)).toArray 85)).alloc (.map #[] 0)).alloc (.cells #[.slice (some ⟨w.heap.size, 0, none⟩) n n, .map (some (w.heap.size + 1))] 68)) (w.heap.size + 2) w.heap.size (w.heap.size + 1) (halfL n 0) (fun _ => none) 0 := by
  have hz : halfL n 0 = List.replicate n Pv.zero := by simp [halfL]
  rw [hz]
  have e1 : (w.alloc (.cells (flat fPv (List.replicate n Pv.zero)).toArray 85)).heap.size = w.heap.size + 1 := World.size_alloc _ _
  have e2 : ((w.alloc (.cells (flat fPv (List.replicate n Pv.zero)).toArray 85)).alloc (.map #[] 0)).heap.size = w.heap.size + 2 := by rw [World.size_alloc, e1]
  have hM := Mp.made Tryd.prog gT (w.alloc (.cells (flat fPv (List.replicate n Pv.zero)).toArray 85))
  rw [e1] at hM
  have hG := heap_alloc_new ((w.alloc (.cells (flat fPv (List.replicate n Pv.zero)).toArray 85)).alloc (.map #[] 0)) (.cells #[.slice (some ⟨w.heap.size, 0, none⟩) n n, .map (some (w.heap.size + 1))] 68)
  rw [e2] at hG
  refine ⟨by simpa using hn, ?_, ((Fl.new w 85 fPv _).below (below1 _ _)).below (below1 _ _), hM.below (below1 _ _), ⟨by omega, by omega, by omega⟩⟩
  rw [List.length_replicate]
  exact hG
set_option maxHeartbeats 1000000 in
theorem VNew_any (m : Int) (w : World) :
    Calls Tryd.prog 12 #[.int .i64 m] w fun r w' => ∃ g pb mb, r = .returned (.pointer (some ⟨g, 0, none⟩)) ∧ Vt w' g pb mb (List.replicate (portsN m) pvOne) (newF (portsN m)) (newC (portsN m)) ∧ Below w.heap.size w w' ∧ w.heap.size ≤ g ∧ w.heap.size ≤ pb ∧ w.heap.size ≤ mb := by
  obtain ⟨M, hM⟩ : ∃ M : Int, M = max m 0 := ⟨_, rfl⟩
  have hmx : ∀ (ts : Array TypeId) (t : TypeId) (w : World), (Builtin.max_ ts t #[.int .i64 m, .int .i64 0]).run Tryd.prog w = .ok (.int .i64 M) w := fun ts t w => by rw [hM, Go.Lib.run_max_ints]
  have hmn : ∀ (ts : Array TypeId) (t : TypeId) (w : World), (Builtin.min_ ts t #[.int .i64 M, .int .i64 16]).run Tryd.prog w = .ok (.int .i64 (portsN m : Int)) w := fun ts t w => by
    rw [Go.Lib.run_min_ints, ← show (min M 16) = ((portsN m : Nat) : Int) by unfold portsN; rw [hM]; omega]
  have hn : portsN m ≤ 16 := by unfold portsN; omega
  clear hM
  generalize portsN m = n at *
  obtain ⟨i0, hi, hz0, hz1, hz2⟩ := info_parts Tryd.infoPv
  have hr : (Instr.makeSlice 65 (.int .i64 n) (.int .i64 n)).run Tryd.prog w = .ok (.slice (some ⟨w.heap.size, 0, none⟩) n n) (w.alloc (.cells (flat fPv (List.replicate n Pv.zero)).toArray 85)) := by
    have hr := run_make (P := Tryd.prog) w 65 85 i0 _ Tryd.underlying65 hi hz0 .i64 .i64 n n (by omega) (by omega) (by rw [hz2]; omega) (by omega)
    rw [hz1] at hr
    simpa only [Int.toNat_natCast, Value.cells, made_flat wide_Pv Pv.zero (by omega)] using hr
  have hmm := @run_makeMap Tryd.prog
  have hV0 := hide (Vt_new w n hn)
  have hB0 : Hid (Below w.heap.size w (((w.alloc (.cells (flat fPv (List.replicate n Pv.zero)).toArray 85)).alloc (.map #[] 0)).alloc (.cells #[.slice (some ⟨w.heap.size, 0, none⟩) n n, .map (some (w.heap.size + 1))] 68))) := ((below1 _ _).later (below1 _ _)).later (below1 _ _)
  clear hi hz0 hz1 hz2
  generalize hZ : (flat fPv (List.replicate n Pv.zero)).toArray = Z at *
  clear hZ
  go_enter Tryd.func12, Tryd.ntmps12
  go_wp2_with fail
  rw [← show w.heap.size + 2 = w.heap.size + 1 + 1 from rfl]
  have hg2 : Hid (w.heap.size ≤ w.heap.size + 2) := by show _ ≤ _; omega
  have hg1 : Hid (w.heap.size ≤ w.heap.size + 1) := by show _ ≤ _; omega
  have hg0 : Hid (w.heap.size ≤ w.heap.size) := by show _ ≤ _; omega
  generalize ((w.alloc (.cells Z 85)).alloc (.map #[] 0)).alloc (.cells #[.slice (some ⟨w.heap.size, 0, none⟩) n n, .map (some (w.heap.size + 1))] 68) = w1 at *
  generalize hW : w.heap.size = W at *
  replace hW := hide hW
  generalize W + 2 = g at *
  generalize W + 1 = mb at *
  generalize hpb : W = pb at *
  clear hmx hmn hr hmm
  go_loopw [17] (fun i wr => ∃ j : Nat, j ≤ n ∧ i = .int .i64 j ∧ Hid (Below pb w wr) ∧ Hid (Vt wr g pb mb (halfL n j) (fun _ => none) 0)) (fun i _ => n - (intOf i).toNat)
  case atStart => exact ⟨0, Nat.zero_le _, rfl, hB0, hV0⟩
  case round =>
    obtain ⟨j, hj, rfl, hB, hV⟩ := hrel
    clear hB0 hV0
    by_cases hlt : j < n
    · have hl := halfL_len hj
      have c0 := hV.out.c0
      rw [hl] at c0
      have hS := hide (hV.out.setPort j (by rw [hl]; exact hlt) pvOne)
      have hT := hide (hV.out.fl.there wide_Pv Pv.zero j 0 4 (by rw [hl]; exact hlt) (by omega))
      rw [halfL_set hlt] at hS
      clear hV
      go_wp2_with ((with_reducible change wpList _ _ _ _ _ _); refine stop_storeB 85 (.tmp 26) (.tmp 25) rfl ?_)
      refine hide (wpList_store_mid rfl 85 (.tmp 26) (.tmp 25) rfl pb (j * 4) (fPv pvOne).toArray rfl rfl hT.out (pvSize pvOne) (pv_all pvOne) ?_)
      have hS1 := hS.out
      clear hS hT
      generalize wr.setCells pb (j * 4) (fPv pvOne) = w2 at *
      have hB2 : Hid (Below pb w w2) := hS1.2.below hB.out (by have := hB.out.size; have := hW.out; omega) (fun k e => by have := hg0.out; omega)
      go_wp2
      go_roundw
      case rel => exact ⟨j + 1, by omega, by go_num, hB2, hS1.1⟩
      case measure => simp [intOf]; omega
    · obtain rfl : j = n := by omega
      have hz : halfL j j = List.replicate j pvOne := by simp [halfL]
      rw [hz] at hV
      have hA := hide (all_any hV.out)
      rw [List.length_replicate] at hA
      go_wp2_with (go_at_call 23; refine hA.out.mono ?_; rintro e w' ⟨rfl, rfl⟩)
      clear hA
      by_cases h0 : j = 0
      · have e0 : allN j = 0 := by rw [h0]; rfl
        have hS := setB_new hn
        rw [e0] at hS ⊢
        refine (Set_del hV.out 1 0 (by rw [List.length_replicate]; exact hS)).mono ?_
        rintro e w2 ⟨rfl, hV2, hC2⟩
        have hB2 : Hid (Below pb w w2) := hC2.below hB.out (by have := hB.out.size; have := hW.out; omega) (fun k e => by have := hg1.out; omega)
        clear hB hV hC2 hS
        replace hV2 := hide hV2
        go_wp2
        go_ret
        have h1 := hB2.out
        rw [← hW.out] at h1
        refine ⟨g, pb, mb, rfl, ?_, h1, by rw [hW.out]; exact hg2.out, by rw [hW.out]; exact hg0.out, by rw [hW.out]; exact hg1.out⟩
        have := hV2.out
        unfold newF newC
        rw [if_pos h0, if_pos h0]
        have e : updK (fun _ => none) 1 none = (fun _ => none : Int → Option (Int × Int)) := by funext i; unfold updK; split <;> rfl
        rw [e] at this
        exact this
      · refine (Set_ok hV.out 1 (allN j) (allN j) (by rw [List.length_replicate]; exact setB_new hn) (allN_ne h0) (.inr (by omega)) (by omega)).mono ?_
        rintro e w2 ⟨rfl, hV2, hC2⟩
        have hB2 : Hid (Below pb w w2) := hC2.below hB.out (by have := hB.out.size; have := hW.out; omega) (fun k e => by have := hg1.out; omega)
        clear hB hV hC2
        replace hV2 := hide hV2
        go_wp2
        go_ret
        have h1 := hB2.out
        rw [← hW.out] at h1
        refine ⟨g, pb, mb, rfl, ?_, h1, by rw [hW.out]; exact hg2.out, by rw [hW.out]; exact hg0.out, by rw [hW.out]; exact hg1.out⟩
        have := hV2.out
        unfold newF newC
        rw [if_neg h0, if_neg h0]
        exact this
end Go.Proofs.YtiahiakllpjliaaDoor
