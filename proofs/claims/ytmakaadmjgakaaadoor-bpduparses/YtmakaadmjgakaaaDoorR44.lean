/-
  The document's own Parse of messages is the program's (bargateref04.Parse against 'bparsed'); the walk of the statement BpduParses. Condition: the table lies as the program's text lays it ('Tab').
-/
import Derived.Test.YtmakaadmjgakaaaDoorR43
import Derived.Test.YtmakaadmjgakaaaDoorBq7
namespace Go.Proofs.YtmakaadmjgakaaaDoor
open Go.RowKit
set_option linter.unusedVariables false

theorem RParse4_any {w : World} {a : Option Addr} {n c : Nat} {l : List Int} (hv : Bs w (.slice a n c) l) (hm : l.length ≤ 200) :
    Calls Tryd.prog 14 #[.slice a n c] w fun e w' => e = .returned (.tuple #[.agg (bparsed l).1.row, .int .i64 (bparsed l).2]) ∧ Below w.heap.size w w' := by
  by_cases h7 : l.length < 7
  · have e : bparsed l = (Bp.zero, 2) := by simp [bparsed, kindE, h7]
    rw [e]
    exact R4_short hv h7
  by_cases h5 : num (l.take 5) = 284575334400
  · by_cases h0 : l.getD 6 0 = 0
    · have hk : kindE l = (0, 0) := by unfold kindE; rw [if_neg h7, if_neg (by simpa using h5), if_pos h0]
      by_cases hs : l.length < 38
      · have e : bparsed l = (Bp.zero, 2) := by unfold bparsed; rw [hk, if_neg (by simp), if_pos (by simp [sizeN]; omega)]
        rw [e]
        exact R4_cut hv (by omega) hm h5 (.inl ⟨h0, hs⟩)
      · have e : bparsed l = (if ((Bp.ofKind 0).rooted (l.drop 7)).maxAge ≤ ((Bp.ofKind 0).rooted (l.drop 7)).age then (Bp.zero, 4) else ((Bp.ofKind 0).rooted (l.drop 7), 0)) := by
          unfold bparsed; rw [hk, if_neg (by simp), if_neg (by simp [sizeN]; omega), if_neg (by simp), if_neg (by simp)]
        rw [e]
        refine (R4_config hv (by omega) hm h5 h0 _ _ _ rfl rfl rfl).mono ?_
        rintro e w' ⟨rfl, hb⟩
        refine ⟨?_, hb⟩
        split <;> rfl
    by_cases h128 : l.getD 6 0 = 128
    · have hk : kindE l = (2, 0) := by unfold kindE; rw [if_neg h7, if_neg (by simpa using h5), if_neg h0, if_neg (by omega), if_pos h128]
      have e : bparsed l = (Bp.ofKind 2, 0) := by unfold bparsed; rw [hk, if_neg (by simp), if_neg (by simp [sizeN]; omega), if_pos rfl]
      rw [e]
      exact R4_notice hv (by omega) hm h5 h128
    by_cases h2 : l.getD 6 0 = 2 ∧ 2 ≤ l.getD 5 0
    · have hk : kindE l = (1, 0) := by unfold kindE; rw [if_neg h7, if_neg (by simpa using h5), if_neg h0, if_pos h2]
      by_cases hs : l.length < 39
      · have e : bparsed l = (Bp.zero, 2) := by unfold bparsed; rw [hk, if_neg (by simp), if_pos (by simp [sizeN]; omega)]
        rw [e]
        exact R4_cut hv (by omega) hm h5 (.inr ⟨h2.1, h2.2, hs⟩)
      · have e : bparsed l = (if (((Bp.ofKind 1).ported (l.getD 7 0)).rooted (l.drop 7)).maxAge ≤ (((Bp.ofKind 1).ported (l.getD 7 0)).rooted (l.drop 7)).age then (Bp.zero, 4) else (((Bp.ofKind 1).ported (l.getD 7 0)).rooted (l.drop 7), 0)) := by
          unfold bparsed; rw [hk, if_neg (by simp), if_neg (by simp [sizeN]; omega), if_neg (by simp), if_pos rfl]
        rw [e]
        refine (R4_rapid hv (by omega) hm h5 h2.1 h2.2 _ _ _ rfl rfl rfl).mono ?_
        rintro e w' ⟨rfl, hb⟩
        refine ⟨?_, hb⟩
        split <;> rfl
    · have hk : kindE l = (0, 11) := by unfold kindE; rw [if_neg h7, if_neg (by simpa using h5), if_neg h0, if_neg h2, if_neg h128]
      have e : bparsed l = (Bp.zero, 11) := by unfold bparsed; rw [hk, if_pos (by simp)]
      rw [e]
      refine R4_kind hv (by omega) hm h5 h128 ?_
      by_cases h : l.getD 6 0 = 2
      · exact .inl ⟨h, by omega⟩
      · exact .inr ⟨h, h0⟩
  · have hk : kindE l = (0, 11) := by unfold kindE; rw [if_neg h7, if_pos (by simpa using h5)]
    have e : bparsed l = (Bp.zero, 11) := by unfold bparsed; rw [hk, if_pos (by simp)]
    rw [e]
    exact R4_form hv (by omega) hm h5
set_option maxRecDepth 20000 in
theorem u8of (l : List Int) (hb : Byte l) (lo k : Nat) (hk : k ≤ 8) : U64 (num ((l.drop lo).take k)) := by
  have h := num_piece hb lo k hk
  refine ⟨h.1, ?_⟩
  have : (256 : Int) ^ k ≤ 256 ^ 8 := by exact_mod_cast Nat.pow_le_pow_right (by decide) hk
  have e : (256 : Int) ^ 8 = 18446744073709551616 := by decide
  omega
theorem i2of (l : List Int) (hb : Byte l) (lo : Nat) : I64 (num ((l.drop lo).take 2)) := by
  have h := num_piece hb lo 2 (by decide)
  have e : (256 : Int) ^ 2 = 65536 := by decide
  unfold I64
  omega
theorem rooted_wf {b : Bp} (hb : b.wf) (l : List Int) (hl : Byte l) : (b.rooted l).wf :=
  ⟨hb.kind, u8of l hl 1 8 (by decide), u8of l hl 9 4 (by decide), u8of l hl 13 8 (by decide), i2of l hl 21, hb.role, i2of l hl 23, i2of l hl 25, i2of l hl 27, i2of l hl 29⟩
theorem i64small {n : Int} (h0 : -100 ≤ n) (h1 : n ≤ 100) : I64 n := by unfold I64; omega
theorem u64zero : U64 0 := by unfold U64; omega
theorem ofKind_wf (k : Int) (h0 : -100 ≤ k) (h1 : k ≤ 100) : (Bp.ofKind k).wf :=
  ⟨i64small h0 h1, u64zero, u64zero, u64zero, i64small (n := 0) (by decide) (by decide), i64small (n := 0) (by decide) (by decide), i64small (n := 0) (by decide) (by decide), i64small (n := 0) (by decide) (by decide), i64small (n := 0) (by decide) (by decide), i64small (n := 0) (by decide) (by decide)⟩
theorem bparsed_wf {l : List Int} (hl : Byte l) : (bparsed l).1.wf := by
  have hz : Bp.zero.wf := ofKind_wf 0 (by decide) (by decide)
  have h0 := rooted_wf (ofKind_wf 0 (by decide) (by decide)) (l.drop 7) (hl.drop 7)
  have hp : ((Bp.ofKind 1).ported (l.getD 7 0)).wf := by
    have h := ofKind_wf 1 (by decide) (by decide)
    exact ⟨h.kind, h.root, h.cost, h.bridge, h.port, i64small (by show -100 ≤ l.getD 7 0 / 4 % 4; omega) (by show l.getD 7 0 / 4 % 4 ≤ 100; omega), h.age, h.maxAge, h.hello, h.delay⟩
  have h1 := rooted_wf hp (l.drop 7) (hl.drop 7)
  unfold bparsed
  split
  · exact hz
  split
  · exact hz
  split
  · exact ofKind_wf 2 (by decide) (by decide)
  split
  · split
    · exact hz
    · exact h1
  · split
    · exact hz
    · exact h0
theorem bparsed_err (l : List Int) : 0 ≤ (bparsed l).2 ∧ (bparsed l).2 ≤ 11 := by
  have hk : 0 ≤ (kindE l).2 ∧ (kindE l).2 ≤ 11 := by
    unfold kindE
    repeat' split
    all_goals decide
  unfold bparsed
  repeat' split
  all_goals first | exact hk | (constructor <;> simp)
set_option maxRecDepth 20000 in
set_option maxHeartbeats 1000000 in
theorem BPar_walk {a : Option Addr} {n c : Nat} {l : List Int} {w : World} (hT : Tab w) (hv : Bs w (.slice a n c) l) :
    Calls Tryd.prog 4 #[.slice a n c] w fun e w' => e = .returned (.bool true) ∧ Below w.heap.size w w' := by
  have hF := hide (fun w hT => tells_any w hT)
  have HT := hide hT
  have HV := hide hv
  have hn := bs_len hv
  have hwf := hide (bparsed_wf hv.byte)
  clear hT hv
  by_cases hl : 200 < l.length
  · have hd : decide ((200 : Int) < (n : Int)) = true := by simp; omega
    have hd' : (200 : Int) < (n : Int) := by omega
    clear hl hn hd
    go_enter Tryd.func4, Tryd.ntmps4
    go_wp2_with fail
    refine (hF.out _ HT.out).mono ?_
    rintro e w1 ⟨rfl, hb1⟩
    go_wp2
    go_ret
    exact ⟨rfl, hb1⟩
  · have hd' : (n : Int) ≤ 200 := by omega
    have hPa := hide (fun W (h : Bs W (.slice a n c) l) => BParse_any h (by omega))
    have hPb := hide (fun W (h : Bs W (.slice a n c) l) => RParse4_any h (by omega))
    clear hl hn
    have hE := bparsed_err l
    generalize bparsed l = PL at *
    obtain ⟨B, E⟩ := PL
    obtain ⟨hE1, hE2⟩ := hE
    have hE1' : (0 : Int) ≤ E := hE1
    have hE2' : E ≤ 11 := hE2
    clear hE1 hE2
    have heq : ∀ w, (binOp .eql 41 (.agg B.row) (.agg B.row)).run Tryd.prog w = .ok (.bool true) w := fun w => by rw [bp_eql B B hwf.out hwf.out]; simp
    have hgd := eqGuard_bp
    go_enter Tryd.func4, Tryd.ntmps4
    go_wp2_with fail
    refine (hF.out _ HT.out).mono ?_
    rintro e w1 ⟨rfl, hb1⟩
    have hW1 := hide hb1
    clear hb1 hF
    go_wp2_with fail
    refine (hPa.out _ (HV.out.below hW1.out)).mono ?_
    rintro e w2 ⟨rfl, hb2⟩
    have hW2 := hide (hW1.out.later hb2)
    clear hb2 hW1 hPa
    go_wp2_with ((with_reducible change wpList _ _ _ _ _ _); refine wpList_store_fresh rfl 41 (.tmp 3) (.tmp 15) rfl B.row Bp.zero.row rfl rfl 41 (bpSize _) rfl (Bp.row_all _) ?_; intro w3 hG3 hb3; have hW3 := hide (hW2.out.later hb3); clear hb3 hW2)
    refine (hPb.out _ (HV.out.below hW3.out)).mono ?_
    rintro e w4 ⟨rfl, hb4⟩
    have hG4 := heap_kept hb4 hG3
    have hW4 := hide (hW3.out.later hb4)
    clear hb4 hW3 hG3 hPb
    go_wp2_with ((with_reducible change wpList _ _ _ _ _ _); refine wpList_store_fresh rfl 41 (.tmp 5) (.tmp 20) rfl B.row Bp.zero.row rfl rfl 41 (bpSize _) rfl (Bp.row_all _) ?_; intro w5 hK5 hb5; have hG5 := heap_kept hb5 hG4; have hW5 := hide (hW4.out.later hb5); clear hb5 hW4 hG4; refine unhide ?_)
    refine hide ?_
    have ee : (E == E) = true := by simp
    go_wp2_with ((with_reducible change wpList _ _ _ _ _ _); refine stop_load 41 (.tmp 3) rfl ?_)
    refine hide ?_
    refine wpList_load_row_on rfl 41 (.tmp 3) rfl w2.heap.size rfl 41 _ _ _ hG5 Tryd.underlying41 rfl (bpSize _) ?_
    refine wpList_load_row_on rfl 41 (.tmp 5) rfl w4.heap.size rfl 41 _ _ _ hK5 Tryd.underlying41 rfl (bpSize _) ?_
    simp only [Act.put, List.setIfInBounds_toArray, List.set_cons_zero, List.set_cons_succ]
    go_wp2_with fail
    go_ret
    refine ⟨ret_bool ?_, hW5.out⟩
    simp
end Go.Proofs.YtmakaadmjgakaaaDoor
