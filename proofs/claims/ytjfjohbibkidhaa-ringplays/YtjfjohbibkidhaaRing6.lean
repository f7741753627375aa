/-
  Contracts of Flush and New. Conditions: those that each theorem names.
-/
import Derived.Test.YtjfjohbibkidhaaRing5
namespace Go.Proofs.Ytjfjohbibkidhaa
open Go.RowKit
set_option linter.unusedVariables false

def catL (rs : List Rw) : Nat → List Int
  | 0 => []
  | j + 1 => catL rs j ++ (rs.getD j Rw.none).l
def goneR (rs : List Rw) : Nat → List Rw
  | 0 => rs
  | j + 1 => (goneR rs j).set j ⟨.slice none 0 0, [], ((goneR rs j).getD j Rw.none).bound, ((goneR rs j).getD j Rw.none).lost⟩
theorem goneR_len (rs : List Rw) : ∀ j, (goneR rs j).length = rs.length
  | 0 => rfl
  | j + 1 => by rw [goneR, List.length_set, goneR_len rs j]
theorem goneR_at (rs : List Rw) (c : Nat) : ∀ j, j ≤ rs.length → (goneR rs j).getD c Rw.none = if c < j then ⟨.slice none 0 0, [], (rs.getD c Rw.none).bound, (rs.getD c Rw.none).lost⟩ else rs.getD c Rw.none
  | 0, _ => by simp [goneR]
  | j + 1, hj => by
    rw [goneR, getD_setR _ _ _ _ (by rw [goneR_len]; omega), goneR_at rs c j (by omega), goneR_at rs j j (by omega)]
    by_cases h : c = j
    · subst h; simp
    · rw [if_neg h]
      by_cases h2 : c < j
      · rw [if_pos h2, if_pos (by omega)]
      · rw [if_neg h2, if_neg (by omega)]
theorem catL_len (rs : List Rw) (h : ∀ k, k < 8 → (rs.getD k Rw.none).l.length ≤ 10000) : ∀ j, j ≤ 8 → (catL rs j).length ≤ j * 10000
  | 0, _ => by simp [catL]
  | j + 1, hj => by
    have h1 := catL_len rs h j (by omega)
    have h2 := h j (by omega)
    rw [catL, List.length_append]
    omega
structure Flw (w wr : World) (B g : Nat) (rs : List Rw) (j : Nat) (gv : Value) : Prop where
  pt : Pt wr B g (goneR rs j)
  qe : Qe wr gv (catL rs j)
  new : ∀ b, gv.ownBlock = some b → w.heap.size ≤ b
  tch : Tch g rs w wr
theorem Flw.step {w wr w1 : World} {B g : Nat} {rs : List Rw} {j : Nat} {gv v' : Value} (h0 : Pt w B g rs) (h : Flw w wr B g rs j gv) (hj : j < 8)
    (hq1 : Qe w1 v' (catL rs (j + 1))) (hgr : wr.grownBy w1 gv.ownBlock) (hl : v'.ownBlock = gv.ownBlock ∨ v'.ownBlock = some wr.heap.size) :
    Flw w (w1.setCell ⟨g, j * 3, none⟩ (.slice none 0 0)) B g rs (j + 1) v' ∧ w1.heap[g]? = wr.heap[g]? := by
  have hgl := h0.ltg
  have hgw : w.heap.size ≤ wr.heap.size := h.tch.size
  have hold : ∀ c, c < 8 → ∀ b, ((goneR rs j).getD c Rw.none).v.ownBlock = some b → b < w.heap.size := by
    intro c hc b e
    rw [goneR_at rs c j (by rw [h0.len]; omega)] at e
    split at e
    · simp [Value.ownBlock] at e
    · exact (h0.row c hc).lt e
  have hsame : ∀ b, b < w.heap.size → w1.heap[b]? = wr.heap[b]? := fun b hb => hgr.block b (by omega) (fun e => by have := h.new b e.symm; omega)
  have hP1 : Pt w1 B g (goneR rs j) := h.pt.keep (hsame g hgl) (fun c hc b e => hsame b (hold c hc b e))
  have hnew : ∀ b, v'.ownBlock = some b → w.heap.size ≤ b := by
    intro b e
    rcases hl with e' | e'
    · rw [e'] at e; exact h.new b e
    · rw [e'] at e
      simp only [Option.some.injEq] at e
      omega
  have hput := hP1.put j hj (.slice none 0 0) [] (Qe.nil _) rfl rfl rfl (Nat.le_refl _) (fun _ _ _ => rfl) (fun b e => by simp [Value.ownBlock] at e)
  refine ⟨⟨hput.1, hq1.blk fun b e => heap_setCell_other w1 ⟨g, j * 3, none⟩ b _ (show b ≠ g by have := hnew b e; omega), hnew, ⟨?_, ?_, ?_, ?_, fun k hk hkg hc => ?_⟩⟩, hsame g hgl⟩
  · exact hgr.os.trans h.tch.os
  · exact hgr.tape.trans h.tch.tape
  · exact hgr.output.trans h.tch.output
  · have := hgr.size
    simp only [World.setCell, Array.size_modify]
    omega
  · rw [heap_setCell_other w1 ⟨g, j * 3, none⟩ k _ hkg, hsame k hk]
    exact h.tch.block k hk hkg hc
theorem Flush_any {w : World} {B g : Nat} {rs : List Rw} (h : Pt w B g rs) (hf : ∀ k, k < 8 → (rs.getD k Rw.none).l.length ≤ 10000) :
    Calls Try.prog 19 #[.pointer (some ⟨g, 0, none⟩)] w fun e w' => ∃ gv, e = .returned gv ∧ Flw w w' B g rs 8 gv := by
  have hP := hide h
  have hF := hide hf
  clear h hf
  go_enter Try.func19, Try.ntmps19
  go_wp2
  go_loopw [3, 5] (fun x i wr => ∃ j : Nat, j ≤ 8 ∧ i = .int .i64 j ∧ (∃ a n c, x = .slice a n c ∧ Hid (Flw w wr B g rs j (.slice a n c)))) (fun _ i _ => 8 - (intOf i).toNat)
  case atStart => exact ⟨0, Nat.zero_le _, rfl, _, _, _, rfl, hide ⟨hP.out, Qe.nil _, fun b e => by simp [Value.ownBlock] at e, Tch.refl _ _ _⟩⟩
  case round =>
    obtain ⟨j, hj, rfl, a, n, c, rfl, hFl⟩ := hrel
    by_cases hlt : j < 8
    · have hrow : (goneR rs j).getD j Rw.none = rs.getD j Rw.none := by rw [goneR_at rs j j (by rw [hP.out.len]; omega), if_neg (by omega)]
      have hu := hFl.out.pt.row j hlt
      have hc := hFl.out.pt.cellV j hlt
      rw [hrow] at hu hc
      obtain ⟨ua, uc, hv⟩ := hu.shape
      rw [hv] at hu hc
      replace hu := hide hu
      have hsz : Hid ((catL rs j).length + (rs.getD j Rw.none).l.length ≤ 1000000) := by
        have h1 := catL_len rs hF.out j (by omega)
        have h2 := hF.out j hlt
        show _ ≤ _
        omega
      have hfz := hide (hFl.out.pt.frozen (j * 3))
      clear hrow hv
      generalize hun : (rs.getD j Rw.none).l.length = un at *
      replace hun := hide hun
      generalize hLj : (rs.getD j Rw.none).l = Lj at *
      replace hLj := hide hLj
      go_wp2_with (at_builtin; refine wpList_append_qq rfl (.tmp 8) (.tmp 15) rfl (.slice a n c) (.slice ua un uc) (catL rs j) Lj rfl hFl.out.qe rfl hu.out ?_ ?_)
      · rw [hun.out]; exact hsz.out
      · intro v' w1 hq1 hgr hl
        obtain ⟨a', cap', rfl⟩ := hq1.shape
        have hst := Flw.step hP.out hFl.out hlt (show Qe w1 _ (catL rs j ++ (rs.getD j Rw.none).l) by rw [hLj.out]; exact hq1) hgr hl
        have hc1 := (World.cell?_of_block (a := ⟨g, j * 3, none⟩) hst.2).trans hc
        have hfz1 := (World.frozen?_of_block (a := ⟨g, j * 3, none⟩) hst.2).trans hfz.out
        replace hst := hide hst.1
        clear hq1 hgr hl hu hc hfz hsz hFl
        generalize (catL rs j ++ Lj).length = m at *
        go_wp2
        go_round
        case rel => exact ⟨j + 1, by omega, by go_num, _, _, _, rfl, hst⟩
        case measure => simp [intOf]; omega
    · obtain rfl : j = 8 := by omega
      go_wp2
      go_ret
      exact ⟨_, rfl, hFl.out⟩

def bndN (n : Int) : Nat := (min (max n 0) 1024).toNat
theorem bndN_is (n : Int) : (bndN n : Int) = min (max n 0) 1024 := by unfold bndN; omega
@[reducible] def newR (bs : List Int) (j : Nat) : List Rw := (List.range 8).map fun c => ⟨.slice none 0 0, [], if c < j then bndN (bs.getD c 0) else 0, 0⟩
theorem newR_at (bs : List Int) (j c : Nat) (hc : c < 8) : (newR bs j).getD c Rw.none = ⟨.slice none 0 0, [], if c < j then bndN (bs.getD c 0) else 0, 0⟩ := by
  simp [newR, List.getD_eq_getElem?_getD, hc]
theorem newR_set (bs : List Int) (j : Nat) (hj : j < 8) : (newR bs j).set j ⟨((newR bs j).getD j Rw.none).v, ((newR bs j).getD j Rw.none).l, bndN (bs.getD j 0), ((newR bs j).getD j Rw.none).lost⟩ = newR bs (j + 1) := by
  rw [newR_at bs j j hj]
  apply List.ext_getElem
  · simp
  · intro i h1 h2
    simp only [List.length_set, List.length_map, List.length_range] at h1
    rw [List.getElem_set]
    by_cases e : j = i
    · subst e; simp
    · rw [if_neg e]
      simp only [List.getElem_map, List.getElem_range]
      by_cases h3 : i < j
      · rw [if_pos h3, if_pos (by omega)]
      · rw [if_neg h3, if_neg (by omega)]
theorem Pt.new (w : World) (bs : List Int) (B : Nat) (hB : B ≤ w.heap.size) : Pt (w.alloc (.cells (rowR (newR bs 0)).toArray 72)) B w.heap.size (newR bs 0) := by
  refine ⟨by simp, hB, heap_alloc_new w _, fun k hk => ?_, fun k hk b e => ?_, fun i j hi hj hij b e => ?_⟩
  · rw [newR_at _ _ _ hk]; exact Qe.nil _
  · rw [newR_at _ _ _ hk] at e; simp [Value.ownBlock] at e
  · rw [newR_at _ _ _ hi] at e; simp [Value.ownBlock] at e
@[reducible] def row8 (a b c d e f g h : Int) : Array Value := #[.int .i64 a, .int .i64 b, .int .i64 c, .int .i64 d, .int .i64 e, .int .i64 f, .int .i64 g, .int .i64 h]
theorem eight_at (a b c d e f g h : Int) (j : Nat) (hj : j < 8) : ∀ w, (Instr.index 22 (.agg (row8 a b c d e f g h)) (.int .i64 j)).run Try.prog w = .ok (.int .i64 ([a, b, c, d, e, f, g, h].getD j 0)) w := by
  intro w
  rcases (show j = 0 ∨ j = 1 ∨ j = 2 ∨ j = 3 ∨ j = 4 ∨ j = 5 ∨ j = 6 ∨ j = 7 by omega) with rfl | rfl | rfl | rfl | rfl | rfl | rfl | rfl
  all_goals simp [Instr.index, run_underlying Try.underlying22, asIntOf, go_sem]
theorem New_any (a b c d e f g h : Int) (w : World) :
    Calls Try.prog 15 #[.agg (row8 a b c d e f g h)] w fun e' w' => e' = .returned (.pointer (some ⟨w.heap.size + 1, 0, none⟩)) ∧ Pt w' w.heap.size (w.heap.size + 1) (newR [a, b, c, d, e, f, g, h] 8) ∧ Below w.heap.size w w' := by
  have hix := hide (fun j hj => eight_at a b c d e f g h j hj)
  generalize hbs : [a, b, c, d, e, f, g, h] = bs at *
  clear hbs
  go_enter Try.func15, Try.ntmps15
  go_wp2
  go_loopw [9] (fun i wr => ∃ j : Nat, j ≤ 8 ∧ i = .int .i64 j ∧ Hid (Pt wr w.heap.size (w.heap.size + 1) (newR bs j)) ∧ Hid (Below w.heap.size w wr)) (fun i _ => 8 - (intOf i).toNat)
  case atStart =>
    have hP := Pt.new (w.alloc (.cells (row8 a b c d e f g h) 22)) bs w.heap.size (by rw [World.size_alloc]; omega)
    rw [World.size_alloc] at hP
    exact ⟨0, Nat.zero_le _, rfl, hP, hide ((below1 _ _).later (below1 _ _))⟩
  case round =>
    obtain ⟨j, hj, rfl, hP, hB⟩ := hrel
    by_cases hlt : j < 8
    · have hix1 := hix.out j hlt
      have hp := hP.out.putB j (bndN (bs.getD j 0)) hlt
      rw [newR_set bs j hlt] at hp
      have hB1 := hide (hp.2.below hP.out hB.out hP.out.size)
      have hp1 := hide hp.1
      have hc := hP.out.cellB j hlt
      have hfz := hP.out.frozen (j * 3 + 1)
      have hbd := bndN_is (bs.getD j 0)
      clear hp
      generalize bs.getD j 0 = n at *
      generalize bndN n = bn at *
      generalize ((newR bs j).getD j Rw.none).bound = ob at *
      obtain ⟨M, hM⟩ : ∃ M, M = max n 0 := ⟨_, rfl⟩
      have hmx : ∀ (ts : Array TypeId) (t : TypeId) (w : World), (Builtin.max_ ts t #[.int .i64 n, .int .i64 0]).run Try.prog w = .ok (.int .i64 M) w := fun ts t w => by
        rw [hM, run_max_int2]
        congr 2
        split <;> omega
      have hmn : ∀ (ts : Array TypeId) (t : TypeId) (w : World), (Builtin.min_ ts t #[.int .i64 M, .int .i64 1024]).run Try.prog w = .ok (.int .i64 (bn : Int)) w := fun ts t w => by
        rw [hbd, ← hM, run_min_int2]
        congr 2
        split <;> omega
      clear hM hbd
      go_wp2
      go_round
      case rel => exact ⟨j + 1, by omega, by go_num, hp1, hB1⟩
      case measure => simp [intOf]; omega
    · obtain rfl : j = 8 := by omega
      go_wp2
      go_ret
      exact ⟨rfl, hP.out, hB.out⟩
end Go.Proofs.Ytjfjohbibkidhaa
