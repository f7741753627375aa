
/-
  The contract of tree's Flushes. Conditions: those that each theorem names.
-/
import Derived.Test.YtoejoneecanbbaaTree20
import Derived.Lib.SliceRun
namespace Go.Proofs.Ytoejoneecanbbaa
open Go.RowKit
set_option linter.unusedVariables false
set_option maxRecDepth 20000

theorem sty_I : Sty Try.prog 26 3 1 8 := by
  obtain ⟨i, h1, h2, h3, h4⟩ := info_parts Try.infoI
  exact ⟨Try.underlying26, ⟨i, _, h1, h2, h3, h4, rfl⟩, by omega⟩
def flL (fg : List Bool) : Nat → List Int
  | 0 => []
  | k + 1 => if fg.getD k false = true then flL fg k ++ [(k : Int)] else flL fg k
def clrT (T : Tt) : Tt := { T with fg := List.replicate 16 false }
theorem clrT_ok {T : Tt} (h : T.ok) : (clrT T).ok := ⟨h.id, h.port, h.rp, h.tells⟩
theorem flL_len (fg : List Bool) : ∀ k, (flL fg k).length ≤ k
  | 0 => Nat.le_refl _
  | k + 1 => by
    have := flL_len fg k
    unfold flL
    split
    · rw [List.length_append]; simp; omega
    · omega
theorem sixteen {fg : List Bool} (h : fg.length = 16) : ∃ b0 b1 b2 b3 b4 b5 b6 b7 b8 b9 b10 b11 b12 b13 b14 b15, fg = [b0, b1, b2, b3, b4, b5, b6, b7, b8, b9, b10, b11, b12, b13, b14, b15] := by
  match fg, h with
  | [b0, b1, b2, b3, b4, b5, b6, b7, b8, b9, b10, b11, b12, b13, b14, b15], _ => exact ⟨b0, b1, b2, b3, b4, b5, b6, b7, b8, b9, b10, b11, b12, b13, b14, b15, rfl⟩
theorem idx16 (b0 b1 b2 b3 b4 b5 b6 b7 b8 b9 b10 b11 b12 b13 b14 b15 : Bool) (j : Nat) (h : j < 16) (w : World) : (Instr.index 65 (.agg #[.bool b0, .bool b1, .bool b2, .bool b3, .bool b4, .bool b5, .bool b6, .bool b7, .bool b8, .bool b9, .bool b10, .bool b11, .bool b12, .bool b13, .bool b14, .bool b15]) (.int .i64 j)).run Try.prog w = .ok (.bool ([b0, b1, b2, b3, b4, b5, b6, b7, b8, b9, b10, b11, b12, b13, b14, b15].getD j false)) w := by
  rcases (show j = 0 ∨ j = 1 ∨ j = 2 ∨ j = 3 ∨ j = 4 ∨ j = 5 ∨ j = 6 ∨ j = 7 ∨ j = 8 ∨ j = 9 ∨ j = 10 ∨ j = 11 ∨ j = 12 ∨ j = 13 ∨ j = 14 ∨ j = 15 by omega) with rfl | rfl | rfl | rfl | rfl | rfl | rfl | rfl | rfl | rfl | rfl | rfl | rfl | rfl | rfl | rfl
  all_goals kernel_rfl
theorem size16 (l : List Value) (h : l.length = 16) : (Try.prog.info? 65).map (·.size) = some l.length := by rw [h]; kernel_rfl
set_option maxHeartbeats 4000000 in
theorem Flushes_any {w : World} {m : Mt} {T : Tt} (h : Tr w m T) :
    Calls Try.prog 22 #[.pointer (some ⟨m.tb, 0, none⟩)] w fun r w' => ∃ v', r = .returned v' ∧ Sl w' v' 3 1 fI (flL T.fg 16) ∧ Fresh w.heap.size v' ∧ Tr w' m (clrT T) ∧ Goes m w m w' := by
  obtain ⟨b0, b1, b2, b3, b4, b5, b6, b7, b8, b9, b10, b11, b12, b13, b14, b15, hfg⟩ := sixteen h.fg
  have hltb := h.ltb
  have hrow := h.row
  have hrg : w.rangeAt m.tb 10 [.bool b0, .bool b1, .bool b2, .bool b3, .bool b4, .bool b5, .bool b6, .bool b7, .bool b8, .bool b9, .bool b10, .bool b11, .bool b12, .bool b13, .bool b14, .bool b15] := by
    intro j v hj
    have hjl : j < 16 := (List.getElem?_eq_some_iff.1 hj).1
    rw [h.cell (10 + j), treeRow_fg m T j (by rw [h.fg]; exact hjl), hfg, ← hj]
    rcases (show j = 0 ∨ j = 1 ∨ j = 2 ∨ j = 3 ∨ j = 4 ∨ j = 5 ∨ j = 6 ∨ j = 7 ∨ j = 8 ∨ j = 9 ∨ j = 10 ∨ j = 11 ∨ j = 12 ∨ j = 13 ∨ j = 14 ∨ j = 15 by omega) with rfl | rfl | rfl | rfl | rfl | rfl | rfl | rfl | rfl | rfl | rfl | rfl | rfl | rfl | rfl | rfl
    all_goals rfl
  have hix : Hid (∀ (j : Nat), j < 16 → ∀ w : World, (Instr.index 65 (.agg #[.bool b0, .bool b1, .bool b2, .bool b3, .bool b4, .bool b5, .bool b6, .bool b7, .bool b8, .bool b9, .bool b10, .bool b11, .bool b12, .bool b13, .bool b14, .bool b15]) (.int .i64 j)).run Try.prog w = .ok (.bool (T.fg.getD j false)) w) := fun j hj w => by rw [hfg]; exact idx16 b0 b1 b2 b3 b4 b5 b6 b7 b8 b9 b10 b11 b12 b13 b14 b15 j hj w
  have hst : Hid (∀ j, flL T.fg (j + 1) = if T.fg.getD j false = true then flL T.fg j ++ [(j : Int)] else flL T.fg j) := fun j => rfl
  have hlen := hide (flL_len T.fg)
  have hclr : Hid (∀ W : World, Below w.heap.size w W → (∀ ty, (Builtin.clear_ #[28] ty #[.slice (some ⟨m.tb, 10, none⟩) 16 16]).run Try.prog W = .ok (.tuple #[]) (W.setCells m.tb 10 (List.replicate 16 (.bool false)))) ∧ Tr (W.setCells m.tb 10 (List.replicate 16 (.bool false))) m (clrT T) ∧ Goes m w m (W.setCells m.tb 10 (List.replicate 16 (.bool false)))) := fun W hb => by
    have hT := h.below hb
    have hw := Wr.cells (List.replicate 16 (.bool false)) 10 W (Wr.refl m.tb W)
    have hcell : ∀ j, j < 16 → W.cell? ⟨m.tb, 10 + j, none⟩ = some (.bool (T.fg.getD j false)) := fun j hj => by rw [hT.cell, treeRow_fg m T j (by rw [h.fg]; exact hj)]
    have hr2 : (W.setCells m.tb 10 (List.replicate 16 (.bool false))).heap[m.tb]? = some (.cells (treeRow m (clrT T)).toArray 67 (0, 0)) := by
      rw [heap_setCells m.tb 67 _ 10 W (treeRow m T) hT.row]
      unfold clrT treeRow
      rw [hfg]
      rfl
    refine ⟨fun ty => Lib.run_clear_slice W _ _ ty (.bool false) Try.underlying28 (fun w => by rfl) rfl rfl m.tb 10 16 16 (by omega) (fun j hj => by rw [hcell j hj]; rfl) (fun j hj => hT.frozen _), ⟨hr2, hT.ports.blk fun b e => hw.block b (fun e' => h.a1 (by rw [e, e'])), hT.outs.blk fun b e => hw.block b (fun e' => h.a2 (by rw [e, e'])), hT.roles.blk (hw.block _ (fun e => h.a4 (.inl e))), hT.tells.blk (hw.block _ (fun e => h.a5 (.inl e))), by rfl, h.few, h.rl, h.tl, h.a1, h.a2, h.a3, h.a4, h.a5⟩, (Goes.of_below hb).trans ⟨rfl, rfl, fun _ h => .inl h, hw.os, hw.tape, hw.output, Nat.le_of_eq hw.size, fun k _ hn => hw.block k (fun e => hn (.inl e))⟩⟩
  clear hfg hrow h
  generalize hF : flL T.fg = F at *
  replace hF := hide hF
  generalize T.fg = fg at *
  go_enter Try.func22, Try.ntmps22
  go_wp2_with ((with_reducible change wpList _ _ _ _ _ _); refine wpList_load_mid rfl 65 (.tmp 8) rfl m.tb 10 rfl [.bool b0, .bool b1, .bool b2, .bool b3, .bool b4, .bool b5, .bool b6, .bool b7, .bool b8, .bool b9, .bool b10, .bool b11, .bool b12, .bool b13, .bool b14, .bool b15] _ hrg Try.underlying65 rfl (size16 _ rfl) ?_)
  clear hrg
  go_loopw [10, 3] (fun i v wr => ∃ j : Nat, j ≤ 16 ∧ i = .int .i64 j ∧ Hid (Below w.heap.size w wr) ∧ Hid (Sl wr v 3 1 fI (F j)) ∧ Hid (Fresh w.heap.size v)) (fun i _ _ => 16 - (intOf i).toNat)
  case atStart => exact ⟨0, Nat.zero_le _, rfl, hide (Below.refl _ _), by rw [← hF.out]; exact Sl.nil _ _ _ _, fun x e => by simp [Value.ownBlock] at e⟩
  case round =>
    obtain ⟨j, hj, rfl, hB, hS, hO⟩ := hrel
    by_cases hlt : j < 16
    · have hx := hix.out j hlt
      have hs := hide (hst.out j)
      have hln : Hid ((F j).length ≤ 16) := Nat.le_trans (hlen.out j) (by omega)
      generalize fg.getD j false = yes at *
      cases yes
      · have hE : Hid (F (j + 1) = F j) := hs.out
        clear hs hst
        go_wp2
        go_round
        case rel => exact ⟨j + 1, by omega, by go_num, hB, by rw [hE.out]; exact hS, hO⟩
        case measure => simp [intOf]; omega
      · have hE : Hid (F (j + 1) = F j ++ [(j : Int)]) := hs.out
        clear hs hst
        have hb1 := hide (hB.out.later (below1 wr (.cells #[.int .i64 j] 3)))
        have hS1 := hide (hS.out.below (below1 wr (.cells #[.int .i64 j] 3)))
        have hk : Hid ((wr.alloc (.cells #[.int .i64 j] 3)).heap[wr.heap.size]? = some (.cells #[.int .i64 j] 3)) := heap_alloc_new _ _
        have hsz : Hid (w.heap.size ≤ wr.heap.size) := hB.out.size
        go_wp2_with (at_builtin; refine unhB ?_)
        clear hx
        refine hide ?_
        refine wpList_append_sl rfl (.tmp 15) (.tmp 17) rfl wide_I sty_I u3 (F j) rfl hS1.out ⟨wr.heap.size, 0, none⟩ 1 1 [(j : Int)] rfl rfl (fun x u hx => ?_) (by have := hln.out; simp; omega) (by omega) ?_
        · rw [Addr.add_lit, cell_of_row _ _ _ _ _ _ hk.out, ← hx]
          simp [flat]
        intro v4 w4 hS4 hg4 ho4
        rw [← hE.out] at hS4
        have hB4 : Hid (Below w.heap.size w w4) := grown_below hg4 hb1.out (by rw [World.size_alloc]; have := hsz.out; omega) hO.out
        have hO4 : Hid (Fresh w.heap.size v4) := fun x e => by
          rcases ho4 with e1 | e1
          · rw [e1] at e; exact hO.out x e
          · rw [e1] at e; simp only [Option.some.injEq, World.size_alloc] at e; have := hsz.out; omega
        replace hS4 := hide hS4
        obtain ⟨av, cv, rfl⟩ := hS4.out.shape
        clear hg4 ho4 hS1 hb1 hk hsz hB hS hO
        generalize hLL : (F (j + 1)).length = ltn at *
        replace hLL := hide hLL
        go_wp2
        go_round
        case rel => exact ⟨j + 1, by omega, by go_num, hB4, hS4, hO4⟩
        case measure => simp [intOf]; omega
    · obtain rfl : j = 16 := by omega
      obtain ⟨hr, hT, hG⟩ := hclr.out _ hB.out
      obtain ⟨av, cv, rfl⟩ := hS.out.shape
      have hS2 : Hid (Sl (wr.setCells m.tb 10 (List.replicate 16 (.bool false))) (.slice av (F 16).length cv) 3 1 fI (F 16)) := hS.out.blk fun b e => heap_setCells_other m.tb _ 10 wr b (fun e' => by have := hO.out b e; omega)
      replace hT := hide hT
      replace hG := hide hG
      rw [hF.out] at *
      generalize hLL : (F 16).length = ltn at *
      replace hLL := hide hLL
      clear hclr hst hix hS
      go_wp2
      go_ret
      exact ⟨_, rfl, hS2.out, hO.out, hT.out, hG.out⟩
end Go.Proofs.Ytoejoneecanbbaa
