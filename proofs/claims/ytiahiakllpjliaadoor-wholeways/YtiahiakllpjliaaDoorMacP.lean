
/-
  A contract of mac.Parse. Conditions: the table lies as the program's text lays it ('Tab'); those that each theorem names.
-/
import Derived.Test.YtiahiakllpjliaaDoorMacR
namespace Go.Proofs.YtiahiakllpjliaaDoor
open Go.RowKit

theorem results_cell_row3 {P : Program} {fn : Func} {p q r : Tmp} {ty : TypeId} (h : fn.results = #[.cell p ty, .tmp q, .tmp r]) (tmps : Array Value) (w : World) (g : Nat) (t : TypeId) (cs : Array Value) (fr : Nat × Nat) (d : TypeDesc)
    (hp : tmps.getD p undef = .pointer (some ⟨g, 0, none⟩)) (hg : w.heap[g]? = some (.cells cs t fr))
    (hu : P.underlying ty = some d) (hd : (match d with | .struct _ | .array _ _ => true | _ => false) = true) (hi : (P.info? ty).map (·.size) = some cs.size) :
    (results fn tmps).run P w = .ok (.tuple #[.agg cs, tmps.getD q undef, tmps.getD r undef]) w := by
  have hp' : tmps[p]?.getD undef = .pointer (some ⟨g, 0, none⟩) := by simpa using hp
  simp [results, h, hp', asAddr, run_loadVar_row w g t ty cs fr d hg hu hd hi]

/-- What stands ahead of the payload, right or wrong; and what is behind it. -/
def hdOf : List Int → Hd
  | a0 :: a1 :: a2 :: a3 :: a4 :: a5 :: a6 :: a7 :: a8 :: a9 :: a10 :: a11 :: a12 :: a13 :: r => if n2 a12 a13 = 33024 then ((hdPlain a0 a1 a2 a3 a4 a5 a6 a7 a8 a9 a10 a11 0).tagged (n2 (r.getD 0 0) (r.getD 1 0))).typed (n2 (r.getD 2 0) (r.getD 3 0)) else hdPlain a0 a1 a2 a3 a4 a5 a6 a7 a8 a9 a10 a11 (n2 a12 a13)
  | _ => Hd.zero
def isTag (l : List Int) : Bool := n2 (l.getD 12 0) (l.getD 13 0) == 33024
def restOf (l : List Int) : List Int := if isTag l then l.drop 18 else l.drop 14
theorem uncons {l : List Int} {n : Nat} (h : n + 1 ≤ l.length) : ∃ a r, l = a :: r ∧ n ≤ r.length := by
  cases l with
  | nil => simp at h
  | cons a r => exact ⟨a, r, rfl, by simpa using h⟩
theorem list14 (l : List Int) (h : 18 ≤ l.length) : ∃ a0 a1 a2 a3 a4 a5 a6 a7 a8 a9 a10 a11 a12 a13 a14 a15 a16 a17 r, l = a0 :: a1 :: a2 :: a3 :: a4 :: a5 :: a6 :: a7 :: a8 :: a9 :: a10 :: a11 :: a12 :: a13 :: a14 :: a15 :: a16 :: a17 :: r := by
  obtain ⟨a0, l0, rfl, h0⟩ := uncons h
  obtain ⟨a1, l1, rfl, h1⟩ := uncons h0
  obtain ⟨a2, l2, rfl, h2⟩ := uncons h1
  obtain ⟨a3, l3, rfl, h3⟩ := uncons h2
  obtain ⟨a4, l4, rfl, h4⟩ := uncons h3
  obtain ⟨a5, l5, rfl, h5⟩ := uncons h4
  obtain ⟨a6, l6, rfl, h6⟩ := uncons h5
  obtain ⟨a7, l7, rfl, h7⟩ := uncons h6
  obtain ⟨a8, l8, rfl, h8⟩ := uncons h7
  obtain ⟨a9, l9, rfl, h9⟩ := uncons h8
  obtain ⟨a10, l10, rfl, h10⟩ := uncons h9
  obtain ⟨a11, l11, rfl, h11⟩ := uncons h10
  obtain ⟨a12, l12, rfl, h12⟩ := uncons h11
  obtain ⟨a13, l13, rfl, h13⟩ := uncons h12
  obtain ⟨a14, l14, rfl, h14⟩ := uncons h13
  obtain ⟨a15, l15, rfl, h15⟩ := uncons h14
  obtain ⟨a16, l16, rfl, h16⟩ := uncons h15
  obtain ⟨a17, l17, rfl, h17⟩ := uncons h16
  exact ⟨_, _, _, _, _, _, _, _, _, _, _, _, _, _, _, _, _, _, l17, rfl⟩
theorem readHeader_any {w : World} {g : Nat} {l : List Int} (h : Rd w g l 0) (hl : 18 ≤ l.length) (hm : l.length ≤ 1000000) :
    Calls Tryd.prog 31 #[.pointer (some ⟨g, 0, none⟩)] w fun e w' => e = .returned (.agg (hdOf l).row) ∧ Rd w' g (restOf l) 0 ∧ Below g w w' := by
  obtain ⟨a0, a1, a2, a3, a4, a5, a6, a7, a8, a9, a10, a11, a12, a13, a14, a15, a16, a17, r, rfl⟩ := list14 l hl
  by_cases hn : n2 a12 a13 = 33024
  · have := readHeader_tag a0 a1 a2 a3 a4 a5 a6 a7 a8 a9 a10 a11 a12 a13 a14 a15 a16 a17 r h (by simp at hm; omega) hn
    simp only [hdOf, restOf, isTag, if_pos hn]
    simpa [hn] using this
  · have := readHeader_plain a0 a1 a2 a3 a4 a5 a6 a7 a8 a9 a10 a11 a12 a13 (a14 :: a15 :: a16 :: a17 :: r) h (by simp at hm ⊢; omega) hn
    simp only [hdOf, restOf, isTag, if_neg hn]
    simpa [hn] using this

def payN (h : Hd) (rest : List Int) : Nat := if h.llc then h.typ.toNat else rest.length
/-- What Parse answers. -/
def parsed (l : List Int) : Hd × List Int × Int :=
  if l.length < 64 then (Hd.zero, [], 2) else if 1522 < l.length then (Hd.zero, [], 3) else if sealL (l.take (l.length - 4)) ≠ l then (Hd.zero, [], 10)
  else if (if (hdOf (l.take (l.length - 4))).tg then 1522 else 1518) < l.length then (Hd.zero, [], 3)
  else if mayBeB (hdOf (l.take (l.length - 4))) = false ∨ (restOf (l.take (l.length - 4))).length < payN (hdOf (l.take (l.length - 4))) (restOf (l.take (l.length - 4))) then (Hd.zero, [], 4)
  else (hdOf (l.take (l.length - 4)), (restOf (l.take (l.length - 4))).take (payN (hdOf (l.take (l.length - 4))) (restOf (l.take (l.length - 4)))), 0)

theorem Parse_short {v : Value} {l : List Int} {w : World} (hv : Bs w v l) (h : l.length < 64) :
    Calls Tryd.prog 11 #[v] w fun e w' => e = .returned (.tuple #[.agg Hd.zero.row, .slice none 0 0, .int .i64 2]) ∧ Below w.heap.size w w' := by
  obtain ⟨_, a, cap, rfl, _⟩ := hv
  have hA := heap_alloc_new w (.cells Hd.zero.row 25)
  go_enter Tryd.func11, Tryd.ntmps11
  go_wp2_with (refine wpList_store_row rfl 25 _ _ rfl w.heap.size Hd.zero.row rfl rfl 25 _ hA (hdSize _) rfl (Hd.row_all _) ?_)
  refine bodyPost_ret (results_cell_row3 rfl _ _ w.heap.size 25 _ _ _ rfl (setRow_heap _ _ _ _ _ _ hA) Tryd.underlying25 rfl (hdSize _)) rfl ⟨rfl, below_setRow (below1 _ _) (Nat.le_refl _) _⟩
theorem Parse_long {v : Value} {l : List Int} {w : World} (hv : Bs w v l) (h : 1522 < l.length) :
    Calls Tryd.prog 11 #[v] w fun e w' => e = .returned (.tuple #[.agg Hd.zero.row, .slice none 0 0, .int .i64 3]) ∧ Below w.heap.size w w' := by
  obtain ⟨_, a, cap, rfl, _⟩ := hv
  have hA := heap_alloc_new w (.cells Hd.zero.row 25)
  go_enter Tryd.func11, Tryd.ntmps11
  go_wp2_with (refine wpList_store_row rfl 25 _ _ rfl w.heap.size Hd.zero.row rfl rfl 25 _ hA (hdSize _) rfl (Hd.row_all _) ?_)
  refine bodyPost_ret (results_cell_row3 rfl _ _ w.heap.size 25 _ _ _ rfl (setRow_heap _ _ _ _ _ _ hA) Tryd.underlying25 rfl (hdSize _)) rfl ⟨rfl, below_setRow (below1 _ _) (Nat.le_refl _) _⟩
set_option maxRecDepth 20000 in
theorem Parse_sum {v : Value} {l : List Int} {w : World} (hv : Bs w v l) (hT : Tab w) (h : 64 ≤ l.length) (h2 : l.length ≤ 1522) (hs : sealL (l.take (l.length - 4)) ≠ l) :
    Calls Tryd.prog 11 #[v] w fun e w' => e = .returned (.tuple #[.agg Hd.zero.row, .slice none 0 0, .int .i64 10]) ∧ Below w.heap.size w w' := by
  have HV := hide hv
  have HT := hide hT
  have HS := hide hs
  obtain ⟨_, a, cap, rfl, _⟩ := hv
  clear hT hs
  have hA := heap_alloc_new w (.cells Hd.zero.row 25)
  have hO := hide (Open_long (HV.out.below (below1 w (.cells Hd.zero.row 25))) (HT.out.later (below1 w (.cells Hd.zero.row 25))) (by omega) (by omega))
  go_enter Tryd.func11, Tryd.ntmps11
  go_wp2_with fail
  refine hO.out.mono ?_
  rintro e w1 ⟨h1 | h1, hb1⟩
  · exact absurd h1.1 HS.out
  obtain ⟨_, rfl⟩ := h1
  have hA1 := heap_kept hb1 hA
  have hW1 := hide ((below1 w _).later hb1)
  clear hb1 hA hO
  go_wp2_with (refine wpList_store_row rfl 25 _ _ rfl w.heap.size Hd.zero.row rfl rfl 25 _ hA1 (hdSize _) rfl (Hd.row_all _) ?_)
  refine bodyPost_ret (results_cell_row3 rfl _ _ w.heap.size 25 _ _ _ rfl (setRow_heap _ _ _ _ _ _ hA1) Tryd.underlying25 rfl (hdSize _)) rfl ⟨rfl, below_setRow hW1.out (Nat.le_refl _) _⟩
/-- As far as the reader, and what stands ahead of the payload. -/
theorem hdOf_s0 (l : List Int) (hb : Byte l) : 0 ≤ (hdOf l).s0 ∧ (hdOf l).s0 ≤ 255 := by
  unfold hdOf
  split
  · rename_i a0 a1 a2 a3 a4 a5 a6 a7 a8 a9 a10 a11 a12 a13 r
    have := hb a6 (by simp)
    split <;> simpa [Hd.typed, Hd.tagged, hdPlain] using this
  · simp [Hd.zero]
theorem mayBe_yes (h : Hd) (w : World) (hs : 0 ≤ h.s0 ∧ h.s0 ≤ 255) (hy : mayBeB h = true) :
    Calls Tryd.prog 34 #[.agg h.row] w fun r w' => r = .returned (.bool true) ∧ Below w.heap.size w w' := by
  have := mayBe_any h w hs
  rwa [hy] at this
theorem mayBe_no (h : Hd) (w : World) (hs : 0 ≤ h.s0 ∧ h.s0 ≤ 255) (hy : mayBeB h = false) :
    Calls Tryd.prog 34 #[.agg h.row] w fun r w' => r = .returned (.bool false) ∧ Below w.heap.size w w' := by
  have := mayBe_any h w hs
  rwa [hy] at this
set_option maxRecDepth 20000 in
set_option maxHeartbeats 400000 in
theorem Parse_long2 {v : Value} {l : List Int} {w : World} (hv : Bs w v l) (hT : Tab w) (h : 64 ≤ l.length) (h2 : l.length ≤ 1522) (hs : sealL (l.take (l.length - 4)) = l)
    (h3 : (if (hdOf (l.take (l.length - 4))).tg then 1522 else 1518) < l.length) :
    Calls Tryd.prog 11 #[v] w fun e w' => e = .returned (.tuple #[.agg Hd.zero.row, .slice none 0 0, .int .i64 3]) ∧ Below w.heap.size w w' := by
  have HV := hide hv
  have HT := hide hT
  have HS := hide hs
  have hn4 : (l.take (l.length - 4)).length = l.length - 4 := by simp
  have hby := hide (hdOf_s0 (l.take (l.length - 4)) (hv.byte.take _))
  obtain ⟨_, a, cap, rfl, _⟩ := hv
  clear hT hs
  have hA := heap_alloc_new w (.cells Hd.zero.row 25)
  have hO := hide (Open_long (HV.out.below (below1 w (.cells Hd.zero.row 25))) (HT.out.later (below1 w (.cells Hd.zero.row 25))) (by omega) (by omega))
  generalize hlb : l.take (l.length - 4) = lb at *
  generalize hlen : l.length = len at *
  clear hlb
  have HN4 := hide hn4
  clear hn4
  have hHd := hide (fun (w : World) (g : Nat) (h : Rd w g lb 0) => readHeader_any h (by rw [HN4.out]; omega) (by rw [HN4.out]; omega))
  generalize hdOf lb = H at *
  generalize restOf lb = R at *
  clear hlen
  go_enter Tryd.func11, Tryd.ntmps11
  go_wp2_with fail
  refine hO.out.mono ?_
  rintro e w1 ⟨h1 | h1, hb1⟩
  case inr => exact absurd HS.out h1.1
  obtain ⟨_, rfl, hB1⟩ := h1
  have hA1 := heap_kept hb1 hA
  have hW1 := hide ((below1 w _).later hb1)
  have hz1 := hb1.size
  simp only [World.size_alloc] at hz1 hB1
  clear hb1 hA hO
  go_wp2_with fail
  refine (Read_any hB1).mono ?_
  rintro e w2 ⟨rfl, hR2, hb2⟩
  have hA2 := heap_kept hb2 hA1
  have hW2 := hide (hW1.out.later hb2)
  have hz2 := hb2.size
  generalize hg : w1.heap.size = g at *
  clear hb2 hA1 hW1 hB1 hg
  go_wp2_with fail
  refine (hHd.out _ _ hR2).mono ?_
  rintro e w3 ⟨rfl, hR3, hb3⟩
  have hA3 := (hb3.block w.heap.size (by omega)).trans hA2
  have hW3 := hide (hW2.out.trans (hb3.mono (by omega)))
  have hz3 := hb3.size
  have hgl := hR3.lt
  clear hb3 hA2 hW2 hR2 hHd
  go_wp2_with (refine wpList_store_fresh rfl 25 _ _ rfl H.row Hd.zero.row rfl rfl 25 (hdSize _) rfl (Hd.row_all _) ?_; intro w4 hH4 hb4; have hA4 := heap_kept hb4 hA3; have hR4 := hR3.kept hgl hb4; have hW4 := hide (hW3.out.later hb4); have hz4 : w3.heap.size < w4.heap.size := (Array.getElem?_eq_some_iff.1 hH4).1; have c12 : w4.cell? ⟨w3.heap.size, 12, none⟩ = some (.bool H.tg) := (cell_of_row _ _ _ _ _ _ hH4).trans rfl; have c16 : w4.cell? ⟨w3.heap.size, 16, none⟩ = some (.int .i64 H.typ) := (cell_of_row _ _ _ _ _ _ hH4).trans rfl; have c17 : w4.cell? ⟨w3.heap.size, 17, none⟩ = some (.bool H.llc) := (cell_of_row _ _ _ _ _ _ hH4).trans rfl; clear hb4 hA3 hR3 hW3)
  refine (most_any H.tg _).mono ?_
  rintro e w4' ⟨rfl, rfl⟩
  obtain ⟨M, hM⟩ : ∃ M : Int, M = (if H.tg = true then 1522 else 1518) := ⟨_, rfl⟩
  rw [← hM]
  have hMl : M < (len : Int) := by
    cases hq : H.tg <;> rw [hq] at hM h3 <;> simp at hM h3 <;> omega
  clear hM h3
  go_wp2_with (refine wpList_store_row rfl 25 _ _ rfl w.heap.size Hd.zero.row rfl rfl 25 _ hA4 (hdSize _) rfl (Hd.row_all _) ?_)
  refine bodyPost_ret (results_cell_row3 rfl _ _ w.heap.size 25 _ _ _ rfl (setRow_heap _ _ _ _ _ _ hA4) Tryd.underlying25 rfl (hdSize _)) rfl ⟨rfl, below_setRow hW4.out (Nat.le_refl _) _⟩
set_option maxRecDepth 20000 in
set_option maxHeartbeats 400000 in
theorem Parse_form {v : Value} {l : List Int} {w : World} (hv : Bs w v l) (hT : Tab w) (h : 64 ≤ l.length) (h2 : l.length ≤ 1522) (hs : sealL (l.take (l.length - 4)) = l)
    (h3 : ¬ (if (hdOf (l.take (l.length - 4))).tg then 1522 else 1518) < l.length) (h4 : mayBeB (hdOf (l.take (l.length - 4))) = false) :
    Calls Tryd.prog 11 #[v] w fun e w' => e = .returned (.tuple #[.agg Hd.zero.row, .slice none 0 0, .int .i64 4]) ∧ Below w.heap.size w w' := by
  have HV := hide hv
  have HT := hide hT
  have HS := hide hs
  have hn4 : (l.take (l.length - 4)).length = l.length - 4 := by simp
  have hby := hide (hdOf_s0 (l.take (l.length - 4)) (hv.byte.take _))
  obtain ⟨_, a, cap, rfl, _⟩ := hv
  clear hT hs
  have hA := heap_alloc_new w (.cells Hd.zero.row 25)
  have hO := hide (Open_long (HV.out.below (below1 w (.cells Hd.zero.row 25))) (HT.out.later (below1 w (.cells Hd.zero.row 25))) (by omega) (by omega))
  generalize hlb : l.take (l.length - 4) = lb at *
  generalize hlen : l.length = len at *
  clear hlb
  have HN4 := hide hn4
  clear hn4
  have hHd := hide (fun (w : World) (g : Nat) (h : Rd w g lb 0) => readHeader_any h (by rw [HN4.out]; omega) (by rw [HN4.out]; omega))
  generalize hdOf lb = H at *
  generalize restOf lb = R at *
  clear hlen
  go_enter Tryd.func11, Tryd.ntmps11
  go_wp2_with fail
  refine hO.out.mono ?_
  rintro e w1 ⟨h1 | h1, hb1⟩
  case inr => exact absurd HS.out h1.1
  obtain ⟨_, rfl, hB1⟩ := h1
  have hA1 := heap_kept hb1 hA
  have hW1 := hide ((below1 w _).later hb1)
  have hz1 := hb1.size
  simp only [World.size_alloc] at hz1 hB1
  clear hb1 hA hO
  go_wp2_with fail
  refine (Read_any hB1).mono ?_
  rintro e w2 ⟨rfl, hR2, hb2⟩
  have hA2 := heap_kept hb2 hA1
  have hW2 := hide (hW1.out.later hb2)
  have hz2 := hb2.size
  generalize hg : w1.heap.size = g at *
  clear hb2 hA1 hW1 hB1 hg
  go_wp2_with fail
  refine (hHd.out _ _ hR2).mono ?_
  rintro e w3 ⟨rfl, hR3, hb3⟩
  have hA3 := (hb3.block w.heap.size (by omega)).trans hA2
  have hW3 := hide (hW2.out.trans (hb3.mono (by omega)))
  have hz3 := hb3.size
  have hgl := hR3.lt
  clear hb3 hA2 hW2 hR2 hHd
  go_wp2_with (refine wpList_store_fresh rfl 25 _ _ rfl H.row Hd.zero.row rfl rfl 25 (hdSize _) rfl (Hd.row_all _) ?_; intro w4 hH4 hb4; have hA4 := heap_kept hb4 hA3; have hR4 := hR3.kept hgl hb4; have hW4 := hide (hW3.out.later hb4); have hz4 : w3.heap.size < w4.heap.size := (Array.getElem?_eq_some_iff.1 hH4).1; have c12 : w4.cell? ⟨w3.heap.size, 12, none⟩ = some (.bool H.tg) := (cell_of_row _ _ _ _ _ _ hH4).trans rfl; have c16 : w4.cell? ⟨w3.heap.size, 16, none⟩ = some (.int .i64 H.typ) := (cell_of_row _ _ _ _ _ _ hH4).trans rfl; have c17 : w4.cell? ⟨w3.heap.size, 17, none⟩ = some (.bool H.llc) := (cell_of_row _ _ _ _ _ _ hH4).trans rfl; clear hb4 hA3 hR3 hW3)
  refine (most_any H.tg _).mono ?_
  rintro e w4' ⟨rfl, rfl⟩
  obtain ⟨M, hM⟩ : ∃ M : Int, M = (if H.tg = true then 1522 else 1518) := ⟨_, rfl⟩
  rw [← hM]
  have hMl : (len : Int) ≤ M := by
    cases hq : H.tg <;> rw [hq] at hM h3 <;> simp at hM h3 <;> omega
  clear hM h3
  go_wp2_with fail
  refine (Left_any hR4).mono ?_
  rintro e w4'' ⟨rfl, rfl⟩
  have hMb := hide (fun w => mayBe_no H w hby.out h4)
  clear h4
  cases hL : H.llc
  all_goals
    rw [hL] at c17
    go_wp2_with (first | (refine wpList_load_row rfl 25 _ rfl w3.heap.size rfl 25 _ _ _ hH4 Tryd.underlying25 rfl (hdSize _) ?_) | (go_at_call 34; refine (hMb.out _).mono ?_; rintro e w5 ⟨rfl, hb5⟩; have hA5 := heap_kept hb5 hA4; have hW5 := hide (hW4.out.later hb5); clear hb5) | (refine wpList_store_row rfl 25 _ _ rfl w.heap.size Hd.zero.row rfl rfl 25 _ hA5 (hdSize _) rfl (Hd.row_all _) ?_))
    refine bodyPost_ret (results_cell_row3 rfl _ _ w.heap.size 25 _ _ _ rfl (setRow_heap _ _ _ _ _ _ hA5) Tryd.underlying25 rfl (hdSize _)) rfl ⟨rfl, below_setRow hW5.out (Nat.le_refl _) _⟩
set_option maxRecDepth 20000 in
set_option maxHeartbeats 400000 in
theorem Parse_form2 {v : Value} {l : List Int} {w : World} (hv : Bs w v l) (hT : Tab w) (h : 64 ≤ l.length) (h2 : l.length ≤ 1522) (hs : sealL (l.take (l.length - 4)) = l)
    (h3 : ¬ (if (hdOf (l.take (l.length - 4))).tg then 1522 else 1518) < l.length) (h4 : mayBeB (hdOf (l.take (l.length - 4))) = true) (h5 : (restOf (l.take (l.length - 4))).length < payN (hdOf (l.take (l.length - 4))) (restOf (l.take (l.length - 4)))) :
    Calls Tryd.prog 11 #[v] w fun e w' => e = .returned (.tuple #[.agg Hd.zero.row, .slice none 0 0, .int .i64 4]) ∧ Below w.heap.size w w' := by
  have HV := hide hv
  have HT := hide hT
  have HS := hide hs
  have hn4 : (l.take (l.length - 4)).length = l.length - 4 := by simp
  have hby := hide (hdOf_s0 (l.take (l.length - 4)) (hv.byte.take _))
  obtain ⟨_, a, cap, rfl, _⟩ := hv
  clear hT hs
  have hA := heap_alloc_new w (.cells Hd.zero.row 25)
  have hO := hide (Open_long (HV.out.below (below1 w (.cells Hd.zero.row 25))) (HT.out.later (below1 w (.cells Hd.zero.row 25))) (by omega) (by omega))
  generalize hlb : l.take (l.length - 4) = lb at *
  generalize hlen : l.length = len at *
  clear hlb
  have HN4 := hide hn4
  clear hn4
  have hHd := hide (fun (w : World) (g : Nat) (h : Rd w g lb 0) => readHeader_any h (by rw [HN4.out]; omega) (by rw [HN4.out]; omega))
  generalize hdOf lb = H at *
  generalize restOf lb = R at *
  clear hlen
  go_enter Tryd.func11, Tryd.ntmps11
  go_wp2_with fail
  refine hO.out.mono ?_
  rintro e w1 ⟨h1 | h1, hb1⟩
  case inr => exact absurd HS.out h1.1
  obtain ⟨_, rfl, hB1⟩ := h1
  have hA1 := heap_kept hb1 hA
  have hW1 := hide ((below1 w _).later hb1)
  have hz1 := hb1.size
  simp only [World.size_alloc] at hz1 hB1
  clear hb1 hA hO
  go_wp2_with fail
  refine (Read_any hB1).mono ?_
  rintro e w2 ⟨rfl, hR2, hb2⟩
  have hA2 := heap_kept hb2 hA1
  have hW2 := hide (hW1.out.later hb2)
  have hz2 := hb2.size
  generalize hg : w1.heap.size = g at *
  clear hb2 hA1 hW1 hB1 hg
  go_wp2_with fail
  refine (hHd.out _ _ hR2).mono ?_
  rintro e w3 ⟨rfl, hR3, hb3⟩
  have hA3 := (hb3.block w.heap.size (by omega)).trans hA2
  have hW3 := hide (hW2.out.trans (hb3.mono (by omega)))
  have hz3 := hb3.size
  have hgl := hR3.lt
  clear hb3 hA2 hW2 hR2 hHd
  go_wp2_with (refine wpList_store_fresh rfl 25 _ _ rfl H.row Hd.zero.row rfl rfl 25 (hdSize _) rfl (Hd.row_all _) ?_; intro w4 hH4 hb4; have hA4 := heap_kept hb4 hA3; have hR4 := hR3.kept hgl hb4; have hW4 := hide (hW3.out.later hb4); have hz4 : w3.heap.size < w4.heap.size := (Array.getElem?_eq_some_iff.1 hH4).1; have c12 : w4.cell? ⟨w3.heap.size, 12, none⟩ = some (.bool H.tg) := (cell_of_row _ _ _ _ _ _ hH4).trans rfl; have c16 : w4.cell? ⟨w3.heap.size, 16, none⟩ = some (.int .i64 H.typ) := (cell_of_row _ _ _ _ _ _ hH4).trans rfl; have c17 : w4.cell? ⟨w3.heap.size, 17, none⟩ = some (.bool H.llc) := (cell_of_row _ _ _ _ _ _ hH4).trans rfl; clear hb4 hA3 hR3 hW3)
  refine (most_any H.tg _).mono ?_
  rintro e w4' ⟨rfl, rfl⟩
  obtain ⟨M, hM⟩ : ∃ M : Int, M = (if H.tg = true then 1522 else 1518) := ⟨_, rfl⟩
  rw [← hM]
  have hMl : (len : Int) ≤ M := by
    cases hq : H.tg <;> rw [hq] at hM h3 <;> simp at hM h3 <;> omega
  clear hM h3
  go_wp2_with fail
  refine (Left_any hR4).mono ?_
  rintro e w4'' ⟨rfl, rfl⟩
  have hMb := hide (fun w => mayBe_yes H w hby.out h4)
  clear h4
  have hL : H.llc = true := by
    cases hq : H.llc
    · rw [payN, hq] at h5; simp at h5
    · rfl
  have h6 : (R.length : Int) < H.typ := by
    rw [payN, hL] at h5
    simp at h5
    omega
  rw [hL] at c17
  clear h5
  go_wp2_with (first | (refine wpList_load_row rfl 25 _ rfl w3.heap.size rfl 25 _ _ _ hH4 Tryd.underlying25 rfl (hdSize _) ?_) | (go_at_call 34; refine (hMb.out _).mono ?_; rintro e w5 ⟨rfl, hb5⟩; have hA5 := heap_kept hb5 hA4; have hH5 := heap_kept hb5 hH4; have hR5 := hR4.kept (Nat.lt_trans hgl hz4) hb5; have hW5 := hide (hW4.out.later hb5); have hz5 := hb5.size; clear hb5) | (go_at_call 33; refine (Left_any hR5).mono ?_; rintro e w6 ⟨rfl, h6w⟩; obtain rfl := h6w.symm) | (refine wpList_store_row rfl 25 _ _ rfl w.heap.size Hd.zero.row rfl rfl 25 _ hA5 (hdSize _) rfl (Hd.row_all _) ?_))
  refine bodyPost_ret (results_cell_row3 rfl _ _ w.heap.size 25 _ _ _ rfl (setRow_heap _ _ _ _ _ _ hA5) Tryd.underlying25 rfl (hdSize _)) rfl ⟨rfl, below_setRow hW5.out (Nat.le_refl _) _⟩
theorem restOf_le (l : List Int) : (restOf l).length ≤ l.length := by unfold restOf; split <;> simp <;> omega
theorem hdOf_typ (l : List Int) (hb : Byte l) : 0 ≤ (hdOf l).typ := by
  unfold hdOf
  split
  · rename_i a0 a1 a2 a3 a4 a5 a6 a7 a8 a9 a10 a11 a12 a13 r
    have h12 := hb a12 (by simp)
    have h13 := hb a13 (by simp)
    have hr : Byte r := fun z hz => hb z (by simp [hz])
    have h2 := hr.getD 2
    have h3 := hr.getD 3
    split
    · simp only [Hd.typed, n2]; omega
    · simp only [hdPlain, n2]; omega
  · simp [Hd.zero]
set_option maxRecDepth 20000 in
set_option maxHeartbeats 400000 in
theorem Parse_ok {v : Value} {l : List Int} {w : World} (hv : Bs w v l) (hT : Tab w) (h : 64 ≤ l.length) (h2 : l.length ≤ 1522) (hs : sealL (l.take (l.length - 4)) = l)
    (h3 : ¬ (if (hdOf (l.take (l.length - 4))).tg then 1522 else 1518) < l.length) (h4 : mayBeB (hdOf (l.take (l.length - 4))) = true) (h5 : payN (hdOf (l.take (l.length - 4))) (restOf (l.take (l.length - 4))) ≤ (restOf (l.take (l.length - 4))).length) :
    Calls Tryd.prog 11 #[v] w fun e w' => ∃ a n c, e = .returned (.tuple #[.agg (hdOf (l.take (l.length - 4))).row, .slice a n c, .int .i64 0]) ∧ Bs w' (.slice a n c) ((restOf (l.take (l.length - 4))).take (payN (hdOf (l.take (l.length - 4))) (restOf (l.take (l.length - 4))))) ∧ Below w.heap.size w w' := by
  have HV := hide hv
  have HT := hide hT
  have HS := hide hs
  have hn4 : (l.take (l.length - 4)).length = l.length - 4 := by simp
  have hby := hide (hdOf_s0 (l.take (l.length - 4)) (hv.byte.take _))
  have hRl0 := hide (restOf_le (l.take (l.length - 4)))
  have htyp := hide (hdOf_typ (l.take (l.length - 4)) (hv.byte.take _))
  obtain ⟨_, a, cap, rfl, _⟩ := hv
  clear hT hs
  have hA := heap_alloc_new w (.cells Hd.zero.row 25)
  have hO := hide (Open_long (HV.out.below (below1 w (.cells Hd.zero.row 25))) (HT.out.later (below1 w (.cells Hd.zero.row 25))) (by omega) (by omega))
  generalize hlb : l.take (l.length - 4) = lb at *
  generalize hlen : l.length = len at *
  clear hlb
  have HN4 := hide hn4
  clear hn4
  have hHd := hide (fun (w : World) (g : Nat) (h : Rd w g lb 0) => readHeader_any h (by rw [HN4.out]; omega) (by rw [HN4.out]; omega))
  have HRl : Hid ((restOf lb).length ≤ 1000000) := Nat.le_trans hRl0.out (by rw [HN4.out]; omega)
  clear hRl0
  generalize hdOf lb = H at *
  generalize restOf lb = R at *
  clear hlen
  go_enter Tryd.func11, Tryd.ntmps11
  go_wp2_with fail
  refine hO.out.mono ?_
  rintro e w1 ⟨h1 | h1, hb1⟩
  case inr => exact absurd HS.out h1.1
  obtain ⟨_, rfl, hB1⟩ := h1
  have hA1 := heap_kept hb1 hA
  have hW1 := hide ((below1 w _).later hb1)
  have hz1 := hb1.size
  simp only [World.size_alloc] at hz1 hB1
  clear hb1 hA hO
  go_wp2_with fail
  refine (Read_any hB1).mono ?_
  rintro e w2 ⟨rfl, hR2, hb2⟩
  have hA2 := heap_kept hb2 hA1
  have hW2 := hide (hW1.out.later hb2)
  have hz2 := hb2.size
  generalize hg : w1.heap.size = g at *
  clear hb2 hA1 hW1 hB1 hg
  go_wp2_with fail
  refine (hHd.out _ _ hR2).mono ?_
  rintro e w3 ⟨rfl, hR3, hb3⟩
  have hA3 := (hb3.block w.heap.size (by omega)).trans hA2
  have hW3 := hide (hW2.out.trans (hb3.mono (by omega)))
  have hz3 := hb3.size
  have hgl := hR3.lt
  clear hb3 hA2 hW2 hR2 hHd
  go_wp2_with (refine wpList_store_fresh rfl 25 _ _ rfl H.row Hd.zero.row rfl rfl 25 (hdSize _) rfl (Hd.row_all _) ?_; intro w4 hH4 hb4; have hA4 := heap_kept hb4 hA3; have hR4 := hR3.kept hgl hb4; have hW4 := hide (hW3.out.later hb4); have hz4 : w3.heap.size < w4.heap.size := (Array.getElem?_eq_some_iff.1 hH4).1; have c12 : w4.cell? ⟨w3.heap.size, 12, none⟩ = some (.bool H.tg) := (cell_of_row _ _ _ _ _ _ hH4).trans rfl; have c16 : w4.cell? ⟨w3.heap.size, 16, none⟩ = some (.int .i64 H.typ) := (cell_of_row _ _ _ _ _ _ hH4).trans rfl; have c17 : w4.cell? ⟨w3.heap.size, 17, none⟩ = some (.bool H.llc) := (cell_of_row _ _ _ _ _ _ hH4).trans rfl; clear hb4 hA3 hR3 hW3)
  refine (most_any H.tg _).mono ?_
  rintro e w4' ⟨rfl, rfl⟩
  obtain ⟨M, hM⟩ : ∃ M : Int, M = (if H.tg = true then 1522 else 1518) := ⟨_, rfl⟩
  rw [← hM]
  have hMl : (len : Int) ≤ M := by
    cases hq : H.tg <;> rw [hq] at hM h3 <;> simp at hM h3 <;> omega
  clear hM h3
  go_wp2_with fail
  refine (Left_any hR4).mono ?_
  rintro e w4'' ⟨rfl, rfl⟩
  have hMb := hide (fun w => mayBe_yes H w hby.out h4)
  clear h4
  have hRl := HRl.out
  cases hL : H.llc
  · rw [hL] at c17
    clear h5
    have hp : payN H R = R.length := by rw [payN, hL]; rfl
    go_wp2_with (first | (refine wpList_load_row rfl 25 _ rfl w3.heap.size rfl 25 _ _ _ hH4 Tryd.underlying25 rfl (hdSize _) ?_) | (go_at_call 34; refine (hMb.out _).mono ?_; rintro e w5 ⟨rfl, hb5⟩; have hA5 := heap_kept hb5 hA4; have hH5 := heap_kept hb5 hH4; have hR5 := hR4.kept (Nat.lt_trans hgl hz4) hb5; have hW5 := hide (hW4.out.later hb5); have hz5 := hb5.size; clear hb5) | (go_at_call 33; refine (Left_any hR5).mono ?_; rintro e w6 ⟨rfl, h6w⟩; obtain rfl := h6w.symm))
    refine wp_region_noPanic ?_
    refine wp_region_held_drew (S := fun W => W.heap[w3.heap.size]? = some (.cells H.row 25 (0, 0))) (by kernel_rfl) hH5 (fun hHeld => ?_)
    refine wpAnyH_take (i := 1) (oi := { dst := some 55, op := Op.move (Operand.tmp 7), type := 79, pos := "mac.go:75", after := #[], guard := none }) (v := ?v1) rfl (by kernel_rfl) (by kernel_rfl) (by kernel_rfl) (fun _ _ _ h => h) (Or.inl ⟨by rfl, ?y1⟩) (by assumption) ?r1
    case y1 => (intro w hSw; (try dsimp only at hSw); (try (go_split_ands)); go_simp; try with_reducible rfl)
    try simp only [Act.put, List.setIfInBounds_toArray, List.set_cons_zero, List.set_cons_succ]
    refine wpAnyH_take (i := 2) (oi := { dst := some 56, op := Op.move (Operand.tmp 9), type := 3, pos := "mac.go:75", after := #[], guard := none }) (v := ?v2) rfl (by kernel_rfl) (by kernel_rfl) (by kernel_rfl) (fun _ _ _ h => h) (Or.inl ⟨by rfl, ?y2⟩) (by assumption) ?r2
    case y2 => (intro w hSw; (try dsimp only at hSw); (try (go_split_ands)); go_simp; try with_reducible rfl)
    try simp only [Act.put, List.setIfInBounds_toArray, List.set_cons_zero, List.set_cons_succ]
    refine wpAnyH_take (i := 0) (oi := { dst := some 54, op := Op.load 25 (Operand.tmp 8), type := 25, pos := "mac.go:75", after := #[], guard := none }) (v := _) rfl (by kernel_rfl) (by kernel_rfl) (by kernel_rfl) (fun _ _ _ h => h) (yieldsIf_load_row rfl 25 _ rfl w3.heap.size rfl 25 _ _ _ (fun W h => h) Tryd.underlying25 rfl (hdSize _)) (by assumption) ?_
    try simp only [Act.put, List.setIfInBounds_toArray, List.set_cons_zero, List.set_cons_succ]
    refine wpAnyH_ready (rs := [3]) (by kernel_rfl) (by simp) ?_
    refine AllReadyH.cons (o := { dst := some 57, op := Op.call { callee := Callee.value (Operand.func 35), args := #[Operand.tmp 55, Operand.tmp 56], argTypes := #[79, 3] }, type := 26, pos := "mac.go:75", after := #[{ on := 1, ground := Ground.data }, { on := 2, ground := Ground.data }], guard := none }) rfl (fun K hK => ?_) AllReadyH.nil
    go_simp
    have hd5 : Below w5.heap.size w5 w5.drew := below_drewN (Below.refl _ _) 1
    refine (RTake_okK (hR5.kept hR5.lt hd5) R.length (by omega) (Nat.le_refl _)).mono ?_
    rintro e w6 ⟨v, rfl, hB6, hR6, hb6, hkp6, hfr6⟩
    obtain ⟨va, vcap, rfl⟩ : ∃ va vcap, v = .slice va (R.take R.length).length vcap := by obtain ⟨_, va, vcap, rfl, _⟩ := hB6; exact ⟨va, vcap, rfl⟩
    have hA6 := (hkp6 w.heap.size (show w.heap.size < w5.heap.size by omega) (by omega)).trans hA5
    have hH6 := (hkp6 w3.heap.size (show w3.heap.size < w5.heap.size by omega) (by omega)).trans hH5
    have hb6' : Hid (Below w.heap.size w w6) := hW5.out.trans ((hd5.mono (by omega)).trans (hb6.mono (by omega)))
    have hFR : Hid (Fresh w5.heap.size (.slice va (R.take R.length).length vcap)) := hfr6
    clear hkp6 hb6 hd5 hfr6
    go_wp2_with fail
    refine hK.out _ _ ?_ (fun hHeld3 => ?_)
    · exact hH6
    clear hK K
    try simp only [Act.put, List.setIfInBounds_toArray, List.set_cons_zero, List.set_cons_succ]
    refine wpAnyH_ready (rs := [4]) (by kernel_rfl) (by simp) ?_
    refine AllReadyH.cons (o := { dst := none, op := Op.store 25 (Operand.tmp 2) (Operand.tmp 54), type := 0, pos := "mac.go:75", after := #[{ on := 0, ground := Ground.data }, { on := 3, ground := Ground.chain }, { on := 0, ground := Ground.phase }, { on := 1, ground := Ground.textOnly Departure.lateStores }, { on := 2, ground := Ground.textOnly Departure.lateStores }, { on := 3, ground := Ground.textOnly Departure.lateStoresUnsure }], guard := none }) rfl (fun K hK => ?_) AllReadyH.nil
    refine step_store_row rfl 25 _ _ rfl w.heap.size H.row rfl rfl 25 _ hA6 (hdSize _) rfl (Hd.row_all _) ?_
    have hH7 := (setRow_other w6 w.heap.size w3.heap.size H.row (by omega)).trans hH6
    refine hK.out _ _ hH7 (fun hHeld4 => ?_)
    clear hK K
    try simp only [Act.put]
    refine wpAnyH_take (i := 5) (oi := { dst := some 3, op := Op.assign (Operand.tmp 57), type := 26, pos := "mac.go:75", after := #[{ on := 3, ground := Ground.data }, { on := 4, ground := Ground.chain }, { on := 0, ground := Ground.phase }, { on := 1, ground := Ground.phase }, { on := 2, ground := Ground.phase }, { on := 3, ground := Ground.phase }, { on := 4, ground := Ground.phase }], guard := none }) (v := ?v3) rfl (by kernel_rfl) (by kernel_rfl) (by kernel_rfl) (fun _ _ _ h => h) (Or.inl ⟨by rfl, ?y3⟩) (by assumption) ?r3
    case y3 => (intro w hSw; (try dsimp only at hSw); (try (go_split_ands)); go_simp; try with_reducible rfl)
    try simp only [Act.put, List.setIfInBounds_toArray, List.set_cons_zero, List.set_cons_succ]
    refine wpAnyH_take (i := 6) (oi := { dst := some 4, op := Op.assign (Operand.const (Value.int IntKind.i64 0)), type := 29, pos := "mac.go:75", after := #[{ on := 5, ground := Ground.chain }, { on := 0, ground := Ground.phase }, { on := 1, ground := Ground.phase }, { on := 2, ground := Ground.phase }, { on := 3, ground := Ground.phase }, { on := 4, ground := Ground.phase }, { on := 5, ground := Ground.phase }], guard := none }) (v := ?v4) rfl (by kernel_rfl) (by kernel_rfl) (by kernel_rfl) (fun _ _ _ h => h) (Or.inl ⟨by rfl, ?y4⟩) (by assumption) ?r4
    case y4 => (intro w hSw; (try dsimp only at hSw); (try (go_split_ands)); go_simp; try with_reducible rfl)
    try simp only [Act.put, List.setIfInBounds_toArray, List.set_cons_zero, List.set_cons_succ]
    refine wpAnyH_done (by kernel_rfl) ?_ _
    refine NoPanic.normal ?_
    go_wp2
    refine bodyPost_ret (results_cell_row3 rfl _ _ w.heap.size 25 _ _ _ rfl (setRow_heap _ _ _ _ _ _ hA6) Tryd.underlying25 rfl (hdSize _)) rfl ⟨va, _, vcap, rfl, ?_, below_setRow hb6'.out (Nat.le_refl _) _⟩
    have hfin := hB6.setRow_other w.heap.size H.row (fun a n c e => by
      have h1 : w5.heap.size ≤ a.block := hFR.out a n c e
      omega)
    rw [show (R.take R.length).length = R.length by simp] at hfin
    rw [hp]
    exact hfin
  · rw [hL] at c17
    obtain ⟨n, hn⟩ := Int.eq_ofNat_of_zero_le htyp.out
    have hp : payN H R = n := by rw [payN, hL, hn]; rfl
    rw [hp] at h5
    rw [hn] at c16
    have h6 : (n : Int) ≤ (R.length : Int) := by omega
    go_wp2_with (first | (refine wpList_load_row rfl 25 _ rfl w3.heap.size rfl 25 _ _ _ hH4 Tryd.underlying25 rfl (hdSize _) ?_) | (go_at_call 34; refine (hMb.out _).mono ?_; rintro e w5 ⟨rfl, hb5⟩; have hA5 := heap_kept hb5 hA4; have hH5 := heap_kept hb5 hH4; have hR5 := hR4.kept (Nat.lt_trans hgl hz4) hb5; have hW5 := hide (hW4.out.later hb5); have hz5 := hb5.size; clear hb5) | (go_at_call 33; refine (Left_any hR5).mono ?_; rintro e w6 ⟨rfl, h6w⟩; obtain rfl := h6w.symm))
    refine wp_region_noPanic ?_
    refine wp_region_held_drew (S := fun W => W.heap[w3.heap.size]? = some (.cells H.row 25 (0, 0))) (by kernel_rfl) hH5 (fun hHeld => ?_)
    refine wpAnyH_take (i := 1) (oi := { dst := some 55, op := Op.move (Operand.tmp 7), type := 79, pos := "mac.go:75", after := #[], guard := none }) (v := ?v5) rfl (by kernel_rfl) (by kernel_rfl) (by kernel_rfl) (fun _ _ _ h => h) (Or.inl ⟨by rfl, ?y5⟩) (by assumption) ?r5
    case y5 => (intro w hSw; (try dsimp only at hSw); (try (go_split_ands)); go_simp; try with_reducible rfl)
    try simp only [Act.put, List.setIfInBounds_toArray, List.set_cons_zero, List.set_cons_succ]
    refine wpAnyH_take (i := 2) (oi := { dst := some 56, op := Op.move (Operand.tmp 9), type := 3, pos := "mac.go:75", after := #[], guard := none }) (v := ?v6) rfl (by kernel_rfl) (by kernel_rfl) (by kernel_rfl) (fun _ _ _ h => h) (Or.inl ⟨by rfl, ?y6⟩) (by assumption) ?r6
    case y6 => (intro w hSw; (try dsimp only at hSw); (try (go_split_ands)); go_simp; try with_reducible rfl)
    try simp only [Act.put, List.setIfInBounds_toArray, List.set_cons_zero, List.set_cons_succ]
    refine wpAnyH_take (i := 0) (oi := { dst := some 54, op := Op.load 25 (Operand.tmp 8), type := 25, pos := "mac.go:75", after := #[], guard := none }) (v := _) rfl (by kernel_rfl) (by kernel_rfl) (by kernel_rfl) (fun _ _ _ h => h) (yieldsIf_load_row rfl 25 _ rfl w3.heap.size rfl 25 _ _ _ (fun W h => h) Tryd.underlying25 rfl (hdSize _)) (by assumption) ?_
    try simp only [Act.put, List.setIfInBounds_toArray, List.set_cons_zero, List.set_cons_succ]
    refine wpAnyH_ready (rs := [3]) (by kernel_rfl) (by simp) ?_
    refine AllReadyH.cons (o := { dst := some 57, op := Op.call { callee := Callee.value (Operand.func 35), args := #[Operand.tmp 55, Operand.tmp 56], argTypes := #[79, 3] }, type := 26, pos := "mac.go:75", after := #[{ on := 1, ground := Ground.data }, { on := 2, ground := Ground.data }], guard := none }) rfl (fun K hK => ?_) AllReadyH.nil
    go_simp
    have hd5 : Below w5.heap.size w5 w5.drew := below_drewN (Below.refl _ _) 1
    refine (RTake_okK (hR5.kept hR5.lt hd5) n (by omega) h5).mono ?_
    rintro e w6 ⟨v, rfl, hB6, hR6, hb6, hkp6, hfr6⟩
    obtain ⟨va, vcap, rfl⟩ : ∃ va vcap, v = .slice va (R.take n).length vcap := by obtain ⟨_, va, vcap, rfl, _⟩ := hB6; exact ⟨va, vcap, rfl⟩
    have hA6 := (hkp6 w.heap.size (show w.heap.size < w5.heap.size by omega) (by omega)).trans hA5
    have hH6 := (hkp6 w3.heap.size (show w3.heap.size < w5.heap.size by omega) (by omega)).trans hH5
    have hb6' : Hid (Below w.heap.size w w6) := hW5.out.trans ((hd5.mono (by omega)).trans (hb6.mono (by omega)))
    have hFR : Hid (Fresh w5.heap.size (.slice va (R.take n).length vcap)) := hfr6
    clear hkp6 hb6 hd5 hfr6
    go_wp2_with fail
    refine hK.out _ _ ?_ (fun hHeld3 => ?_)
    · exact hH6
    clear hK K
    try simp only [Act.put, List.setIfInBounds_toArray, List.set_cons_zero, List.set_cons_succ]
    refine wpAnyH_ready (rs := [4]) (by kernel_rfl) (by simp) ?_
    refine AllReadyH.cons (o := { dst := none, op := Op.store 25 (Operand.tmp 2) (Operand.tmp 54), type := 0, pos := "mac.go:75", after := #[{ on := 0, ground := Ground.data }, { on := 3, ground := Ground.chain }, { on := 0, ground := Ground.phase }, { on := 1, ground := Ground.textOnly Departure.lateStores }, { on := 2, ground := Ground.textOnly Departure.lateStores }, { on := 3, ground := Ground.textOnly Departure.lateStoresUnsure }], guard := none }) rfl (fun K hK => ?_) AllReadyH.nil
    refine step_store_row rfl 25 _ _ rfl w.heap.size H.row rfl rfl 25 _ hA6 (hdSize _) rfl (Hd.row_all _) ?_
    have hH7 := (setRow_other w6 w.heap.size w3.heap.size H.row (by omega)).trans hH6
    refine hK.out _ _ hH7 (fun hHeld4 => ?_)
    clear hK K
    try simp only [Act.put]
    refine wpAnyH_take (i := 5) (oi := { dst := some 3, op := Op.assign (Operand.tmp 57), type := 26, pos := "mac.go:75", after := #[{ on := 3, ground := Ground.data }, { on := 4, ground := Ground.chain }, { on := 0, ground := Ground.phase }, { on := 1, ground := Ground.phase }, { on := 2, ground := Ground.phase }, { on := 3, ground := Ground.phase }, { on := 4, ground := Ground.phase }], guard := none }) (v := ?v7) rfl (by kernel_rfl) (by kernel_rfl) (by kernel_rfl) (fun _ _ _ h => h) (Or.inl ⟨by rfl, ?y7⟩) (by assumption) ?r7
    case y7 => (intro w hSw; (try dsimp only at hSw); (try (go_split_ands)); go_simp; try with_reducible rfl)
    try simp only [Act.put, List.setIfInBounds_toArray, List.set_cons_zero, List.set_cons_succ]
    refine wpAnyH_take (i := 6) (oi := { dst := some 4, op := Op.assign (Operand.const (Value.int IntKind.i64 0)), type := 29, pos := "mac.go:75", after := #[{ on := 5, ground := Ground.chain }, { on := 0, ground := Ground.phase }, { on := 1, ground := Ground.phase }, { on := 2, ground := Ground.phase }, { on := 3, ground := Ground.phase }, { on := 4, ground := Ground.phase }, { on := 5, ground := Ground.phase }], guard := none }) (v := ?v8) rfl (by kernel_rfl) (by kernel_rfl) (by kernel_rfl) (fun _ _ _ h => h) (Or.inl ⟨by rfl, ?y8⟩) (by assumption) ?r8
    case y8 => (intro w hSw; (try dsimp only at hSw); (try (go_split_ands)); go_simp; try with_reducible rfl)
    try simp only [Act.put, List.setIfInBounds_toArray, List.set_cons_zero, List.set_cons_succ]
    refine wpAnyH_done (by kernel_rfl) ?_ _
    refine NoPanic.normal ?_
    go_wp2
    refine bodyPost_ret (results_cell_row3 rfl _ _ w.heap.size 25 _ _ _ rfl (setRow_heap _ _ _ _ _ _ hA6) Tryd.underlying25 rfl (hdSize _)) rfl ⟨va, _, vcap, rfl, ?_, below_setRow hb6'.out (Nat.le_refl _) _⟩
    have hfin := hB6.setRow_other w.heap.size H.row (fun a n c e => by
      have h1 : w5.heap.size ≤ a.block := hFR.out a n c e
      omega)
    rw [show (R.take n).length = n by simp; omega] at hfin
    rw [hp]
    exact hfin
/-- Parse: what stands in a frame, or the first thing that is wrong with it. -/
theorem Parse_any {v : Value} {l : List Int} {w : World} (hv : Bs w v l) (hT : Tab w) :
    Calls Tryd.prog 11 #[v] w fun e w' => ∃ a n c, e = .returned (.tuple #[.agg (parsed l).1.row, .slice a n c, .int .i64 (parsed l).2.2]) ∧ Bs w' (.slice a n c) (parsed l).2.1 ∧ Below w.heap.size w w' := by
  have hbad : ∀ k : Int, (parsed l = (Hd.zero, [], k)) → (Calls Tryd.prog 11 #[v] w fun e w' => e = .returned (.tuple #[.agg Hd.zero.row, .slice none 0 0, .int .i64 k]) ∧ Below w.heap.size w w') →
      Calls Tryd.prog 11 #[v] w fun e w' => ∃ a n c, e = .returned (.tuple #[.agg (parsed l).1.row, .slice a n c, .int .i64 (parsed l).2.2]) ∧ Bs w' (.slice a n c) (parsed l).2.1 ∧ Below w.heap.size w w' := by
    intro k hk hc
    rw [hk]
    refine hc.mono ?_
    rintro e w' ⟨rfl, hb⟩
    exact ⟨_, _, _, rfl, Bs.nil _, hb⟩
  by_cases h1 : l.length < 64
  · exact hbad 2 (by unfold parsed; rw [if_pos h1]) (Parse_short hv h1)
  by_cases h2 : 1522 < l.length
  · exact hbad 3 (by unfold parsed; rw [if_neg h1, if_pos h2]) (Parse_long hv h2)
  by_cases h3 : sealL (l.take (l.length - 4)) ≠ l
  · exact hbad 10 (by unfold parsed; rw [if_neg h1, if_neg h2, if_pos h3]) (Parse_sum hv hT (by omega) (by omega) h3)
  have h3' : sealL (l.take (l.length - 4)) = l := Decidable.not_not.1 h3
  by_cases h4 : (if (hdOf (l.take (l.length - 4))).tg then 1522 else 1518) < l.length
  · exact hbad 3 (by unfold parsed; rw [if_neg h1, if_neg h2, if_neg h3, if_pos h4]) (Parse_long2 hv hT (by omega) (by omega) h3' h4)
  cases h5 : mayBeB (hdOf (l.take (l.length - 4)))
  · exact hbad 4 (by unfold parsed; rw [if_neg h1, if_neg h2, if_neg h3, if_neg h4, if_pos (.inl h5)]) (Parse_form hv hT (by omega) (by omega) h3' h4 h5)
  by_cases h6 : (restOf (l.take (l.length - 4))).length < payN (hdOf (l.take (l.length - 4))) (restOf (l.take (l.length - 4)))
  · exact hbad 4 (by unfold parsed; rw [if_neg h1, if_neg h2, if_neg h3, if_neg h4, if_pos (.inr h6)]) (Parse_form2 hv hT (by omega) (by omega) h3' h4 h5 h6)
  have hp : parsed l = (hdOf (l.take (l.length - 4)), (restOf (l.take (l.length - 4))).take (payN (hdOf (l.take (l.length - 4))) (restOf (l.take (l.length - 4)))), 0) := by
    unfold parsed
    rw [if_neg h1, if_neg h2, if_neg h3, if_neg h4, if_neg (by simp only [h5, Bool.true_eq_false, false_or]; exact h6)]
  rw [hp]
  exact Parse_ok hv hT (by omega) (by omega) h3' h4 h5 (by omega)
end Go.Proofs.YtiahiakllpjliaaDoor
