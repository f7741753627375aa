/-
  The functions that gate makes, and finding a piece by one. Conditions: those that each theorem names.
-/
import Derived.Test.YtmacdghkbmjdmaaGt2
import Derived.Laws.EntriesVeiled
namespace Go.Proofs.Ytmacdghkbmjdmaa
open Go.RowKit
set_option linter.unusedVariables false
set_option maxRecDepth 20000

/-- A piece of a cycle. -/
structure Pi where
  (b e op : Int)
@[reducible] def Pi.zero : Pi := ⟨0, 0, 0⟩
@[reducible] def fPi (p : Pi) : List Value := [.int .i64 p.b, .int .i64 p.e, .int .i64 p.op]
theorem piSize (p : Pi) : (Try.prog.info? 69).map (·.size) = some (fPi p).toArray.size := by kernel_rfl
theorem piLen (p : Pi) : (Try.prog.info? 69).map (·.size) = some (fPi p).length := by kernel_rfl
theorem pi_all (p : Pi) : (fPi p).toArray.all (·.oneCell') = true := by simp [Value.oneCell']
/-- A function of pieces that tells those of p, from the world w on. -/
def PCl (w : World) (F : FuncId) (caps : Array Value) (p : Pi → Bool) (ok : Pi → Prop) : Prop :=
  (∀ (args : Array Value) (w : World), (callFunc F args).run Try.prog w = .ok (.enter F args) w) ∧ ∀ w', Below w.heap.size w w' → ∀ q, ok q → Calls Try.prog F (#[.agg (fPi q).toArray] ++ caps) w' fun r w'' => r = .returned (.bool (p q)) ∧ Below w'.heap.size w' w''
theorem PCl.later {w w1 : World} {F : FuncId} {caps : Array Value} {p : Pi → Bool} {ok : Pi → Prop} (h : PCl w F caps p ok) (hb : Below w.heap.size w w1) : PCl w1 F caps p ok := ⟨h.1, fun w' h' => h.2 w' (hb.later h')⟩
/-- A function of sets of classes, likewise. -/
def OCl (w : World) (F : FuncId) (caps : Array Value) (s : Int → Bool) (ok : Int → Prop) : Prop :=
  (∀ (args : Array Value) (w : World), (callFunc F args).run Try.prog w = .ok (.enter F args) w) ∧ ∀ w', Below w.heap.size w w' → ∀ o, ok o → Calls Try.prog F (#[.int .i64 o] ++ caps) w' fun r w'' => r = .returned (.bool (s o)) ∧ Below w'.heap.size w' w''
theorem OCl.later {w w1 : World} {F : FuncId} {caps : Array Value} {s : Int → Bool} {ok : Int → Prop} (h : OCl w F caps s ok) (hb : Below w.heap.size w w1) : OCl w1 F caps s ok := ⟨h.1, fun w' h' => h.2 w' (hb.later h')⟩
theorem go_goes (args : Array Value) (w : World) : (callFunc 49 args).run Try.prog w = .ok (.enter 49 args) w := by
  simp [callFunc, go_sem, Try.func49]
  rfl
theorem go_next (args : Array Value) (w : World) : (callFunc 47 args).run Try.prog w = .ok (.enter 47 args) w := by
  simp [callFunc, go_sem, Try.func47]
  rfl
theorem go_until (args : Array Value) (w : World) : (callFunc 40 args).run Try.prog w = .ok (.enter 40 args) w := by
  simp [callFunc, go_sem, Try.func40]
  rfl
theorem go_from (args : Array Value) (w : World) : (callFunc 42 args).run Try.prog w = .ok (.enter 42 args) w := by
  simp [callFunc, go_sem, Try.func42]
  rfl
theorem go_first1 (args : Array Value) (w : World) : (callFunc 50 args).run Try.prog w = .ok (.enter 50 args) w := by
  simp [callFunc, go_sem, Try.func50]
  rfl
theorem go_first2 (args : Array Value) (w : World) : (callFunc 51 args).run Try.prog w = .ok (.enter 51 args) w := by
  simp [callFunc, go_sem, Try.func51]
  rfl
theorem pcell {w : World} (q : Pi) (o : Nat) (v : Value) (h : (fPi q).toArray[o]? = some v) : (w.alloc (.cells (fPi q).toArray 69)).cell? ⟨w.heap.size, o, none⟩ = some v := (cell_of_row _ _ _ _ _ _ (heap_alloc_new w _)).trans h
theorem goes_cl {w : World} {c : Nat} {x : Int} (hc : w.cell? ⟨c, 0, none⟩ = some (.int .i64 x)) : PCl w 49 #[.pointer (some ⟨c, 0, none⟩)] (fun q => decide (x < q.e)) (fun _ => True) := by
  refine ⟨go_goes, fun w' hb q _ => ?_⟩
  have c0 : w'.cell? ⟨c, 0, none⟩ = some (.int .i64 x) := (hb.cell (p := ⟨c, 0, none⟩) (block_lt_of_cell hc)).trans hc
  have k1 : (w'.alloc (.cells (fPi q).toArray 69)).cell? ⟨w'.heap.size, 1, none⟩ = some (.int .i64 q.e) := pcell q 1 _ rfl
  have k2 : (w'.alloc (.cells (fPi q).toArray 69)).cell? ⟨c, 0, none⟩ = some (.int .i64 x) := ((below1 w' _).cell (p := ⟨c, 0, none⟩) (block_lt_of_cell c0)).trans c0
  have hB := hide (below1 w' (.cells (fPi q).toArray 69))
  generalize hC : (fPi q).toArray = C at *
  obtain ⟨qb, qe, qo⟩ := q
  dsimp only at *
  clear hC hc hb c0
  go_enter Try.func49, Try.ntmps49
  go_wp2
  go_ret
  exact ⟨rfl, hB.out⟩
theorem next_cl {w : World} {c : Nat} {x : Int} (hc : w.cell? ⟨c, 0, none⟩ = some (.int .i64 x)) : PCl w 47 #[.pointer (some ⟨c, 0, none⟩)] (fun q => decide (x < q.b)) (fun _ => True) := by
  refine ⟨go_next, fun w' hb q _ => ?_⟩
  have c0 : w'.cell? ⟨c, 0, none⟩ = some (.int .i64 x) := (hb.cell (p := ⟨c, 0, none⟩) (block_lt_of_cell hc)).trans hc
  have k1 : (w'.alloc (.cells (fPi q).toArray 69)).cell? ⟨w'.heap.size, 0, none⟩ = some (.int .i64 q.b) := pcell q 0 _ rfl
  have k2 : (w'.alloc (.cells (fPi q).toArray 69)).cell? ⟨c, 0, none⟩ = some (.int .i64 x) := ((below1 w' _).cell (p := ⟨c, 0, none⟩) (block_lt_of_cell c0)).trans c0
  have hB := hide (below1 w' (.cells (fPi q).toArray 69))
  generalize hC : (fPi q).toArray = C at *
  obtain ⟨qb, qe, qo⟩ := q
  dsimp only at *
  clear hC hc hb c0
  go_enter Try.func47, Try.ntmps47
  go_wp2
  go_ret
  exact ⟨rfl, hB.out⟩
theorem goesOn_any (x : Int) (w : World) : Calls Try.prog 37 #[.int .i64 x] w fun r w' => ∃ c, r = .returned (.func (.func 49) #[] #[.pointer (some ⟨c, 0, none⟩)]) ∧ w'.cell? ⟨c, 0, none⟩ = some (.int .i64 x) ∧ Below w.heap.size w w' := by
  have hB := hide (below1 w (.cells #[.int .i64 x] 2))
  have hc : Hid ((w.alloc (.cells #[.int .i64 x] 2)).cell? ⟨w.heap.size, 0, none⟩ = some (.int .i64 x)) := (cell_of_row _ _ _ _ _ _ (heap_alloc_new w _)).trans rfl
  go_enter Try.func37, Try.ntmps37
  go_wp2
  go_ret
  exact ⟨_, rfl, hc.out, hB.out⟩
theorem and1N : ∀ n : Nat, n < 256 → (bits .and .i64 (n : Int) 1 == 1) = decide ((n : Int) % 2 = 1) := by decide +kernel
theorem and1 (x : Int) (h : 0 ≤ x ∧ x ≤ 255) : (bits .and .i64 x 1 == 1) = decide (x % 2 = 1) := by
  obtain ⟨n, rfl⟩ := Int.eq_ofNat_of_zero_le h.1
  exact and1N n (by omega)
/-- May a class go with these? -/
def letB (o c : Int) : Bool := decide (o / 2 ^ c.toNat % 2 = 1)
theorem lets_any (o c : Int) (w : World) (hc : 0 ≤ c ∧ c ≤ 7) (ho : 0 ≤ o ∧ o ≤ 255) : Calls Try.prog 41 #[.int .i64 o, .int .i64 c] w fun r w' => r = .returned (.bool (letB o c)) ∧ w' = w := by
  obtain ⟨o1, o2⟩ := ho
  rcases (show c = 0 ∨ c = 1 ∨ c = 2 ∨ c = 3 ∨ c = 4 ∨ c = 5 ∨ c = 6 ∨ c = 7 by omega) with rfl | rfl | rfl | rfl | rfl | rfl | rfl | rfl
  all_goals
    go_enter Try.func41, Try.ntmps41
    go_wp2
    go_ret
    exact ⟨ret_bool (by rw [and1 _ (by omega)]; simp [letB]), rfl⟩
theorem until_cl {w : World} {c : Nat} {k : Int} (hk : 0 ≤ k ∧ k ≤ 7) (hc : w.cell? ⟨c, 0, none⟩ = some (.int .i64 k)) : OCl w 40 #[.pointer (some ⟨c, 0, none⟩)] (fun o => !letB o k) (fun o => 0 ≤ o ∧ o ≤ 255) := by
  refine ⟨go_until, fun w' hb o ho => ?_⟩
  have c0 : w'.cell? ⟨c, 0, none⟩ = some (.int .i64 k) := (hb.cell (p := ⟨c, 0, none⟩) (block_lt_of_cell hc)).trans hc
  have hL := hide (lets_any o k w' hk ho)
  dsimp only
  generalize letB o k = x at *
  clear hc hb
  go_enter Try.func40, Try.ntmps40
  go_wp2_with fail
  refine hL.out.mono ?_
  rintro _ _ ⟨rfl, rfl⟩
  go_wp2
  go_ret
  exact ⟨rfl, Below.refl _ _⟩
theorem from_cl {w : World} {c : Nat} {k : Int} (hk : 0 ≤ k ∧ k ≤ 7) (hc : w.cell? ⟨c, 0, none⟩ = some (.int .i64 k)) : OCl w 42 #[.pointer (some ⟨c, 0, none⟩)] (fun o => letB o k) (fun o => 0 ≤ o ∧ o ≤ 255) := by
  refine ⟨go_from, fun w' hb o ho => ?_⟩
  have c0 : w'.cell? ⟨c, 0, none⟩ = some (.int .i64 k) := (hb.cell (p := ⟨c, 0, none⟩) (block_lt_of_cell hc)).trans hc
  have hL := hide (lets_any o k w' hk ho)
  dsimp only
  generalize letB o k = x at *
  clear hc hb
  go_enter Try.func42, Try.ntmps42
  go_wp2_with fail
  refine hL.out.mono ?_
  rintro _ _ ⟨rfl, rfl⟩
  go_wp2
  go_ret
  exact ⟨rfl, Below.refl _ _⟩
set_option maxHeartbeats 4000000 in
theorem first1_cl {w : World} {x y : Nat} {F1 F2 : FuncId} {caps1 caps2 : Array Value} {p : Pi → Bool} {s : Int → Bool}
    (hx : w.cell? ⟨x, 0, none⟩ = some (.func (.func F1) #[] caps1)) (hy : w.cell? ⟨y, 0, none⟩ = some (.func (.func F2) #[] caps2))
    (h1 : PCl w F1 caps1 p (fun _ => True)) (h2 : OCl w F2 caps2 s (fun o => 0 ≤ o ∧ o ≤ 255)) : PCl w 50 #[.pointer (some ⟨x, 0, none⟩), .pointer (some ⟨y, 0, none⟩)] (fun q => p q && s q.op) (fun q => 0 ≤ q.op ∧ q.op ≤ 255) := by
  refine ⟨go_first1, fun w' hb q hq => ?_⟩
  have hx1 : w'.cell? ⟨x, 0, none⟩ = some (.func (.func F1) #[] caps1) := (hb.cell (p := ⟨x, 0, none⟩) (block_lt_of_cell hx)).trans hx
  have hy1 : w'.cell? ⟨y, 0, none⟩ = some (.func (.func F2) #[] caps2) := (hb.cell (p := ⟨y, 0, none⟩) (block_lt_of_cell hy)).trans hy
  have hbA := below1 w' (.cells (fPi q).toArray 69)
  have hx2 : (w'.alloc (.cells (fPi q).toArray 69)).cell? ⟨x, 0, none⟩ = some (.func (.func F1) #[] caps1) := (hbA.cell (p := ⟨x, 0, none⟩) (block_lt_of_cell hx1)).trans hx1
  have hr := hide (heap_alloc_new w' (.cells (fPi q).toArray 69))
  have hc1 := hide (h1.2 (w'.alloc (.cells (fPi q).toArray 69)) (hb.later hbA) q trivial)
  have hc2 : Hid (∀ w2, Below (w'.alloc (.cells (fPi q).toArray 69)).heap.size (w'.alloc (.cells (fPi q).toArray 69)) w2 → Calls Try.prog F2 (#[.int .i64 q.op] ++ caps2) w2 fun r w'' => r = .returned (.bool (s q.op)) ∧ Below w2.heap.size w2 w'') := fun w2 hb2 => h2.2 w2 (hb.later (hbA.later hb2)) q.op hq
  have hy2 : Hid (∀ w2, Below (w'.alloc (.cells (fPi q).toArray 69)).heap.size (w'.alloc (.cells (fPi q).toArray 69)) w2 → w2.cell? ⟨y, 0, none⟩ = some (.func (.func F2) #[] caps2)) := fun w2 hb2 => (hb2.cell (p := ⟨y, 0, none⟩) (block_lt_of_cell ((hbA.cell (p := ⟨y, 0, none⟩) (block_lt_of_cell hy1)).trans hy1))).trans ((hbA.cell (p := ⟨y, 0, none⟩) (block_lt_of_cell hy1)).trans hy1)
  have hk : Hid (∀ w2, Below (w'.alloc (.cells (fPi q).toArray 69)).heap.size (w'.alloc (.cells (fPi q).toArray 69)) w2 → w2.cell? ⟨w'.heap.size, 2, none⟩ = some (.int .i64 q.op)) := fun w2 hb2 => (hb2.cell (p := ⟨w'.heap.size, 2, none⟩) (block_lt_of_cell (pcell (w := w') q 2 _ rfl))).trans (pcell (w := w') q 2 _ rfl)
  have hg1 := h1.1
  have hg2 := h2.1
  have hsz := piSize q
  have hB := hide hbA
  dsimp only
  generalize p q = b1 at *
  generalize s q.op = b2 at *
  generalize q.op = qo at *
  generalize hE : (fPi q).toArray = E at *
  clear h1 h2 hx hy hb hx1 hy1 hE hbA
  go_enter Try.func50, Try.ntmps50
  go_wp2_with ((with_reducible change wpList _ _ _ _ _ _); refine wpList_load_row rfl 69 (.tmp 3) rfl w'.heap.size rfl 69 _ _ _ hr.out Try.underlying69 rfl hsz ?_)
  refine hc1.out.mono ?_
  rintro _ w2 ⟨rfl, hb2⟩
  cases b1
  · have hBB := hide (hB.out.later hb2)
    clear hc1 hc2 hr hB hb2 hy2 hk
    go_wp2
    go_ret
    exact ⟨rfl, hBB.out⟩
  · have hy3 := hy2.out w2 hb2
    have hk3 := hk.out w2 hb2
    have hc3 := hide (hc2.out w2 hb2)
    have hBB := hide (hB.out.later hb2)
    clear hc1 hc2 hr hB hb2 hy2 hk hx2
    go_wp2_with fail
    refine hc3.out.mono ?_
    rintro _ w3 ⟨rfl, hb3⟩
    have hB3 := hide (hBB.out.later hb3)
    clear hc3 hb3 hBB hy3 hk3
    go_wp2
    go_ret
    exact ⟨rfl, hB3.out⟩
theorem first2_cl {w : World} {y : Nat} {F2 : FuncId} {caps2 : Array Value} {s : Int → Bool}
    (hy : w.cell? ⟨y, 0, none⟩ = some (.func (.func F2) #[] caps2)) (h2 : OCl w F2 caps2 s (fun o => 0 ≤ o ∧ o ≤ 255)) : PCl w 51 #[.pointer (some ⟨y, 0, none⟩)] (fun q => s q.op) (fun q => 0 ≤ q.op ∧ q.op ≤ 255) := by
  refine ⟨go_first2, fun w' hb q hq => ?_⟩
  have hy1 : w'.cell? ⟨y, 0, none⟩ = some (.func (.func F2) #[] caps2) := (hb.cell (p := ⟨y, 0, none⟩) (block_lt_of_cell hy)).trans hy
  have hbA := below1 w' (.cells (fPi q).toArray 69)
  have hy2 : (w'.alloc (.cells (fPi q).toArray 69)).cell? ⟨y, 0, none⟩ = some (.func (.func F2) #[] caps2) := (hbA.cell (p := ⟨y, 0, none⟩) (block_lt_of_cell hy1)).trans hy1
  have hk : (w'.alloc (.cells (fPi q).toArray 69)).cell? ⟨w'.heap.size, 2, none⟩ = some (.int .i64 q.op) := pcell (w := w') q 2 _ rfl
  have hc := hide (h2.2 (w'.alloc (.cells (fPi q).toArray 69)) (hb.later hbA) q.op hq)
  have hg2 := h2.1
  have hB := hide hbA
  dsimp only
  generalize s q.op = b2 at *
  generalize q.op = qo at *
  generalize hE : (fPi q).toArray = E at *
  clear h2 hy hb hy1 hE hbA
  go_enter Try.func51, Try.ntmps51
  go_wp2_with fail
  refine hc.out.mono ?_
  rintro _ w3 ⟨rfl, hb3⟩
  have hB3 := hide (hB.out.later hb3)
  clear hc hb3 hB
  go_wp2
  go_ret
  exact ⟨rfl, hB3.out⟩
end Go.Proofs.Ytmacdghkbmjdmaa
