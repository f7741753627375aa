/-
  The statement WholeTimes, walked. Condition: the table lies as the program's text lays it ('Tab').
-/
import Derived.Test.YtmakaadmjgakaaaDoorMacB
import Derived.Test.YtmakaadmjgakaaaDoorPool3
import Derived.Test.YtmakaadmjgakaaaDoorWireA0
import Derived.Maps.AppendAt
namespace Go.Proofs.YtmakaadmjgakaaaDoor
open Go.RowKit
set_option linter.unusedVariables false

theorem step_make_fullW {P : Program} (w : World) {ops : Array Oper} {o : Oper} {a : Act} {K : Act → World → Prop} {Q : Exit → Act → World → Prop} {E : Prop}
    (hw : Region.wanted o (yielded ops a.tmps) = true) (l c : Operand) (t : TypeId) (hop : o.op = Op.makeSlice t l c)
    (base : Nat) (e : TypeId) (i : TypeInfo) (z : Value) (size : Nat) (h1 : P.underlying t = some (.slice e)) (h2 : P.info? e = some i) (h3 : i.zero = some z) (h4 : i.size = size)
    (kl kc : IntKind) (L C : Int) (n : Nat) (hl : a.eval l = .int kl L) (hc : a.eval c = .int kc C) (hL : L = (n : Int)) (hC : C = (n : Int)) (b2 : i.bytes * n ≤ 281474976710656) (b3 : n ≤ maxLen) (b4 : base ≤ w.heap.size)
    (hK : ∀ w', w'.ownsRow base e size (.slice (some ⟨w.heap.size, 0, none⟩) n n) n (madeCells z.cells (n * size)).toList → w.grownBy w' none → K (a.put o.dst (.slice (some ⟨w.heap.size, 0, none⟩) n n)) w') :
    if Region.wanted o (yielded ops a.tmps) = true then Oper.wp P o a w K Q else E := by
  rw [if_pos hw]
  obtain ⟨w', hrun, r1, r2⟩ := run_make_full (P := P) w base t e i z size h1 h2 h3 h4 kl kc n b2 b3 b4
  subst hL
  subst hC
  unfold Oper.wp
  simp only [execOp, hop, hl, hc, Sem.run_bind, Sem.run_pure, Result.andThen_ok, hrun]
  exact hK w' r1 r2
@[reducible] def wH : Hd := ⟨0, 0, 0, 0, 0, 0, 2, 0, 0, 0, 0, 0, false, 0, false, 0, 2048, false⟩
theorem wH_bytes : wH.bytes := ⟨by intro z hz; simp [Hd.dst] at hz; omega, by intro z hz; simp [Hd.src] at hz; omega⟩
theorem wH_check (n : Nat) (h : n ≤ 1500) : checkE wH (List.replicate n 0 : List Int).length = 0 := by
  rw [checkE, if_neg (by simp; omega), if_neg (by decide), if_neg]
  simp [typeFitsB]
theorem wH_len (n : Nat) : (buildL wH (List.replicate n 0)).length = max (18 + n) 64 := by
  unfold buildL
  rw [sealL_length, pad60_length]
  simp [bodyL, Hd.dst, Hd.src, tagL, digs_length]
  omega
@[reducible] def zeroHd : Hd := ⟨0, 0, 0, 0, 0, 0, 0, 0, 0, 0, 0, 0, false, 0, false, 0, 0, false⟩
theorem sumH_two (ps : List Pc) (j : Nat) (hA : ∀ t, t < j → (ps.getD t Pc.none).h = 2) (hZ : ∀ t, j ≤ t → (ps.getD t Pc.none).h = 0) (hj : j ≤ ps.length) : sumH ps = 2 * j := by
  have h : ∀ k, k ≤ ps.length → sumH (ps.take k) = 2 * min k j := by
    intro k
    induction k with
    | zero => intro _; simp [sumH]
    | succ k ih =>
      intro hk
      rw [sumH_take ps k (by omega), ih (by omega)]
      rcases Nat.lt_or_ge k j with h | h
      · rw [hA k h]; omega
      · rw [hZ k h]; omega
  have := h ps.length (Nat.le_refl _)
  rw [List.take_length] at this
  rw [this]
  omega
theorem rowBut {w w' : World} {base b size n : Nat} {e : TypeId} {v : Value} {xs : List Value} (h : w.ownsRow base e size v n xs) (hb : But b w w') (hlt : b < base) : w'.ownsRow base e size v n xs := by
  refine ⟨h.1, ?_⟩
  rcases h.2 with h2 | ⟨g, cap, cur, rfl, hB, hh, r⟩
  · exact .inl h2
  · exact .inr ⟨g, cap, cur, rfl, hB, by rw [hb.block g (Array.getElem?_eq_some_iff.1 hh).1 (by omega)]; exact hh, r⟩
theorem rowBelow {w w' : World} {base size n : Nat} {e : TypeId} {v : Value} {xs : List Value} (h : w.ownsRow base e size v n xs) (hb : Below w.heap.size w w') : w'.ownsRow base e size v n xs := by
  refine ⟨h.1, ?_⟩
  rcases h.2 with h2 | ⟨g, cap, cur, rfl, hB, hh, r⟩
  · exact .inl h2
  · exact .inr ⟨g, cap, cur, rfl, hB, by rw [hb.block g (Array.getElem?_eq_some_iff.1 hh).1]; exact hh, r⟩
theorem Speed10 (w : World) : Calls Tryd.prog 19 #[.int .i64 10] w fun r w' => r = .returned (.bool true) ∧ w' = w := Speed_any 10 w
theorem Bs.blk {w w' : World} {v : Value} {l : List Int} (h : Bs w v l) (hv : ∀ a n c, v = .slice (some a) n c → w'.heap[a.block]? = w.heap[a.block]?) : Bs w' v l := by
  obtain ⟨h0, a, cap, rfl, h1, h2, h3, h4⟩ := h
  refine ⟨h0, a, cap, rfl, h1, h2, h3, fun i hi => ?_⟩
  obtain ⟨b', off, e, hc⟩ := h4 i hi
  subst e
  exact ⟨b', off, rfl, (World.cell?_of_block (w := w) (w' := w') (a := ⟨b', off + i, none⟩) (hv ⟨b', off, none⟩ _ _ rfl)).trans hc⟩
theorem Pl.blk {w w' : World} {g b : Nat} {ps : List Pc} (h : Pl w g b ps) (hg : w'.heap[g]? = w.heap[g]?) (hb : w'.heap[b]? = w.heap[b]?) (hf : ∀ p ∈ ps, ∀ a n c, p.v = .slice (some a) n c → w'.heap[a.block]? = w.heap[a.block]?) : Pl w' g b ps :=
  ⟨h.ne, h.few, by rw [hg]; exact h.at_g, by rw [hb]; exact h.at_b, fun p hp => ⟨(h.frames p hp).1.blk (hf p hp), (h.frames p hp).2⟩⟩
theorem Bs.ltBlock {w : World} {a : Addr} {n c : Nat} {l : List Int} (h : Bs w (.slice (some a) n c) l) (hl : 0 < l.length) : a.block < w.heap.size := by
  obtain ⟨_, a', cap, e, _, _, _, h4⟩ := h
  simp only [Value.slice.injEq] at e
  obtain ⟨rfl, _, _⟩ := e
  obtain ⟨b, off, e2, hc⟩ := h4 0 hl
  cases e2
  exact block_lt_of_cell hc
/-- The frames lie in blocks that are there, none of them the row's. -/
def Apart (w : World) (v : Value) (ps : List Pc) : Prop := ∀ p ∈ ps, ∀ a n c, p.v = .slice (some a) n c → a.block < w.heap.size ∧ v.ownBlock ≠ some a.block
theorem WT_far (sizes : Option Addr) (n cap : Nat) (s : Int) (w : World) (hn : n ≤ maxLen) (h : 60 < n ∨ spB s = false) :
    Calls Tryd.prog 6 #[.slice sizes n cap, .int .i64 s] w fun e w' => e = .returned (.bool true) ∧ Below w.heap.size w w' := by
  unfold maxLen at hn
  by_cases h1 : 60 < (n : Int)
  · go_enter Tryd.func6, Tryd.ntmps6
    go_wp2_with fail
    refine (New_at 60 60 w (by decide)).mono ?_
    rintro e w1 ⟨rfl, hP, hb⟩
    go_wp2_with fail
    refine (Room_any hP).mono ?_
    rintro e w1' ⟨rfl, rfl⟩
    rw [List.length_replicate]
    go_wp2_with fail
    refine (Speed10 _).mono ?_
    rintro e w1' ⟨rfl, rfl⟩
    go_wp2
    go_ret
    exact ⟨rfl, hb⟩
  · have h2 : spB s = false := h.resolve_left (by omega)
    clear h
    go_enter Tryd.func6, Tryd.ntmps6
    go_wp2_with fail
    refine (New_at 60 60 w (by decide)).mono ?_
    rintro e w1 ⟨rfl, hP, hb⟩
    go_wp2_with fail
    refine (Room_any hP).mono ?_
    rintro e w1' ⟨rfl, rfl⟩
    rw [List.length_replicate]
    go_wp2_with fail
    refine (Speed10 _).mono ?_
    rintro e w1' ⟨rfl, rfl⟩
    go_wp2_with fail
    refine (Speed_any _ _).mono ?_
    rintro e w1' ⟨rfl, rfl⟩
    rw [h2]
    go_wp2
    go_ret
    exact ⟨rfl, hb⟩
theorem sumT_app (s : Int) (ys zs : List Int) : ∀ k, k ≤ ys.length → sumT s (ys ++ zs) k = sumT s ys k
  | 0, _ => rfl
  | k + 1, h => by
    simp only [sumT, sumT_app s ys zs k (by omega)]
    congr 2
    simp [List.getD_eq_getElem?_getD, List.getElem?_append_left (show k < ys.length by omega)]
theorem sumT_snoc (s : Int) (ys : List Int) (m : Int) (j : Nat) (h : ys.length = j) : sumT s (ys ++ [m]) (j + 1) = sumT s ys j + timeT m s := by
  subst h
  simp only [sumT, sumT_app s ys [m] _ (Nat.le_refl _)]
  congr 2
  simp [List.getD_eq_getElem?_getD]
theorem timeT_ok (m s : Int) (hs : spB s = true) (h1 : 0 ≤ m) (h2 : m ≤ 1522) : timeT m s = upD ((m + 20) * 8000) s := by
  unfold timeT
  rw [if_neg (by simp only [hs, Bool.true_eq_false, false_or]; omega)]
theorem Tryd.infoI64 : (Tryd.prog.info? 3).map (fun i => (i.zero, i.size, i.bytes)) = some (some (.int .i64 0), 1, 8) := by kernel_rfl
set_option maxRecDepth 20000 in
set_option maxHeartbeats 4000000 in
theorem WT_near (sizes : Option Addr) (n cap : Nat) (zs : List Int) (s : Int) (w : World) (hT : Tab w) (hI : Is w sizes n zs) (hn : n ≤ 60) (hs : spB s = true) (hz : ∀ i, -9223372036854775808 ≤ zs.getD i 0 ∧ zs.getD i 0 ≤ 9223372036854775807) :
    Calls Tryd.prog 6 #[.slice sizes n cap, .int .i64 s] w fun e w' => e = .returned (.bool true) ∧ Below w.heap.size w w' := by
  have HT := hide hT
  have HI := hide hI
  have HZ := hide hz
  obtain ⟨i0, hi, hz0, hz1, hz2⟩ := info_parts Tryd.infoU8
  obtain ⟨i1, hi1, hy0, hy1, hy2⟩ := info_parts Tryd.infoI64
  clear hT hI hz
  go_enter Tryd.func6, Tryd.ntmps6
  go_wp2_with fail
  refine (New_at 60 60 w (by decide)).mono ?_
  rintro e w1 ⟨rfl, hP, hb⟩
  go_wp2_with fail
  refine (Room_any hP).mono ?_
  rintro e w1' ⟨rfl, rfl⟩
  rw [List.length_replicate]
  have HP := hide hP
  have HB := hide hb
  clear hP hb
  go_wp2_with fail
  refine (Speed10 _).mono ?_
  rintro e w1'' ⟨rfl, rfl⟩
  go_wp2_with fail
  refine (Speed_any _ _).mono ?_
  rintro e w1'' ⟨rfl, rfl⟩
  rw [hs]
  have hBs : w.heap.size + 2 ≤ w1''.heap.size := by have := HP.out.lt.1; omega
  generalize hB : w.heap.size = B at *
  have HBe := hide hB
  clear hB
  go_wp2
  go_loopw [6, 7, 40] (fun v x i wr => ∃ j : Nat, j ≤ n ∧ i = .int .i64 j ∧ (∃ ys : List Int, x = .int .i64 (sumT s ys j) ∧ Hid (ys.length = j ∧ (∀ t, t < j → 0 ≤ ys.getD t 0 ∧ ys.getD t 0 ≤ 1522) ∧ wr.ownsRow (B + 2) 3 1 v j (ys.map (Value.int .i64)))) ∧ (∃ ps, Hid (Pl wr (B + 1) B ps ∧ ps.length = 60 ∧ (∀ t, t < j → (ps.getD t Pc.none).h = 2) ∧ (∀ t, j ≤ t → (ps.getD t Pc.none).h = 0) ∧ Apart wr v ps)) ∧ Hid (Below B w wr ∧ B + 2 ≤ wr.heap.size)) (fun _ _ i _ => n - (intOf i).toNat)
  case atStart => exact ⟨0, Nat.zero_le _, rfl, ⟨[], rfl, rfl, fun t ht => by omega, World.ownsRow_nil _ _ _ _⟩, ⟨_, HP.out, List.length_replicate, fun t ht => by omega, fun t _ => by rw [List.getD_eq_getElem?_getD, List.getElem?_replicate]; split <;> rfl, fun p hp a n c e => by rw [List.eq_of_mem_replicate hp] at e; simp at e⟩, HB.out, hBs⟩
  case round =>
    obtain ⟨j, hj, rfl, ⟨ys, rfl, HY⟩, ⟨ps, HR⟩, HW⟩ := hrel
    clear HP HB hBs
    by_cases hlt : j < n
    · obtain ⟨b0, o0, rfl, hcj⟩ : ∃ b off, sizes = some ⟨b, off, none⟩ ∧ wr.cell? ⟨b, off + j, none⟩ = some (.int .i64 (zs.getD j 0)) := by
        obtain ⟨b, off, e, hc⟩ := HI.out j hlt
        refine ⟨b, off, e, ?_⟩
        rw [HW.out.1.cell (p := ⟨b, off + j, none⟩) (by rw [← HBe.out]; exact block_lt_of_cell hc)]
        exact hc
      have hzj := HZ.out j
      generalize zs.getD j 0 = z at *
      obtain ⟨k, hk1, hk2⟩ : ∃ k : Nat, (k : Int) = min (max z 0) 1500 ∧ k ≤ 1500 := ⟨(min (max z 0) 1500).toNat, by omega, by omega⟩
      rcases (show (z < 0 ∧ k = 0) ∨ (z = 0 ∧ k = 0) ∨ (0 < z ∧ z ≤ 1500 ∧ z = (k : Int)) ∨ (1500 < z ∧ k = 1500) by omega) with ⟨h1, hk⟩ | ⟨h1, hk⟩ | ⟨h1, h2, hk⟩ | ⟨h1, hk⟩
      all_goals
        have HK := hide hk
        clear hk hk1
        go_wp2_with (at_make; refine wpList_make_full _ rfl _ _ 26 rfl wr.heap.size 5 i0 (.int .u8 0) 1 Tryd.underlying26 hi hz0 hz1 _ _ _ _ k rfl rfl (by have := HK.out; omega) (by have := HK.out; omega) (by rw [hz2]; omega) (by unfold maxLen; omega) (by simp) ?_; intro w3 hown3 hgrow3)
        have hb3 : Below wr.heap.size wr w3 := (Below.refl _ _).grown hgrow3 (Nat.le_refl _) (fun _ e => by cases e)
        have hZ3 : Bs w3 (.slice (some ⟨wr.heap.size, 0, none⟩) k k) (List.replicate k 0) := by
          have := Bs.own (l := List.replicate k 0) (by
            rw [List.length_replicate, List.map_replicate, ← toList_madeCells_one]
            simpa [Value.cells] using hown3) (zero_byte _)
          rwa [List.length_replicate] at this
        obtain ⟨hW1, hW2⟩ := HW.out
        have hT3 : Tab w3 := HT.out.later (by rw [HBe.out]; exact hW1.trans (hb3.mono (by omega)))
        refine (Build_ok wH w3 wH_bytes hT3 hZ3 (wH_check k hk2)).mono ?_
        rintro e w4 ⟨g4, m, rfl, hm, hg4, hB4, hb4⟩
        have hlen : (buildL wH (List.replicate k 0)).length = m := hm.symm
        rw [wH_len] at hm
        have hm1 : 64 ≤ m := by omega
        have hm2 : m ≤ 1518 := by omega
        clear hm HK hown3 hgrow3 hZ3 hT3
        generalize buildL wH (List.replicate k 0) = L at *
        have HLen := hide hlen
        clear hlen
        obtain ⟨hP, hpl, hA, hZ, hAp⟩ := HR.out
        have hw4 : Below wr.heap.size wr w4 := hb3.trans (hb4.mono hb3.size)
        have HB4 := hide hB4
        have HP4 := hide (hP.below hw4)
        obtain ⟨hY1, hY2, hY3⟩ := HY.out
        have HY4 := hide (rowBelow hY3 hw4)
        have HW4 : Hid (Below B w w4 ∧ B + 2 ≤ w4.heap.size) := ⟨hW1.trans (hw4.mono (by omega)), by have := hw4.size; omega⟩
        have HA := hide hA
        have HZz := hide hZ
        have HPL := hide hpl
        have HAp : Hid (Apart w4 u6 ps) := fun p hp a n c e => ⟨Nat.lt_of_lt_of_le (hAp p hp a n c e).1 hw4.size, (hAp p hp a n c e).2⟩
        have HYl : Hid (∀ t, u6.ownBlock = some t → B + 2 ≤ t ∧ t < w4.heap.size) := HY4.out.lt
        have HY1 := hide hY1
        have HY2 := hide hY2
        clear hP hpl hA hZ hAp hY1 hY2 hY3 hW1 hW2 hb3 hb4 hw4 hB4 HR HY HW hg4
        have hjl : j < ps.length := by rw [HPL.out]; omega
        go_wp2_with fail
        refine (Take_at HP4.out _ L HB4.out (by rw [HLen.out]; omega) j hjl (fun t ht => by rw [HA.out t ht]; decide) (HZz.out j (Nat.le_refl _))).mono ?_
        rintro e w5 ⟨rfl, v5, hP5, hbut5, hfr5⟩
        have HFr := hide hfr5
        have hs5 := hbut5.size
        clear hfr5
        have hg5 : (ps.set j ⟨v5, L, 1⟩).getD j Pc.none = ⟨v5, L, 1⟩ := by simp [List.getD_eq_getElem?_getD, hjl]
        have HH := Hold_yes hP5 j (by rw [hasB_nat, hg5]; rfl) (by rw [hg5]; simp)
        rw [hg5, List.set_set] at HH
        have HH' := hide HH
        have HW5 : Hid (Below B w w5 ∧ B + 2 ≤ w5.heap.size) := ⟨But.below HW4.out.1 hbut5 (Nat.le_refl _) (by have := HW4.out.2; omega), by have := hbut5.size; have := HW4.out.2; omega⟩
        have HY5 := hide (rowBut HY4.out hbut5 (by omega))
        clear hP5 hbut5 hg5 HH HP4 HB4 HY4 HW4
        go_wp2_with fail
        refine HH'.out.mono ?_
        rintro e w6 ⟨rfl, hP6, hbut6⟩
        have hg6 : (ps.set j ⟨v5, L, 1 + 1⟩).getD j Pc.none = ⟨v5, L, 2⟩ := by simp [List.getD_eq_getElem?_getD, hjl]
        have hSz := Size_any hP6 j
        rw [hasB_nat, Int.toNat_natCast, hg6] at hSz
        simp only [show (!((2 : Nat) == 0)) = true by rfl, if_true, HLen.out] at hSz
        have HSz := hide hSz
        have HW6 : Hid (Below B w w6 ∧ B + 2 ≤ w6.heap.size) := ⟨But.below HW5.out.1 hbut6 (Nat.le_refl _) (by have := HW5.out.2; omega), by have := hbut6.size; have := HW5.out.2; omega⟩
        have HY6 := hide (rowBut HY5.out hbut6 (by omega))
        have HP6 := hide hP6
        have HAp6 : Hid (Apart w6 u6 (ps.set j ⟨v5, L, 2⟩)) := by
          intro p hp a n c e
          rcases List.mem_or_eq_of_mem_set hp with hp' | rfl
          · have := HAp.out p hp' a n c e
            exact ⟨Nat.lt_of_lt_of_le this.1 (Nat.le_trans hs5 hbut6.size), this.2⟩
          · have h1 := (hP6.frames _ hp).1
            rw [e] at h1
            refine ⟨h1.ltBlock (by show 0 < L.length; rw [HLen.out]; omega), fun e2 => ?_⟩
            have := HFr.out a n c e
            have := (HYl.out _ e2).2
            omega
        clear hs5 HFr HAp HYl
        clear hbut6 hSz HH' HY5 HW5 hP6
        go_wp2_with fail
        refine HSz.out.mono ?_
        rintro e w6' ⟨rfl, he⟩
        obtain rfl := he.symm
        clear he
        go_wp2_with fail
        refine HSz.out.mono ?_
        rintro e w6' ⟨rfl, he⟩
        obtain rfl := he.symm
        clear he
        have hTm := hide (Time_ok (m : Int) s w6 hs (by omega) (by omega))
        go_wp2_with fail
        refine hTm.out.mono ?_
        rintro e w6' ⟨rfl, he⟩
        obtain rfl := he.symm
        clear he
        have hSn := hide (sumT_snoc s ys (m : Int) j HY1.out)
        rw [timeT_ok _ _ hs (by omega) (by omega)] at hSn
        obtain ⟨hb1, hb2⟩ := sumT_bounds s ys j
        obtain ⟨hb3, hb4⟩ := timeT_bounds (m : Int) s
        rw [timeT_ok _ _ hs (by omega) (by omega)] at hb3 hb4
        generalize upD (((m : Int) + 20) * 8000) s = tm at *
        generalize sumT s ys j = su at *
        obtain ⟨hW1, hW2⟩ := HW6.out
        have HY7 := hide (HY6.out.alloc (.cells #[.int .i64 (m : Int)] 3))
        clear HSz hTm
        go_wp2_with (at_builtin; refine wpList_append_own_at _ rfl _ _ 51 rfl (B + 2) 3 i1 (.int .i64 0) 1 8 Tryd.underlying51 hi1 hy0 hy1 hy2 rfl (by decide) u6 j (ys.map (Value.int .i64)) rfl HY7.out ⟨w6.heap.size, 0, none⟩ 1 1 [.int .i64 (m : Int)] rfl rfl (cell_one_new _ _ _) (ints_oneCell .i64 [(m : Int)]) (by unfold maxLen; omega) (by omega) (by simp; omega) ?_; intro v8 w8 hown8 hgrow8 _ hloc8)
        have hw8 : Below w6.heap.size w6 (w6.alloc (.cells #[.int .i64 (m : Int)] 3)) := (Below.refl _ _).alloc (Nat.le_refl _) _
        obtain ⟨hB8, hs8, hP8⟩ : Below B w w8 ∧ B + 2 ≤ w8.heap.size ∧ Pl w8 (B + 1) B (ps.set j ⟨v5, L, 2⟩) := by
          have hbb : Below (B + 2) w6 w8 := (hw8.mono (by omega)).grown hgrow8 (by simp; omega) (fun t e => by have := HY7.out.lt t e; omega)
          have hP := HP6.out
          refine ⟨hW1.trans (hbb.mono (by omega)), Nat.le_trans hW2 hbb.size, ?_⟩
          refine hP.blk (hbb.block _ (by omega)) (hbb.block _ (by omega)) (fun p hp a n c e => ?_)
          obtain ⟨h1, h2⟩ := HAp6.out p hp a n c e
          rw [hgrow8.block a.block (by simp; omega) (fun e => h2 e.symm)]
          exact Below.heap_alloc _ _ _ h1
        have hAp8 : Apart w8 v8 (ps.set j ⟨v5, L, 2⟩) := by
          intro p hp a n c e
          obtain ⟨h1, h2⟩ := HAp6.out p hp a n c e
          have hsz : w6.heap.size < w8.heap.size := Nat.lt_of_lt_of_le (by simp) hgrow8.size
          refine ⟨by omega, ?_⟩
          rcases hloc8 with h | h
          · rw [h]; exact h2
          · rw [h]
            simp only [World.size_alloc]
            intro e2
            simp only [Option.some.injEq] at e2
            omega
        have hR8 : Hid (Pl w8 (B + 1) B (ps.set j ⟨v5, L, 2⟩) ∧ (ps.set j ⟨v5, L, 2⟩).length = 60 ∧ (∀ t, t < j + 1 → ((ps.set j ⟨v5, L, 2⟩).getD t Pc.none).h = 2) ∧ (∀ t, j + 1 ≤ t → ((ps.set j ⟨v5, L, 2⟩).getD t Pc.none).h = 0) ∧ Apart w8 v8 (ps.set j ⟨v5, L, 2⟩)) := by
          refine ⟨hP8, by rw [List.length_set]; exact HPL.out, fun t ht => ?_, fun t ht => ?_, hAp8⟩
          · rcases (show t = j ∨ t < j by omega) with rfl | h
            · simp [List.getD_eq_getElem?_getD, hjl]
            · have := HA.out t h
              simpa [List.getD_eq_getElem?_getD, show j ≠ t by omega] using this
          · have := HZz.out t (by omega)
            simpa [List.getD_eq_getElem?_getD, show j ≠ t by omega] using this
        have hY8 : Hid ((ys ++ [(m : Int)]).length = j + 1 ∧ (∀ t, t < j + 1 → 0 ≤ (ys ++ [(m : Int)]).getD t 0 ∧ (ys ++ [(m : Int)]).getD t 0 ≤ 1522) ∧ w8.ownsRow (B + 2) 3 1 v8 (j + 1) ((ys ++ [(m : Int)]).map (Value.int .i64))) := by
          refine ⟨by rw [List.length_append, HY1.out]; rfl, fun t ht => ?_, by rw [List.map_append]; exact hown8⟩
          rcases (show t = j ∨ t < j by omega) with rfl | h
          · have : (ys ++ [(m : Int)]).getD t 0 = m := by simp [List.getD_eq_getElem?_getD, ← HY1.out]
            rw [this]; omega
          · have : (ys ++ [(m : Int)]).getD t 0 = ys.getD t 0 := by simp [List.getD_eq_getElem?_getD, List.getElem?_append_left (show t < ys.length by rw [HY1.out]; exact h)]
            rw [this]; exact HY2.out t h
        exact ⟨⟨j + 1, by omega, by go_num, ⟨ys ++ [(m : Int)], by rw [hSn.out], hY8⟩, ⟨_, hR8⟩, hB8, hs8⟩, by simp [intOf]; omega⟩
    · obtain rfl : j = n := by omega
      obtain ⟨hY1, hY2, hY3⟩ := HY.out
      obtain ⟨hP, hpl, hA, hZ, _⟩ := HR.out
      obtain ⟨av, cv, hv, hIs⟩ : ∃ a c, u6 = .slice a j c ∧ Is wr a j ys := by
        rcases hY3.2 with ⟨rfl, h0⟩ | ⟨g, c, cur, rfl, _⟩
        · exact ⟨none, 0, by rw [h0], fun i hi => by omega⟩
        · refine ⟨some ⟨g, 0, none⟩, c, rfl, fun i hi => ⟨g, 0, rfl, ?_⟩⟩
          rw [Nat.zero_add, hY3.cellAt i (by omega)]
          simp [List.getD_eq_getElem?_getD, hY1, hi]
      subst hv
      have hcode : codeT s ys j = 0 := by
        have : ∀ k, k ≤ j → codeT s ys k = 0 := by
          intro k
          induction k with
          | zero => intro _; rfl
          | succ k ih =>
            intro hk
            rw [codeT_succ0 s ys k (ih (by omega))]
            have := hY2 k (by omega)
            unfold timeE
            rw [if_neg (by simp only [hs, Bool.true_eq_false, false_or]; omega)]
        exact this j (Nat.le_refl _)
      have hAll := All_any s av j cv ys wr (by omega) hIs
      rw [allA, hcode, if_pos rfl] at hAll
      have hHo := Holds_any hP (by rw [sumH_two ps j hA hZ (by omega)]; omega)
      rw [sumH_two ps j hA hZ (by omega)] at hHo
      have HAll := hide hAll
      have HHo := hide hHo
      have HW' := hide HW.out.1
      clear hY1 hY2 hY3 hP hpl hA hZ hIs hcode hAll hHo HY HR HW
      generalize sumT s ys j = su at *
      go_wp2_with fail
      refine HAll.out.mono ?_
      rintro e wr' ⟨rfl, he⟩
      obtain rfl := he.symm
      clear he
      go_wp2_with fail
      refine HHo.out.mono ?_
      rintro e wr' ⟨rfl, he⟩
      obtain rfl := he.symm
      clear he
      go_wp2
      go_ret
      exact ⟨rfl, by rw [HBe.out]; exact HW'.out⟩
theorem WT_walk (sizes : Option Addr) (n cap : Nat) (zs : List Int) (s : Int) (w : World) (hT : Tab w) (hI : Is w sizes n zs) (hn : n ≤ maxLen) (hz : ∀ i, -9223372036854775808 ≤ zs.getD i 0 ∧ zs.getD i 0 ≤ 9223372036854775807) :
    Calls Tryd.prog 6 #[.slice sizes n cap, .int .i64 s] w fun e w' => e = .returned (.bool true) ∧ Below w.heap.size w w' := by
  by_cases h : 60 < n ∨ spB s = false
  · exact WT_far sizes n cap s w hn h
  · refine WT_near sizes n cap zs s w hT hI (by omega) ?_ hz
    cases hs : spB s
    · exact absurd (.inr hs) h
    · rfl
end Go.Proofs.YtmakaadmjgakaaaDoor
