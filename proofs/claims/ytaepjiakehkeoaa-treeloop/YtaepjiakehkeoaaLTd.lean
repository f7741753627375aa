/-
  The walk of TreeDown. Conditions: those that the theorem names.
-/
import Derived.Test.YtaepjiakehkeoaaOpn2
namespace Go.Proofs.Ytaepjiakehkeoaa
open Go.RowKit
set_option linter.unusedVariables false
set_option maxRecDepth 20000

theorem link_down {T : Tt} (h : Inv T) (q : Nat) (hq : q < T.ps.length) : ((linkT T q false).at q).b.up = false ∧ ((linkT T q false).at q).b.has = false ∧ ((linkT T q false).at q).state = 0 ∧ ((linkT T q false).at q).role = 0 := by
  have hI := inv_link h (q : Int) false
  have hl : (linkT T q false).ps.length = T.ps.length := by
    unfold linkT
    split
    · rw [renewT_len, forgetT_len, setP_len]
    · rfl
  have hb : ((linkT T q false).at q).b.up = false ∧ ((linkT T q false).at q).b.has = false := by
    unfold linkT
    by_cases hc : 0 ≤ (q : Int) ∧ (q : Int) < T.ps.length ∧ (T.at (q : Int).toNat).b.up ≠ false
    · rw [if_pos hc, renew_b]
      have e : (forgetT (setP T (q : Int).toNat (dropP (setUp (T.at (q : Int).toNat) false))) (q : Int).toNat).at q = dropP (setUp (T.at q) false) := (setP_at T q q _ hq).trans (if_pos rfl)
      rw [e]
      exact ⟨rfl, rfl⟩
    · rw [if_neg hc]
      have hu : (T.at q).b.up = false := by
        cases e : (T.at q).b.up
        · rfl
        · exact absurd ⟨by omega, by omega, by rw [show (q : Int).toNat = q by omega, e]; simp⟩ hc
      refine ⟨hu, ?_⟩
      cases e : (T.at q).b.has
      · rfl
      · have := h.has q e
        rw [hu] at this; cases this
  have hr : ((linkT T q false).at q).role = 0 := by
    rw [hI.role q (by rw [hl]; exact hq)]
    exact down_role _ q (by rw [hl]; exact hq) hb.1
  refine ⟨hb.1, hb.2, ?_, hr⟩
  by_cases e : ((linkT T q false).at q).state = 0
  · exact e
  · have := hI.st q e
    rw [hr] at this
    omega
theorem link_up {T : Tt} (h : Inv T) (q : Nat) (hq : q < T.ps.length) (hu : (T.at q).b.up = false) : ((linkT T q true).at q).b.up = true ∧ ((linkT T q true).at q).b.has = false ∧ ((linkT T q true).at q).b.told = Vc.zero ∧ ((linkT T q true).at q).role = 2 ∧ ((linkT T q true).at q).state = (if ((linkT T q true).at q).edge = true then 2 else 0) := by
  have hr0 : (T.at q).role = 0 := by rw [h.role q hq]; exact down_role T q hq hu
  have hc : 0 ≤ (q : Int) ∧ (q : Int) < T.ps.length ∧ (T.at (q : Int).toNat).b.up ≠ true := ⟨by omega, by omega, by rw [show (q : Int).toNat = q by omega, hu]; simp⟩
  unfold linkT
  rw [if_pos hc]
  have e : (forgetT (setP T (q : Int).toNat (dropP (setUp (T.at (q : Int).toNat) true))) (q : Int).toNat).at q = dropP (setUp (T.at q) true) := (setP_at T q q _ hq).trans (if_pos rfl)
  have hl : (forgetT (setP T (q : Int).toNat (dropP (setUp (T.at (q : Int).toNat) true))) (q : Int).toNat).ps.length = T.ps.length := by rw [forgetT_len, setP_len]
  generalize forgetT (setP T (q : Int).toNat (dropP (setUp (T.at (q : Int).toNat) true))) (q : Int).toNat = U at *
  have hq' : q < U.ps.length := by rw [hl]; exact hq
  have hb : (U.at q).b.up = true ∧ (U.at q).b.has = false ∧ (U.at q).b.told = Vc.zero ∧ (U.at q).role = 0 := by rw [e]; exact ⟨rfl, rfl, rfl, hr0⟩
  have hnr : (selT U).rp ≠ q := fun er => by
    rcases root_up U.id U.bs U.ps.length with e1 | ⟨j, h1, h2, h3, h4⟩
    · have : (selT U).rp = -1 := e1
      omega
    · have : (selT U).rp = j := h2
      obtain rfl : q = j := by omega
      rw [bs_at, hb.2.1] at h4; cases h4
  have hrole : (selT U).roles.getD q 0 = 2 := by
    rw [sel_role U q hq']
    unfold roleN
    rw [if_neg (by rw [hb.1]; simp), if_neg (by simp; omega), if_pos (.inl hb.2.1)]
  have hcore := renew_core U true q hq'
  rw [if_neg hnr, hrole] at hcore
  unfold newC at hcore
  rw [if_neg (show ¬ (U.at q).core.role = 2 by show ¬ (U.at q).role = 2; rw [hb.2.2.2]; omega)] at hcore
  have k1 := congrArg Cr.b hcore
  have k2 := congrArg Cr.edge hcore
  have k3 := congrArg Cr.role hcore
  have k4 := congrArg Cr.state hcore
  have k1' : ((renewT U true).at q).b = (U.at q).b := k1
  have k2' : ((renewT U true).at q).edge = (U.at q).edge := k2
  refine ⟨by rw [k1']; exact hb.1, by rw [k1']; exact hb.2.1, by rw [k1']; exact hb.2.2.1, k3, ?_⟩
  rw [k2']
  have k4' : ((renewT U true).at q).state = if (2 : Int) = 2 ∧ (U.at q).edge = true then 2 else 0 := k4
  rw [k4']
  cases (U.at q).edge <;> simp
def doL (T : Tt) : List Ac → Nat → Tt
  | l, 0 => T
  | l, k + 1 => doT (doL T l k) (l.getD k Ac.zero)
theorem fine_doL {n : Nat} {id : Int} {T : Tt} (h : Fine n id T) (l : List Ac) : ∀ k, (∀ i, i < k → (l.getD i Ac.zero).m.wf) → Fine n id (doL T l k)
  | 0, _ => h
  | k + 1, hw => fine_do (fine_doL h l k fun i hi => hw i (by omega)) _ (hw k (by omega))
set_option maxHeartbeats 8000000 in
theorem Td_walk (id : Int) (a : Option Addr) (n cap : Nat) (l : List Ac) (p : Int) (w : World) (hid : U64 id) (hI : Hid (Axs w a n l)) : Calls Try.prog 15 #[.int .u64 id, .slice a n cap, .int .i64 p] w fun e w' => e = .returned (.bool true) ∧ Below w.heap.size w w' := by
  go_enter Try.func15, Try.ntmps15
  go_wp2_with fail
  refine (grows_any _).mono ?_
  rintro e w0 ⟨rfl, hb0⟩
  replace hb0 := hide hb0
  by_cases h1 : n > 100
  · have h1q : decide ((n : Int) > 100) = true := by simp; omega
    go_wp2
    go_ret
    exact ⟨rfl, hb0.out⟩
  by_cases h2 : p < 0
  · go_wp2
    go_ret
    exact ⟨rfl, hb0.out⟩
  by_cases h3 : p > 2
  · go_wp2
    go_ret
    exact ⟨rfl, hb0.out⟩
  obtain ⟨q, rfl⟩ := Int.eq_ofNat_of_zero_le (show 0 ≤ p by omega)
  have hb1 := hide (below1 w0 (.cells #[.int .i64 1, .int .i64 2, .int .i64 3] 3))
  have hF0 : Fl (w0.alloc (.cells #[.int .i64 1, .int .i64 2, .int .i64 3] 3)) w0.heap.size 3 fI [1, 2, 3] [] := heap_alloc_new _ _
  have hp := hide (ports_any (some ⟨w0.heap.size, 0, none⟩) 3 3 [1, 2, 3] (w0.alloc (.cells #[.int .i64 1, .int .i64 2, .int .i64 3] 3)) (by omega) hF0.ins)
  clear hF0
  go_wp2_with fail
  refine hp.out.mono ?_
  rintro e w1 ⟨v1, rfl, hS1, hB1, hF1⟩
  have hB2 := hide (hb0.out.later (hb1.out.later hB1))
  obtain ⟨a1, c1, rfl, hc1, hcn1, hT1⟩ := hS1.tps (ports_wf (l := [1, 2, 3]) (fun i hi => by
    have hi' : i < 3 := hi
    rcases (show i = 0 ∨ i = 1 ∨ i = 2 by omega) with rfl | rfl | rfl <;> simp [I64]))
  have hl1 : ([1, 2, 3].map portP).length = 3 := rfl
  rw [hl1] at hc1 hT1 ⊢
  have hn := hide (ONew id a1 3 c1 [portP 1, portP 2, portP 3] w1 (fun k => k < w.heap.size) (fun k hk => Nat.lt_of_lt_of_le hk hB2.out.size) hid (by omega) hc1 hcn1 hT1)
  clear hp hb1 hB1 hF1 hS1 hc1 hcn1 hT1 hl1 hb0
  go_wp2_with fail
  refine hn.out.mono ?_
  rintro e w3 ⟨tb, rfl, hO3, hb3⟩
  have hB3 := hide (hB2.out.later hb3)
  replace hO3 := hide hO3
  have hFi : Hid (Fine 3 id (newT id [portP 1, portP 2, portP 3])) := fine_new (ps := [portP 1, portP 2, portP 3]) hid (ports_wf (l := [1, 2, 3]) (fun i hi => by
    have hi' : i < 3 := hi
    rcases (show i = 0 ∨ i = 1 ∨ i = 2 by omega) with rfl | rfl | rfl <;> simp [I64]))
  generalize newT id [portP 1, portP 2, portP 3] = T0 at *
  clear hn hB2 hb3
  go_wp2_with fail
  go_loopw [30] (fun i wr => ∃ j : Nat, j ≤ n ∧ i = .int .i64 j ∧ Hid (Ow wr tb (fun k => k < w.heap.size) (0 + 40 * j) (doL T0 l j)) ∧ Hid (Below w.heap.size w wr)) (fun i _ => n - (intOf i).toNat)
  case atStart => exact ⟨0, Nat.zero_le _, rfl, hO3, hB3⟩
  case round =>
    obtain ⟨j, hj, rfl, hO, hB⟩ := hrel
    clear hO3 hB3
    by_cases hlt : j < n
    · obtain ⟨bb, off, rfl, hr0, hwf⟩ := (hI.out.below hB.out rfl).2 j hlt
      have hS1 : Hid (doL T0 l (j + 1) = doT (doL T0 l j) (l.getD j Ac.zero)) := rfl
      have hdo := hide (fun (W : World) (hb : Below wr.heap.size wr W) => ODo (hO.out.below hb) (show 0 + 40 * j ≤ 400000 by omega) (l.getD j Ac.zero) hwf)
      rw [← hS1.out] at hdo
      generalize hV1 : doL T0 l (j + 1) = V1 at *
      replace hV1 := hide hV1
      replace hr0 := hide hr0
      generalize l.getD j Ac.zero = o at *
      obtain ⟨kd, pt, ⟨m0, m1, m2, m3, m4, m5, m6, m7, m8, m9, m10, m11, m12, m13, m14, m15⟩⟩ := o
      have hrg := hr0.out
      have hlt1 := hide hB.out.size
      have hkp := hide (fun (W : World) (hb : Below wr.heap.size wr W) => hB.out.later hb)
      clear hO hB hwf hS1 hr0
      go_wp2_with (first | ((with_reducible change wpList _ _ _ _ _ _); refine wpList_load_mid rfl 58 (.tmp 32) rfl bb (off + j * 18) rfl (fA ⟨kd, pt, ⟨m0, m1, m2, m3, m4, m5, m6, m7, m8, m9, m10, m11, m12, m13, m14, m15⟩⟩) _ hrg Try.underlying58 rfl (acLen _) ?_) | ((with_reducible change wpList _ _ _ _ _ _); refine wpList_store_fresh rfl 58 (.tmp 9) (.tmp 33) rfl (Ac.row ⟨kd, pt, ⟨m0, m1, m2, m3, m4, m5, m6, m7, m8, m9, m10, m11, m12, m13, m14, m15⟩⟩) Ac.zero.row rfl rfl 58 (acSize _) rfl (Ac.row_all _) ?_; intro w4 hH4 hb4; refine unhB ?_))
      have hd4 := hide (hdo.out _ hb4)
      have hB4 := hide (hkp.out _ hb4)
      replace hH4 := hide hH4
      clear hdo hkp hb4 hrg
      refine hide ?_
      go_wp2_with ((with_reducible change wpList _ _ _ _ _ _); refine wpList_load_row rfl 58 (.tmp 9) rfl wr.heap.size rfl 58 _ _ _ hH4.out Try.underlying58 rfl (acSize Ac.zero) ?_)
      refine hd4.out.mono ?_
      rintro e w5 ⟨rfl, hO5, hK5⟩
      have hB5 := hide (hK5.below hB4.out (fun k hk => hk))
      replace hO5 := hide hO5
      clear hd4 hK5 hB4 hH4
      go_wp2
      go_round
      case rel => exact ⟨j + 1, by omega, by go_num, by rw [hV1.out]; exact hO5, hB5⟩
      case measure => simp [intOf]; omega
    · obtain rfl : n = j := by omega
      have hFn := hide (fine_doL hFi.out l n (fun i hi => by obtain ⟨_, _, _, _, hw⟩ := hI.out.2 i hi; exact hw))
      generalize doL T0 l n = T at *
      have hl := hide (OLink hO.out (show 0 + 40 * n ≤ 400000 by omega) q false)
      have hq : q < 3 := by omega
      have hq3 : q < T.ps.length := by rw [hFn.out.len]; exact hq
      have hdn := link_down hFn.out.inv q hq3
      have hF1 := hide (fine_link hFn.out q false)
      have hq4 : q < (linkT T q false).ps.length := by rw [hF1.out.len]; exact hq
      have hup := hide (link_up hF1.out.inv q hq4 hdn.1)
      have hF2 := hide (fine_link hF1.out q true)
      have hl2 := hide (fun (W : World) (A : Nat → Prop) (h : Ow W tb A (0 + 40 * n + 40) (linkT T q false)) => OLink h (by omega) q true)
      generalize hTT2 : linkT (linkT T q false) q true = T2 at *
      generalize hTT1 : linkT T q false = T1 at *
      clear hTT1 hTT2 hO hI hFi
      clear hFn hq3
      replace hdn := hide hdn
      go_wp2_with fail
      refine hl.out.mono ?_
      rintro e w4 ⟨rfl, hO4, hK4⟩
      have hB4 := hide (hK4.below hB.out (fun k hk => hk))
      have hp4 := hide (OPorts hO4)
      replace hO4 := hide hO4
      clear hl hK4 hB
      go_wp2_with fail
      refine hp4.out.mono ?_
      rintro e w5 ⟨v5, rfl, hS5, hb5, hf5⟩
      obtain ⟨pb5, cap5, sp5, rfl, hFl5, hcc5, -⟩ := hS5.at_i (show 0 < T1.ps.length by omega)
      have hrg := hFl5.range wide_T Tp.zero q hq4
      have hO5 := hide (hO4.out.below hb5)
      have hB5 := hide (hB4.out.later hb5)
      have hl3 : T1.ps.length = 3 := hF1.out.len
      have hat : Hid (T1.ps.getD q Tp.zero = T1.at q) := rfl
      rw [hat.out] at hrg
      rw [hl3] at hcc5 ⊢
      clear hp4 hS5 hb5 hf5 hO4 hB4 hFl5 hl3 hq4 hat
      obtain ⟨d1, d2, d3, d4⟩ := hdn.out
      generalize T1.at q = tp at *
      obtain ⟨⟨pid, cost, up, has, ⟨x0, x1, x2, x3⟩⟩, ed, ro, st, age, left, wait, ch, agr⟩ := tp
      dsimp only at d1 d2 d3 d4
      subst d1 d2 d3 d4
      clear hdn
      have hB5s := hide hB5.out.size
      go_wp2_with (first | ((with_reducible change wpList _ _ _ _ _ _); refine wpList_load_mid rfl 50 (.tmp 44) rfl pb5 (q * 16) rfl (fT ⟨⟨pid, cost, false, false, ⟨x0, x1, x2, x3⟩⟩, ed, 0, 0, age, left, wait, ch, agr⟩) _ hrg Try.underlying50 rfl (tpLen _) ?_) | ((with_reducible change wpList _ _ _ _ _ _); refine wpList_store_fresh rfl 50 (.tmp 10) (.tmp 45) rfl (Tp.row ⟨⟨pid, cost, false, false, ⟨x0, x1, x2, x3⟩⟩, ed, 0, 0, age, left, wait, ch, agr⟩) Tp.zero.row rfl rfl 50 (tpSize _) rfl (Tp.row_all _) ?_; intro w6 hH6 hb6; refine unhB ?_))
      have k2 : w6.cell? ⟨w5.heap.size, 2, none⟩ = some (.bool false) := (cell_of_row _ _ _ _ _ _ hH6).trans rfl
      have k3 : w6.cell? ⟨w5.heap.size, 3, none⟩ = some (.bool false) := (cell_of_row _ _ _ _ _ _ hH6).trans rfl
      have k9 : w6.cell? ⟨w5.heap.size, 9, none⟩ = some (.int .i64 0) := (cell_of_row _ _ _ _ _ _ hH6).trans rfl
      have k10 : w6.cell? ⟨w5.heap.size, 10, none⟩ = some (.int .i64 0) := (cell_of_row _ _ _ _ _ _ hH6).trans rfl
      have hO6 := hO5.out.fresh hb6 (fun k => k < w.heap.size ∨ k = w5.heap.size) (fun k hk => by
        rcases hk with h | h
        · exact .inl h
        · exact .inr ⟨by omega, by have := (Array.getElem?_eq_some_iff.1 hH6).1; omega⟩)
      have hB6 := hide (hB5.out.later hb6)
      have hl6 := hide (hl2.out _ _ hO6)
      replace hH6 := hide hH6
      clear hO6 hO5 hB5 hl2 hb6 hrg
      refine hide ?_
      go_wp2_with fail
      clear k2 k3 k9 k10
      refine hl6.out.mono ?_
      rintro e w7 ⟨rfl, hO7, hK7⟩
      have hB7 := hide (hK7.below hB6.out (fun k hk => .inl hk))
      have hH7 := hide ((hK7.block w5.heap.size (.inr rfl)).trans hH6.out)
      have hp7 := hide (OPorts hO7)
      clear hl6 hK7 hB6 hH6 hO7
      go_wp2_with fail
      refine hp7.out.mono ?_
      rintro e w8 ⟨v8, rfl, hS8, hb8, hf8⟩
      have hl8 : T2.ps.length = 3 := hF2.out.len
      obtain ⟨pb8, cap8, sp8, rfl, hFl8, hcc8, -⟩ := hS8.at_i (show 0 < T2.ps.length by omega)
      have hrg := hFl8.range wide_T Tp.zero q (by omega)
      have hB8 := hB7.out.later hb8
      have hH8 := heap_kept hb8 hH7.out
      have hat : Hid (T2.ps.getD q Tp.zero = T2.at q) := rfl
      rw [hat.out] at hrg
      rw [hl8] at hcc8 ⊢
      clear hp7 hS8 hb8 hf8 hB7 hFl8 hl8 hat hH7
      obtain ⟨d1, d2, d3, d4, d5⟩ := hup.out
      generalize T2.at q = tp at *
      obtain ⟨⟨pid', cost', up', has', ⟨y0, y1, y2, y3⟩⟩, ed', ro', st', age', left', wait', ch', agr'⟩ := tp
      dsimp only at d1 d2 d3 d4 d5
      simp only [Vc.mk.injEq] at d3
      obtain ⟨rfl, rfl, rfl, rfl⟩ := d3
      subst d1 d2 d4
      replace d5 := hide d5
      clear hup
      have hR := setRow_heap w8 w5.heap.size _ (Tp.row ⟨⟨pid', cost', true, false, ⟨0, 0, 0, 0⟩⟩, ed', 2, st', age', left', wait', ch', agr'⟩) 50 _ hH8
      have hB9 := hide (below_setRow hB8 hB5s.out (Tp.row ⟨⟨pid', cost', true, false, ⟨0, 0, 0, 0⟩⟩, ed', 2, st', age', left', wait', ch', agr'⟩))
      have k2 : (w8.setRow w5.heap.size (Tp.row ⟨⟨pid', cost', true, false, ⟨0, 0, 0, 0⟩⟩, ed', 2, st', age', left', wait', ch', agr'⟩)).cell? ⟨w5.heap.size, 2, none⟩ = some (.bool true) := (cell_of_row _ _ _ _ _ _ hR).trans rfl
      have k3 : (w8.setRow w5.heap.size (Tp.row ⟨⟨pid', cost', true, false, ⟨0, 0, 0, 0⟩⟩, ed', 2, st', age', left', wait', ch', agr'⟩)).cell? ⟨w5.heap.size, 3, none⟩ = some (.bool false) := (cell_of_row _ _ _ _ _ _ hR).trans rfl
      have k4 : (w8.setRow w5.heap.size (Tp.row ⟨⟨pid', cost', true, false, ⟨0, 0, 0, 0⟩⟩, ed', 2, st', age', left', wait', ch', agr'⟩)).cell? ⟨w5.heap.size, 4, none⟩ = some (.int .u64 0) := (cell_of_row _ _ _ _ _ _ hR).trans rfl
      have k5 : (w8.setRow w5.heap.size (Tp.row ⟨⟨pid', cost', true, false, ⟨0, 0, 0, 0⟩⟩, ed', 2, st', age', left', wait', ch', agr'⟩)).cell? ⟨w5.heap.size, 5, none⟩ = some (.int .u64 0) := (cell_of_row _ _ _ _ _ _ hR).trans rfl
      have k6 : (w8.setRow w5.heap.size (Tp.row ⟨⟨pid', cost', true, false, ⟨0, 0, 0, 0⟩⟩, ed', 2, st', age', left', wait', ch', agr'⟩)).cell? ⟨w5.heap.size, 6, none⟩ = some (.int .u64 0) := (cell_of_row _ _ _ _ _ _ hR).trans rfl
      have k7 : (w8.setRow w5.heap.size (Tp.row ⟨⟨pid', cost', true, false, ⟨0, 0, 0, 0⟩⟩, ed', 2, st', age', left', wait', ch', agr'⟩)).cell? ⟨w5.heap.size, 7, none⟩ = some (.int .i64 0) := (cell_of_row _ _ _ _ _ _ hR).trans rfl
      have k8 : (w8.setRow w5.heap.size (Tp.row ⟨⟨pid', cost', true, false, ⟨0, 0, 0, 0⟩⟩, ed', 2, st', age', left', wait', ch', agr'⟩)).cell? ⟨w5.heap.size, 8, none⟩ = some (.bool ed') := (cell_of_row _ _ _ _ _ _ hR).trans rfl
      have k9 : (w8.setRow w5.heap.size (Tp.row ⟨⟨pid', cost', true, false, ⟨0, 0, 0, 0⟩⟩, ed', 2, st', age', left', wait', ch', agr'⟩)).cell? ⟨w5.heap.size, 9, none⟩ = some (.int .i64 2) := (cell_of_row _ _ _ _ _ _ hR).trans rfl
      have k10 : (w8.setRow w5.heap.size (Tp.row ⟨⟨pid', cost', true, false, ⟨0, 0, 0, 0⟩⟩, ed', 2, st', age', left', wait', ch', agr'⟩)).cell? ⟨w5.heap.size, 10, none⟩ = some (.int .i64 st') := (cell_of_row _ _ _ _ _ _ hR).trans rfl
      have hzz := fun (w : World) => vec_eql Vc.zero Vc.zero ⟨by simp [U64], by simp [U64], by simp [U64], by simp [I64]⟩ ⟨by simp [U64], by simp [U64], by simp [U64], by simp [I64]⟩ w
      clear hR hB8
      go_wp2_with (first | ((with_reducible change wpList _ _ _ _ _ _); refine wpList_load_mid rfl 50 (.tmp 70) rfl pb8 (q * 16) rfl (fT ⟨⟨pid', cost', true, false, ⟨0, 0, 0, 0⟩⟩, ed', 2, st', age', left', wait', ch', agr'⟩) _ hrg Try.underlying50 rfl (tpLen _) ?_) | ((with_reducible change wpList _ _ _ _ _ _); refine wpList_store_row rfl 50 (.tmp 10) (.tmp 71) rfl w5.heap.size (Tp.row ⟨⟨pid', cost', true, false, ⟨0, 0, 0, 0⟩⟩, ed', 2, st', age', left', wait', ch', agr'⟩) rfl rfl 50 _ hH8 (tpSize _) rfl (Tp.row_all _) ?_; refine unhB ?_))
      clear hrg hH8
      generalize w8.setRow w5.heap.size (Tp.row ⟨⟨pid', cost', true, false, ⟨0, 0, 0, 0⟩⟩, ed', 2, st', age', left', wait', ch', agr'⟩) = w9 at *
      refine hide ?_
      cases ed'
      · obtain rfl : st' = 0 := by simpa using d5.out
        clear d5
        go_wp2
        go_ret
        exact ⟨rfl, hB9.out⟩
      · obtain rfl : st' = 2 := by simpa using d5.out
        clear d5
        go_wp2
        go_ret
        exact ⟨rfl, hB9.out⟩
end Go.Proofs.Ytaepjiakehkeoaa
