/-
  The walk of TreeStates. Conditions: those that the theorem names.
-/
import Derived.Test.YtaepjiakehkeoaaLTd
namespace Go.Proofs.Ytaepjiakehkeoaa
open Go.RowKit
set_option linter.unusedVariables false
set_option maxRecDepth 20000

theorem otLen (o : Ot) : (Try.prog.info? 72).map (·.size) = some (fO o).length := by kernel_rfl
@[reducible] def Ot.row (o : Ot) : Array Value := #[.int .i64 o.port, .int .i64 o.m.kind, .int .u64 o.m.root, .int .u64 o.m.cost, .int .u64 o.m.bridge, .int .i64 o.m.port, .bool o.m.change, .bool o.m.ack, .bool o.m.proposal, .bool o.m.agreement, .bool o.m.learning, .bool o.m.forwarding, .int .i64 o.m.role, .int .i64 o.m.age, .int .i64 o.m.maxAge, .int .i64 o.m.hello, .int .i64 o.m.delay]
theorem otSize (o : Ot) : (Try.prog.info? 72).map (·.size) = some o.row.size := by kernel_rfl
theorem Ot.row_all (o : Ot) : o.row.all (·.oneCell') = true := by simp [Value.oneCell']
/-- What the statement asks of a port. -/
structure PortS (p : Tp) (i : Nat) (rp : Int) : Prop where
  root : (i : Int) = rp → p.role = 1 ∧ p.state = 2
  act : p.state ≠ 0 → p.role = 1 ∨ p.role = 2
  up : p.b.up = false → p.state = 0
  rng : 0 ≤ p.state ∧ p.state ≤ 2
theorem Fine.port {n : Nat} {id : Int} {T : Tt} (h : Fine n id T) (hok : T.ok) (i : Nat) (hi : i < n) : PortS (T.at i) i T.rp := by
  have hi' : i < T.ps.length := by rw [h.len]; exact hi
  refine ⟨fun e => ⟨?_, h.inv.root i hi' e.symm⟩, h.inv.st i, fun hu => ?_, (at_ok hok i).state⟩
  · rw [h.inv.role i hi']
    exact root_role T i hi' (by rw [← h.inv.rp]; exact e.symm)
  · have hr : (T.at i).role = 0 := by rw [h.inv.role i hi']; exact down_role T i hi' hu
    by_cases e : (T.at i).state = 0
    · exact e
    · have := h.inv.st i e
      rw [hr] at this
      omega
theorem OutI.at {n : Nat} {id : Int} {T : Tt} (h : OutI n id T) (i : Nat) (hi : i < T.outs.length) : bcheckE (T.outs.getD i Ot.zero).m = 0 ∧ 0 ≤ (T.outs.getD i Ot.zero).port ∧ (T.outs.getD i Ot.zero).port < n ∧ (T.outs.getD i Ot.zero).m.bridge = id ∧ (T.outs.getD i Ot.zero).m.wf := by
  have e : T.outs.getD i Ot.zero = T.outs[i] := by simp [hi]
  rw [e]
  exact h _ (List.getElem_mem hi)
@[reducible] def fBp (b : Bp) : List Value := fB b
def stL (T : Tt) (l : List Ac) : Nat → Tt
  | 0 => T
  | k + 1 => tookT (doT (stL T l k) (l.getD k Ac.zero))
theorem fine_stL {n : Nat} {id : Int} {T : Tt} (h : Fine n id T) (l : List Ac) : ∀ k, (∀ i, i < k → (l.getD i Ac.zero).m.wf) → Fine n id (stL T l k)
  | 0, _ => h
  | k + 1, hw => fine_took (fine_do (fine_stL h l k fun i hi => hw i (by omega)) _ (hw k (by omega)))
set_option maxHeartbeats 8000000 in
theorem Ts_walk (id : Int) (a : Option Addr) (n cap : Nat) (ps : List Tp) (a' : Option Addr) (n' cap' : Nat) (l : List Ac) (w : World) (hid : U64 id) (hP : Hid (Tps w a n ps)) (hcap : n ≤ cap) (hcap0 : a = none → cap = 0) (hI : Hid (Axs w a' n' l)) : Calls Try.prog 9 #[.int .u64 id, .slice a n cap, .slice a' n' cap'] w fun e w' => e = .returned (.bool true) ∧ Below w.heap.size w w' := by
  go_enter Try.func9, Try.ntmps9
  go_wp2_with fail
  refine (grows_any _).mono ?_
  rintro e w0 ⟨rfl, hb0⟩
  replace hb0 := hide hb0
  by_cases h1 : n > 10
  · have h1q : decide ((n : Int) > 10) = true := by simp; omega
    go_wp2
    go_ret
    exact ⟨rfl, hb0.out⟩
  by_cases h2 : n' > 150
  · have h2q : decide ((n' : Int) > 150) = true := by simp; omega
    go_wp2
    go_ret
    exact ⟨rfl, hb0.out⟩
  have hn := hide (ONew id a n cap ps w0 (fun k => k < w.heap.size) (fun k hk => Nat.lt_of_lt_of_le hk hb0.out.size) hid (by omega) hcap hcap0 (hP.out.below hb0.out))
  have hFi : Hid (Fine n id (newT id ps)) := by
    have hl := hP.out.1
    have := fine_new (ps := ps) hid (fun i hi => by obtain ⟨_, _, _, _, h⟩ := hP.out.2 i (by rw [← hl]; exact hi); exact h)
    rw [hl] at this
    exact this
  go_wp2_with fail
  refine hn.out.mono ?_
  rintro e w3 ⟨tb, rfl, hO3, hb3⟩
  have hB3 := hide (hb0.out.later hb3)
  replace hO3 := hide hO3
  generalize newT id ps = T0 at *
  clear hn hb3 hb0 hP hcap0 hcap
  go_wp2_with fail
  go_loopw [31] (fun i wr => ∃ j : Nat, j ≤ n' ∧ i = .int .i64 j ∧ Hid (Ow wr tb (fun k => k < w.heap.size) 0 (stL T0 l j)) ∧ Hid (Below w.heap.size w wr)) (fun i _ => n' - (intOf i).toNat)
  case atStart => exact ⟨0, Nat.zero_le _, rfl, hO3, hB3⟩
  case round =>
    obtain ⟨j, hj, rfl, hO, hB⟩ := hrel
    clear hO3 hB3
    by_cases hlt : j < n'
    rotate_left
    · obtain rfl : n' = j := by omega
      clear hO
      go_wp2
      go_ret
      exact ⟨rfl, hB.out⟩
    obtain ⟨bb, off, rfl, hr0, hwf⟩ := (hI.out.below hB.out rfl).2 j hlt
    have hFj := hide (fine_do (fine_stL hFi.out l j (fun i hi => by obtain ⟨_, _, _, _, hw⟩ := hI.out.2 i (by omega); exact hw)) (l.getD j Ac.zero) hwf)
    have hS1 : Hid (stL T0 l (j + 1) = tookT (doT (stL T0 l j) (l.getD j Ac.zero))) := rfl
    have hdo := hide (fun (W : World) (hb : Below wr.heap.size wr W) => ODo (hO.out.below hb) (by omega) (l.getD j Ac.zero) hwf)
    generalize doT (stL T0 l j) (l.getD j Ac.zero) = T1 at *
    generalize hV1 : stL T0 l (j + 1) = V1 at *
    replace hV1 := hide hV1
    replace hr0 := hide hr0
    generalize l.getD j Ac.zero = o at *
    obtain ⟨kd, pt, ⟨m0, m1, m2, m3, m4, m5, m6, m7, m8, m9, m10, m11, m12, m13, m14, m15⟩⟩ := o
    have hrg := hr0.out
    have hkp := hide (fun (W : World) (hb : Below wr.heap.size wr W) => hB.out.later hb)
    clear hO hB hwf hr0
    go_wp2_with (first | ((with_reducible change wpList _ _ _ _ _ _); refine wpList_load_mid rfl 58 (.tmp 33) rfl bb (off + j * 18) rfl (fA ⟨kd, pt, ⟨m0, m1, m2, m3, m4, m5, m6, m7, m8, m9, m10, m11, m12, m13, m14, m15⟩⟩) _ hrg Try.underlying58 rfl (acLen _) ?_) | ((with_reducible change wpList _ _ _ _ _ _); refine wpList_store_fresh rfl 58 (.tmp 9) (.tmp 34) rfl (Ac.row ⟨kd, pt, ⟨m0, m1, m2, m3, m4, m5, m6, m7, m8, m9, m10, m11, m12, m13, m14, m15⟩⟩) Ac.zero.row rfl rfl 58 (acSize _) rfl (Ac.row_all _) ?_; intro w4 hH4 hb4; refine unhB ?_))
    have hd4 := hide (hdo.out _ hb4)
    have hB4 := hide (hkp.out _ hb4)
    replace hH4 := hide hH4
    clear hdo hkp hb4 hrg
    refine hide ?_
    go_wp2_with ((with_reducible change wpList _ _ _ _ _ _); refine wpList_load_row rfl 58 (.tmp 9) rfl wr.heap.size rfl 58 _ _ _ hH4.out Try.underlying58 rfl (acSize Ac.zero) ?_)
    refine hd4.out.mono ?_
    rintro e w5 ⟨rfl, hO5, hK5⟩
    have hB5 := hide (hK5.below hB4.out (fun k hk => hk))
    have hr5 := hide (ORoot hO5)
    replace hO5 := hide hO5
    clear hd4 hK5 hB4 hH4
    generalize hrp : T1.rp = rp at *
    replace hrp := hide hrp
    generalize T1.y = y at *
    obtain ⟨y0, y1, y2, y3⟩ := y
    go_wp2_with fail
    refine hr5.out.mono ?_
    rintro e w6 ⟨rfl, hb6⟩
    have hbA := hb6.later (below1 w6 (.cells (Vc.row ⟨y0, y1, y2, y3⟩) 26))
    have hO7 := hide (hO5.out.below hbA)
    have hB7 := hide (hB5.out.later hbA)
    have hp7 := hide (OPorts hO7.out)
    clear hr5 hb6 hbA hO5 hB5
    go_wp2_with fail
    generalize w6.alloc (.cells (Vc.row ⟨y0, y1, y2, y3⟩) 26) = w7 at *
    refine hp7.out.mono ?_
    rintro e w8 ⟨v8, rfl, hS8, hb8, hf8⟩
    have hok1 := hide hFj.out.ok
    obtain ⟨a8, c8, rfl, -, -, hT8⟩ := hS8.tps (fun i hi => (at_ok hok1.out i).b)
    have hO8 := hide (hO7.out.below hb8)
    have hB8 := hide (hB7.out.later hb8)
    rw [hFj.out.len] at hT8 ⊢
    replace hT8 := hide hT8
    clear hp7 hS8 hb8 hf8 hO7 hB7
    go_wp2_with fail
    go_loopw [46] (fun i wr => ∃ x : Nat, x ≤ n ∧ i = .int .i64 x ∧ Hid (Below w8.heap.size w8 wr)) (fun i _ => n - (intOf i).toNat)
    case atStart => exact ⟨0, Nat.zero_le _, rfl, hide (Below.refl _ _)⟩
    case round =>
      obtain ⟨x, hx, rfl, hbx⟩ := hrel
      by_cases hxl : x < n
      · obtain ⟨pb, off8, rfl, hpt, -⟩ := (hT8.out.below hbx.out).2 x hxl
        have hps := hide (hFj.out.port hok1.out x hxl)
        have hrg0 := hpt.range
        have hat : Hid (T1.ps.getD x Tp.zero = T1.at x) := rfl
        rw [hat.out] at hrg0
        rw [hrp.out] at hps
        replace hrg0 := hide hrg0
        clear hpt hat
        generalize T1.at x = tp at *
        obtain ⟨⟨pid, cost, up, has, ⟨x0, x1, x2, x3⟩⟩, ed, ro, st, age, left, wait, ch, agr⟩ := tp
        obtain ⟨s1, s2, s3, s4⟩ := hps.out
        dsimp only at s1 s2 s3 s4
        replace s1 := hide s1
        replace s2 := hide s2
        replace s3 := hide s3
        clear hps
        have hrg := hrg0.out
        clear hrg0
        go_wp2_with (first | ((with_reducible change wpList _ _ _ _ _ _); refine wpList_load_mid rfl 50 (.tmp 49) rfl pb (off8 + x * 16) rfl (fT ⟨⟨pid, cost, up, has, ⟨x0, x1, x2, x3⟩⟩, ed, ro, st, age, left, wait, ch, agr⟩) _ hrg Try.underlying50 rfl (tpLen _) ?_) | ((with_reducible change wpList _ _ _ _ _ _); refine wpList_store_fresh rfl 50 (.tmp 13) (.tmp 50) rfl (Tp.row ⟨⟨pid, cost, up, has, ⟨x0, x1, x2, x3⟩⟩, ed, ro, st, age, left, wait, ch, agr⟩) Tp.zero.row rfl rfl 50 (tpSize _) rfl (Tp.row_all _) ?_; intro w9 hH9 hb9; refine unhB ?_))
        have k2 : w9.cell? ⟨wr.heap.size, 2, none⟩ = some (.bool up) := (cell_of_row _ _ _ _ _ _ hH9).trans rfl
        have k9 : w9.cell? ⟨wr.heap.size, 9, none⟩ = some (.int .i64 ro) := (cell_of_row _ _ _ _ _ _ hH9).trans rfl
        have k10 : w9.cell? ⟨wr.heap.size, 10, none⟩ = some (.int .i64 st) := (cell_of_row _ _ _ _ _ _ hH9).trans rfl
        have hb10 := hide (hbx.out.later hb9)
        clear hH9 hb9 hrg hbx
        refine hide ?_
        by_cases hrt : (x : Int) = rp
        · obtain ⟨rfl, rfl⟩ := s1.out hrt
          have hupt : up = true := by
            cases up
            · have := s3.out rfl; omega
            · rfl
          subst hupt
          have hrtq : ((x : Int) == rp) = true := by rw [beq_iff_eq]; exact hrt
          clear s1 s2 s3 hrt
          go_wp2
          go_round
          case rel => exact ⟨x + 1, by omega, by go_num, hb10⟩
          case measure => simp [intOf]; omega
        have hrtq : ((x : Int) == rp) = false := by rw [beq_eq_false_iff_ne]; exact hrt
        by_cases hst : st = 0
        · subst hst
          clear s1 s2 s3 hrt
          cases up
          · go_wp2
            go_round
            case rel => exact ⟨x + 1, by omega, by go_num, hb10⟩
            case measure => simp [intOf]; omega
          · go_wp2
            go_round
            case rel => exact ⟨x + 1, by omega, by go_num, hb10⟩
            case measure => simp [intOf]; omega
        have hstq : (st != 0) = true := bne_yes8 hst
        have hupt : up = true := by
          cases up
          · exact absurd (s3.out rfl) hst
          · rfl
        subst hupt
        obtain ⟨hs0, hs1⟩ := s4
        rcases s2.out hst with rfl | rfl
        · clear s1 s2 s3 hrt
          go_wp2
          go_round
          case rel => exact ⟨x + 1, by omega, by go_num, hb10⟩
          case measure => simp [intOf]; omega
        · clear s1 s2 s3 hrt
          go_wp2
          go_round
          case rel => exact ⟨x + 1, by omega, by go_num, hb10⟩
          case measure => simp [intOf]; omega
      · obtain rfl : n = x := by omega
        have hO9 := hO8.out.below hbx.out
        have hB9 := hide (hB8.out.later hbx.out)
        have ho9 := hide (OOuts hO9 (by omega))
        have hol : T1.outs.length ≤ 40 := hO9.outs
        clear hO8 hB8 hT8 hO9 hbx
        go_wp2_with fail
        refine ho9.out.mono ?_
        rintro e w9 ⟨v9, rfl, hS9, hF9, hO10, hK9⟩
        obtain ⟨a9, c9, rfl⟩ := hS9.shape
        have hB10 := hide (hK9.below hB9.out (fun k hk => hk))
        have hO11 := hide (hO10.mono (A' := fun k => k < w.heap.size) (fun k hk => .inl hk))
        rw [← hS1.out] at hO11
        have hot : Hid (∀ W : World, Below w9.heap.size w9 W → ∀ i, i < T1.outs.length → ∃ pb, a9 = some ⟨pb, 0, none⟩ ∧ W.rangeAt pb (i * 17) (fO (T1.outs.getD i Ot.zero))) := fun W hb i hi => by
          obtain ⟨pb, cp, sp, e, hFl, -, -⟩ := hS9.at_i (by omega)
          simp only [Value.slice.injEq] at e
          exact ⟨pb, e.1, (hFl.below hb).range wide_O Ot.zero i hi⟩
        have hou := hide hFj.out.out
        clear ho9 hS9 hF9 hO10 hK9 hB9
        generalize hM : T1.outs.length = M at *
        replace hM := hide hM
        go_wp2_with fail
        go_loopw [100] (fun i wr => ∃ x : Nat, x ≤ M ∧ i = .int .i64 x ∧ Hid (Below w9.heap.size w9 wr)) (fun i _ => M - (intOf i).toNat)
        case atStart => exact ⟨0, Nat.zero_le _, rfl, hide (Below.refl _ _)⟩
        case round =>
          obtain ⟨z, hz, rfl, hbz⟩ := hrel
          by_cases hzl : z < M
          · obtain ⟨pb, rfl, hrg0⟩ := hot.out _ hbz.out z hzl
            obtain ⟨q1, q2, q3, q4, q5⟩ := hou.out.at z (by rw [hM.out]; exact hzl)
            have hck := hide (fun (W : World) => BCheck_any (T1.outs.getD z Ot.zero).m W q5)
            rw [q1] at hck
            replace hrg0 := hide hrg0
            generalize T1.outs.getD z Ot.zero = ot at *
            obtain ⟨op, ⟨m0, m1, m2, m3, m4, m5, m6, m7, m8, m9, m10, m11, m12, m13, m14, m15⟩⟩ := ot
            have hrg := hrg0.out
            dsimp only at q2 q3 q4
            subst q4
            clear q1 q5 hrg0
            go_wp2_with (first | ((with_reducible change wpList _ _ _ _ _ _); refine wpList_load_mid rfl 72 (.tmp 102) rfl pb (z * 17) rfl (fO ⟨op, ⟨m0, m1, m2, m3, m4, m5, m6, m7, m8, m9, m10, m11, m12, m13, m14, m15⟩⟩) _ hrg Try.underlying72 rfl (otLen _) ?_) | ((with_reducible change wpList _ _ _ _ _ _); refine wpList_store_fresh rfl 72 (.tmp 15) (.tmp 103) rfl (Ot.row ⟨op, ⟨m0, m1, m2, m3, m4, m5, m6, m7, m8, m9, m10, m11, m12, m13, m14, m15⟩⟩) Ot.zero.row rfl rfl 72 (otSize _) rfl (Ot.row_all _) ?_; intro w11 hH11 hb11; refine unhB ?_))
            have hrg2 : w11.rangeAt wr.heap.size 1 (fB ⟨m0, m1, m2, m3, m4, m5, m6, m7, m8, m9, m10, m11, m12, m13, m14, m15⟩) := range_of_row (cs := fO ⟨op, ⟨m0, m1, m2, m3, m4, m5, m6, m7, m8, m9, m10, m11, m12, m13, m14, m15⟩⟩) hH11 1 _ (fun j v hj => by rw [Nat.add_comm]; exact hj)
            have hb12 := hide (hbz.out.later hb11)
            replace hH11 := hide hH11
            clear hb11 hrg hbz
            refine hide ?_
            go_wp2_with ((with_reducible change wpList _ _ _ _ _ _); refine wpList_load_mid rfl 56 (.tmp 104) rfl wr.heap.size 1 rfl (fB ⟨m0, m1, m2, m3, m4, m5, m6, m7, m8, m9, m10, m11, m12, m13, m14, m15⟩) _ hrg2 Try.underlying56 rfl (bpLen _) ?_)
            refine (hck.out _).mono ?_
            rintro e w12 ⟨rfl, hb13⟩
            have hH12 := heap_kept hb13 hH11.out
            have k0 : w12.cell? ⟨wr.heap.size, 0, none⟩ = some (.int .i64 op) := (cell_of_row _ _ _ _ _ _ hH12).trans rfl
            have k4 : w12.cell? ⟨wr.heap.size, 4, none⟩ = some (.int .u64 m3) := (cell_of_row _ _ _ _ _ _ hH12).trans rfl
            have hb14 := hide (hb12.out.later hb13)
            clear hck hb13 hH11 hb12 hH12 hrg2
            go_wp2
            go_round
            case rel => exact ⟨z + 1, by omega, by go_num, hb14⟩
            case measure => simp [intOf]; omega
          · obtain rfl : M = z := by omega
            have hO12 := hide (hO11.out.below hbz.out)
            have hB12 := hide (hB10.out.later hbz.out)
            clear hO11 hB10 hbz hot hou
            go_wp2
            go_round
            case rel => exact ⟨j + 1, by omega, by go_num, by rw [hV1.out]; exact hO12, hB12⟩
            case measure => simp [intOf]; omega
end Go.Proofs.Ytaepjiakehkeoaa
