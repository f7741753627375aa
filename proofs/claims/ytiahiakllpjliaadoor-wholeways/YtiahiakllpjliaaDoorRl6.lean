import Derived.Test.YtiahiakllpjliaaDoorRl5
/-
  A bridge as the statements of layer 13 make it ('Bg'); relay's Name. Conditions: those that each theorem names.
-/
namespace Go.Proofs.YtiahiakllpjliaaDoor
open Go.RowKit Go.Maps
set_option linter.unusedVariables false
set_option linter.unusedSimpArgs false
set_option maxRecDepth 20000

/-- A bridge with room for ten stations, old after 1000; blocks of A are none of what it writes. -/
structure Bg (K : Nat) (A : Nat → Prop) (w : World) (g pb mb sb t : Nat) (ps : List Pv) (f : Int → Option (Int × Int)) (c : Nat) (sts : List Int) (l : List Fe) : Prop where
  br : Br w g pb mb sb ps f c sts
  fo : Fo K A w t 10 1000 0 l
  inA : ∀ k, k = g ∨ k = pb ∨ k = mb ∨ k = sb → A k
  fes : Fes l
  few : l.length ≤ 10
section
variable {K : Nat} {A : Nat → Prop} {w w' : World} {g pb mb sb t : Nat} {ps : List Pv} {f : Int → Option (Int × Int)} {c : Nat} {sts : List Int} {l : List Fe}
theorem Bg.more (h : Bg K A w g pb mb sb t ps f c sts l) (hb : Below w.heap.size w w') {A' : Nat → Prop} (hs : ∀ k, A' k → A k ∨ (w.heap.size ≤ k ∧ k < w'.heap.size)) (hi : ∀ k, A k → A' k) : Bg K A' w' g pb mb sb t ps f c sts l :=
  ⟨h.br.below hb, h.fo.more hb hs, fun k e => hi k (h.inA k e), h.fes, h.few⟩
theorem Bg.below (h : Bg K A w g pb mb sb t ps f c sts l) (hb : Below w.heap.size w w') : Bg K A w' g pb mb sb t ps f c sts l := h.more hb (fun k e => .inl e) (fun k e => e)
theorem Bg.size (h : Bg K A w g pb mb sb t ps f c sts l) : K ≤ w.heap.size := h.fo.size
theorem BgDecide (h : Bg K A w g pb mb sb t ps f c sts l) (port : Int) (HC : Array Value) (dst src : M6) (tg : Bool) (pcp vid : Int) (hM : HdMac HC dst src) (hI : HdIs HC tg pcp vid) (hd : dst.wf) (hs : src.wf) (hvid : I64G vid) (hps : ∀ p ∈ ps, I64G p.pvid) (now : Int) (hn : timeOk now)
    (hres : resM dst = false) (v p : Int) (hv : I64G v) (hcl : classN ps f port tg pcp vid = (v, p, 0)) (hst : stateN sts port = 2) (l' : List Fe) (hlr : learnR 10 1000 0 l v src port now = (0, 0, l')) (hf' : l'.length ≤ 10) (xs : List Int) (rn : Int) (hld : leadR (opnB ps f sts v) ps.length 1000 now v dst l' port = (xs, rn)) :
    Calls Tryd.prog 17 #[.agg (brC g t sb sts.length), .int .i64 port, .agg HC, .int .i64 now] w fun r w' => ∃ v', r = .returned (.agg (wayC v p v' rn)) ∧ Out w.heap.size w' v' xs ∧ Bg K (fun k => A k ∨ v'.ownBlock = some k) w' g pb mb sb t ps f c sts l' ∧ Below K w w' ∧ Kpt A w w' := by
  refine (Decide_on h.br h.fo h.inA h.fes (by have := h.few; omega) port HC dst src tg pcp vid hM hI hd hs hvid hps now hn ⟨by omega, by omega⟩ hres v p hv hcl hst 0 0 l' hlr xs rn hld).mono ?_
  rintro _ w' ⟨v', rfl, hO, hB, hF, hb, hk⟩
  have h1 := h.fes.learn (by have := h.few; omega) (room := 10) (age := 1000) (lost := 0) (vid := v) (port := port) (now := now) (m := src) hs hn
  rw [hlr] at h1
  exact ⟨v', rfl, hO, ⟨hB, hF, fun k e => .inl (h.inA k e), h1, hf'⟩, hb, hk⟩
end
/-- The words. -/
def nameN (n : Int) : ByteArray := if n = 0 then ⟨#[103, 111, 101, 115]⟩ else if n = 1 then ⟨#[114, 101, 115, 101, 114, 118, 101, 100]⟩ else if n = 2 then ⟨#[114, 101, 102, 117, 115, 101, 100]⟩ else if n = 3 then ⟨#[102, 111, 114, 101, 105, 103, 110]⟩ else if n = 4 then ⟨#[98, 108, 111, 99, 107, 101, 100]⟩ else if n = 5 then ⟨#[108, 111, 99, 97, 108]⟩ else if n = 6 then ⟨#[98, 97, 114, 114, 101, 100]⟩ else if n = 7 then ⟨#[110, 111, 119, 104, 101, 114, 101]⟩ else ⟨#[]⟩
set_option maxHeartbeats 2000000 in
theorem RName_any (n : Int) (w : World) : Calls Tryd.prog 15 #[.int .i64 n] w fun r w' => r = .returned (.string (nameN n)) ∧ w' = w := by
  by_cases h0 : n = 0
  · subst h0
    rw [show nameN 0 = ⟨#[103, 111, 101, 115]⟩ from rfl]
    go_enter Tryd.func15, Tryd.ntmps15
    go_wp2
    go_ret
    exact ⟨rfl, rfl⟩
  by_cases h1 : n = 1
  · subst h1
    rw [show nameN 1 = ⟨#[114, 101, 115, 101, 114, 118, 101, 100]⟩ from rfl]
    go_enter Tryd.func15, Tryd.ntmps15
    go_wp2
    go_ret
    exact ⟨rfl, rfl⟩
  by_cases h2 : n = 2
  · subst h2
    rw [show nameN 2 = ⟨#[114, 101, 102, 117, 115, 101, 100]⟩ from rfl]
    go_enter Tryd.func15, Tryd.ntmps15
    go_wp2
    go_ret
    exact ⟨rfl, rfl⟩
  by_cases h3 : n = 3
  · subst h3
    rw [show nameN 3 = ⟨#[102, 111, 114, 101, 105, 103, 110]⟩ from rfl]
    go_enter Tryd.func15, Tryd.ntmps15
    go_wp2
    go_ret
    exact ⟨rfl, rfl⟩
  by_cases h4 : n = 4
  · subst h4
    rw [show nameN 4 = ⟨#[98, 108, 111, 99, 107, 101, 100]⟩ from rfl]
    go_enter Tryd.func15, Tryd.ntmps15
    go_wp2
    go_ret
    exact ⟨rfl, rfl⟩
  by_cases h5 : n = 5
  · subst h5
    rw [show nameN 5 = ⟨#[108, 111, 99, 97, 108]⟩ from rfl]
    go_enter Tryd.func15, Tryd.ntmps15
    go_wp2
    go_ret
    exact ⟨rfl, rfl⟩
  by_cases h6 : n = 6
  · subst h6
    rw [show nameN 6 = ⟨#[98, 97, 114, 114, 101, 100]⟩ from rfl]
    go_enter Tryd.func15, Tryd.ntmps15
    go_wp2
    go_ret
    exact ⟨rfl, rfl⟩
  by_cases h7 : n = 7
  · subst h7
    rw [show nameN 7 = ⟨#[110, 111, 119, 104, 101, 114, 101]⟩ from rfl]
    go_enter Tryd.func15, Tryd.ntmps15
    go_wp2
    go_ret
    exact ⟨rfl, rfl⟩
  rw [show nameN n = ⟨#[]⟩ by unfold nameN; rw [if_neg h0, if_neg h1, if_neg h2, if_neg h3, if_neg h4, if_neg h5, if_neg h6, if_neg h7]]
  go_enter Tryd.func15, Tryd.ntmps15
  go_wp2
  go_ret
  exact ⟨rfl, rfl⟩
theorem pvOne_64 (n : Nat) : ∀ p ∈ List.replicate n pvOne, I64G p.pvid := fun p hp => by
  rw [List.eq_of_mem_replicate hp]
  exact (by constructor <;> decide)
set_option maxHeartbeats 4000000 in
theorem bridge_far {K : Nat} {A0 : Nat → Prop} (w : World) (sb : Nat) (sts : List Int) (h : w.heap[sb]? = some (.cells (stRow sts) 3 (0, 0))) (hA0 : ∀ k, A0 k → k < w.heap.size) (hsb : A0 sb) (hK : K ≤ w.heap.size) (hl : sts.length ≤ 16) :
    Calls Tryd.prog 7 #[.slice (some ⟨sb, 0, none⟩) sts.length sts.length] w fun r w' => ∃ g pb mb t, r = .returned (.agg (brC g t sb sts.length)) ∧ Bg K (fun k => A0 k ∨ k = g ∨ k = pb ∨ k = mb) w' g pb mb sb t (List.replicate sts.length pvOne) (newF sts.length) (newC sts.length) sts [] ∧ Below w.heap.size w w' ∧ (w.heap.size < g ∧ w.heap.size < pb ∧ w.heap.size < mb) := by
  have hb1 := hide (below1 w (.cells #[.pointer none, .pointer none, .slice none 0 0] 35))
  have hr1 := hide (heap_alloc_new w (.cells #[.pointer none, .pointer none, .slice none 0 0] 35))
  have hV := hide (VNew_any (sts.length : Int) (w.alloc (.cells #[.pointer none, .pointer none, .slice none 0 0] 35)))
  have hpn : portsN (sts.length : Int) = sts.length := by unfold portsN; omega
  rw [hpn] at hV
  have hs1 : Hid ((w.alloc (.cells #[.pointer none, .pointer none, .slice none 0 0] 35)).heap.size = w.heap.size + 1) := World.size_alloc _ _
  replace h := hide h
  replace hA0 := hide hA0
  replace hK := hide hK
  clear hpn
  go_enter Tryd.func7, Tryd.ntmps7
  generalize hwW : w.alloc (.cells #[.pointer none, .pointer none, .slice none 0 0] 35) = w1 at *
  go_wp2_with fail
  refine hV.out.mono ?_
  rintro _ w2 ⟨g, pb, mb, rfl, hVt, hb2, hg1, hg2, hg3⟩
  have hlt := hVt.lt
  have hw2 : Hid (Below w.heap.size w w2) := hb1.out.later hb2
  have hr2 := hide (heap_kept hb2 hr1.out)
  have hst := hide (heap_kept hw2.out h.out)
  have hN := hide (FoNew (K := K) (A := fun k => A0 k ∨ k = g ∨ k = pb ∨ k = mb ∨ k = w.heap.size) 10 1000 w2 (fun k e => by
    have hz := (Array.getElem?_eq_some_iff.1 hr2.out).1
    rcases e with e | e | e | e | e
    · exact Nat.lt_of_lt_of_le (hA0.out k e) hw2.out.size
    · omega
    · omega
    · omega
    · omega) (Nat.le_trans hK.out hw2.out.size))
  replace hVt := hide hVt
  have hgs : Hid (w.heap.size < g ∧ w.heap.size < pb ∧ w.heap.size < mb) := ⟨by have := hs1.out; omega, by have := hs1.out; omega, by have := hs1.out; omega⟩
  clear hV hb1 hr1 hb2 hg1 hg2 hg3 hlt hs1 hwW
  go_wp2_with fail
  refine hN.out.mono ?_
  rintro _ w3 ⟨rfl, hF, hb3⟩
  have hF3 : Hid (Fo K (fun k => A0 k ∨ k = g ∨ k = pb ∨ k = mb ∨ k = w.heap.size) w3 w2.heap.size 10 1000 0 []) := hF
  have hw3 : Hid (Below w.heap.size w w3) := hw2.out.later hb3
  have hr3 := heap_kept hb3 hr2.out
  have hst3 := hide (heap_kept hb3 hst.out)
  have hV3 := hide (hVt.out.below hb3)
  generalize w2.heap.size = t at *
  clear hN hF hb3 hw2 hr2 hst hVt
  have hwz : Hid (Below w.heap.size w (w3.setRow w.heap.size (brC g t sb sts.length))) := hw3.out.trans ⟨rfl, rfl, rfl, by simp [World.setRow], fun k hk => Go.setRow_other w3 w.heap.size k _ (by omega)⟩
  have hrz := setRow_heap w3 w.heap.size _ (brC g t sb sts.length) _ _ hr3
  have hC : Hid (Ch (fun k => k = w.heap.size) w3 (w3.setRow w.heap.size (brC g t sb sts.length))) := ⟨rfl, rfl, rfl, by simp [World.setRow], fun k _ hk => Go.setRow_other w3 w.heap.size k _ hk⟩
  have hBz : Hid (Bg K (fun k => A0 k ∨ k = g ∨ k = pb ∨ k = mb) (w3.setRow w.heap.size (brC g t sb sts.length)) g pb mb sb t (List.replicate sts.length pvOne) (newF sts.length) (newC sts.length) sts []) := by
    refine ⟨⟨hV3.out.blk fun k e => Go.setRow_other w3 w.heap.size k _ (by have := hgs.out; omega), ?_, by omega⟩, (hF3.out.wrote (hC.out.mono fun k e => by simp [e])).sub fun k e => ?_, fun k e => ?_, ⟨by simp, by simp⟩, by simp⟩
    · have h1 := hA0.out sb hsb
      rw [Go.setRow_other w3 w.heap.size sb _ (by omega)]
      exact hst3.out
    · rcases e with e | e | e | e <;> simp [e]
    · rcases e with rfl | rfl | rfl | rfl
      · simp
      · simp
      · simp
      · exact .inl hsb
  have hsz := brSize g t sb sts.length
  have hall := br_all g t sb sts.length
  go_wp2_with ((with_reducible change wpList _ _ _ _ _ _); refine wpList_store_row rfl 35 (.tmp 2) (.tmp 8) rfl w.heap.size (brC g t sb sts.length) rfl rfl 35 _ hr3 hsz rfl hall ?_)
  refine bodyPost_ret (v := .agg (brC g t sb sts.length)) ?_ rfl ⟨_, _, _, _, rfl, hBz.out, hwz.out, hgs.out⟩
  exact results_cell_row rfl _ _ w.heap.size 35 _ _ _ rfl hrz Tryd.underlying35 rfl hsz
theorem bridge_any {K : Nat} {A0 : Nat → Prop} (w : World) (sb : Nat) (sts : List Int) (h : w.heap[sb]? = some (.cells (stRow sts) 3 (0, 0))) (hA0 : ∀ k, A0 k → k < w.heap.size) (hsb : A0 sb) (hK : K ≤ w.heap.size) (hl : sts.length ≤ 16) :
    Calls Tryd.prog 7 #[.slice (some ⟨sb, 0, none⟩) sts.length sts.length] w fun r w' => ∃ g pb mb t, r = .returned (.agg (brC g t sb sts.length)) ∧ Bg K (fun k => A0 k ∨ k = g ∨ k = pb ∨ k = mb) w' g pb mb sb t (List.replicate sts.length pvOne) (newF sts.length) (newC sts.length) sts [] ∧ Below w.heap.size w w' :=
  (bridge_far w sb sts h hA0 hsb hK hl).mono fun r w' ⟨g, pb, mb, t, h1, h2, h3, _⟩ => ⟨g, pb, mb, t, h1, h2, h3⟩
/-- Set, of a VLAN that there is none of yet. -/
theorem BgSet {K : Nat} {A : Nat → Prop} {w : World} {g pb mb sb t : Nat} {ps : List Pv} {f : Int → Option (Int × Int)} {c : Nat} {sts : List Int} {l : List Fe} (h : Bg K A w g pb mb sb t ps f c sts l) (hne : sb ≠ mb) (hK : K ≤ mb) (v m p : Int) (hE : setB ps.length v m p = true) (hm : m ≠ 0) (hf : (f v).isSome = false) (hc : c < 64) :
    Calls Tryd.prog 8 #[.pointer (some ⟨g, 0, none⟩), .int .i64 v, .int .i64 m, .int .i64 p] w fun r w' => r = .returned (.int .i64 0) ∧ Bg K A w' g pb mb sb t ps (updK f v (some (m, p))) (c + 1) sts l ∧ Below K w w' ∧ (∀ k, k < w.heap.size → k ≠ mb → w'.heap[k]? = w.heap[k]?) := by
  refine (Set_ok h.br.vt v m p hE hm (.inr hc) (by omega)).mono ?_
  rintro _ w' ⟨rfl, hV, hC⟩
  rw [hf] at hV
  refine ⟨rfl, ⟨⟨hV, (hC.block sb (Array.getElem?_eq_some_iff.1 h.br.st).1 hne).trans h.br.st, h.br.few⟩, h.fo.wrote (hC.mono fun k e => h.inA k (by simp [e])), h.inA, h.fes, h.few⟩, hC.belowK (fun k e => by omega) h.fo.size, fun k hk hn => hC.block k hk hn⟩
end Go.Proofs.YtiahiakllpjliaaDoor

/-
  The head of layer 13's statements (ways). Conditions: those that each theorem names.
-/
namespace Go.Proofs.YtiahiakllpjliaaDoor
open Go.RowKit Go.Maps
set_option linter.unusedVariables false
set_option linter.unusedSimpArgs false
set_option maxRecDepth 20000

@[reducible] def rOne : M6 := ⟨2, 1, 0, 0, 0, 0⟩
@[reducible] def rTwo : M6 := ⟨2, 2, 0, 0, 0, 0⟩
theorem w_l1 : learnR 10 1000 0 [] 1 rOne 0 0 = (0, 0, [⟨1, rOne, 0, 0⟩]) := by kernel_rfl
theorem w_d1 : leadR (opnB (List.replicate 3 pvOne) (newF 3) [2, 2, 2] 1) 3 1000 0 1 rTwo [⟨1, rOne, 0, 0⟩] 0 = ([1, 2], 0) := by kernel_rfl
theorem w_l2 : learnR 10 1000 0 [⟨1, rOne, 0, 0⟩] 1 rTwo 2 5 = (0, 0, [⟨1, rOne, 0, 0⟩, ⟨1, rTwo, 2, 5⟩]) := by kernel_rfl
theorem w_d2 : leadR (opnB (List.replicate 3 pvOne) (newF 3) [2, 2, 2] 1) 3 1000 5 1 rOne [⟨1, rOne, 0, 0⟩, ⟨1, rTwo, 2, 5⟩] 2 = ([0], 0) := by kernel_rfl
theorem w_l3 : learnR 10 1000 0 [⟨1, rOne, 0, 0⟩, ⟨1, rTwo, 2, 5⟩] 1 rTwo 0 6 = (0, 0, [⟨1, rOne, 0, 0⟩, ⟨1, rTwo, 0, 6⟩]) := by kernel_rfl
theorem w_d3 : leadR (opnB (List.replicate 3 pvOne) (newF 3) [2, 2, 2] 1) 3 1000 6 1 rOne [⟨1, rOne, 0, 0⟩, ⟨1, rTwo, 0, 6⟩] 0 = ([], 5) := by kernel_rfl
theorem w_c (i : Int) (h : i = 0 ∨ i = 2) : classN (List.replicate 3 pvOne) (newF 3) i false 0 0 = (1, 0, 0) := by
  rcases h with rfl | rfl <;> kernel_rfl
theorem w_r1 : resM rOne = false := by kernel_rfl
theorem w_r2 : resM rTwo = false := by kernel_rfl
theorem Out.at_i {B : Nat} {w : World} {v : Value} {l : List Int} (h : Out B w v l) (hl : 0 < l.length) : ∃ b cap, v = .slice (some ⟨b, 0, none⟩) l.length cap ∧ ∀ i, i < l.length → w.cell? ⟨b, i, none⟩ = some (.int .i64 (l.getD i 0)) := by
  rcases h.1.2 with ⟨_, h0⟩ | ⟨b, cap, cur, rfl, h2, h3, h4, h5, h6, h7⟩
  · omega
  · refine ⟨b, cap, rfl, fun i hi => ?_⟩
    rw [cell_of_row _ _ _ _ _ _ h3]
    have e : (cur.toList.take (l.length * 1))[i]? = (l.map intV)[i]? := by rw [h7]
    rw [List.getElem?_take_of_lt (by omega)] at e
    rw [← Array.getElem?_toList, e]
    simp [List.getD, hi]
theorem Out.kpt {A : Nat → Prop} {B : Nat} {w w' : World} {v : Value} {l : List Int} (h : Out B w v l) (hk : Kpt A w w') (hA : ∀ b, v.ownBlock = some b → A b) : Out B w' v l := h.blk fun b e => hk b (hA b e)
theorem Out.below {B : Nat} {w w' : World} {v : Value} {l : List Int} (h : Out B w v l) (hb : Below w.heap.size w w') : Out B w' v l := h.blk fun b e => hb.block b (by
  rcases h.1.2 with ⟨rfl, _⟩ | ⟨g, cap, cur, rfl, h2, h3, h4⟩
  · simp [Value.ownBlock] at e
  · simp only [Value.ownBlock, Option.some.injEq] at e; subst e; exact (Array.getElem?_eq_some_iff.1 h3).1)
theorem twoM {ops : Array Oper} {rest : List Oper} {o1 o2 : Oper} {a : Act} {w3 : World} {Q : Exit → Act → World → Prop} (hg1 : o1.guard = none) (hg2 : o2.guard = none) (x1 y1 x2 y2 : Operand) (ho1 : o1.op = .store 23 x1 y1) (ho2 : o2.op = .store 23 x2 y2) (m1 m2 : M6)
    (hx1 : a.eval x1 = .pointer (some ⟨w3.heap.size, 0, none⟩)) (hy1 : a.eval y1 = .agg m1.row) (hx2 : (a.put o1.dst undef).eval x2 = .pointer (some ⟨w3.heap.size + 1, 0, none⟩)) (hy2 : (a.put o1.dst undef).eval y2 = .agg m2.row)
    (h : ∀ w5 : World, w5.heap[w3.heap.size]? = some (.cells m1.row 23 (0, 0)) → w5.heap[w3.heap.size + 1]? = some (.cells m2.row 23 (0, 0)) → Below w3.heap.size w3 w5 → wpList Tryd.prog ops Q rest ((a.put o1.dst undef).put o2.dst undef) w5) :
    wpList Tryd.prog ops Q (o1 :: o2 :: rest) a ((w3.alloc (.cells (M6.mk 0 0 0 0 0 0).row 23)).alloc (.cells (M6.mk 0 0 0 0 0 0).row 23)) := by
  have hr1 := heap_kept (below1 (w3.alloc (.cells (M6.mk 0 0 0 0 0 0).row 23)) (.cells (M6.mk 0 0 0 0 0 0).row 23)) (heap_alloc_new w3 (.cells (M6.mk 0 0 0 0 0 0).row 23))
  have hr2 := heap_alloc_new (w3.alloc (.cells (M6.mk 0 0 0 0 0 0).row 23)) (.cells (M6.mk 0 0 0 0 0 0).row 23)
  have hb : Below w3.heap.size w3 ((w3.alloc (.cells (M6.mk 0 0 0 0 0 0).row 23)).alloc (.cells (M6.mk 0 0 0 0 0 0).row 23)) := (below1 _ _).later (below1 _ _)
  rw [World.size_alloc] at hr2
  generalize (w3.alloc (.cells (M6.mk 0 0 0 0 0 0).row 23)).alloc (.cells (M6.mk 0 0 0 0 0 0).row 23) = X at *
  have hall : ∀ m : M6, m.row.all (·.oneCell') = true := fun m => by simp [Value.oneCell']
  refine wpList_store_row hg1 23 x1 y1 ho1 w3.heap.size m1.row hx1 hy1 23 _ hr1 (m6Size _) rfl (hall _) ?_
  have hs2 : (X.setRow w3.heap.size m1.row).heap[w3.heap.size + 1]? = some (.cells (M6.mk 0 0 0 0 0 0).row 23 (0, 0)) := (Go.setRow_other X w3.heap.size (w3.heap.size + 1) m1.row (by omega)).trans hr2
  refine wpList_store_row hg2 23 x2 y2 ho2 (w3.heap.size + 1) m2.row hx2 hy2 23 _ hs2 (m6Size _) rfl (hall _) ?_
  refine h _ ?_ (setRow_heap _ _ _ _ _ _ hs2) ?_
  · rw [Go.setRow_other _ _ _ _ (by omega)]
    exact setRow_heap _ _ _ _ _ _ hr1
  · have e1 : Below w3.heap.size X (X.setRow w3.heap.size m1.row) := ⟨rfl, rfl, rfl, by simp [World.setRow], fun k hk => Go.setRow_other X w3.heap.size k m1.row (by omega)⟩
    have e2 : Below w3.heap.size (X.setRow w3.heap.size m1.row) ((X.setRow w3.heap.size m1.row).setRow (w3.heap.size + 1) m2.row) := ⟨rfl, rfl, rfl, by simp [World.setRow], fun k hk => Go.setRow_other (X.setRow w3.heap.size m1.row) (w3.heap.size + 1) k m2.row (by omega)⟩
    exact (hb.trans e1).trans e2
set_option maxHeartbeats 16000000 in
theorem ways_any (w : World) : Calls Tryd.prog 5 #[] w fun r w' => r = .returned (.bool true) ∧ Below w.heap.size w w' := by
  have hb1 := hide (below1 w (.cells (stRow [2, 2, 2]) 3))
  have hr1 := hide (heap_alloc_new w (.cells (stRow [2, 2, 2]) 3))
  have hs1 : Hid ((w.alloc (.cells (stRow [2, 2, 2]) 3)).heap.size = w.heap.size + 1) := World.size_alloc _ _
  have hBr := hide (bridge_any (K := w.heap.size) (A0 := fun k => k = w.heap.size) (w.alloc (.cells (stRow [2, 2, 2]) 3)) w.heap.size [2, 2, 2] hr1.out (fun k e => by have := hs1.out; omega) rfl (by have := hs1.out; omega) (by decide))
  have hN6 := hide (fun w => RName_any 6 w)
  have hN8 := hide (fun w => RName_any 8 w)
  rw [show nameN 6 = ⟨#[98, 97, 114, 114, 101, 100]⟩ from rfl] at hN6
  rw [show nameN 8 = ⟨#[]⟩ from rfl] at hN8
  go_enter Tryd.func5, Tryd.ntmps5
  go_wp2_with fail
  refine hBr.out.mono ?_
  rintro _ w2 ⟨g, pb, mb, t, rfl, hG, hb2⟩
  have hw2 : Hid (Below w.heap.size w w2) := hb1.out.later hb2
  replace hG := hide hG
  clear hBr hb1 hr1 hs1 hb2
  go_wp2_with ((with_reducible change wpList _ _ _ _ _ _); refine stop_storeB 35 (.tmp 1) (.tmp 8) rfl ?_)
  refine hide (fresh_atC rfl 35 (.tmp 1) (.tmp 8) rfl w2.heap.size rfl (brC g t w.heap.size 3) #[.pointer none, .pointer none, .slice none 0 0] rfl rfl 35 (brSize _ _ _ _) rfl (br_all _ _ _ _) ?_)
  intro w3 h3 hb3
  obtain ⟨a1, ha1⟩ : ∃ a1, a1 = w2.heap.size := ⟨_, rfl⟩
  have hG3 := hide (hG.out.more (A' := fun k => (k = w.heap.size ∨ k = g ∨ k = pb ∨ k = mb) ∨ k = w2.heap.size) hb3 (fun k e => by
    rcases e with e | e
    · exact .inl e
    · exact .inr ⟨by omega, by have := (Array.getElem?_eq_some_iff.1 h3).1; omega⟩) (fun k e => .inl e))
  have hw3 : Hid (Below w.heap.size w w3) := hw2.out.later hb3
  rw [← ha1] at h3 hG3 ⊢
  replace h3 := hide h3
  clear hG hw2 hb3 ha1
  clear w2
  have c30 : w3.cell? ⟨a1, 0, none⟩ = some (.pointer (some ⟨g, 0, none⟩)) := (cell_of_row _ _ _ _ _ _ h3.out).trans rfl
  have c31 : w3.cell? ⟨a1, 1, none⟩ = some (.pointer (some ⟨t, 0, none⟩)) := (cell_of_row _ _ _ _ _ _ h3.out).trans rfl
  go_wp2_with ((with_reducible change wpList _ _ _ _ _ _); refine stop_storeB 23 (.tmp 2) (.tmp 17) rfl ?_)
  refine hide (twoM rfl rfl (.tmp 2) (.tmp 17) (.tmp 3) (.tmp 18) rfl rfl rOne rTwo rfl rfl rfl rfl ?_)
  intro w5 h51 h52 hb5
  have r0_br := hide (heap_kept hb5 h3.out)
  have hw_0 : Hid (Below w.heap.size w w5) := hw3.out.later hb5
  obtain ⟨A0, m0_br, m0_one, m0_two, hB0⟩ : ∃ A' : Nat → Prop, A' a1 ∧ A' w3.heap.size ∧ A' (w3.heap.size + 1) ∧ Bg w.heap.size A' w5 g pb mb w.heap.size t (List.replicate 3 pvOne) (newF 3) (newC 3) [2, 2, 2] [] := by
    refine ⟨fun k => ((k = w.heap.size ∨ k = g ∨ k = pb ∨ k = mb) ∨ k = a1) ∨ k = w3.heap.size ∨ k = w3.heap.size + 1, .inl (.inr rfl), .inr (.inl rfl), .inr (.inr rfl), hG3.out.more hb5 (fun k e => ?_) (fun k e => .inl e)⟩
    have h1 := (Array.getElem?_eq_some_iff.1 h51).1
    have h2 := (Array.getElem?_eq_some_iff.1 h52).1
    rcases e with e | e | e
    · exact .inl e
    · exact .inr ⟨by omega, by omega⟩
    · exact .inr ⟨by omega, by omega⟩
  have r0_one := hide h51
  have r0_two := hide h52
  replace hB0 := hide hB0
  clear h51 h52 hb5 h3 hG3 hw3 c30 c31
  generalize hsbq : w3.heap.size = a2 at *
  clear hsbq
  clear w3
  have hL1 := hide (BgDecide hB0.out 0 (hdC rTwo rOne false 0 false 0 0 false) rTwo rOne false 0 0 (hdC_mac _ _ _ _ _ _ _ _) ⟨rfl, by simp [Value.oneCell'], rfl, rfl, rfl⟩ (by decide) (by decide) (by constructor <;> decide) (pvOne_64 3) 0 (by constructor <;> decide) w_r2 1 0 (by constructor <;> decide) (w_c 0 (.inl rfl)) (by kernel_rfl) [⟨1, rOne, 0, 0⟩] w_l1 (by decide) [1, 2] 0 w_d1)
  go_wp2_with (first | ((with_reducible change wpList _ _ _ _ _ _); refine wpList_load_row rfl 35 (.tmp 1) rfl a1 rfl 35 _ _ _ r0_br.out Tryd.underlying35 rfl (brSize _ _ _ _) ?_) | ((with_reducible change wpList _ _ _ _ _ _); refine stop_load 23 (.tmp 2) rfl ?_))
  refine hide (wpList_load_row rfl 23 (.tmp 2) rfl a2 rfl 23 _ _ _ r0_one.out Tryd.underlying23 rfl (m6Size _) ?_)
  go_wp2_with ((with_reducible change wpList _ _ _ _ _ _); refine wpList_load_row rfl 23 (.tmp 3) rfl (a2 + 1) rfl 23 _ _ _ r0_two.out Tryd.underlying23 rfl (m6Size _) ?_)
  refine hL1.out.mono ?_
  rintro _ x1 ⟨v1, rfl, hOn, hGn, hbn, hkn⟩
  obtain ⟨s1, c1, rfl⟩ := hOn.shape
  replace hGn := hide hGn
  replace hOn := hide hOn
  replace hkn := hide hkn
  have hwn1 : Hid (Below w.heap.size w x1) := hw_0.out.trans hbn
  clear hL1 hbn hB0 hw_0
  go_wp2_with ((with_reducible change wpList _ _ _ _ _ _); refine stop_storeB 42 (.tmp 4) (.tmp 23) rfl ?_)
  refine hide (fresh_atC rfl 42 (.tmp 4) (.tmp 23) rfl x1.heap.size rfl (wayC 1 0 (.slice s1 [1, 2].length c1) 0) (wayC 0 0 (.slice none 0 0) 0) rfl rfl 42 (waySize _ _ _ _) rfl (way_one _ _ _ _ _ _) ?_)
  intro y1 hy1 hyb
  obtain ⟨q1, hq1⟩ : ∃ q, q = x1.heap.size := ⟨_, rfl⟩
  obtain ⟨A1, hsub1, hown1, hat1, hB1⟩ : ∃ A' : Nat → Prop, (∀ k, A0 k → A' k) ∧ (∀ b, (Value.slice s1 [1, 2].length c1).ownBlock = some b → A' b) ∧ A' q1 ∧ Bg w.heap.size A' y1 g pb mb w.heap.size t (List.replicate 3 pvOne) (newF 3) (newC 3) [2, 2, 2] [⟨1, rOne, 0, 0⟩] := by
    refine ⟨fun k => (A0 k ∨ (Value.slice s1 [1, 2].length c1).ownBlock = some k) ∨ k = q1, fun k e => .inl (.inl e), fun b e => .inl (.inr e), .inr rfl, hGn.out.more hyb (fun k e => ?_) (fun k e => .inl e)⟩
    rcases e with e | e
    · exact .inl e
    · exact .inr ⟨by omega, by have := (Array.getElem?_eq_some_iff.1 hy1).1; omega⟩
  have r1_br := hide (heap_kept hyb (hkn.out.row (m0_br) r0_br.out))
  have r1_one := hide (heap_kept hyb (hkn.out.row (m0_one) r0_one.out))
  have r1_two := hide (heap_kept hyb (hkn.out.row (m0_two) r0_two.out))
  have o1_w1 := hide (hOn.out.below hyb)
  have hw_1 : Hid (Below w.heap.size w y1) := hwn1.out.trans (hyb.mono hwn1.out.size)
  rw [← hq1] at hy1 ⊢
  have r1_w1 := hide hy1
  replace hB1 := hide hB1
  clear hy1 hyb hGn hOn hkn hwn1 hq1 r0_br r0_one r0_two 
  clear x1
  have hL2 := hide (BgDecide hB1.out 2 (hdC rOne rTwo false 0 false 0 0 false) rOne rTwo false 0 0 (hdC_mac _ _ _ _ _ _ _ _) ⟨rfl, by simp [Value.oneCell'], rfl, rfl, rfl⟩ (by decide) (by decide) (by constructor <;> decide) (pvOne_64 3) 5 (by constructor <;> decide) w_r1 1 0 (by constructor <;> decide) (w_c 2 (.inr rfl)) (by kernel_rfl) [⟨1, rOne, 0, 0⟩, ⟨1, rTwo, 2, 5⟩] w_l2 (by decide) [0] 0 w_d2)
  go_wp2_with (first | ((with_reducible change wpList _ _ _ _ _ _); refine wpList_load_row rfl 35 (.tmp 1) rfl a1 rfl 35 _ _ _ r1_br.out Tryd.underlying35 rfl (brSize _ _ _ _) ?_) | ((with_reducible change wpList _ _ _ _ _ _); refine stop_load 23 (.tmp 3) rfl ?_))
  refine hide (wpList_load_row rfl 23 (.tmp 3) rfl (a2 + 1) rfl 23 _ _ _ r1_two.out Tryd.underlying23 rfl (m6Size _) ?_)
  go_wp2_with ((with_reducible change wpList _ _ _ _ _ _); refine wpList_load_row rfl 23 (.tmp 2) rfl a2 rfl 23 _ _ _ r1_one.out Tryd.underlying23 rfl (m6Size _) ?_)
  refine hL2.out.mono ?_
  rintro _ x2 ⟨v2, rfl, hOn, hGn, hbn, hkn⟩
  obtain ⟨s2, c2, rfl⟩ := hOn.shape
  replace hGn := hide hGn
  replace hOn := hide hOn
  replace hkn := hide hkn
  have hwn2 : Hid (Below w.heap.size w x2) := hw_1.out.trans hbn
  clear hL2 hbn hB1 hw_1
  go_wp2_with ((with_reducible change wpList _ _ _ _ _ _); refine stop_storeB 42 (.tmp 5) (.tmp 28) rfl ?_)
  refine hide (fresh_atC rfl 42 (.tmp 5) (.tmp 28) rfl x2.heap.size rfl (wayC 1 0 (.slice s2 [0].length c2) 0) (wayC 0 0 (.slice none 0 0) 0) rfl rfl 42 (waySize _ _ _ _) rfl (way_one _ _ _ _ _ _) ?_)
  intro y2 hy2 hyb
  obtain ⟨q2, hq2⟩ : ∃ q, q = x2.heap.size := ⟨_, rfl⟩
  obtain ⟨A2, hsub2, hown2, hat2, hB2⟩ : ∃ A' : Nat → Prop, (∀ k, A1 k → A' k) ∧ (∀ b, (Value.slice s2 [0].length c2).ownBlock = some b → A' b) ∧ A' q2 ∧ Bg w.heap.size A' y2 g pb mb w.heap.size t (List.replicate 3 pvOne) (newF 3) (newC 3) [2, 2, 2] [⟨1, rOne, 0, 0⟩, ⟨1, rTwo, 2, 5⟩] := by
    refine ⟨fun k => (A1 k ∨ (Value.slice s2 [0].length c2).ownBlock = some k) ∨ k = q2, fun k e => .inl (.inl e), fun b e => .inl (.inr e), .inr rfl, hGn.out.more hyb (fun k e => ?_) (fun k e => .inl e)⟩
    rcases e with e | e
    · exact .inl e
    · exact .inr ⟨by omega, by have := (Array.getElem?_eq_some_iff.1 hy2).1; omega⟩
  have r2_br := hide (heap_kept hyb (hkn.out.row (hsub1 _ (m0_br)) r1_br.out))
  have r2_one := hide (heap_kept hyb (hkn.out.row (hsub1 _ (m0_one)) r1_one.out))
  have r2_two := hide (heap_kept hyb (hkn.out.row (hsub1 _ (m0_two)) r1_two.out))
  have r2_w1 := hide (heap_kept hyb (hkn.out.row (hat1) r1_w1.out))
  have o2_w1 := hide ((o1_w1.out.kpt hkn.out (fun b e => hown1 b e)).below hyb)
  have o2_w2 := hide (hOn.out.below hyb)
  have hw_2 : Hid (Below w.heap.size w y2) := hwn2.out.trans (hyb.mono hwn2.out.size)
  rw [← hq2] at hy2 ⊢
  have r2_w2 := hide hy2
  replace hB2 := hide hB2
  clear hy2 hyb hGn hOn hkn hwn2 hq2 r1_br r1_one r1_two r1_w1 o1_w1
  clear x2
  have hL3 := hide (BgDecide hB2.out 0 (hdC rOne rTwo false 0 false 0 0 false) rOne rTwo false 0 0 (hdC_mac _ _ _ _ _ _ _ _) ⟨rfl, by simp [Value.oneCell'], rfl, rfl, rfl⟩ (by decide) (by decide) (by constructor <;> decide) (pvOne_64 3) 6 (by constructor <;> decide) w_r1 1 0 (by constructor <;> decide) (w_c 0 (.inl rfl)) (by kernel_rfl) [⟨1, rOne, 0, 0⟩, ⟨1, rTwo, 0, 6⟩] w_l3 (by decide) ([] : List Int) 5 w_d3)
  go_wp2_with (first | ((with_reducible change wpList _ _ _ _ _ _); refine wpList_load_row rfl 35 (.tmp 1) rfl a1 rfl 35 _ _ _ r2_br.out Tryd.underlying35 rfl (brSize _ _ _ _) ?_) | ((with_reducible change wpList _ _ _ _ _ _); refine stop_load 23 (.tmp 3) rfl ?_))
  refine hide (wpList_load_row rfl 23 (.tmp 3) rfl (a2 + 1) rfl 23 _ _ _ r2_two.out Tryd.underlying23 rfl (m6Size _) ?_)
  go_wp2_with ((with_reducible change wpList _ _ _ _ _ _); refine wpList_load_row rfl 23 (.tmp 2) rfl a2 rfl 23 _ _ _ r2_one.out Tryd.underlying23 rfl (m6Size _) ?_)
  refine hL3.out.mono ?_
  rintro _ x3 ⟨v3, rfl, hOn, hGn, hbn, hkn⟩
  obtain ⟨s3, c3, rfl⟩ := hOn.shape
  replace hGn := hide hGn
  replace hOn := hide hOn
  replace hkn := hide hkn
  have hwn3 : Hid (Below w.heap.size w x3) := hw_2.out.trans hbn
  clear hL3 hbn hB2 hw_2
  go_wp2_with ((with_reducible change wpList _ _ _ _ _ _); refine stop_storeB 42 (.tmp 6) (.tmp 33) rfl ?_)
  refine hide (fresh_atC rfl 42 (.tmp 6) (.tmp 33) rfl x3.heap.size rfl (wayC 1 0 (.slice s3 ([] : List Int).length c3) 5) (wayC 0 0 (.slice none 0 0) 0) rfl rfl 42 (waySize _ _ _ _) rfl (way_one _ _ _ _ _ _) ?_)
  intro y3 hy3 hyb
  obtain ⟨q3, hq3⟩ : ∃ q, q = x3.heap.size := ⟨_, rfl⟩
  obtain ⟨A3, hsub3, hown3, hat3, hB3⟩ : ∃ A' : Nat → Prop, (∀ k, A2 k → A' k) ∧ (∀ b, (Value.slice s3 ([] : List Int).length c3).ownBlock = some b → A' b) ∧ A' q3 ∧ Bg w.heap.size A' y3 g pb mb w.heap.size t (List.replicate 3 pvOne) (newF 3) (newC 3) [2, 2, 2] [⟨1, rOne, 0, 0⟩, ⟨1, rTwo, 0, 6⟩] := by
    refine ⟨fun k => (A2 k ∨ (Value.slice s3 ([] : List Int).length c3).ownBlock = some k) ∨ k = q3, fun k e => .inl (.inl e), fun b e => .inl (.inr e), .inr rfl, hGn.out.more hyb (fun k e => ?_) (fun k e => .inl e)⟩
    rcases e with e | e
    · exact .inl e
    · exact .inr ⟨by omega, by have := (Array.getElem?_eq_some_iff.1 hy3).1; omega⟩
  have r3_br := hide (heap_kept hyb (hkn.out.row (hsub2 _ (hsub1 _ (m0_br))) r2_br.out))
  have r3_one := hide (heap_kept hyb (hkn.out.row (hsub2 _ (hsub1 _ (m0_one))) r2_one.out))
  have r3_two := hide (heap_kept hyb (hkn.out.row (hsub2 _ (hsub1 _ (m0_two))) r2_two.out))
  have r3_w1 := hide (heap_kept hyb (hkn.out.row (hsub2 _ (hat1)) r2_w1.out))
  have r3_w2 := hide (heap_kept hyb (hkn.out.row (hat2) r2_w2.out))
  have o3_w1 := hide ((o2_w1.out.kpt hkn.out (fun b e => hsub2 _ (hown1 b e))).below hyb)
  have o3_w2 := hide ((o2_w2.out.kpt hkn.out (fun b e => hown2 b e)).below hyb)
  have o3_w3 := hide (hOn.out.below hyb)
  have hw_3 : Hid (Below w.heap.size w y3) := hwn3.out.trans (hyb.mono hwn3.out.size)
  rw [← hq3] at hy3 ⊢
  have r3_w3 := hide hy3
  replace hB3 := hide hB3
  clear hy3 hyb hGn hOn hkn hwn3 hq3 r2_br r2_one r2_two r2_w1 r2_w2 o2_w1 o2_w2
  clear x3
  obtain ⟨b1, d1, he1, hc1⟩ := o3_w1.out.at_i (by decide)
  obtain ⟨b2, d2, he2, hc2⟩ := o3_w2.out.at_i (by decide)
  simp only [Value.slice.injEq, List.length_cons, List.length_nil, true_and] at he1 he2
  obtain ⟨rfl, rfl⟩ := he1
  obtain ⟨rfl, rfl⟩ := he2
  have e11 : y3.cell? ⟨b1, 1, none⟩ = some (.int .i64 2) := hc1 1 (by decide)
  have e20 : y3.cell? ⟨b2, 0, none⟩ = some (.int .i64 0) := hc2 0 (by decide)
  clear hc1 hc2
  have k00 : y3.cell? ⟨q1, 0, none⟩ = some (.int .i64 1) := (cell_of_row _ _ _ _ _ _ r3_w1.out).trans rfl
  have k02 : y3.cell? ⟨q1, 2, none⟩ = some (.slice (some ⟨b1, 0, none⟩) 2 c1) := (cell_of_row _ _ _ _ _ _ r3_w1.out).trans rfl
  have k03 : y3.cell? ⟨q1, 3, none⟩ = some (.int .i64 0) := (cell_of_row _ _ _ _ _ _ r3_w1.out).trans rfl
  have k10 : y3.cell? ⟨q2, 0, none⟩ = some (.int .i64 1) := (cell_of_row _ _ _ _ _ _ r3_w2.out).trans rfl
  have k12 : y3.cell? ⟨q2, 2, none⟩ = some (.slice (some ⟨b2, 0, none⟩) 1 c2) := (cell_of_row _ _ _ _ _ _ r3_w2.out).trans rfl
  have k13 : y3.cell? ⟨q2, 3, none⟩ = some (.int .i64 0) := (cell_of_row _ _ _ _ _ _ r3_w2.out).trans rfl
  have k20 : y3.cell? ⟨q3, 0, none⟩ = some (.int .i64 1) := (cell_of_row _ _ _ _ _ _ r3_w3.out).trans rfl
  have k22 : y3.cell? ⟨q3, 2, none⟩ = some (.slice (s3) 0 c3) := (cell_of_row _ _ _ _ _ _ r3_w3.out).trans rfl
  have k23 : y3.cell? ⟨q3, 3, none⟩ = some (.int .i64 5) := (cell_of_row _ _ _ _ _ _ r3_w3.out).trans rfl
  go_wp2_with fail
  refine (hN6.out _).mono ?_
  rintro _ z1 ⟨rfl, hz1⟩
  obtain rfl := hz1.symm
  go_wp2_with fail
  refine (hN8.out _).mono ?_
  rintro _ z2 ⟨rfl, hz2⟩
  obtain rfl := hz2.symm
  go_wp2
  go_ret
  exact ⟨rfl, hw_3.out⟩
end Go.Proofs.YtiahiakllpjliaaDoor
