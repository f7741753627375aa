/-
  A bridge as the statements of layer 13 make it ('Bg'); relay's Name. Conditions: those that each theorem names.
-/
import Derived.Test.YtiahiakllpjliaaRl5
namespace Go.Proofs.Ytiahiakllpjliaa
open Go.RowKit Go.Maps
set_option linter.unusedVariables false
set_option linter.unusedSimpArgs false
set_option maxRecDepth 20000

/-- A bridge with room for ten stations, old after 1000; blocks of A are none of what it writes. -/
structure Bg (K : Nat) (A : Nat → Prop) (w : World) (g pb mb sb t : Nat) (ps : List Pv) (f : Int → Option (Int × Int)) (c : Nat) (sts : List Int) (l : List Fe) : Prop where
  br : Br w g pb mb sb ps f c sts
  fo : Fo K A w t 10 1000 0 l
  inA : ∀ k, k = g ∨ k = pb ∨ k = mb ∨ k = sb → A k
  fes : Fes l
  few : l.length ≤ 10
section
variable {K : Nat} {A : Nat → Prop} {w w' : World} {g pb mb sb t : Nat} {ps : List Pv} {f : Int → Option (Int × Int)} {c : Nat} {sts : List Int} {l : List Fe}
theorem Bg.more (h : Bg K A w g pb mb sb t ps f c sts l) (hb : Below w.heap.size w w') {A' : Nat → Prop} (hs : ∀ k, A' k → A k ∨ (w.heap.size ≤ k ∧ k < w'.heap.size)) (hi : ∀ k, A k → A' k) : Bg K A' w' g pb mb sb t ps f c sts l :=
  ⟨h.br.below hb, h.fo.more hb hs, fun k e => hi k (h.inA k e), h.fes, h.few⟩
theorem Bg.below (h : Bg K A w g pb mb sb t ps f c sts l) (hb : Below w.heap.size w w') : Bg K A w' g pb mb sb t ps f c sts l := h.more hb (fun k e => .inl e) (fun k e => e)
theorem Bg.size (h : Bg K A w g pb mb sb t ps f c sts l) : K ≤ w.heap.size := h.fo.size
theorem BgDecide (h : Bg K A w g pb mb sb t ps f c sts l) (port : Int) (HC : Array Value) (dst src : M6) (tg : Bool) (pcp vid : Int) (hM : HdMac HC dst src) (hI : HdIs HC tg pcp vid) (hd : dst.wf) (hs : src.wf) (hvid : I64 vid) (hps : ∀ p ∈ ps, I64 p.pvid) (now : Int) (hn : timeOk now)
    (hres : resM dst = false) (v p : Int) (hv : I64 v) (hcl : classN ps f port tg pcp vid = (v, p, 0)) (hst : stateN sts port = 2) (l' : List Fe) (hlr : learnR 10 1000 0 l v src port now = (0, 0, l')) (hf' : l'.length ≤ 10) (xs : List Int) (rn : Int) (hld : leadR (opnB ps f sts v) ps.length 1000 now v dst l' port = (xs, rn)) :
    Calls Try.prog 26 #[.agg (brC g t sb sts.length), .int .i64 port, .agg HC, .int .i64 now] w fun r w' => ∃ v', r = .returned (.agg (wayC v p v' rn)) ∧ Out w.heap.size w' v' xs ∧ Bg K (fun k => A k ∨ v'.ownBlock = some k) w' g pb mb sb t ps f c sts l' ∧ Below K w w' ∧ Kpt A w w' := by
  refine (Decide_on h.br h.fo h.inA h.fes (by have := h.few; omega) port HC dst src tg pcp vid hM hI hd hs hvid hps now hn ⟨by omega, by omega⟩ hres v p hv hcl hst 0 0 l' hlr xs rn hld).mono ?_
  rintro _ w' ⟨v', rfl, hO, hB, hF, hb, hk⟩
  have h1 := h.fes.learn (by have := h.few; omega) (room := 10) (age := 1000) (lost := 0) (vid := v) (port := port) (now := now) (m := src) hs hn
  rw [hlr] at h1
  exact ⟨v', rfl, hO, ⟨hB, hF, fun k e => .inl (h.inA k e), h1, hf'⟩, hb, hk⟩
end
/-- The words. -/
def nameN (n : Int) : ByteArray := if n = 0 then ⟨#[103, 111, 101, 115]⟩ else if n = 1 then ⟨#[114, 101, 115, 101, 114, 118, 101, 100]⟩ else if n = 2 then ⟨#[114, 101, 102, 117, 115, 101, 100]⟩ else if n = 3 then ⟨#[102, 111, 114, 101, 105, 103, 110]⟩ else if n = 4 then ⟨#[98, 108, 111, 99, 107, 101, 100]⟩ else if n = 5 then ⟨#[108, 111, 99, 97, 108]⟩ else if n = 6 then ⟨#[98, 97, 114, 114, 101, 100]⟩ else if n = 7 then ⟨#[110, 111, 119, 104, 101, 114, 101]⟩ else ⟨#[]⟩
set_option maxHeartbeats 2000000 in
theorem RName_any (n : Int) (w : World) : Calls Try.prog 23 #[.int .i64 n] w fun r w' => r = .returned (.string (nameN n)) ∧ w' = w := by
  by_cases h0 : n = 0
  · subst h0
    rw [show nameN 0 = ⟨#[103, 111, 101, 115]⟩ from rfl]
    go_enter Try.func23, Try.ntmps23
    go_wp2
    go_ret
    exact ⟨rfl, rfl⟩
  by_cases h1 : n = 1
  · subst h1
    rw [show nameN 1 = ⟨#[114, 101, 115, 101, 114, 118, 101, 100]⟩ from rfl]
    go_enter Try.func23, Try.ntmps23
    go_wp2
    go_ret
    exact ⟨rfl, rfl⟩
  by_cases h2 : n = 2
  · subst h2
    rw [show nameN 2 = ⟨#[114, 101, 102, 117, 115, 101, 100]⟩ from rfl]
    go_enter Try.func23, Try.ntmps23
    go_wp2
    go_ret
    exact ⟨rfl, rfl⟩
  by_cases h3 : n = 3
  · subst h3
    rw [show nameN 3 = ⟨#[102, 111, 114, 101, 105, 103, 110]⟩ from rfl]
    go_enter Try.func23, Try.ntmps23
    go_wp2
    go_ret
    exact ⟨rfl, rfl⟩
  by_cases h4 : n = 4
  · subst h4
    rw [show nameN 4 = ⟨#[98, 108, 111, 99, 107, 101, 100]⟩ from rfl]
    go_enter Try.func23, Try.ntmps23
    go_wp2
    go_ret
    exact ⟨rfl, rfl⟩
  by_cases h5 : n = 5
  · subst h5
    rw [show nameN 5 = ⟨#[108, 111, 99, 97, 108]⟩ from rfl]
    go_enter Try.func23, Try.ntmps23
    go_wp2
    go_ret
    exact ⟨rfl, rfl⟩
  by_cases h6 : n = 6
  · subst h6
    rw [show nameN 6 = ⟨#[98, 97, 114, 114, 101, 100]⟩ from rfl]
    go_enter Try.func23, Try.ntmps23
    go_wp2
    go_ret
    exact ⟨rfl, rfl⟩
  by_cases h7 : n = 7
  · subst h7
    rw [show nameN 7 = ⟨#[110, 111, 119, 104, 101, 114, 101]⟩ from rfl]
    go_enter Try.func23, Try.ntmps23
    go_wp2
    go_ret
    exact ⟨rfl, rfl⟩
  rw [show nameN n = ⟨#[]⟩ by unfold nameN; rw [if_neg h0, if_neg h1, if_neg h2, if_neg h3, if_neg h4, if_neg h5, if_neg h6, if_neg h7]]
  go_enter Try.func23, Try.ntmps23
  go_wp2
  go_ret
  exact ⟨rfl, rfl⟩
theorem pvOne_64 (n : Nat) : ∀ p ∈ List.replicate n pvOne, I64 p.pvid := fun p hp => by
  rw [List.eq_of_mem_replicate hp]
  exact (by constructor <;> decide)
set_option maxHeartbeats 4000000 in
theorem bridge_far {K : Nat} {A0 : Nat → Prop} (w : World) (sb : Nat) (sts : List Int) (h : w.heap[sb]? = some (.cells (stRow sts) 3 (0, 0))) (hA0 : ∀ k, A0 k → k < w.heap.size) (hsb : A0 sb) (hK : K ≤ w.heap.size) (hl : sts.length ≤ 16) :
    Calls Try.prog 24 #[.slice (some ⟨sb, 0, none⟩) sts.length sts.length] w fun r w' => ∃ g pb mb t, r = .returned (.agg (brC g t sb sts.length)) ∧ Bg K (fun k => A0 k ∨ k = g ∨ k = pb ∨ k = mb) w' g pb mb sb t (List.replicate sts.length pvOne) (newF sts.length) (newC sts.length) sts [] ∧ Below w.heap.size w w' ∧ (w.heap.size < g ∧ w.heap.size < pb ∧ w.heap.size < mb) := by
  have hb1 := hide (below1 w (.cells #[.pointer none, .pointer none, .slice none 0 0] 58))
  have hr1 := hide (heap_alloc_new w (.cells #[.pointer none, .pointer none, .slice none 0 0] 58))
  have hV := hide (VNew_any (sts.length : Int) (w.alloc (.cells #[.pointer none, .pointer none, .slice none 0 0] 58)))
  have hpn : portsN (sts.length : Int) = sts.length := by unfold portsN; omega
  rw [hpn] at hV
  have hs1 : Hid ((w.alloc (.cells #[.pointer none, .pointer none, .slice none 0 0] 58)).heap.size = w.heap.size + 1) := World.size_alloc _ _
  replace h := hide h
  replace hA0 := hide hA0
  replace hK := hide hK
  clear hpn
  go_enter Try.func24, Try.ntmps24
  generalize hwW : w.alloc (.cells #[.pointer none, .pointer none, .slice none 0 0] 58) = w1 at *
  go_wp2_with fail
  refine hV.out.mono ?_
  rintro _ w2 ⟨g, pb, mb, rfl, hVt, hb2, hg1, hg2, hg3⟩
  have hlt := hVt.lt
  have hw2 : Hid (Below w.heap.size w w2) := hb1.out.later hb2
  have hr2 := hide (heap_kept hb2 hr1.out)
  have hst := hide (heap_kept hw2.out h.out)
  have hN := hide (FoNew (K := K) (A := fun k => A0 k ∨ k = g ∨ k = pb ∨ k = mb ∨ k = w.heap.size) 10 1000 w2 (fun k e => by
    have hz := (Array.getElem?_eq_some_iff.1 hr2.out).1
    rcases e with e | e | e | e | e
    · exact Nat.lt_of_lt_of_le (hA0.out k e) hw2.out.size
    · omega
    · omega
    · omega
    · omega) (Nat.le_trans hK.out hw2.out.size))
  replace hVt := hide hVt
  have hgs : Hid (w.heap.size < g ∧ w.heap.size < pb ∧ w.heap.size < mb) := ⟨by have := hs1.out; omega, by have := hs1.out; omega, by have := hs1.out; omega⟩
  clear hV hb1 hr1 hb2 hg1 hg2 hg3 hlt hs1 hwW
  go_wp2_with fail
  refine hN.out.mono ?_
  rintro _ w3 ⟨rfl, hF, hb3⟩
  have hF3 : Hid (Fo K (fun k => A0 k ∨ k = g ∨ k = pb ∨ k = mb ∨ k = w.heap.size) w3 w2.heap.size 10 1000 0 []) := hF
  have hw3 : Hid (Below w.heap.size w w3) := hw2.out.later hb3
  have hr3 := heap_kept hb3 hr2.out
  have hst3 := hide (heap_kept hb3 hst.out)
  have hV3 := hide (hVt.out.below hb3)
  generalize w2.heap.size = t at *
  clear hN hF hb3 hw2 hr2 hst hVt
  have hwz : Hid (Below w.heap.size w (w3.setRow w.heap.size (brC g t sb sts.length))) := hw3.out.trans ⟨rfl, rfl, rfl, by simp [World.setRow], fun k hk => Go.setRow_other w3 w.heap.size k _ (by omega)⟩
  have hrz := setRow_heap w3 w.heap.size _ (brC g t sb sts.length) _ _ hr3
  have hC : Hid (Ch (fun k => k = w.heap.size) w3 (w3.setRow w.heap.size (brC g t sb sts.length))) := ⟨rfl, rfl, rfl, by simp [World.setRow], fun k _ hk => Go.setRow_other w3 w.heap.size k _ hk⟩
  have hBz : Hid (Bg K (fun k => A0 k ∨ k = g ∨ k = pb ∨ k = mb) (w3.setRow w.heap.size (brC g t sb sts.length)) g pb mb sb t (List.replicate sts.length pvOne) (newF sts.length) (newC sts.length) sts []) := by
    refine ⟨⟨hV3.out.blk fun k e => Go.setRow_other w3 w.heap.size k _ (by have := hgs.out; omega), ?_, by omega⟩, (hF3.out.wrote (hC.out.mono fun k e => by simp [e])).sub fun k e => ?_, fun k e => ?_, ⟨by simp, by simp⟩, by simp⟩
    · have h1 := hA0.out sb hsb
      rw [Go.setRow_other w3 w.heap.size sb _ (by omega)]
      exact hst3.out
    · rcases e with e | e | e | e <;> simp [e]
    · rcases e with rfl | rfl | rfl | rfl
      · simp
      · simp
      · simp
      · exact .inl hsb
  have hsz := brSize g t sb sts.length
  have hall := br_all g t sb sts.length
  go_wp2_with ((with_reducible change wpList _ _ _ _ _ _); refine wpList_store_row rfl 58 (.tmp 2) (.tmp 8) rfl w.heap.size (brC g t sb sts.length) rfl rfl 58 _ hr3 hsz rfl hall ?_)
  refine bodyPost_ret (v := .agg (brC g t sb sts.length)) ?_ rfl ⟨_, _, _, _, rfl, hBz.out, hwz.out, hgs.out⟩
  exact results_cell_row rfl _ _ w.heap.size 58 _ _ _ rfl hrz Try.underlying58 rfl hsz
theorem bridge_any {K : Nat} {A0 : Nat → Prop} (w : World) (sb : Nat) (sts : List Int) (h : w.heap[sb]? = some (.cells (stRow sts) 3 (0, 0))) (hA0 : ∀ k, A0 k → k < w.heap.size) (hsb : A0 sb) (hK : K ≤ w.heap.size) (hl : sts.length ≤ 16) :
    Calls Try.prog 24 #[.slice (some ⟨sb, 0, none⟩) sts.length sts.length] w fun r w' => ∃ g pb mb t, r = .returned (.agg (brC g t sb sts.length)) ∧ Bg K (fun k => A0 k ∨ k = g ∨ k = pb ∨ k = mb) w' g pb mb sb t (List.replicate sts.length pvOne) (newF sts.length) (newC sts.length) sts [] ∧ Below w.heap.size w w' :=
  (bridge_far w sb sts h hA0 hsb hK hl).mono fun r w' ⟨g, pb, mb, t, h1, h2, h3, _⟩ => ⟨g, pb, mb, t, h1, h2, h3⟩
/-- Set, of a VLAN that there is none of yet. -/
theorem BgSet {K : Nat} {A : Nat → Prop} {w : World} {g pb mb sb t : Nat} {ps : List Pv} {f : Int → Option (Int × Int)} {c : Nat} {sts : List Int} {l : List Fe} (h : Bg K A w g pb mb sb t ps f c sts l) (hne : sb ≠ mb) (hK : K ≤ mb) (v m p : Int) (hE : setB ps.length v m p = true) (hm : m ≠ 0) (hf : (f v).isSome = false) (hc : c < 64) :
    Calls Try.prog 25 #[.pointer (some ⟨g, 0, none⟩), .int .i64 v, .int .i64 m, .int .i64 p] w fun r w' => r = .returned (.int .i64 0) ∧ Bg K A w' g pb mb sb t ps (updK f v (some (m, p))) (c + 1) sts l ∧ Below K w w' ∧ (∀ k, k < w.heap.size → k ≠ mb → w'.heap[k]? = w.heap[k]?) := by
  refine (Set_ok h.br.vt v m p hE hm (.inr hc) (by omega)).mono ?_
  rintro _ w' ⟨rfl, hV, hC⟩
  rw [hf] at hV
  refine ⟨rfl, ⟨⟨hV, (hC.block sb (Array.getElem?_eq_some_iff.1 h.br.st).1 hne).trans h.br.st, h.br.few⟩, h.fo.wrote (hC.mono fun k e => h.inA k (by simp [e])), h.inA, h.fes, h.few⟩, hC.belowK (fun k e => by omega) h.fo.size, fun k hk hn => hC.block k hk hn⟩
end Go.Proofs.Ytiahiakllpjliaa
