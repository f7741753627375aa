
/-
  Contracts of mac.readTag and mac.readHeader. Conditions: those that each theorem names.
-/
import Derived.Test.YtiahiakllpjliaaDoorMacB
namespace Go.Proofs.YtiahiakllpjliaaDoor
open Go.RowKit

def Hd.zero : Hd := ⟨0, 0, 0, 0, 0, 0, 0, 0, 0, 0, 0, 0, false, 0, false, 0, 0, false⟩
/-- A tag's number in a header. -/
def Hd.tagged (h : Hd) (t : Int) : Hd := { h with tg := true, pcp := t / 8192, de := t / 4096 % 2 == 1, vid := t % 4096 }

theorem readTag_any {w : World} {b : Nat} {h : Hd} (hk : w.heap[b]? = some (.cells h.row 25 (0, 0))) (t : Int) (h0 : 0 ≤ t) (h1 : t < 65536) :
    Calls Tryd.prog 55 #[.pointer (some ⟨b, 0, none⟩), .int .u64 t] w fun e w' => e = .returned (.tuple #[]) ∧ w'.heap[b]? = some (.cells (h.tagged t).row 25 (0, 0)) ∧ Below b w w' ∧ Kept b w w' := by
  obtain ⟨P, hP⟩ : ∃ P, P = t / 8192 := ⟨_, rfl⟩
  obtain ⟨V, hV⟩ : ∃ V, V = t % 4096 := ⟨_, rfl⟩
  obtain ⟨D, hD⟩ : ∃ D, D = (t / 4096 % 2 == 1) := ⟨_, rfl⟩
  have p0 : 0 ≤ P := by omega
  have p1 : P ≤ 7 := by omega
  have v0 : 0 ≤ V := by omega
  have v1 : V ≤ 4095 := by omega
  have hH : Hid (h.tagged t = { h with tg := true, pcp := P, de := D, vid := V }) := by
    show h.tagged t = _
    rw [hP, hV, hD]; rfl
  have b1 : Hid (∀ w, Calls Tryd.prog 72 #[.int .u64 t, .int .i64 13, .int .i64 16] w fun e w' => e = .returned (.int .u64 P) ∧ w' = w) := fun w => by
    have := Bits_in t 13 16 w h0 (by omega) (by decide) (by decide)
    rwa [show t / 2 ^ 13 % 2 ^ (16 - 13) = P by simp; omega] at this
  have b2 : Hid (∀ w, Calls Tryd.prog 73 #[.int .u64 t, .int .i64 12] w fun e w' => e = .returned (.bool D) ∧ w' = w) := fun w => by
    have := Bit_in t 12 w h0 (by omega) (by decide)
    rwa [show (t / 2 ^ 12 % 2 == 1) = D by rw [hD]; rfl] at this
  have b3 : Hid (∀ w, Calls Tryd.prog 72 #[.int .u64 t, .int .i64 0, .int .i64 12] w fun e w' => e = .returned (.int .u64 V) ∧ w' = w) := fun w => by
    have := Bits_in t 0 12 w h0 (by omega) (by decide) (by decide)
    rwa [show t / 2 ^ 0 % 2 ^ (12 - 0) = V by simp; omega] at this
  clear hP hV hD
  generalize h.tagged t = H at *
  have f12 := frozen_of_row w b 12 _ _ hk
  have f13 := frozen_of_row w b 13 _ _ hk
  have f14 := frozen_of_row w b 14 _ _ hk
  have f15 := frozen_of_row w b 15 _ _ hk
  have c12 : w.cell? ⟨b, 12, none⟩ = some (.bool h.tg) := by rw [cell_of_row _ _ _ _ _ _ hk]; rfl
  have c13 : w.cell? ⟨b, 13, none⟩ = some (.int .i64 h.pcp) := by rw [cell_of_row _ _ _ _ _ _ hk]; rfl
  have c14 : w.cell? ⟨b, 14, none⟩ = some (.bool h.de) := by rw [cell_of_row _ _ _ _ _ _ hk]; rfl
  have c15 : w.cell? ⟨b, 15, none⟩ = some (.int .i64 h.vid) := by rw [cell_of_row _ _ _ _ _ _ hk]; rfl
  have HK := hide hk
  clear hk
  go_enter Tryd.func55, Tryd.ntmps55
  go_wp2_with fail
  refine (b1.out _).mono ?_
  rintro e w1 ⟨rfl, rfl⟩
  go_wp2_with fail
  refine (b2.out _).mono ?_
  rintro e w1 ⟨rfl, rfl⟩
  go_wp2_with fail
  refine (b3.out _).mono ?_
  rintro e w1 ⟨rfl, rfl⟩
  go_wp2_with fail
  go_end0
  have k1 := heap_setCell_same w b 12 _ _ (.bool true) HK.out
  have k2 := heap_setCell_same _ b 13 _ _ (.int .i64 P) k1
  have k3 := heap_setCell_same _ b 14 _ _ (.bool D) k2
  have k4 := heap_setCell_same _ b 15 _ _ (.int .i64 V) k3
  refine ⟨rfl, ?_, ?_, ?_⟩
  · rw [k4, hH.out]; rfl
  · exact ((((Below.refl _ _).setCell (p := ⟨b, 12, none⟩) (Nat.le_refl _) _).setCell (p := ⟨b, 13, none⟩) (Nat.le_refl _) _).setCell (p := ⟨b, 14, none⟩) (Nat.le_refl _) _).setCell (p := ⟨b, 15, none⟩) (Nat.le_refl _) _
  · intro k hk hne
    rw [Below.heap_setCell _ ⟨b, 15, none⟩ _ k hne, Below.heap_setCell _ ⟨b, 14, none⟩ _ k hne, Below.heap_setCell _ ⟨b, 13, none⟩ _ k hne, Below.heap_setCell _ ⟨b, 12, none⟩ _ k hne]

/-- Two bytes' number. -/
def n2 (a b : Int) : Int := a * 256 + b
theorem num2 (a b : Int) : num [a, b] = n2 a b := by simp [num, n2]
/-- A header without a tag, as it stands in bytes. -/
def hdPlain (a0 a1 a2 a3 a4 a5 a6 a7 a8 a9 a10 a11 t : Int) : Hd := ⟨a0, a1, a2, a3, a4, a5, a6, a7, a8, a9, a10, a11, false, 0, false, 0, t, decide (t ≤ 1500)⟩
def Hd.typed (h : Hd) (t : Int) : Hd := { h with typ := t, llc := decide (t ≤ 1500) }

theorem Bs.srcOf {w : World} {v : Value} {l : List Int} (h : Bs w v l) (hl : 0 < l.length) : ∃ ad cap, v = .slice (some ad) l.length cap ∧ ∀ j u, (l.map (Value.int .u8))[j]? = some u → w.cell? (ad.add j) = some u := by
  obtain ⟨_, a, cap, rfl, h1, h2, h3, h4⟩ := h
  obtain ⟨b, off, rfl, _⟩ := h4 0 hl
  exact ⟨_, cap, rfl, Bs.news h4 _ rfl⟩
theorem Hd.row_all (h : Hd) : h.row.all (·.oneCell') = true := by simp [Value.oneCell']
theorem Rd.bytes {w : World} {g : Nat} {l : List Int} {err : Int} (h : Rd w g l err) : Byte l := by
  obtain ⟨_, _, hB, _⟩ := h
  exact hB.byte
set_option maxHeartbeats 1000000 in
set_option maxRecDepth 20000 in
theorem readHeader_plain {w : World} {g : Nat} (a0 a1 a2 a3 a4 a5 a6 a7 a8 a9 a10 a11 a12 a13 : Int) (r : List Int) (h : Rd w g (a0 :: a1 :: a2 :: a3 :: a4 :: a5 :: a6 :: a7 :: a8 :: a9 :: a10 :: a11 :: a12 :: a13 :: r) 0) (hm : r.length ≤ 1000000) (hn : n2 a12 a13 ≠ 33024) :
    Calls Tryd.prog 31 #[.pointer (some ⟨g, 0, none⟩)] w fun e w' => e = .returned (.agg (hdPlain a0 a1 a2 a3 a4 a5 a6 a7 a8 a9 a10 a11 (n2 a12 a13)).row) ∧ Rd w' g r 0 ∧ Below g w w' := by
  have hgl := h.lt
  have HR := hide h
  clear h
  obtain ⟨i0, hi, hz0, hz1, hz2⟩ := info_parts Tryd.infoU8
  have hsz1 : (Tryd.prog.info? 5).map (·.size) = some 1 := by kernel_rfl
  go_enter Tryd.func31, Tryd.ntmps31
  go_wp2_with fail
  refine wp_region_noPanic ?_
  refine wp_region_held_drew (S := fun _ => True) (by kernel_rfl) trivial (fun hHeld => ?_)
  refine wpAnyH_take (i := 0) (oi := { dst := some 5, op := Op.fieldAddr 25 (Operand.tmp 3) 0, type := 0, pos := "mac.go:89", after := #[], guard := none }) (v := ?v1) rfl (by kernel_rfl) (by kernel_rfl) (by kernel_rfl) (fun _ _ _ h => h) (Or.inl ⟨by rfl, ?y1⟩) (by assumption) ?r1
  case y1 => (intro w hSw; (try dsimp only at hSw); (try (go_split_ands)); go_simp; try with_reducible rfl)
  try simp only [Act.put, List.setIfInBounds_toArray, List.set_cons_zero, List.set_cons_succ]
  refine wpAnyH_take (i := 1) (oi := { dst := some 6, op := Op.slice 23 (Operand.tmp 5) none none none, type := 26, pos := "mac.go:89", after := #[{ on := 0, ground := Ground.data }], guard := none }) (v := ?v2) rfl (by kernel_rfl) (by kernel_rfl) (by kernel_rfl) (fun _ _ _ h => h) (Or.inl ⟨by rfl, ?y2⟩) (by assumption) ?r2
  case y2 => (intro w hSw; (try dsimp only at hSw); (try (go_split_ands)); go_simp; try with_reducible rfl)
  try simp only [Act.put, List.setIfInBounds_toArray, List.set_cons_zero, List.set_cons_succ]
  refine wpAnyH_take (i := 2) (oi := { dst := some 7, op := Op.move (Operand.tmp 0), type := 79, pos := "mac.go:89", after := #[], guard := none }) (v := ?v3) rfl (by kernel_rfl) (by kernel_rfl) (by kernel_rfl) (fun _ _ _ h => h) (Or.inl ⟨by rfl, ?y3⟩) (by assumption) ?r3
  case y3 => (intro w hSw; (try dsimp only at hSw); (try (go_split_ands)); go_simp; try with_reducible rfl)
  try simp only [Act.put, List.setIfInBounds_toArray, List.set_cons_zero, List.set_cons_succ]
  have hA : ((w.alloc (.cells Hd.zero.row 25)).alloc (.cells Hd.zero.row 25)).drew.heap[w.heap.size]? = some (.cells Hd.zero.row 25 (0, 0)) := heap_alloc2_old _ _ _
  have hH : ((w.alloc (.cells Hd.zero.row 25)).alloc (.cells Hd.zero.row 25)).drew.heap[w.heap.size + 1]? = some (.cells Hd.zero.row 25 (0, 0)) := heap_alloc2_new _ _ _
  have hb0 : Below w.heap.size w ((w.alloc (.cells Hd.zero.row 25)).alloc (.cells Hd.zero.row 25)).drew := below_drewN ((below1 _ _).alloc (by simp) _) 1
  have hR0 := HR.out.kept hgl hb0
  have hs0 : ((w.alloc (.cells Hd.zero.row 25)).alloc (.cells Hd.zero.row 25)).drew.heap.size = w.heap.size + 2 := by simp [World.drew]
  have hG := hide (hb0.mono (Nat.le_of_lt hgl))
  clear HR hb0
  generalize hw0 : ((w.alloc (.cells Hd.zero.row 25)).alloc (.cells Hd.zero.row 25)).drew = w0 at *
  refine wpAnyH_ready (rs := [3]) (by kernel_rfl) (by simp) ?_
  refine AllReadyH.cons (o := { dst := some 8, op := Op.call { callee := Callee.value (Operand.func 35), args := #[Operand.tmp 7, Operand.const (Value.int IntKind.i64 6)], argTypes := #[79, 3] }, type := 26, pos := "mac.go:89", after := #[{ on := 2, ground := Ground.data }], guard := none }) rfl (fun K hK => ?_) AllReadyH.nil
  go_simp
  change Calls Tryd.prog _ _ ((w.alloc (.cells Hd.zero.row 25)).alloc (.cells Hd.zero.row 25)).drew _
  rw [hw0]
  clear hw0
  refine (RTake_okK hR0 6 (by simp; omega) (by simp)).mono ?_
  rintro e w1 ⟨v, rfl, hB1, hR1, hb1, hkp1, _⟩
  obtain ⟨ad, cap, rfl, hsrc⟩ := Bs.srcOf hB1 (by simp)
  have hA1 := (hkp1 w.heap.size (by omega) (by omega)).trans hA
  have hH1 := (hkp1 (w.heap.size + 1) (by omega) (by omega)).trans hH
  have hG1 := hide (hG.out.trans hb1)
  have hz1' := hb1.size
  clear hkp1 hb1 hA hH hR0 hG
  go_wp2_with fail
  refine hK.out _ _ ?_ (fun hHeld3 => ?_)
  · exact trivial
  clear hK K
  try simp only [Act.put, List.setIfInBounds_toArray, List.set_cons_zero, List.set_cons_succ]
  refine wpAnyH_ready (rs := [4]) (by kernel_rfl) (by simp) ?_
  refine AllReadyH.cons (o := { dst := some 9, op := Op.call { callee := Callee.builtin Builtin.copy, args := #[Operand.tmp 6, Operand.tmp 8], argTypes := #[26, 26] }, type := 3, pos := "mac.go:89", after := #[{ on := 1, ground := Ground.data }, { on := 3, ground := Ground.data }, { on := 3, ground := Ground.chain }], guard := none }) rfl (fun K hK => ?_) AllReadyH.nil
  refine step_copy_splice rfl _ _ 26 26 rfl 5 Tryd.underlying26 hsz1 (some ⟨w.heap.size + 1, 0, none⟩) (some ad) 6 6 6 cap rfl rfl (w.heap.size + 1) 0 Hd.zero.row.toList 25 hH1 [.int .u8 a0, .int .u8 a1, .int .u8 a2, .int .u8 a3, .int .u8 a4, .int .u8 a5] rfl (fun _ => ⟨rfl, ad, rfl, hsrc⟩) (by simp) (by intro v hv; simp at hv; rcases hv with rfl | rfl | rfl | rfl | rfl | rfl <;> rfl) (w.heap.size + 1) w1 (Below.refl _ _) (Nat.le_refl _) ?_
  intro w2 hH2 hb2
  have hA2 := (hb2.block w.heap.size (by omega)).trans hA1
  have hR2 := hR1.kept (show g < w.heap.size + 1 by omega) hb2
  have hG2 := hide (hG1.out.trans (hb2.mono (by omega)))
  have hz2' := hb2.size
  clear hsrc hB1 hb2 hA1 hH1 hR1 hG1
  refine hK.out _ _ trivial (fun hHeld4 => ?_)
  clear hK K
  try simp only [Act.put, List.setIfInBounds_toArray, List.set_cons_zero, List.set_cons_succ]
  refine wpAnyH_done (by kernel_rfl) ?_ _
  refine NoPanic.normal ?_
  have hH2' : w2.heap[w.heap.size + 1]? = some (.cells (Hd.mk a0 a1 a2 a3 a4 a5 0 0 0 0 0 0 false 0 false 0 0 false).row 25 (0, 0)) := hH2.out
  clear hH2
  go_wp2_with fail
  refine wp_region_noPanic ?_
  refine wp_region_held_drew (S := fun _ => True) (by kernel_rfl) trivial (fun hHeld => ?_)
  refine wpAnyH_take (i := 0) (oi := { dst := some 10, op := Op.fieldAddr 25 (Operand.tmp 3) 1, type := 0, pos := "mac.go:90", after := #[], guard := none }) (v := ?v4) rfl (by kernel_rfl) (by kernel_rfl) (by kernel_rfl) (fun _ _ _ h => h) (Or.inl ⟨by rfl, ?y4⟩) (by assumption) ?r4
  case y4 => (intro w hSw; (try dsimp only at hSw); (try (go_split_ands)); go_simp; try with_reducible rfl)
  try simp only [Act.put, List.setIfInBounds_toArray, List.set_cons_zero, List.set_cons_succ]
  refine wpAnyH_take (i := 1) (oi := { dst := some 11, op := Op.slice 23 (Operand.tmp 10) none none none, type := 26, pos := "mac.go:90", after := #[{ on := 0, ground := Ground.data }], guard := none }) (v := ?v5) rfl (by kernel_rfl) (by kernel_rfl) (by kernel_rfl) (fun _ _ _ h => h) (Or.inl ⟨by rfl, ?y5⟩) (by assumption) ?r5
  case y5 => (intro w hSw; (try dsimp only at hSw); (try (go_split_ands)); go_simp; try with_reducible rfl)
  try simp only [Act.put, List.setIfInBounds_toArray, List.set_cons_zero, List.set_cons_succ]
  refine wpAnyH_take (i := 2) (oi := { dst := some 12, op := Op.move (Operand.tmp 0), type := 79, pos := "mac.go:90", after := #[], guard := none }) (v := ?v6) rfl (by kernel_rfl) (by kernel_rfl) (by kernel_rfl) (fun _ _ _ h => h) (Or.inl ⟨by rfl, ?y6⟩) (by assumption) ?r6
  case y6 => (intro w hSw; (try dsimp only at hSw); (try (go_split_ands)); go_simp; try with_reducible rfl)
  try simp only [Act.put, List.setIfInBounds_toArray, List.set_cons_zero, List.set_cons_succ]
  have hd2 : Below w2.heap.size w2 w2.drew := below_drewN (Below.refl _ _) 1
  refine wpAnyH_ready (rs := [3]) (by kernel_rfl) (by simp) ?_
  refine AllReadyH.cons (o := { dst := some 13, op := Op.call { callee := Callee.value (Operand.func 35), args := #[Operand.tmp 12, Operand.const (Value.int IntKind.i64 6)], argTypes := #[79, 3] }, type := 26, pos := "mac.go:90", after := #[{ on := 2, ground := Ground.data }], guard := none }) rfl (fun K hK => ?_) AllReadyH.nil
  go_simp
  refine (RTake_okK (hR2.kept hR2.lt hd2) 6 (by simp; omega) (by simp)).mono ?_
  rintro e w3 ⟨v, rfl, hB3, hR3, hb3, hkp3, _⟩
  obtain ⟨ad3, cap3, rfl, hsrc3⟩ := Bs.srcOf hB3 (by simp)
  have hA3 := (hkp3 w.heap.size (show w.heap.size < w2.heap.size by omega) (by omega)).trans hA2
  have hH3 := (hkp3 (w.heap.size + 1) (show w.heap.size + 1 < w2.heap.size by omega) (by omega)).trans hH2'
  have hG3 := hide (hG2.out.trans ((hd2.mono (Nat.le_of_lt hR2.lt)).trans hb3))
  have hz3' : w2.heap.size ≤ w3.heap.size := hb3.size
  clear hkp3 hb3 hA2 hH2' hR2 hG2 hd2
  go_wp2_with fail
  refine hK.out _ _ ?_ (fun hHeld13 => ?_)
  · exact trivial
  clear hK K
  try simp only [Act.put, List.setIfInBounds_toArray, List.set_cons_zero, List.set_cons_succ]
  refine wpAnyH_ready (rs := [4]) (by kernel_rfl) (by simp) ?_
  refine AllReadyH.cons (o := { dst := some 14, op := Op.call { callee := Callee.builtin Builtin.copy, args := #[Operand.tmp 11, Operand.tmp 13], argTypes := #[26, 26] }, type := 3, pos := "mac.go:90", after := #[{ on := 1, ground := Ground.data }, { on := 3, ground := Ground.data }, { on := 3, ground := Ground.chain }], guard := none }) rfl (fun K hK => ?_) AllReadyH.nil
  refine step_copy_splice rfl _ _ 26 26 rfl 5 Tryd.underlying26 hsz1 (some ⟨w.heap.size + 1, 6, none⟩) (some ad3) 6 6 6 cap3 rfl rfl (w.heap.size + 1) 6 (Hd.mk a0 a1 a2 a3 a4 a5 0 0 0 0 0 0 false 0 false 0 0 false).row.toList 25 hH3 [.int .u8 a6, .int .u8 a7, .int .u8 a8, .int .u8 a9, .int .u8 a10, .int .u8 a11] rfl (fun _ => ⟨rfl, ad3, rfl, hsrc3⟩) (by simp) (by intro v hv; simp at hv; rcases hv with rfl | rfl | rfl | rfl | rfl | rfl <;> rfl) (w.heap.size + 1) w3 (Below.refl _ _) (Nat.le_refl _) ?_
  intro w4 hH4 hb4
  have hA4 := (hb4.block w.heap.size (by omega)).trans hA3
  have hR4 := hR3.kept (show g < w.heap.size + 1 by omega) hb4
  have hG4 := hide (hG3.out.trans (hb4.mono (by omega)))
  have hz4' := hb4.size
  clear hsrc3 hB3 hb4 hA3 hH3 hR3 hG3
  refine hK.out _ _ trivial (fun hHeld14 => ?_)
  clear hK K
  try simp only [Act.put, List.setIfInBounds_toArray, List.set_cons_zero, List.set_cons_succ]
  refine wpAnyH_done (by kernel_rfl) ?_ _
  refine NoPanic.normal ?_
  have hH4' : w4.heap[w.heap.size + 1]? = some (.cells (Hd.mk a0 a1 a2 a3 a4 a5 a6 a7 a8 a9 a10 a11 false 0 false 0 0 false).row 25 (0, 0)) := hH4.out
  clear hH4
  have hR4' : Rd w4 g (a12 :: a13 :: r) 0 := hR4
  have hby := hR4'.bytes
  clear hR4
  have q12 := hby a12 (by simp)
  have q13 := hby a13 (by simp)
  have k0 : 0 ≤ n2 a12 a13 := by unfold n2; omega
  have k1 : n2 a12 a13 < 65536 := by unfold n2; omega
  have hN5 := hide (RNumber_okK hR4' 2 (by simp; omega) (by decide) (by decide) (by simp))
  rw [show (a12 :: a13 :: r).take 2 = [a12, a13] from rfl, num2, show (a12 :: a13 :: r).drop 2 = r from rfl] at hN5
  generalize hK5 : n2 a12 a13 = K5 at *
  have HK5 := hide hK5
  clear hK5
  have hn' : (K5 == 33024) = false := by simpa using hn
  go_wp2_with fail
  refine hN5.out.mono ?_
  rintro e w5 ⟨rfl, hR5, hb5, hkp5⟩
  have hA5 := (hkp5 w.heap.size (by omega) (by omega)).trans hA4
  have hH5 := (hkp5 (w.heap.size + 1) (by omega) (by omega)).trans hH4'
  have hG5 := hide (hG4.out.trans hb5)
  clear hN5 hkp5 hb5 hA4 hH4' hG4 hn
  have c16 : w5.cell? ⟨w.heap.size + 1, 16, none⟩ = some (.int .i64 0) := by rw [cell_of_row _ _ _ _ _ _ hH5]; rfl
  have c17 : w5.cell? ⟨w.heap.size + 1, 17, none⟩ = some (.bool false) := by rw [cell_of_row _ _ _ _ _ _ hH5]; rfl
  have f16 := frozen_of_row w5 (w.heap.size + 1) 16 _ _ hH5
  have f17 := frozen_of_row w5 (w.heap.size + 1) 17 _ _ hH5
  have hH6 := heap_setCell_same w5 (w.heap.size + 1) 16 _ _ (.int .i64 K5) hH5
  have hH7 := heap_setCell_same _ (w.heap.size + 1) 17 _ _ (.bool (decide (K5 ≤ 1500))) hH6
  have hA7 : ((w5.setCell ⟨w.heap.size + 1, 16, none⟩ (.int .i64 K5)).setCell ⟨w.heap.size + 1, 17, none⟩ (.bool (decide (K5 ≤ 1500)))).heap[w.heap.size]? = some (.cells Hd.zero.row 25 (0, 0)) := by
    rw [Below.heap_setCell _ ⟨w.heap.size + 1, 17, none⟩ _ _ (by simp), Below.heap_setCell _ ⟨w.heap.size + 1, 16, none⟩ _ _ (by simp)]; exact hA5
  have hR7 : Rd ((w5.setCell ⟨w.heap.size + 1, 16, none⟩ (.int .i64 K5)).setCell ⟨w.heap.size + 1, 17, none⟩ (.bool (decide (K5 ≤ 1500)))) g _ 0 := hR5.kept (B := w.heap.size + 1) (by omega) (((Below.refl _ _).setCell (p := ⟨w.heap.size + 1, 16, none⟩) (Nat.le_refl _) _).setCell (p := ⟨w.heap.size + 1, 17, none⟩) (Nat.le_refl _) _)
  have hG7 : Hid (Below g w ((w5.setCell ⟨w.heap.size + 1, 16, none⟩ (.int .i64 K5)).setCell ⟨w.heap.size + 1, 17, none⟩ (.bool (decide (K5 ≤ 1500))))) := (hG5.out.setCell (p := ⟨w.heap.size + 1, 16, none⟩) (show g ≤ w.heap.size + 1 by omega) _).setCell (p := ⟨w.heap.size + 1, 17, none⟩) (show g ≤ w.heap.size + 1 by omega) _
  have HH7 : Hid (((w5.setCell ⟨w.heap.size + 1, 16, none⟩ (.int .i64 K5)).setCell ⟨w.heap.size + 1, 17, none⟩ (.bool (decide (K5 ≤ 1500)))).heap[w.heap.size + 1]? = some (.cells (Hd.mk a0 a1 a2 a3 a4 a5 a6 a7 a8 a9 a10 a11 false 0 false 0 K5 (decide (K5 ≤ 1500))).row 25 (0, 0))) := hH7
  have HA7 := hide hA7
  have HR7 := hide hR7
  clear hH6 hH7 hA7 hR7 hA5 hH5 hR5 hG5
  generalize HX : (Hd.mk a0 a1 a2 a3 a4 a5 a6 a7 a8 a9 a10 a11 false 0 false 0 K5 (decide (K5 ≤ 1500))) = FH at *
  go_wp2_with (first | (refine wpList_load_row rfl 25 _ rfl (w.heap.size + 1) rfl 25 _ _ _ HH7.out Tryd.underlying25 rfl (hdSize _) ?_) | (refine wpList_store_row rfl 25 _ _ rfl w.heap.size FH.row rfl rfl 25 _ HA7.out (hdSize _) rfl (Hd.row_all _) ?_))
  refine bodyPost_ret (v := .agg FH.row) ?_ rfl ⟨?_, ?_, below_setRow hG7.out (by omega) _⟩
  · exact results_cell_row rfl _ _ w.heap.size 25 _ _ _ rfl (setRow_heap _ _ _ _ _ _ HA7.out) Tryd.underlying25 rfl (hdSize _)
  · rw [← HX, HK5.out]; rfl
  · exact HR7.out.kept (B := w.heap.size) hgl (below_setRow (Below.refl _ _) (Nat.le_refl _) _)
set_option maxHeartbeats 1000000 in
set_option maxRecDepth 20000 in
theorem readHeader_tag {w : World} {g : Nat} (a0 a1 a2 a3 a4 a5 a6 a7 a8 a9 a10 a11 a12 a13 a14 a15 a16 a17 : Int) (r : List Int) (h : Rd w g (a0 :: a1 :: a2 :: a3 :: a4 :: a5 :: a6 :: a7 :: a8 :: a9 :: a10 :: a11 :: a12 :: a13 :: a14 :: a15 :: a16 :: a17 :: r) 0) (hm : r.length ≤ 1000000) (hn : n2 a12 a13 = 33024) :
    Calls Tryd.prog 31 #[.pointer (some ⟨g, 0, none⟩)] w fun e w' => e = .returned (.agg (((hdPlain a0 a1 a2 a3 a4 a5 a6 a7 a8 a9 a10 a11 0).tagged (n2 a14 a15)).typed (n2 a16 a17)).row) ∧ Rd w' g r 0 ∧ Below g w w' := by
  have hgl := h.lt
  have HR := hide h
  clear h
  obtain ⟨i0, hi, hz0, hz1, hz2⟩ := info_parts Tryd.infoU8
  have hsz1 : (Tryd.prog.info? 5).map (·.size) = some 1 := by kernel_rfl
  go_enter Tryd.func31, Tryd.ntmps31
  go_wp2_with fail
  refine wp_region_noPanic ?_
  refine wp_region_held_drew (S := fun _ => True) (by kernel_rfl) trivial (fun hHeld => ?_)
  refine wpAnyH_take (i := 0) (oi := { dst := some 5, op := Op.fieldAddr 25 (Operand.tmp 3) 0, type := 0, pos := "mac.go:89", after := #[], guard := none }) (v := ?v7) rfl (by kernel_rfl) (by kernel_rfl) (by kernel_rfl) (fun _ _ _ h => h) (Or.inl ⟨by rfl, ?y7⟩) (by assumption) ?r7
  case y7 => (intro w hSw; (try dsimp only at hSw); (try (go_split_ands)); go_simp; try with_reducible rfl)
  try simp only [Act.put, List.setIfInBounds_toArray, List.set_cons_zero, List.set_cons_succ]
  refine wpAnyH_take (i := 1) (oi := { dst := some 6, op := Op.slice 23 (Operand.tmp 5) none none none, type := 26, pos := "mac.go:89", after := #[{ on := 0, ground := Ground.data }], guard := none }) (v := ?v8) rfl (by kernel_rfl) (by kernel_rfl) (by kernel_rfl) (fun _ _ _ h => h) (Or.inl ⟨by rfl, ?y8⟩) (by assumption) ?r8
  case y8 => (intro w hSw; (try dsimp only at hSw); (try (go_split_ands)); go_simp; try with_reducible rfl)
  try simp only [Act.put, List.setIfInBounds_toArray, List.set_cons_zero, List.set_cons_succ]
  refine wpAnyH_take (i := 2) (oi := { dst := some 7, op := Op.move (Operand.tmp 0), type := 79, pos := "mac.go:89", after := #[], guard := none }) (v := ?v9) rfl (by kernel_rfl) (by kernel_rfl) (by kernel_rfl) (fun _ _ _ h => h) (Or.inl ⟨by rfl, ?y9⟩) (by assumption) ?r9
  case y9 => (intro w hSw; (try dsimp only at hSw); (try (go_split_ands)); go_simp; try with_reducible rfl)
  try simp only [Act.put, List.setIfInBounds_toArray, List.set_cons_zero, List.set_cons_succ]
  have hA : ((w.alloc (.cells Hd.zero.row 25)).alloc (.cells Hd.zero.row 25)).drew.heap[w.heap.size]? = some (.cells Hd.zero.row 25 (0, 0)) := heap_alloc2_old _ _ _
  have hH : ((w.alloc (.cells Hd.zero.row 25)).alloc (.cells Hd.zero.row 25)).drew.heap[w.heap.size + 1]? = some (.cells Hd.zero.row 25 (0, 0)) := heap_alloc2_new _ _ _
  have hb0 : Below w.heap.size w ((w.alloc (.cells Hd.zero.row 25)).alloc (.cells Hd.zero.row 25)).drew := below_drewN ((below1 _ _).alloc (by simp) _) 1
  have hR0 := HR.out.kept hgl hb0
  have hs0 : ((w.alloc (.cells Hd.zero.row 25)).alloc (.cells Hd.zero.row 25)).drew.heap.size = w.heap.size + 2 := by simp [World.drew]
  have hG := hide (hb0.mono (Nat.le_of_lt hgl))
  clear HR hb0
  generalize hw0 : ((w.alloc (.cells Hd.zero.row 25)).alloc (.cells Hd.zero.row 25)).drew = w0 at *
  refine wpAnyH_ready (rs := [3]) (by kernel_rfl) (by simp) ?_
  refine AllReadyH.cons (o := { dst := some 8, op := Op.call { callee := Callee.value (Operand.func 35), args := #[Operand.tmp 7, Operand.const (Value.int IntKind.i64 6)], argTypes := #[79, 3] }, type := 26, pos := "mac.go:89", after := #[{ on := 2, ground := Ground.data }], guard := none }) rfl (fun K hK => ?_) AllReadyH.nil
  go_simp
  change Calls Tryd.prog _ _ ((w.alloc (.cells Hd.zero.row 25)).alloc (.cells Hd.zero.row 25)).drew _
  rw [hw0]
  clear hw0
  refine (RTake_okK hR0 6 (by simp; omega) (by simp)).mono ?_
  rintro e w1 ⟨v, rfl, hB1, hR1, hb1, hkp1, _⟩
  obtain ⟨ad, cap, rfl, hsrc⟩ := Bs.srcOf hB1 (by simp)
  have hA1 := (hkp1 w.heap.size (by omega) (by omega)).trans hA
  have hH1 := (hkp1 (w.heap.size + 1) (by omega) (by omega)).trans hH
  have hG1 := hide (hG.out.trans hb1)
  have hz1' := hb1.size
  clear hkp1 hb1 hA hH hR0 hG
  go_wp2_with fail
  refine hK.out _ _ ?_ (fun hHeld3 => ?_)
  · exact trivial
  clear hK K
  try simp only [Act.put, List.setIfInBounds_toArray, List.set_cons_zero, List.set_cons_succ]
  refine wpAnyH_ready (rs := [4]) (by kernel_rfl) (by simp) ?_
  refine AllReadyH.cons (o := { dst := some 9, op := Op.call { callee := Callee.builtin Builtin.copy, args := #[Operand.tmp 6, Operand.tmp 8], argTypes := #[26, 26] }, type := 3, pos := "mac.go:89", after := #[{ on := 1, ground := Ground.data }, { on := 3, ground := Ground.data }, { on := 3, ground := Ground.chain }], guard := none }) rfl (fun K hK => ?_) AllReadyH.nil
  refine step_copy_splice rfl _ _ 26 26 rfl 5 Tryd.underlying26 hsz1 (some ⟨w.heap.size + 1, 0, none⟩) (some ad) 6 6 6 cap rfl rfl (w.heap.size + 1) 0 Hd.zero.row.toList 25 hH1 [.int .u8 a0, .int .u8 a1, .int .u8 a2, .int .u8 a3, .int .u8 a4, .int .u8 a5] rfl (fun _ => ⟨rfl, ad, rfl, hsrc⟩) (by simp) (by intro v hv; simp at hv; rcases hv with rfl | rfl | rfl | rfl | rfl | rfl <;> rfl) (w.heap.size + 1) w1 (Below.refl _ _) (Nat.le_refl _) ?_
  intro w2 hH2 hb2
  have hA2 := (hb2.block w.heap.size (by omega)).trans hA1
  have hR2 := hR1.kept (show g < w.heap.size + 1 by omega) hb2
  have hG2 := hide (hG1.out.trans (hb2.mono (by omega)))
  have hz2' := hb2.size
  clear hsrc hB1 hb2 hA1 hH1 hR1 hG1
  refine hK.out _ _ trivial (fun hHeld4 => ?_)
  clear hK K
  try simp only [Act.put, List.setIfInBounds_toArray, List.set_cons_zero, List.set_cons_succ]
  refine wpAnyH_done (by kernel_rfl) ?_ _
  refine NoPanic.normal ?_
  have hH2' : w2.heap[w.heap.size + 1]? = some (.cells (Hd.mk a0 a1 a2 a3 a4 a5 0 0 0 0 0 0 false 0 false 0 0 false).row 25 (0, 0)) := hH2.out
  clear hH2
  go_wp2_with fail
  refine wp_region_noPanic ?_
  refine wp_region_held_drew (S := fun _ => True) (by kernel_rfl) trivial (fun hHeld => ?_)
  refine wpAnyH_take (i := 0) (oi := { dst := some 10, op := Op.fieldAddr 25 (Operand.tmp 3) 1, type := 0, pos := "mac.go:90", after := #[], guard := none }) (v := ?v10) rfl (by kernel_rfl) (by kernel_rfl) (by kernel_rfl) (fun _ _ _ h => h) (Or.inl ⟨by rfl, ?y10⟩) (by assumption) ?r10
  case y10 => (intro w hSw; (try dsimp only at hSw); (try (go_split_ands)); go_simp; try with_reducible rfl)
  try simp only [Act.put, List.setIfInBounds_toArray, List.set_cons_zero, List.set_cons_succ]
  refine wpAnyH_take (i := 1) (oi := { dst := some 11, op := Op.slice 23 (Operand.tmp 10) none none none, type := 26, pos := "mac.go:90", after := #[{ on := 0, ground := Ground.data }], guard := none }) (v := ?v11) rfl (by kernel_rfl) (by kernel_rfl) (by kernel_rfl) (fun _ _ _ h => h) (Or.inl ⟨by rfl, ?y11⟩) (by assumption) ?r11
  case y11 => (intro w hSw; (try dsimp only at hSw); (try (go_split_ands)); go_simp; try with_reducible rfl)
  try simp only [Act.put, List.setIfInBounds_toArray, List.set_cons_zero, List.set_cons_succ]
  refine wpAnyH_take (i := 2) (oi := { dst := some 12, op := Op.move (Operand.tmp 0), type := 79, pos := "mac.go:90", after := #[], guard := none }) (v := ?v12) rfl (by kernel_rfl) (by kernel_rfl) (by kernel_rfl) (fun _ _ _ h => h) (Or.inl ⟨by rfl, ?y12⟩) (by assumption) ?r12
  case y12 => (intro w hSw; (try dsimp only at hSw); (try (go_split_ands)); go_simp; try with_reducible rfl)
  try simp only [Act.put, List.setIfInBounds_toArray, List.set_cons_zero, List.set_cons_succ]
  have hd2 : Below w2.heap.size w2 w2.drew := below_drewN (Below.refl _ _) 1
  refine wpAnyH_ready (rs := [3]) (by kernel_rfl) (by simp) ?_
  refine AllReadyH.cons (o := { dst := some 13, op := Op.call { callee := Callee.value (Operand.func 35), args := #[Operand.tmp 12, Operand.const (Value.int IntKind.i64 6)], argTypes := #[79, 3] }, type := 26, pos := "mac.go:90", after := #[{ on := 2, ground := Ground.data }], guard := none }) rfl (fun K hK => ?_) AllReadyH.nil
  go_simp
  refine (RTake_okK (hR2.kept hR2.lt hd2) 6 (by simp; omega) (by simp)).mono ?_
  rintro e w3 ⟨v, rfl, hB3, hR3, hb3, hkp3, _⟩
  obtain ⟨ad3, cap3, rfl, hsrc3⟩ := Bs.srcOf hB3 (by simp)
  have hA3 := (hkp3 w.heap.size (show w.heap.size < w2.heap.size by omega) (by omega)).trans hA2
  have hH3 := (hkp3 (w.heap.size + 1) (show w.heap.size + 1 < w2.heap.size by omega) (by omega)).trans hH2'
  have hG3 := hide (hG2.out.trans ((hd2.mono (Nat.le_of_lt hR2.lt)).trans hb3))
  have hz3' : w2.heap.size ≤ w3.heap.size := hb3.size
  clear hkp3 hb3 hA2 hH2' hR2 hG2 hd2
  go_wp2_with fail
  refine hK.out _ _ ?_ (fun hHeld13 => ?_)
  · exact trivial
  clear hK K
  try simp only [Act.put, List.setIfInBounds_toArray, List.set_cons_zero, List.set_cons_succ]
  refine wpAnyH_ready (rs := [4]) (by kernel_rfl) (by simp) ?_
  refine AllReadyH.cons (o := { dst := some 14, op := Op.call { callee := Callee.builtin Builtin.copy, args := #[Operand.tmp 11, Operand.tmp 13], argTypes := #[26, 26] }, type := 3, pos := "mac.go:90", after := #[{ on := 1, ground := Ground.data }, { on := 3, ground := Ground.data }, { on := 3, ground := Ground.chain }], guard := none }) rfl (fun K hK => ?_) AllReadyH.nil
  refine step_copy_splice rfl _ _ 26 26 rfl 5 Tryd.underlying26 hsz1 (some ⟨w.heap.size + 1, 6, none⟩) (some ad3) 6 6 6 cap3 rfl rfl (w.heap.size + 1) 6 (Hd.mk a0 a1 a2 a3 a4 a5 0 0 0 0 0 0 false 0 false 0 0 false).row.toList 25 hH3 [.int .u8 a6, .int .u8 a7, .int .u8 a8, .int .u8 a9, .int .u8 a10, .int .u8 a11] rfl (fun _ => ⟨rfl, ad3, rfl, hsrc3⟩) (by simp) (by intro v hv; simp at hv; rcases hv with rfl | rfl | rfl | rfl | rfl | rfl <;> rfl) (w.heap.size + 1) w3 (Below.refl _ _) (Nat.le_refl _) ?_
  intro w4 hH4 hb4
  have hA4 := (hb4.block w.heap.size (by omega)).trans hA3
  have hR4 := hR3.kept (show g < w.heap.size + 1 by omega) hb4
  have hG4 := hide (hG3.out.trans (hb4.mono (by omega)))
  have hz4' := hb4.size
  clear hsrc3 hB3 hb4 hA3 hH3 hR3 hG3
  refine hK.out _ _ trivial (fun hHeld14 => ?_)
  clear hK K
  try simp only [Act.put, List.setIfInBounds_toArray, List.set_cons_zero, List.set_cons_succ]
  refine wpAnyH_done (by kernel_rfl) ?_ _
  refine NoPanic.normal ?_
  have hH4' : w4.heap[w.heap.size + 1]? = some (.cells (Hd.mk a0 a1 a2 a3 a4 a5 a6 a7 a8 a9 a10 a11 false 0 false 0 0 false).row 25 (0, 0)) := hH4.out
  clear hH4
  have hR4' : Rd w4 g (a12 :: a13 :: a14 :: a15 :: a16 :: a17 :: r) 0 := hR4
  have hby := hR4'.bytes
  clear hR4
  have q12 := hby a12 (by simp)
  have q13 := hby a13 (by simp)
  have k0 : 0 ≤ n2 a12 a13 := by unfold n2; omega
  have k1 : n2 a12 a13 < 65536 := by unfold n2; omega
  have hN5 := hide (RNumber_okK hR4' 2 (by simp; omega) (by decide) (by decide) (by simp))
  rw [show (a12 :: a13 :: a14 :: a15 :: a16 :: a17 :: r).take 2 = [a12, a13] from rfl, num2, show (a12 :: a13 :: a14 :: a15 :: a16 :: a17 :: r).drop 2 = a14 :: a15 :: a16 :: a17 :: r from rfl] at hN5
  generalize hK5 : n2 a12 a13 = K5 at *
  have HK5 := hide hK5
  clear hK5
  subst hn
  go_wp2_with fail
  refine hN5.out.mono ?_
  rintro e w5 ⟨rfl, hR5, hb5, hkp5⟩
  have hA5 := (hkp5 w.heap.size (by omega) (by omega)).trans hA4
  have hH5 := (hkp5 (w.heap.size + 1) (by omega) (by omega)).trans hH4'
  have hG5 := hide (hG4.out.trans hb5)
  have hz5' := hb5.size
  have hby5 := hR5.bytes
  have q14 := hby5 a14 (by simp)
  have q15 := hby5 a15 (by simp)
  have q16 := hby5 a16 (by simp)
  have q17 := hby5 a17 (by simp)
  clear hN5 hkp5 hb5 hA4 hH4' hG4 hby5
  have l0 : 0 ≤ n2 a14 a15 := by unfold n2; omega
  have l1 : n2 a14 a15 < 65536 := by unfold n2; omega
  have m0 : 0 ≤ n2 a16 a17 := by unfold n2; omega
  have m1 : n2 a16 a17 < 65536 := by unfold n2; omega
  have hN6 := hide (RNumber_okK hR5 2 (by simp; omega) (by decide) (by decide) (by simp))
  rw [show (a14 :: a15 :: a16 :: a17 :: r).take 2 = [a14, a15] from rfl, num2, show (a14 :: a15 :: a16 :: a17 :: r).drop 2 = a16 :: a17 :: r from rfl] at hN6
  generalize hK6 : n2 a14 a15 = K6 at *
  generalize hK7 : n2 a16 a17 = K7 at *
  have HK6 := hide hK6
  have HK7 := hide hK7
  clear hK6 hK7 hR5
  go_wp2_with fail
  refine hN6.out.mono ?_
  rintro e w6 ⟨rfl, hR6, hb6, hkp6⟩
  have hA6 := (hkp6 w.heap.size (by omega) (by omega)).trans hA5
  have hH6 := (hkp6 (w.heap.size + 1) (by omega) (by omega)).trans hH5
  have hG6 := hide (hG5.out.trans hb6)
  have hz6' := hb6.size
  clear hN6 hkp6 hb6 hA5 hH5 hG5
  go_wp2_with fail
  refine (readTag_any hH6 K6 l0 l1).mono ?_
  rintro e w7 ⟨rfl, hH7a, hb7, hkp7⟩
  have hA7a := (hkp7 w.heap.size (by omega) (by omega)).trans hA6
  have hR7a := hR6.kept (show g < w.heap.size + 1 by omega) hb7
  have hG7a := hide (hG6.out.trans (hb7.mono (show g ≤ w.heap.size + 1 by omega)))
  have hz7' := hb7.size
  clear hb7 hkp7 hA6 hH6 hR6 hG6
  have hN8 := hide (RNumber_okK hR7a 2 (by simp; omega) (by decide) (by decide) (by simp))
  rw [show (a16 :: a17 :: r).take 2 = [a16, a17] from rfl, num2, HK7.out, show (a16 :: a17 :: r).drop 2 = r from rfl] at hN8
  clear hR7a
  go_wp2_with fail
  refine hN8.out.mono ?_
  rintro e w8 ⟨rfl, hR8, hb8, hkp8⟩
  have hA8 := (hkp8 w.heap.size (by omega) (by omega)).trans hA7a
  have hH8 := (hkp8 (w.heap.size + 1) (by omega) (by omega)).trans hH7a
  have hG8 := hide (hG7a.out.trans hb8)
  clear hN8 hkp8 hb8 hA7a hH7a hG7a
  have c16 : w8.cell? ⟨w.heap.size + 1, 16, none⟩ = some (.int .i64 0) := by rw [cell_of_row _ _ _ _ _ _ hH8]; rfl
  have c17 : w8.cell? ⟨w.heap.size + 1, 17, none⟩ = some (.bool false) := by rw [cell_of_row _ _ _ _ _ _ hH8]; rfl
  have f16 := frozen_of_row w8 (w.heap.size + 1) 16 _ _ hH8
  have f17 := frozen_of_row w8 (w.heap.size + 1) 17 _ _ hH8
  have hH6 := heap_setCell_same w8 (w.heap.size + 1) 16 _ _ (.int .i64 K7) hH8
  have hH7 := heap_setCell_same _ (w.heap.size + 1) 17 _ _ (.bool (decide (K7 ≤ 1500))) hH6
  have hA7 : ((w8.setCell ⟨w.heap.size + 1, 16, none⟩ (.int .i64 K7)).setCell ⟨w.heap.size + 1, 17, none⟩ (.bool (decide (K7 ≤ 1500)))).heap[w.heap.size]? = some (.cells Hd.zero.row 25 (0, 0)) := by
    rw [Below.heap_setCell _ ⟨w.heap.size + 1, 17, none⟩ _ _ (by simp), Below.heap_setCell _ ⟨w.heap.size + 1, 16, none⟩ _ _ (by simp)]; exact hA8
  have hR7 : Rd ((w8.setCell ⟨w.heap.size + 1, 16, none⟩ (.int .i64 K7)).setCell ⟨w.heap.size + 1, 17, none⟩ (.bool (decide (K7 ≤ 1500)))) g _ 0 := hR8.kept (B := w.heap.size + 1) (by omega) (((Below.refl _ _).setCell (p := ⟨w.heap.size + 1, 16, none⟩) (Nat.le_refl _) _).setCell (p := ⟨w.heap.size + 1, 17, none⟩) (Nat.le_refl _) _)
  have hG7 : Hid (Below g w ((w8.setCell ⟨w.heap.size + 1, 16, none⟩ (.int .i64 K7)).setCell ⟨w.heap.size + 1, 17, none⟩ (.bool (decide (K7 ≤ 1500))))) := (hG8.out.setCell (p := ⟨w.heap.size + 1, 16, none⟩) (show g ≤ w.heap.size + 1 by omega) _).setCell (p := ⟨w.heap.size + 1, 17, none⟩) (show g ≤ w.heap.size + 1 by omega) _
  have HH7 : Hid (((w8.setCell ⟨w.heap.size + 1, 16, none⟩ (.int .i64 K7)).setCell ⟨w.heap.size + 1, 17, none⟩ (.bool (decide (K7 ≤ 1500)))).heap[w.heap.size + 1]? = some (.cells (((hdPlain a0 a1 a2 a3 a4 a5 a6 a7 a8 a9 a10 a11 0).tagged K6).typed K7).row 25 (0, 0))) := hH7
  have HA7 := hide hA7
  have HR7 := hide hR7
  clear hH6 hH7 hA7 hR7 hA8 hH8 hR8 hG8
  generalize HX : (((hdPlain a0 a1 a2 a3 a4 a5 a6 a7 a8 a9 a10 a11 0).tagged K6).typed K7) = FH at *
  go_wp2_with (first | (refine wpList_load_row rfl 25 _ rfl (w.heap.size + 1) rfl 25 _ _ _ HH7.out Tryd.underlying25 rfl (hdSize _) ?_) | (refine wpList_store_row rfl 25 _ _ rfl w.heap.size FH.row rfl rfl 25 _ HA7.out (hdSize _) rfl (Hd.row_all _) ?_))
  refine bodyPost_ret (v := .agg FH.row) ?_ rfl ⟨?_, ?_, below_setRow hG7.out (by omega) _⟩
  · exact results_cell_row rfl _ _ w.heap.size 25 _ _ _ rfl (setRow_heap _ _ _ _ _ _ HA7.out) Tryd.underlying25 rfl (hdSize _)
  · rw [← HX, HK6.out, HK7.out]
  · exact HR7.out.kept (B := w.heap.size) hgl (below_setRow (Below.refl _ _) (Nat.le_refl _) _)
end Go.Proofs.YtiahiakllpjliaaDoor
