
/-
  A contract of octet.Join: pieces behind each other, in new memory. Condition: together no more than 2^40 bytes, and no more than 2^40 pieces.
-/
import Derived.Test.YtiahiakllpjliaaDoorOct
namespace Go.Proofs.YtiahiakllpjliaaDoor
open Go.RowKit

/-- The value v is a slice of slices of bytes. -/
def BBs (w : World) (v : Value) (ls : List (List Int)) : Prop :=
  ∃ a cap, ∃ vs : List Value, v = .slice a ls.length cap ∧ ls.length ≤ cap ∧ cap ≤ maxLen ∧ (a = none → cap = 0) ∧ vs.length = ls.length ∧
    ∀ i, i < ls.length → ∃ b off, a = some ⟨b, off, none⟩ ∧ w.cell? ⟨b, off + i, none⟩ = some (vs.getD i undef) ∧ Bs w (vs.getD i undef) (ls.getD i [])

theorem BBs.below {w w' : World} {v : Value} {ls : List (List Int)} (h : BBs w v ls) (hb : Below w.heap.size w w') : BBs w' v ls := by
  obtain ⟨a, cap, vs, rfl, h1, h2, h3, h4, h5⟩ := h
  refine ⟨a, cap, vs, rfl, h1, h2, h3, h4, fun i hi => ?_⟩
  obtain ⟨b, off, e, hc, hB⟩ := h5 i hi
  exact ⟨b, off, e, by rw [hb.cell (p := ⟨b, off + i, none⟩) (block_lt_of_cell hc)]; exact hc, hB.below hb⟩

theorem flat_take_succ (ls : List (List Int)) (j : Nat) (h : j < ls.length) : (ls.take (j + 1)).flatten = (ls.take j).flatten ++ ls.getD j [] := by
  rw [List.take_succ_eq_append_getElem h, List.flatten_append, List.getD_eq_getElem?_getD, List.getElem?_eq_getElem h]
  simp
theorem flat_take_le (ls : List (List Int)) (j : Nat) : (ls.take j).flatten.length ≤ ls.flatten.length := by
  have h := congrArg (fun x => x.flatten.length) (List.take_append_drop j ls)
  simp only [List.flatten_append, List.length_append] at h
  omega
theorem flat_byte {ls : List (List Int)} (h : ∀ i, i < ls.length → Byte (ls.getD i [])) : ∀ j, j ≤ ls.length → Byte (ls.take j).flatten := by
  intro j
  induction j with
  | zero => intro _; simp; exact Byte.nil
  | succ j ih =>
    intro hj
    rw [flat_take_succ ls j (by omega)]
    exact (ih (by omega)).append (h j (by omega))

/-- A slice of bytes, as the law of append asks for it. -/
theorem Bs.news {w : World} {a : Option Addr} {l : List Int}
    (h : ∀ i, i < l.length → ∃ b off, a = some ⟨b, off, none⟩ ∧ w.cell? ⟨b, off + i, none⟩ = some (.int .u8 (l.getD i 0))) :
    ∀ ad, a = some ad → ∀ t u, (l.map (Value.int .u8))[t]? = some u → w.cell? (ad.add t) = some u := by
  intro ad had t u hu
  have ht : t < l.length := by
    have := (List.getElem?_eq_some_iff.1 hu).1
    simpa using this
  obtain ⟨b, off, e, hc⟩ := h t ht
  rw [had] at e
  cases e
  rw [getElem?_map_u8 l t ht] at hu
  cases hu
  by_cases h0 : t = 0
  · subst h0; simpa [Addr.add] using hc
  · simpa [Addr.add, h0] using hc

theorem Join_at (a : Option Addr) (cap m T : Nat) (ls : List (List Int)) (vs : List Value) (w : World) (hL : ls.length = m) (hT : ls.flatten.length = T) (hm : m ≤ 1099511627776) (hTm : T ≤ 1099511627776)
    (ha : ∀ i, i < m → ∃ b off, a = some ⟨b, off, none⟩ ∧ w.cell? ⟨b, off + i, none⟩ = some (vs.getD i undef) ∧ Bs w (vs.getD i undef) (ls.getD i [])) :
    Calls Tryd.prog 47 #[.slice a m cap] w fun e w' => e = .returned (.slice (some ⟨w.heap.size, 0, none⟩) T T) ∧ Bs w' (.slice (some ⟨w.heap.size, 0, none⟩) T T) ls.flatten ∧ Below w.heap.size w w' := by
  have hby : ∀ j, j ≤ ls.length → Byte (ls.take j).flatten := flat_byte fun i hi => by
    obtain ⟨_, _, _, _, hB⟩ := ha i (by omega)
    exact hB.byte
  have HL := hide hL
  have HT := hide hT
  have HB := hide hby
  clear hL hT hby
  obtain ⟨i0, hi, hz0, hz1, hz2⟩ := info_parts Tryd.infoU8
  go_enter Tryd.func47, Tryd.ntmps47
  go_wp2
  go_loop [3, 11] (fun n i => ∃ j : Nat, j ≤ m ∧ i = .int .i64 j ∧ n = .int .i64 ((ls.take j).flatten.length : Nat)) (fun _ i => m - (intOf i).toNat)
  case atStart => exact ⟨0, Nat.zero_le _, rfl, rfl⟩
  case round =>
    obtain ⟨j, hj, rfl, rfl⟩ := hrel
    have hle := flat_take_le ls j
    rw [HT.out] at hle
    by_cases hlt : j < m
    · obtain ⟨b, off, rfl, hcj, hBj⟩ := ha j hlt
      obtain ⟨_, aj, cj, hvj, hlc, _⟩ := hBj
      have hs := flat_take_succ ls j (by rw [HL.out]; exact hlt)
      have hs2 := congrArg List.length hs
      rw [List.length_append] at hs2
      have hle2 := flat_take_le ls (j + 1)
      rw [HT.out] at hle2
      rw [hvj] at hcj
      generalize hn : (ls.getD j []).length = nj at *
      generalize ht : (ls.take j).flatten.length = tj at *
      have HS := hide hs2
      clear hs hs2 hn hvj
      have hb1 : tj + nj ≤ 1099511627776 := by have := HS.out; omega
      go_wp2
      go_round
      case rel => exact ⟨j + 1, by omega, by go_num, by rw [HS.out]; go_num⟩
      case measure => simp [intOf]; omega
    · have hjm : j = m := by omega
      have e1 : (ls.take j).flatten.length = T := by rw [← HT.out, List.take_of_length_le (by rw [HL.out]; omega)]
      generalize (ls.take j).flatten.length = tj at *
      have hTj : tj ≤ 1099511627776 := by omega
      have E1 := hide e1
      clear e1 hle
      go_wp2_with (at_make; refine wpList_make_own _ rfl _ _ 26 rfl w.heap.size 5 i0 (.int .u8 0) 1 Tryd.underlying26 hi hz0 hz1 _ _ _ tj rfl rfl rfl (by rw [hz2]; omega) (by unfold maxLen; omega) (Nat.le_refl _) ?_; intro w1 hown0 hgrow)
      have hbel : Below w.heap.size w w1 := (Below.refl _ _).grown hgrow (Nat.le_refl _) (fun _ e => by cases e)
      clear hgrow
      go_loopw [6, 24] (fun v i wr => ∃ j : Nat, j ≤ m ∧ i = .int .i64 j ∧ v = .slice (some ⟨w.heap.size, 0, none⟩) (ls.take j).flatten.length tj ∧ wr.ownsRow w.heap.size 5 1 (.slice (some ⟨w.heap.size, 0, none⟩) (ls.take j).flatten.length tj) (ls.take j).flatten.length ((ls.take j).flatten.map (Value.int .u8)) ∧ Below w.heap.size w wr) (fun _ i _ => m - (intOf i).toNat)
      case atStart => exact ⟨0, Nat.zero_le _, rfl, rfl, hown0, hbel⟩
      case round =>
        clear hown0 hbel hlt hjm hj
        obtain ⟨j, hj, rfl, rfl, hown, hbl⟩ := hrel
        by_cases hlt : j < m
        · obtain ⟨b, off, rfl, hcj0, hBj0⟩ := ha j hlt
          have hcj : wr.cell? ⟨b, off + j, none⟩ = some (vs.getD j undef) := by
            rw [hbl.cell (p := ⟨b, off + j, none⟩) (block_lt_of_cell hcj0)]; exact hcj0
          obtain ⟨_, aj, cj, hvj, hlc, _, hnone, hcells⟩ := hBj0.below hbl
          have hs := flat_take_succ ls j (by rw [HL.out]; exact hlt)
          have hs2 := congrArg List.length hs
          rw [List.length_append] at hs2
          have hle2 := flat_take_le ls (j + 1)
          rw [HT.out, ← E1.out] at hle2
          rw [hvj] at hcj
          have hnews := Bs.news hcells
          have hnone' : aj = none → (ls.getD j []).length = 0 ∧ cj = 0 := fun e => by
            have := hnone e; omega
          have hone := ints_oneCell .u8 (ls.getD j [])
          have hb1 : (ls.take j).flatten.length + (ls.getD j []).length ≤ tj := by omega
          have hnl : ((ls.getD j []).map (Value.int .u8)).length = (ls.getD j []).length * 1 := by simp
          have HR : Hid (∀ w2 : World, w2.ownsRow w.heap.size 5 1 (.slice (some ⟨w.heap.size, 0, none⟩) ((ls.take j).flatten.length + (ls.getD j []).length) tj) ((ls.take j).flatten.length + (ls.getD j []).length) ((ls.take j).flatten.map (Value.int .u8) ++ (ls.getD j []).map (Value.int .u8)) →
              w2.ownsRow w.heap.size 5 1 (.slice (some ⟨w.heap.size, 0, none⟩) (ls.take (j + 1)).flatten.length tj) (ls.take (j + 1)).flatten.length ((ls.take (j + 1)).flatten.map (Value.int .u8))) := by
            intro w2 h2
            rw [hs, List.length_append, List.map_append]
            exact h2
          have HS := hide hs2
          clear hs hs2 hvj ha hcj0 hBj0 hcells
          generalize hxs : (ls.take j).flatten.map (Value.int .u8) = xs at *
          generalize hys : (ls.getD j []).map (Value.int .u8) = ys at *
          generalize hkk : (ls.take j).flatten.length = kk at *
          generalize hnj : (ls.getD j []).length = nj at *
          clear hxs hys hkk hnj
          go_wp2_with (at_builtin; refine wpList_append_fits_any _ rfl _ _ 26 rfl w.heap.size 5 i0 1 Tryd.underlying26 hi hz1 w.heap.size kk tj xs rfl hown aj nj cj ys rfl hnl hnone' hnews hone hb1 ?_; intro w2 hown2 hgrow2)
          have hbl2 : Below w.heap.size w w2 := hbl.grown hgrow2 hbl.size (fun k e => by cases e; exact Nat.le_refl _)
          go_wp2
          go_roundw
          case rel => exact ⟨j + 1, by omega, by go_num, by rw [HS.out], HR.out w2 hown2, hbl2⟩
          case measure => simp [intOf]; omega
        · have e1 : (ls.take j).flatten = ls.flatten := by rw [List.take_of_length_le (by rw [HL.out]; omega)]
          rw [e1] at hown ⊢
          rw [HT.out] at hown ⊢
          have e2 := E1.out
          subst e2
          have hB := hide (Bs.own (l := ls.flatten) (by rw [HT.out]; exact hown) (by rw [← e1]; exact HB.out j (by rw [HL.out]; exact hj)))
          clear e1
          go_wp2
          go_ret
          refine ⟨rfl, ?_, hbl⟩
          have := hB.out
          rw [HT.out] at this
          exact this

/-- Join: all the pieces' bytes, in new memory. -/
theorem Join_any {v : Value} {ls : List (List Int)} {w : World} (hv : BBs w v ls) (hm : ls.length ≤ 1099511627776) (hT : ls.flatten.length ≤ 1099511627776) :
    Calls Tryd.prog 47 #[v] w fun e w' => e = .returned (.slice (some ⟨w.heap.size, 0, none⟩) ls.flatten.length ls.flatten.length) ∧ Bs w' (.slice (some ⟨w.heap.size, 0, none⟩) ls.flatten.length ls.flatten.length) ls.flatten ∧ Below w.heap.size w w' := by
  obtain ⟨a, cap, vs, rfl, h1, h2, h3, h4, h5⟩ := hv
  exact Join_at a cap _ _ ls vs w rfl rfl hm hT h5
end Go.Proofs.YtiahiakllpjliaaDoor
