/-
  Mathematics of messages: what is built is read as it was, whatever stands behind; cut short it is too short.
-/
import Derived.Test.YtmakaadmjgakaaaDoorBq4
namespace Go.Proofs.YtmakaadmjgakaaaDoor
open Go.RowKit
set_option linter.unusedVariables false

theorem digs1 (n : Int) : digs n 1 = [n % 256] := by
  simp [digs, rowAt, rowF, dig, List.range_succ]
theorem digs_mark : digs 284575334400 5 = [66, 66, 3, 0, 0] := by decide
theorem headL (v c : Int) (hv : 0 ≤ v ∧ v < 256) (hc : 0 ≤ c ∧ c < 256) : nsL (headP v c) = [66, 66, 3, 0, 0, v, c] := by
  have e1 : v % 256 = v := Int.emod_eq_of_lt hv.1 hv.2
  have e2 : c % 256 = c := Int.emod_eq_of_lt hc.1 hc.2
  show (digs 284575334400 5 ++ (digs v 1 ++ (digs c 1 ++ []))) = _
  rw [digs_mark, digs1, digs1, e1, e2]
  rfl
theorem kindE_mark (v c : Int) (r : List Int) : kindE (66 :: 66 :: 3 :: 0 :: 0 :: v :: c :: r) = if c = 0 then (0, 0) else if c = 2 ∧ 2 ≤ v then (1, 0) else if c = 128 then (2, 0) else (0, 11) := by
  unfold kindE
  rw [if_neg (by simp), if_neg]
  · rfl
  · show ¬ num [66, 66, 3, 0, 0] ≠ 284575334400
    decide
theorem flags_bits (c p l f a k : Bool) (r : Fin 4) : bitB (b1 c + b1 p * 2 + ((r.val : Nat) : Int) * 4 + b1 l * 16 + b1 f * 32 + b1 a * 64 + b1 k * 128) 0 = c ∧ bitB (b1 c + b1 p * 2 + ((r.val : Nat) : Int) * 4 + b1 l * 16 + b1 f * 32 + b1 a * 64 + b1 k * 128) 7 = k
    ∧ bitB (b1 c + b1 p * 2 + ((r.val : Nat) : Int) * 4 + b1 l * 16 + b1 f * 32 + b1 a * 64 + b1 k * 128) 1 = p ∧ (b1 c + b1 p * 2 + ((r.val : Nat) : Int) * 4 + b1 l * 16 + b1 f * 32 + b1 a * 64 + b1 k * 128) / 4 % 4 = ((r.val : Nat) : Int)
    ∧ bitB (b1 c + b1 p * 2 + ((r.val : Nat) : Int) * 4 + b1 l * 16 + b1 f * 32 + b1 a * 64 + b1 k * 128) 4 = l ∧ bitB (b1 c + b1 p * 2 + ((r.val : Nat) : Int) * 4 + b1 l * 16 + b1 f * 32 + b1 a * 64 + b1 k * 128) 5 = f ∧ bitB (b1 c + b1 p * 2 + ((r.val : Nat) : Int) * 4 + b1 l * 16 + b1 f * 32 + b1 a * 64 + b1 k * 128) 6 = a := by
  revert c p l f a k r
  decide +kernel
theorem flagsN_bits (b : Bp) (h : 0 ≤ b.role ∧ b.role ≤ 3) : bitB (flagsN b) 0 = b.change ∧ bitB (flagsN b) 7 = b.ack ∧ bitB (flagsN b) 1 = b.proposal ∧ flagsN b / 4 % 4 = b.role ∧ bitB (flagsN b) 4 = b.learning ∧ bitB (flagsN b) 5 = b.forwarding ∧ bitB (flagsN b) 6 = b.agreement := by
  have := flags_bits b.change b.proposal b.learning b.forwarding b.agreement b.ack ⟨b.role.toNat, by omega⟩
  have e : ((b.role.toNat : Nat) : Int) = b.role := by omega
  simp only [e] at this
  exact this
theorem cut_at {A B : List Int} {k : Nat} (h : A.length = k) : (A ++ B).take k = A ∧ (A ++ B).drop k = B := ⟨List.take_left' h, List.drop_left' h⟩
/-- What Config and Rapid messages both tell is read as it was written. -/
theorem rooted_told (b c : Bp) (hF : b.fits) (r : List Int) : c.rooted (nsL (toldP b) ++ r) = { c with change := b.change, ack := b.ack, root := b.root, cost := b.cost, bridge := b.bridge, port := b.port, age := b.age, maxAge := b.maxAge, hello := b.hello, delay := b.delay } := by
  have e0 : nsL (toldP b) ++ r = digs (flagsN b) 1 ++ (digs b.root 8 ++ (digs b.cost 4 ++ (digs b.bridge 8 ++ (digs b.port 2 ++ (digs b.age 2 ++ (digs b.maxAge 2 ++ (digs b.hello 2 ++ (digs b.delay 2 ++ r)))))))) := by
    simp [nsL, toldP]
  have hf := flagsN_range b hF.role.1 hF.role.2
  have fb := flagsN_bits b hF.role
  have h1 := hF.root; have h2 := hF.cost; have h3 := hF.bridge; have h4 := hF.port; have h5 := hF.age; have h6 := hF.maxAge; have h7 := hF.hello; have h8 := hF.delay
  rw [e0]
  have c0 := cut_at (A := digs (flagsN b) 1) (B := digs b.root 8 ++ (digs b.cost 4 ++ (digs b.bridge 8 ++ (digs b.port 2 ++ (digs b.age 2 ++ (digs b.maxAge 2 ++ (digs b.hello 2 ++ (digs b.delay 2 ++ r)))))))) (digs_length _ 1)
  have c1 := cut_at (A := digs b.root 8) (B := digs b.cost 4 ++ (digs b.bridge 8 ++ (digs b.port 2 ++ (digs b.age 2 ++ (digs b.maxAge 2 ++ (digs b.hello 2 ++ (digs b.delay 2 ++ r))))))) (digs_length _ 8)
  have c2 := cut_at (A := digs b.cost 4) (B := digs b.bridge 8 ++ (digs b.port 2 ++ (digs b.age 2 ++ (digs b.maxAge 2 ++ (digs b.hello 2 ++ (digs b.delay 2 ++ r)))))) (digs_length _ 4)
  have c3 := cut_at (A := digs b.bridge 8) (B := digs b.port 2 ++ (digs b.age 2 ++ (digs b.maxAge 2 ++ (digs b.hello 2 ++ (digs b.delay 2 ++ r))))) (digs_length _ 8)
  have c4 := cut_at (A := digs b.port 2) (B := digs b.age 2 ++ (digs b.maxAge 2 ++ (digs b.hello 2 ++ (digs b.delay 2 ++ r)))) (digs_length _ 2)
  have c5 := cut_at (A := digs b.age 2) (B := digs b.maxAge 2 ++ (digs b.hello 2 ++ (digs b.delay 2 ++ r))) (digs_length _ 2)
  have c6 := cut_at (A := digs b.maxAge 2) (B := digs b.hello 2 ++ (digs b.delay 2 ++ r)) (digs_length _ 2)
  have c7 := cut_at (A := digs b.hello 2) (B := digs b.delay 2 ++ r) (digs_length _ 2)
  have c8 := cut_at (A := digs b.delay 2) (B := r) (digs_length _ 2)
  generalize hT : digs (flagsN b) 1 ++ (digs b.root 8 ++ (digs b.cost 4 ++ (digs b.bridge 8 ++ (digs b.port 2 ++ (digs b.age 2 ++ (digs b.maxAge 2 ++ (digs b.hello 2 ++ (digs b.delay 2 ++ r)))))))) = T at c0 ⊢
  clear hT e0
  have d1 := c0.2
  have d9 := (show T.drop 9 = (T.drop 1).drop 8 by rw [List.drop_drop]).trans ((congrArg (List.drop 8) d1).trans c1.2)
  have d13 := (show T.drop 13 = (T.drop 9).drop 4 by rw [List.drop_drop]).trans ((congrArg (List.drop 4) d9).trans c2.2)
  have d21 := (show T.drop 21 = (T.drop 13).drop 8 by rw [List.drop_drop]).trans ((congrArg (List.drop 8) d13).trans c3.2)
  have d23 := (show T.drop 23 = (T.drop 21).drop 2 by rw [List.drop_drop]).trans ((congrArg (List.drop 2) d21).trans c4.2)
  have d25 := (show T.drop 25 = (T.drop 23).drop 2 by rw [List.drop_drop]).trans ((congrArg (List.drop 2) d23).trans c5.2)
  have d27 := (show T.drop 27 = (T.drop 25).drop 2 by rw [List.drop_drop]).trans ((congrArg (List.drop 2) d25).trans c6.2)
  have d29 := (show T.drop 29 = (T.drop 27).drop 2 by rw [List.drop_drop]).trans ((congrArg (List.drop 2) d27).trans c7.2)
  have n0 : num (T.take 1) = flagsN b := by rw [c0.1]; exact num_digs _ 1 hf.1 (by omega)
  have n1 : num ((T.drop 1).take 8) = b.root := by rw [d1, c1.1]; exact num_digs _ 8 h1.1 (by omega)
  have n2 : num ((T.drop 9).take 4) = b.cost := by rw [d9, c2.1]; exact num_digs _ 4 h2.1 (by omega)
  have n3 : num ((T.drop 13).take 8) = b.bridge := by rw [d13, c3.1]; exact num_digs _ 8 h3.1 (by omega)
  have n4 : num ((T.drop 21).take 2) = b.port := by rw [d21, c4.1]; exact num_digs _ 2 h4.1 (by omega)
  have n5 : num ((T.drop 23).take 2) = b.age := by rw [d23, c5.1]; exact num_digs _ 2 h5.1 (by omega)
  have n6 : num ((T.drop 25).take 2) = b.maxAge := by rw [d25, c6.1]; exact num_digs _ 2 h6.1 (by omega)
  have n7 : num ((T.drop 27).take 2) = b.hello := by rw [d27, c7.1]; exact num_digs _ 2 h7.1 (by omega)
  have n8 : num ((T.drop 29).take 2) = b.delay := by rw [d29, c8.1]; exact num_digs _ 2 h8.1 (by omega)
  unfold Bp.rooted
  rw [n0, n1, n2, n3, n4, n5, n6, n7, n8, fb.1, fb.2.1]
theorem told_first (b : Bp) (hF : b.fits) (r : List Int) : (nsL (toldP b) ++ r).getD 0 0 = flagsN b := by
  have hf := flagsN_range b hF.role.1 hF.role.2
  have e0 : nsL (toldP b) ++ r = digs (flagsN b) 1 ++ (nsL [(b.root, 8), (b.cost, 4), (b.bridge, 8), (b.port, 2), (b.age, 2), (b.maxAge, 2), (b.hello, 2), (b.delay, 2)] ++ r) := by
    simp [nsL, toldP]
  rw [e0, digs1]
  simp
  omega
theorem bcheck_zero {b : Bp} (hE : bcheckE b = 0) (h0 : b.kind = 0) : tellsB b = false := by
  unfold bcheckE at hE
  rw [if_neg (by omega), if_neg (by omega)] at hE
  cases ht : tellsB b
  · rfl
  · rw [if_pos (.inr ⟨h0, ht⟩)] at hE; cases hE
theorem bcheck_two {b : Bp} (hE : bcheckE b = 0) (h0 : b.kind = 2) : b = Bp.ofKind 2 := by
  unfold bcheckE at hE
  rw [if_neg (by omega), if_pos h0] at hE
  by_cases h : b = Bp.bare
  · exact h
  · rw [if_neg h] at hE; cases hE
/-- A message is read as it was written, whatever stands behind. -/
theorem bparsed_build {b : Bp} (hW : b.wf) (hE : bcheckE b = 0) (r : List Int) : bparsed (bbuildL b ++ r) = (b, 0) := by
  by_cases h2 : b.kind = 2
  · have hb := bcheck_two hE h2
    have e : bbuildL b ++ r = 66 :: 66 :: 3 :: 0 :: 0 :: 0 :: 128 :: r := by
      unfold bbuildL
      rw [if_pos h2, headL 0 128 (by decide) (by decide)]
      rfl
    have ek : kindE (66 :: 66 :: 3 :: 0 :: 0 :: 0 :: 128 :: r) = (2, 0) := by rw [kindE_mark]; rfl
    rw [e]
    unfold bparsed
    rw [ek, if_neg (by decide), if_neg (by simp [sizeN]; omega), if_pos rfl, hb]
  · obtain ⟨hF, h01, hag⟩ := bfits hW hE h2
    by_cases h1 : b.kind = 1
    · have e : bbuildL b ++ r = 66 :: 66 :: 3 :: 0 :: 0 :: 2 :: 2 :: (nsL (toldP b) ++ (0 :: r)) := by
        unfold bbuildL
        rw [if_neg h2, if_pos h1, headL 2 2 (by decide) (by decide)]
        simp
      have ek : kindE (66 :: 66 :: 3 :: 0 :: 0 :: 2 :: 2 :: (nsL (toldP b) ++ (0 :: r))) = (1, 0) := by rw [kindE_mark]; rfl
      have hlen : (nsL (toldP b)).length = 31 := by simp [nsL, toldP, digs_length]
      have fb := flagsN_bits b hF.role
      have eR : ((Bp.ofKind 1).ported ((66 :: 66 :: 3 :: 0 :: 0 :: 2 :: 2 :: (nsL (toldP b) ++ (0 :: r))).getD 7 0)).rooted ((66 :: 66 :: 3 :: 0 :: 0 :: 2 :: 2 :: (nsL (toldP b) ++ (0 :: r))).drop 7) = b := by
        have e7 : (66 :: 66 :: 3 :: 0 :: 0 :: 2 :: 2 :: (nsL (toldP b) ++ (0 :: r))).getD 7 0 = flagsN b := told_first b hF (0 :: r)
        have ed : (66 :: 66 :: 3 :: 0 :: 0 :: 2 :: 2 :: (nsL (toldP b) ++ (0 :: r))).drop 7 = nsL (toldP b) ++ (0 :: r) := rfl
        rw [e7, ed, rooted_told b _ hF]
        unfold Bp.ported
        rw [fb.2.2.1, fb.2.2.2.1, fb.2.2.2.2.1, fb.2.2.2.2.2.1, fb.2.2.2.2.2.2, ← h1]
      rw [e]
      unfold bparsed
      rw [eR, ek, if_neg (by decide), if_neg (by simp [sizeN, hlen]; omega), if_neg (by decide), if_pos rfl, if_neg (by omega)]
    · have h0 : b.kind = 0 := by omega
      have e : bbuildL b ++ r = 66 :: 66 :: 3 :: 0 :: 0 :: 0 :: 0 :: (nsL (toldP b) ++ r) := by
        unfold bbuildL
        rw [if_neg h2, if_neg h1, headL 0 0 (by decide) (by decide)]
        simp
      have ek : kindE (66 :: 66 :: 3 :: 0 :: 0 :: 0 :: 0 :: (nsL (toldP b) ++ r)) = (0, 0) := by rw [kindE_mark]; rfl
      have hlen : (nsL (toldP b)).length = 31 := by simp [nsL, toldP, digs_length]
      have ht := bcheck_zero hE h0
      have eR : (Bp.ofKind 0).rooted ((66 :: 66 :: 3 :: 0 :: 0 :: 0 :: 0 :: (nsL (toldP b) ++ r)).drop 7) = b := by
        have ed : (66 :: 66 :: 3 :: 0 :: 0 :: 0 :: 0 :: (nsL (toldP b) ++ r)).drop 7 = nsL (toldP b) ++ r := rfl
        rw [ed, rooted_told b _ hF]
        obtain ⟨a0, a1, a2, a3, a4, a5, a6, a7, a8, a9, a10, a11, a12, a13, a14, a15⟩ := b
        simp [tellsB] at ht h0
        simp [ht, h0]
      rw [e]
      unfold bparsed
      rw [eR, ek, if_neg (by decide), if_neg (by simp [sizeN, hlen]; omega), if_neg (by decide), if_neg (by decide), if_neg (by omega)]
/-- Cut short it is too short. -/
theorem bparsed_cut {b : Bp} (hW : b.wf) (hE : bcheckE b = 0) (k : Nat) (hk : k < (bbuildL b).length) : (bparsed ((bbuildL b).take k)).2 = 2 := by
  by_cases h7 : k < 7
  · have hl : ((bbuildL b).take k).length < 7 := by simp; omega
    have ek : kindE ((bbuildL b).take k) = (0, 2) := if_pos hl
    unfold bparsed
    rw [ek, if_pos (by decide)]
  · obtain ⟨j, rfl⟩ : ∃ j, k = j + 7 := ⟨k - 7, by omega⟩
    have hl : ((bbuildL b).take (j + 7)).length = j + 7 := by simp; omega
    by_cases h2 : b.kind = 2
    · have h7' : (bbuildL b).length = 7 := by
        unfold bbuildL
        rw [if_pos h2]
        simp [nsL, headP, digs_length]
      omega
    · obtain ⟨hF, h01, hag⟩ := bfits hW hE h2
      have hlen : (nsL (toldP b)).length = 31 := by simp [nsL, toldP, digs_length]
      by_cases h1 : b.kind = 1
      · have e : bbuildL b = 66 :: 66 :: 3 :: 0 :: 0 :: 2 :: 2 :: (nsL (toldP b) ++ [0]) := by
          unfold bbuildL
          rw [if_neg h2, if_pos h1, headL 2 2 (by decide) (by decide)]
          rfl
        have et : (bbuildL b).take (j + 7) = 66 :: 66 :: 3 :: 0 :: 0 :: 2 :: 2 :: ((nsL (toldP b) ++ [0]).take j) := by rw [e]; rfl
        have ek : kindE ((bbuildL b).take (j + 7)) = (1, 0) := by rw [et, kindE_mark]; rfl
        have hk' : j + 7 < 39 := by rw [e] at hk; simp [hlen] at hk; omega
        unfold bparsed
        rw [ek, if_neg (by decide), if_pos (by rw [hl]; simp [sizeN]; omega)]
      · have e : bbuildL b = 66 :: 66 :: 3 :: 0 :: 0 :: 0 :: 0 :: nsL (toldP b) := by
          unfold bbuildL
          rw [if_neg h2, if_neg h1, headL 0 0 (by decide) (by decide)]
          rfl
        have et : (bbuildL b).take (j + 7) = 66 :: 66 :: 3 :: 0 :: 0 :: 0 :: 0 :: ((nsL (toldP b)).take j) := by rw [e]; rfl
        have ek : kindE ((bbuildL b).take (j + 7)) = (0, 0) := by rw [et, kindE_mark]; rfl
        have hk' : j + 7 < 38 := by rw [e] at hk; simp [hlen] at hk; omega
        unfold bparsed
        rw [ek, if_neg (by decide), if_pos (by rw [hl]; simp [sizeN]; omega)]
end Go.Proofs.YtmakaadmjgakaaaDoor
