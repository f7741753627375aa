/-
  The head of layer 11's statements (tells). Conditions: those that each theorem names.
-/
import Derived.Test.YtffbblcohgkmjaaVlan5
namespace Go.Proofs.Ytffbblcohgkmjaa
open Go.RowKit Go.Maps
set_option linter.unusedVariables false
set_option maxRecDepth 20000

@[reducible] def hdrA (tg : Bool) (pcp vid : Int) : Array Value := #[.int .u8 0, .int .u8 0, .int .u8 0, .int .u8 0, .int .u8 0, .int .u8 0, .int .u8 0, .int .u8 0, .int .u8 0, .int .u8 0, .int .u8 0, .int .u8 0, .bool tg, .int .i64 pcp, .bool false, .int .i64 vid, .int .i64 0, .bool false]
theorem hdr_is (tg : Bool) (pcp vid : Int) : HdIs (hdrA tg pcp vid) tg pcp vid := ⟨rfl, by simp [Value.oneCell'], rfl, rfl, rfl⟩
/-- Classify at a header of a tag alone. -/
theorem Class_hdr {w : World} {g pb mb c : Nat} {ps : List Pv} {f : Int → Option (Int × Int)} (h : Vt w g pb mb ps f c) (i : Int) (tg : Bool) (pcp vid : Int) (hv : I64 vid) (hp : ∀ p ∈ ps, I64 p.pvid) (v q e : Int) (hE : classN ps f i tg pcp vid = (v, q, e)) :
    Calls Try.prog 18 #[.pointer (some ⟨g, 0, none⟩), .int .i64 i, .agg (hdrA tg pcp vid)] w fun r w' => r = .returned (.tuple #[.int .i64 v, .int .i64 q, .int .i64 e]) ∧ Below w.heap.size w w' := by
  have := Class_any h i (hdrA tg pcp vid) tg pcp vid (hdr_is tg pcp vid) hv hp
  rw [hE] at this
  exact this
set_option maxHeartbeats 4000000 in
theorem tells11_any (w : World) : Calls Try.prog 12 #[] w fun r w' => r = .returned (.bool true) ∧ Below w.heap.size w w' := by
  go_enter Try.func12, Try.ntmps12
  go_wp2_with fail
  refine (VNew_any 3 w).mono ?_
  rintro e w1 ⟨g, pb, mb, rfl, hV, hb1, hl1, hl2, hl3⟩
  have hn : portsN 3 = 3 := by decide +kernel
  rw [hn] at hV
  have hPo := hide (Ports_any hV)
  have hMe := hide (Members_any hV 1 (by simp [I64]))
  rw [show memN (newF 3) 1 = 7 by decide +kernel] at hMe
  rw [show (List.replicate 3 pvOne).length = 3 from rfl] at hPo
  go_wp2_with (first | (go_at_call 14; refine hPo.out.mono ?_; rintro e w' ⟨rfl, rfl⟩) | (go_at_call 15; refine hMe.out.mono ?_; rintro e w' ⟨rfl, rfl⟩))
  refine (Set_ok hV 5 3 1 (by decide +kernel) (by decide +kernel) (.inr (by decide +kernel)) (by decide +kernel)).mono ?_
  rintro e w2 ⟨rfl, hV2, hC2⟩
  go_wp2_with fail
  refine (SetPort_yes hV2 2 ⟨0, 5, 0, true⟩ (by decide +kernel)).mono ?_
  rintro e w3 ⟨rfl, hV3, hC3⟩
  have hbW : Hid (Below w.heap.size w w3) := hC3.below (hC2.below hb1 hb1.size (fun k e => by omega)) (by have := hb1.size; have := hC2.size; omega) (fun k e => by omega)
  have hC1 := hide (Class_hdr hV3 0 true 6 5 (by simp [I64]) (fun p hp => by simp at hp; rcases hp with rfl | rfl <;> simp [I64]) 5 6 0 (by decide +kernel))
  clear hV hV2 hC2 hC3 hPo hMe hb1
  go_wp2_with fail
  refine hC1.out.mono ?_
  rintro e w4 ⟨rfl, hb4⟩
  have hV4 := hV3.below hb4
  have hC2 := hide (Class_hdr hV4 2 false 0 0 (by simp [I64]) (fun p hp => by simp at hp; rcases hp with rfl | rfl <;> simp [I64]) 0 0 21 (by decide +kernel))
  clear hC1 hV3
  go_wp2_with fail
  refine hC2.out.mono ?_
  rintro e w5 ⟨rfl, hb5⟩
  have hV5 := hV4.below hb5
  have hM1 := hide (Member_any hV5 5 1 (by simp [I64]))
  have hM2 := hide (Member_any hV5 5 2 (by simp [I64]))
  have hPl := hide (Plain_any hV5 5 (by simp [I64]))
  rw [show (hasP (List.set (List.replicate 3 pvOne) (Int.toNat 2) ⟨0, 5, 0, true⟩).length 1 && bitAt (memN (updK (newF 3) 5 (some (3, 1))) 5) 1) = true by decide +kernel] at hM1
  rw [show (hasP (List.set (List.replicate 3 pvOne) (Int.toNat 2) ⟨0, 5, 0, true⟩).length 2 && bitAt (memN (updK (newF 3) 5 (some (3, 1))) 5) 2) = false by decide +kernel] at hM2
  rw [show plnN (updK (newF 3) 5 (some (3, 1))) 5 = 1 by decide +kernel] at hPl
  have hfin : Hid (Below w.heap.size w w5) := (hbW.out.trans (hb4.mono (by have := hbW.out.size; omega))).trans (hb5.mono (by have := hbW.out.size; have := hb4.size; omega))
  clear hC2 hV4 hV5 hb4 hb5 hbW
  go_wp2_with fail
  refine hM1.out.mono ?_
  rintro e w6 ⟨rfl, rfl⟩
  clear hM1
  go_wp2_with fail
  refine hM2.out.mono ?_
  rintro e w6 ⟨rfl, rfl⟩
  clear hM2
  go_wp2_with fail
  refine hPl.out.mono ?_
  rintro e w6 ⟨rfl, rfl⟩
  clear hPl
  go_wp2
  go_ret
  exact ⟨rfl, hfin.out⟩
end Go.Proofs.Ytffbblcohgkmjaa
