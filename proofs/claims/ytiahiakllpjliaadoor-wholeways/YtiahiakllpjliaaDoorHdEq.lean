
/-
  Two headers are the same just if each field is; addresses likewise. Condition: numbers within their kinds.
-/
import Derived.Test.YtiahiakllpjliaaDoorMacM
import Derived.DeepKeys
namespace Go.Proofs.YtiahiakllpjliaaDoor
open Go.RowKit

def I64 (n : Int) : Prop := -9223372036854775808 ≤ n ∧ n ≤ 9223372036854775807
theorem wf_u8 {n : Int} (h : 0 ≤ n ∧ n ≤ 255) : (Lit.int .u8 n).wf = true := by simp [Lit.wf, IntKind.min, IntKind.max, IntKind.signed, IntKind.bits]; omega
theorem wf_i64 {n : Int} (h : I64 n) : (Lit.int .i64 n).wf = true := by unfold I64 at h; simp [Lit.wf, IntKind.min, IntKind.max, IntKind.signed, IntKind.bits]; omega
/-- Numbers within their kinds. -/
structure Hd.wf (h : Hd) : Prop where
  bytes : h.bytes
  pcp : I64 h.pcp
  vid : I64 h.vid
  typ : I64 h.typ
def macLits (l : List Int) : List Lit := l.map (Lit.int .u8)
def Hd.lits (h : Hd) : List Lit := macLits h.dst ++ (macLits h.src ++ [.bool h.tg, .int .i64 h.pcp, .bool h.de, .int .i64 h.vid, .int .i64 h.typ, .bool h.llc])
theorem u8_lits (d : Nat) (n : Int) (h : 0 ≤ n ∧ n ≤ 255) : Tryd.prog.keyLits (d + 1) 5 [.int .u8 n] = some [.int .u8 n] := by
  simp [Program.keyLits, Tryd.underlying5, wf_u8 h]
theorem int_lits (d : Nat) (n : Int) (h : I64 n) : Tryd.prog.keyLits (d + 1) 3 [.int .i64 n] = some [.int .i64 n] := by
  simp [Program.keyLits, Tryd.underlying3, wf_i64 h]
theorem bool_lits (d : Nat) (b : Bool) : Tryd.prog.keyLits (d + 1) 4 [.bool b] = some [.bool b] := by
  simp [Program.keyLits, Tryd.underlying4]
theorem cells_u8 : Tryd.prog.cellsOf 5 = 1 := by kernel_rfl
theorem cells_mac : Tryd.prog.cellsOf 23 = 6 := by kernel_rfl
theorem cells_int : Tryd.prog.cellsOf 3 = 1 := by kernel_rfl
theorem cells_bool : Tryd.prog.cellsOf 4 = 1 := by kernel_rfl
theorem cells_hd : Tryd.prog.cellsOf 25 = 18 := by kernel_rfl
theorem mac_lits (d : Nat) (a b c e f g : Int) (h : Byte [a, b, c, e, f, g]) : Tryd.prog.keyLits (d + 2) 23 [.int .u8 a, .int .u8 b, .int .u8 c, .int .u8 e, .int .u8 f, .int .u8 g] = some (macLits [a, b, c, e, f, g]) := by
  have h1 := u8_lits d a (h a (by simp))
  have h2 := u8_lits d b (h b (by simp))
  have h3 := u8_lits d c (h c (by simp))
  have h4 := u8_lits d e (h e (by simp))
  have h5 := u8_lits d f (h f (by simp))
  have h6 := u8_lits d g (h g (by simp))
  unfold Program.keyLits
  rw [Tryd.underlying23]
  simp [cells_mac, cells_u8, List.range_succ, h1, h2, h3, h4, h5, h6, macLits]
theorem hd_lits (d : Nat) (h : Hd) (hw : h.wf) : Tryd.prog.keyLits (d + 3) 25 h.row.toList = some h.lits := by
  have h1 := mac_lits d _ _ _ _ _ _ hw.bytes.1
  have h2 := mac_lits d _ _ _ _ _ _ hw.bytes.2
  have h3 := int_lits (d + 1) _ hw.pcp
  have h4 := int_lits (d + 1) _ hw.vid
  have h5 := int_lits (d + 1) _ hw.typ
  unfold Program.keyLits
  rw [Tryd.underlying25]
  simp [cells_mac, cells_int, cells_bool, cells_hd, h1, h2, h3, h4, h5, bool_lits, Hd.lits, Hd.dst, Hd.src]
theorem macLits_inj {a b : List Int} (h : macLits a = macLits b) : a = b := by
  have := congrArg (List.map (fun | Lit.int _ n => n | _ => 0)) h
  simpa [macLits, List.map_map, Function.comp_def] using this
theorem lits_inj {a b : Hd} (h : a.lits = b.lits) : a = b := by
  obtain ⟨d0, d1, d2, d3, d4, d5, s0, s1, s2, s3, s4, s5, tg, pcp, de, vid, typ, llc⟩ := a
  obtain ⟨d0', d1', d2', d3', d4', d5', s0', s1', s2', s3', s4', s5', tg', pcp', de', vid', typ', llc'⟩ := b
  simp [Hd.lits, macLits, Hd.dst, Hd.src] at h
  simp [h]
/-- Two headers. -/
theorem hd_equal (a b : Hd) (ha : a.wf) (hb : b.wf) (w : World) : (Op.equalIn 10000 25 (.agg a.row) (.agg b.row)).run Tryd.prog w = .ok (decide (a = b)) w := by
  obtain ⟨r, h1, h2⟩ := run_equalIn_deep (P := Tryd.prog) 9997 3 25 (by kernel_rfl) w 3 3 (.agg a.row) (.agg b.row) a.lits b.lits (by kernel_rfl) (by kernel_rfl) (hd_lits 0 a ha) (hd_lits 0 b hb)
  refine h1.trans (congrArg (fun r => Result.ok r w) ?_)
  rw [Bool.eq_iff_iff, decide_eq_true_eq]
  exact h2.trans ⟨lits_inj, fun e => by rw [e]⟩
theorem hd_eql (a b : Hd) (ha : a.wf) (hb : b.wf) (w : World) : (binOp .eql 25 (.agg a.row) (.agg b.row)).run Tryd.prog w = .ok (.bool (decide (a = b))) w := by
  rw [run_eql_struct, hd_equal a b ha hb]; rfl
theorem hd_neq (a b : Hd) (ha : a.wf) (hb : b.wf) (w : World) : (binOp .neq 25 (.agg a.row) (.agg b.row)).run Tryd.prog w = .ok (.bool (!decide (a = b))) w := by
  rw [run_neq_struct, hd_equal a b ha hb]; rfl
/-- Two addresses. -/
theorem mac_equal (a b c d e f a' b' c' d' e' f' : Int) (h : Byte [a, b, c, d, e, f]) (h' : Byte [a', b', c', d', e', f']) (w : World) : (Op.equalIn 10000 23 (.agg (mac6 a b c d e f)) (.agg (mac6 a' b' c' d' e' f'))).run Tryd.prog w = .ok (decide ([a, b, c, d, e, f] = [a', b', c', d', e', f'])) w := by
  obtain ⟨r, h1, h2⟩ := run_equalIn_deep (P := Tryd.prog) 9998 2 23 (by kernel_rfl) w 2 2 (.agg (mac6 a b c d e f)) (.agg (mac6 a' b' c' d' e' f')) _ _ (by kernel_rfl) (by kernel_rfl) (mac_lits 0 a b c d e f h) (mac_lits 0 a' b' c' d' e' f' h')
  refine h1.trans (congrArg (fun r => Result.ok r w) ?_)
  rw [Bool.eq_iff_iff, decide_eq_true_eq]
  exact h2.trans ⟨macLits_inj, fun e => by rw [e]⟩
theorem mac_eql (a b c d e f a' b' c' d' e' f' : Int) (h : Byte [a, b, c, d, e, f]) (h' : Byte [a', b', c', d', e', f']) (w : World) : (binOp .eql 23 (.agg (mac6 a b c d e f)) (.agg (mac6 a' b' c' d' e' f'))).run Tryd.prog w = .ok (.bool (decide ([a, b, c, d, e, f] = [a', b', c', d', e', f']))) w := by
  rw [run_eql_struct, mac_equal _ _ _ _ _ _ _ _ _ _ _ _ h h']; rfl
theorem mac_neq (a b c d e f a' b' c' d' e' f' : Int) (h : Byte [a, b, c, d, e, f]) (h' : Byte [a', b', c', d', e', f']) (w : World) : (binOp .neq 23 (.agg (mac6 a b c d e f)) (.agg (mac6 a' b' c' d' e' f'))).run Tryd.prog w = .ok (.bool (!decide ([a, b, c, d, e, f] = [a', b', c', d', e', f']))) w := by
  rw [run_neq_struct, mac_equal _ _ _ _ _ _ _ _ _ _ _ _ h h']; rfl
theorem eqGuard_hd : Tryd.prog.eqGuardType Tryd.prog.depth 25 = false := by kernel_rfl
theorem eqGuard_mac : Tryd.prog.eqGuardType Tryd.prog.depth 23 = false := by kernel_rfl

/-- An address out of a header, whole. -/
theorem hd_dst_range {W : World} {g : Nat} {t : TypeId} {fr : Nat × Nat} {h : Hd} (hk : W.heap[g]? = some (.cells h.row t fr)) : W.rangeAt g 0 [.int .u8 h.d0, .int .u8 h.d1, .int .u8 h.d2, .int .u8 h.d3, .int .u8 h.d4, .int .u8 h.d5] := by
  intro j v hv
  rw [cell_of_row _ _ _ _ _ _ hk]
  match j, hv with
  | 0, hv => exact hv
  | 1, hv => exact hv
  | 2, hv => exact hv
  | 3, hv => exact hv
  | 4, hv => exact hv
  | 5, hv => exact hv
theorem hd_src_range {W : World} {g : Nat} {t : TypeId} {fr : Nat × Nat} {h : Hd} (hk : W.heap[g]? = some (.cells h.row t fr)) : W.rangeAt g 6 [.int .u8 h.s0, .int .u8 h.s1, .int .u8 h.s2, .int .u8 h.s3, .int .u8 h.s4, .int .u8 h.s5] := by
  intro j v hv
  rw [cell_of_row _ _ _ _ _ _ hk]
  match j, hv with
  | 0, hv => exact hv
  | 1, hv => exact hv
  | 2, hv => exact hv
  | 3, hv => exact hv
  | 4, hv => exact hv
  | 5, hv => exact hv
theorem macSize : (Tryd.prog.info? 23).map (·.size) = some 6 := by kernel_rfl
theorem wpList_load_dst {ops : Array Oper} {rest : List Oper} {o : Oper} {a : Act} {w : World} {Q : Exit → Act → World → Prop} (hw : Region.wanted o (yielded ops a.tmps) = true) (x : Operand) (ho : o.op = .load 23 x)
    (g : Nat) (hx : a.eval x = .pointer (some ⟨g, 0, none⟩)) (h : Hd) (t : TypeId) (fr : Nat × Nat) (hk : w.heap[g]? = some (.cells h.row t fr))
    (hr : wpList Tryd.prog ops Q rest (a.put o.dst (.agg (mac6 h.d0 h.d1 h.d2 h.d3 h.d4 h.d5))) w) : wpList Tryd.prog ops Q (o :: rest) a w :=
  wpList_step fun K hK => by rw [if_pos hw]; exact wp_load_mid _ x ho g 0 hx _ _ (hd_dst_range hk) Tryd.underlying23 rfl macSize (hK _ _ hr)
theorem wpList_load_src {ops : Array Oper} {rest : List Oper} {o : Oper} {a : Act} {w : World} {Q : Exit → Act → World → Prop} (hw : Region.wanted o (yielded ops a.tmps) = true) (x : Operand) (ho : o.op = .load 23 x)
    (g : Nat) (hx : a.eval x = .pointer (some ⟨g, 6, none⟩)) (h : Hd) (t : TypeId) (fr : Nat × Nat) (hk : w.heap[g]? = some (.cells h.row t fr))
    (hr : wpList Tryd.prog ops Q rest (a.put o.dst (.agg (mac6 h.s0 h.s1 h.s2 h.s3 h.s4 h.s5))) w) : wpList Tryd.prog ops Q (o :: rest) a w :=
  wpList_step fun K hK => by rw [if_pos hw]; exact wp_load_mid _ x ho g 6 hx _ _ (hd_src_range hk) Tryd.underlying23 rfl macSize (hK _ _ hr)
/-- Facts that the walk takes by itself: what a load of a whole header, or of an address in it, answers. -/
theorem load_hd {W : World} {g : Nat} {t : TypeId} {fr : Nat × Nat} {h : Hd} (hk : W.heap[g]? = some (.cells h.row t fr)) : (Instr.loadAt 25 (.pointer (some ⟨g, 0, none⟩))).run Tryd.prog W = .ok (.agg h.row) W := by
  simp only [Instr.loadAt, Instr.sureAddr, Sem.run_bind, Sem.run_pure, Result.andThen_ok, run_loadVar_row W g t _ _ fr _ hk Tryd.underlying25 rfl (hdSize h)]
theorem load_dst {W : World} {g : Nat} {t : TypeId} {fr : Nat × Nat} {h : Hd} (hk : W.heap[g]? = some (.cells h.row t fr)) : (Instr.loadAt 23 (.pointer (some ⟨g, 0, none⟩))).run Tryd.prog W = .ok (.agg (mac6 h.d0 h.d1 h.d2 h.d3 h.d4 h.d5)) W :=
  run_loadAt_mid W g 0 _ _ _ (hd_dst_range hk) Tryd.underlying23 rfl macSize
theorem load_src {W : World} {g : Nat} {t : TypeId} {fr : Nat × Nat} {h : Hd} (hk : W.heap[g]? = some (.cells h.row t fr)) : (Instr.loadAt 23 (.pointer (some ⟨g, 6, none⟩))).run Tryd.prog W = .ok (.agg (mac6 h.s0 h.s1 h.s2 h.s3 h.s4 h.s5)) W :=
  run_loadAt_mid W g 6 _ _ _ (hd_src_range hk) Tryd.underlying23 rfl macSize
end Go.Proofs.YtiahiakllpjliaaDoor
