/- Headers of IPv6 compared; the same laws where an operation is guarded. -/
import Derived.Test.YtemocbcibnccpaaSix1
import Derived.Test.YtemocbcibnccpaaStr
import Derived.ChangeKeysEq
namespace Go.Proofs.Ytemocbcibnccpaa
open Go Go.RowKit

set_option maxHeartbeats 4000000 in
theorem eq_sixteen (W : World) (x0 x1 x2 x3 x4 x5 x6 x7 x8 x9 x10 x11 x12 x13 x14 x15 : Int) :
    (Op.equalIn 9999 24 (.agg #[.int .u8 x0, .int .u8 x1, .int .u8 x2, .int .u8 x3, .int .u8 x4, .int .u8 x5, .int .u8 x6, .int .u8 x7, .int .u8 x8, .int .u8 x9, .int .u8 x10, .int .u8 x11, .int .u8 x12, .int .u8 x13, .int .u8 x14, .int .u8 x15])
      (.agg #[.int .u8 x0, .int .u8 x1, .int .u8 x2, .int .u8 x3, .int .u8 x4, .int .u8 x5, .int .u8 x6, .int .u8 x7, .int .u8 x8, .int .u8 x9, .int .u8 x10, .int .u8 x11, .int .u8 x12, .int .u8 x13, .int .u8 x14, .int .u8 x15])).run Try.prog W = .ok true W := by
  obtain ⟨i0, hi, _⟩ := info_parts info5
  have hc : Try.prog.cellsOf 5 = 1 := by kernel_rfl
  rw [show 9999 = 9998 + 1 from rfl, run_equalIn_array W 9998 _ _ Try.underlying24 hi, hc, show List.range 16 = [0, 1, 2, 3, 4, 5, 6, 7, 8, 9, 10, 11, 12, 13, 14, 15] from rfl]
  unfold Op.eqItems Op.eqItems Op.eqItems Op.eqItems Op.eqItems Op.eqItems Op.eqItems Op.eqItems Op.eqItems Op.eqItems Op.eqItems Op.eqItems Op.eqItems Op.eqItems Op.eqItems Op.eqItems Op.eqItems
  go_simp
set_option maxRecDepth 100000 in
set_option maxHeartbeats 8000000 in
theorem eql_hdr6 (h : Hdr6) (f : h.wide) (W : World) (i j : Nat) : (do eqGuard .eql 26 (.tmp i) (.tmp j) h.val h.val; binOp .eql 26 h.val h.val : Sem Value).run Try.prog W = .ok (.bool true) W := by
  obtain ⟨cls, flow, len, next, ttl, src, dst⟩ := h
  obtain ⟨x0, x1, x2, x3, x4, x5, x6, x7, x8, x9, x10, x11, x12, x13, x14, x15, rfl⟩ := list16 f.s
  obtain ⟨y0, y1, y2, y3, y4, y5, y6, y7, y8, y9, y10, y11, y12, y13, y14, y15, rfl⟩ := list16 f.d
  clear f
  unfold Hdr6.val Hdr6.cells Hdr6.row byteVals
  simp only [List.map_cons, List.map_nil, List.cons_append, List.nil_append]
  have h1 := eq_sixteen W
  go_simp
set_option maxRecDepth 100000 in
set_option maxHeartbeats 8000000 in
theorem neq_hdr6 (h : Hdr6) (f : h.wide) (W : World) (i j : Nat) : (do eqGuard .neq 26 (.tmp i) (.tmp j) h.val h.val; binOp .neq 26 h.val h.val : Sem Value).run Try.prog W = .ok (.bool false) W := by
  obtain ⟨cls, flow, len, next, ttl, src, dst⟩ := h
  obtain ⟨x0, x1, x2, x3, x4, x5, x6, x7, x8, x9, x10, x11, x12, x13, x14, x15, rfl⟩ := list16 f.s
  obtain ⟨y0, y1, y2, y3, y4, y5, y6, y7, y8, y9, y10, y11, y12, y13, y14, y15, rfl⟩ := list16 f.d
  clear f
  unfold Hdr6.val Hdr6.cells Hdr6.row byteVals
  simp only [List.map_cons, List.map_nil, List.cons_append, List.nil_append]
  have h1 := eq_sixteen W
  go_simp
theorem exec_eql_hdr6 {ρ : Operand → Value} {o : Oper} {W : World} (i j : Nat) (ty : TypeId) (ho : o.op = .binOp .eql 26 (.tmp i) (.tmp j) ty) (h : Hdr6) (f : h.wide) (hx : ρ (.tmp i) = h.val) (hy : ρ (.tmp j) = h.val) :
    (execOp ρ o).run Try.prog W = .ok (.value (.bool true)) W := by
  have := eql_hdr6 h f W i j
  unfold execOp
  simp only [ho, hx, hy, Sem.run_bind] at this ⊢
  rw [this]
  rfl
theorem exec_neq_hdr6 {ρ : Operand → Value} {o : Oper} {W : World} (i j : Nat) (ty : TypeId) (ho : o.op = .binOp .neq 26 (.tmp i) (.tmp j) ty) (h : Hdr6) (f : h.wide) (hx : ρ (.tmp i) = h.val) (hy : ρ (.tmp j) = h.val) :
    (execOp ρ o).run Try.prog W = .ok (.value (.bool false)) W := by
  have := neq_hdr6 h f W i j
  unfold execOp
  simp only [ho, hx, hy, Sem.run_bind] at this ⊢
  rw [this]
  rfl
section
variable {ops : Array Oper} {rest : List Oper} {o : Oper} {a : Act} {w : World} {Q : Exit → Act → World → Prop}
theorem wpList_load_hdr6G (hw : Region.wanted o (yielded ops a.tmps) = true) (x : Operand) (ho : o.op = .load 26 x) (g : Nat) (h : Hdr6) (f : h.wide) (hx : a.eval x = .pointer (some ⟨g, 0, none⟩)) (hg : w.heap[g]? = some (.cells h.cells 26 (0, 0)))
    (hR : wpList Try.prog ops Q rest (a.put o.dst h.val) w) : wpList Try.prog ops Q (o :: rest) a w :=
  wpList_wanted hw fun K hK => by
    unfold Oper.wp
    rw [exec_load_hdr6 x ho g h f hx hg]
    exact hK _ _ hR
theorem wpList_eql_hdr6G (hw : Region.wanted o (yielded ops a.tmps) = true) (i j : Nat) (ty : TypeId) (ho : o.op = .binOp .eql 26 (.tmp i) (.tmp j) ty) (h : Hdr6) (f : h.wide) (hx : a.eval (.tmp i) = h.val) (hy : a.eval (.tmp j) = h.val)
    (hR : wpList Try.prog ops Q rest (a.put o.dst (.bool true)) w) : wpList Try.prog ops Q (o :: rest) a w :=
  wpList_wanted hw fun K hK => by
    unfold Oper.wp
    rw [exec_eql_hdr6 i j ty ho h f hx hy]
    exact hK _ _ hR
theorem wpList_neq_hdr6G (hw : Region.wanted o (yielded ops a.tmps) = true) (i j : Nat) (ty : TypeId) (ho : o.op = .binOp .neq 26 (.tmp i) (.tmp j) ty) (h : Hdr6) (f : h.wide) (hx : a.eval (.tmp i) = h.val) (hy : a.eval (.tmp j) = h.val)
    (hR : wpList Try.prog ops Q rest (a.put o.dst (.bool false)) w) : wpList Try.prog ops Q (o :: rest) a w :=
  wpList_wanted hw fun K hK => by
    unfold Oper.wp
    rw [exec_neq_hdr6 i j ty ho h f hx hy]
    exact hK _ _ hR
end
/-- A cell of a header in its box is written. -/
theorem hdr6_set {w : World} {g : Nat} {h h' : Hdr6} (hg : w.heap[g]? = some (.cells h.cells 26 (0, 0))) (i : Nat) (v : Value) (he : h.row.set i v = h'.row) : (w.setCell ⟨g, i, none⟩ v).heap[g]? = some (.cells h'.cells 26 (0, 0)) := by
  rw [heap_setCell_same w g i _ _ _ hg]
  unfold Hdr6.cells
  rw [← he]
  simp
end Go.Proofs.Ytemocbcibnccpaa
