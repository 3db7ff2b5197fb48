/- Items compared; the document's example (awake of stage 9). -/
import Derived.Test.YtgimcapcnidjjaaT9t
namespace Go.Proofs.Ytgimcapcnidjjaa
open Go Go.RowKit

section
variable {ops : Array Oper} {rest : List Oper} {o : Oper} {a : Act} {w w' : World} {Q : Exit → Act → World → Prop}
theorem plV (hw : Region.wanted o (yielded ops a.tmps) = true) (v : Value) (hrun : (execOp a.eval o).run Try.prog w = .ok (.value v) w') (h : wpList Try.prog ops Q rest (a.put o.dst v) w') : wpList Try.prog ops Q (o :: rest) a w :=
  wpList_wanted hw fun K hK => by
    unfold Oper.wp
    rw [hrun]
    exact hK _ _ h
theorem plS (hw : Region.wanted o (yielded ops a.tmps) = true) (hrun : (execOp a.eval o).run Try.prog w = .ok .skip w') (h : wpList Try.prog ops Q rest (a.put o.dst undef) w') : wpList Try.prog ops Q (o :: rest) a w :=
  wpList_wanted hw fun K hK => by
    unfold Oper.wp
    rw [hrun]
    exact hK _ _ h
end
def eqI (p q : Pfx × Int) : Bool := eqP p.1 q.1 && (p.2 == q.2)
theorem eqI_iff {p q : Pfx × Int} : eqI p q = true ↔ p = q := by
  obtain ⟨a, b⟩ := p
  obtain ⟨c, d⟩ := q
  unfold eqI
  rw [Bool.and_eq_true, eqP_iff, beq_iff_eq, Prod.mk.injEq]
theorem eq_addr9 (W : World) (l m : List UInt8) (hl : l.length = 16) (hm : m.length = 16) (b : Bool) (hb : decide (l = m) = b) : (Op.equalIn 9998 23 (.agg (byteVals l).toArray) (.agg (byteVals m).toArray)).run Try.prog W = .ok b W := by
  subst hb
  exact eq_arrV arr16P 9996 l m hl hm W
set_option maxRecDepth 100000 in
set_option maxHeartbeats 8000000 in
theorem eql_it (p q : Pfx) (x y : Int) (f : p.addr.length = 16) (g : q.addr.length = 16) (W : World) (i j : Nat) : (do eqGuard .eql 44 (.tmp i) (.tmp j) (itV p x) (itV q y); binOp .eql 44 (itV p x) (itV q y) : Sem Value).run Try.prog W = .ok (.bool (eqI (p, x) (q, y))) W := by
  obtain ⟨s, l, n⟩ := p
  obtain ⟨t, m, k⟩ := q
  have h1 := eq_addr9 W l m f g
  unfold eqI eqP itV itR Pfx.row
  simp only at *
  generalize decide (l = m) = b at *
  obtain ⟨x0, x1, x2, x3, x4, x5, x6, x7, x8, x9, x10, x11, x12, x13, x14, x15, rfl⟩ := list16P f
  obtain ⟨y0, y1, y2, y3, y4, y5, y6, y7, y8, y9, y10, y11, y12, y13, y14, y15, rfl⟩ := list16P g
  clear f g
  have h2 := h1 b rfl
  clear h1
  unfold byteVals at *
  simp only [List.map_cons, List.map_nil, List.cons_append, List.nil_append] at *
  by_cases hn : n = k
  · subst hn
    by_cases hx : x = y
    · subst hx
      cases s <;> cases t <;> cases b <;> go_simp
    · have hx2 : (x == y) = false := beq_eq_false_iff_ne.2 hx
      cases s <;> cases t <;> cases b <;> go_simp
  · have hn2 : (n == k) = false := beq_eq_false_iff_ne.2 hn
    cases s <;> cases t <;> cases b <;> go_simp
theorem exec_eql_it {ρ : Operand → Value} {o : Oper} {W : World} (i j : Nat) (ty : TypeId) (ho : o.op = .binOp .eql 44 (.tmp i) (.tmp j) ty) (p q : Pfx) (x y : Int) (f : p.addr.length = 16) (g : q.addr.length = 16) (hx : ρ (.tmp i) = itV p x) (hy : ρ (.tmp j) = itV q y) :
    (execOp ρ o).run Try.prog W = .ok (.value (.bool (eqI (p, x) (q, y)))) W := by
  have := eql_it p q x y f g W i j
  unfold execOp
  simp only [ho, hx, hy, Sem.run_bind] at this ⊢
  rw [this]
  rfl
def exP : Pfx := ⟨false, [10, 0, 0, 0, 0, 0, 0, 0, 0, 0, 0, 0, 0, 0, 0, 0], 8⟩
def exQ : Pfx := ⟨false, [10, 1, 0, 0, 0, 0, 0, 0, 0, 0, 0, 0, 0, 0, 0, 0], 16⟩
def adr4 (a b c d : UInt8) : List UInt8 := [a, b, c, d, 0, 0, 0, 0, 0, 0, 0, 0, 0, 0, 0, 0]
theorem built_adr1 (a : UInt8) : Try.prog.built 23 [(0, .int .u8 (a.toNat : Int))] = some (byteVals (adr4 a 0 0 0)).toArray := by kernel_rfl
theorem built_adr2 (a b : UInt8) : Try.prog.built 23 [(0, .int .u8 (a.toNat : Int)), (1, .int .u8 (b.toNat : Int))] = some (byteVals (adr4 a b 0 0)).toArray := by kernel_rfl
theorem built_pfx12 (l : List UInt8) (f : l.length = 16) (n : Int) : Try.prog.built 25 [(1, arrV l), (2, .int .i64 n)] = some (Pfx.row ⟨false, l, n⟩).toArray := by
  obtain ⟨x0, x1, x2, x3, x4, x5, x6, x7, x8, x9, x10, x11, x12, x13, x14, x15, rfl⟩ := list16P f
  clear f
  kernel_rfl
theorem ex_put1 : putE false 2 [] exP = 0 ∧ putLst false 2 [] exP 1 = [(exP, 1)] := by constructor <;> kernel_rfl
theorem ex_put2 : putE false 2 [(exP, 1)] exQ = 0 ∧ putLst false 2 [(exP, 1)] exQ 2 = [(exP, 1), (exQ, 2)] := by constructor <;> kernel_rfl
theorem ex_put3 : putE false 2 [(exP, 1), (exQ, 2)] zeroP = 30 ∧ putLst false 2 [(exP, 1), (exQ, 2)] zeroP 3 = [(exP, 1), (exQ, 2)] := by constructor <;> kernel_rfl
theorem ex_look1 : lookT (adr4 10 1 2 3) [(exP, 1), (exQ, 2)] = some (exQ, 2) := by kernel_rfl
theorem ex_look2 : lookT (adr4 10 2 0 0) [(exP, 1), (exQ, 2)] = some (exP, 1) := by kernel_rfl
theorem ex_look3 : lookT (adr4 11 0 0 0) [(exP, 1), (exQ, 2)] = none := by kernel_rfl
end Go.Proofs.Ytgimcapcnidjjaa
