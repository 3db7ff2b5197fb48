/- Prefixes compared: laws for the walks. -/
import Derived.Test.YtecefdocemkliaaPre1
namespace Go.Proofs.Ytecefdocemkliaa
open Go Go.RowKit

theorem eq_addrP (W : World) (l m : List UInt8) (hl : l.length = 16) (hm : m.length = 16) (b : Bool) (hb : decide (l = m) = b) : (Op.equalIn 9999 30 (.agg (byteVals l).toArray) (.agg (byteVals m).toArray)).run Try.prog W = .ok b W := by
  subst hb
  exact eq_arrV arr16P 9997 l m hl hm W
set_option maxRecDepth 100000 in
set_option maxHeartbeats 8000000 in
theorem eql_pfx (p q : Pfx) (f : p.addr.length = 16) (g : q.addr.length = 16) (W : World) (i j : Nat) : (do eqGuard .eql 32 (.tmp i) (.tmp j) p.val q.val; binOp .eql 32 p.val q.val : Sem Value).run Try.prog W = .ok (.bool (eqP p q)) W := by
  obtain ⟨s, l, n⟩ := p
  obtain ⟨t, m, k⟩ := q
  have h1 := eq_addrP W l m f g
  unfold eqP Pfx.val Pfx.cells Pfx.row
  simp only at *
  generalize decide (l = m) = b at *
  obtain ⟨x0, x1, x2, x3, x4, x5, x6, x7, x8, x9, x10, x11, x12, x13, x14, x15, rfl⟩ := list16P f
  obtain ⟨y0, y1, y2, y3, y4, y5, y6, y7, y8, y9, y10, y11, y12, y13, y14, y15, rfl⟩ := list16P g
  clear f g
  have h2 := h1 b rfl
  clear h1
  unfold byteVals at *
  simp only [List.map_cons, List.map_nil, List.cons_append, List.nil_append] at *
  by_cases hn : n = k
  · subst hn
    cases s <;> cases t <;> cases b <;> go_simp
  · have hn2 : (n == k) = false := beq_eq_false_iff_ne.2 hn
    cases s <;> cases t <;> cases b <;> go_simp
set_option maxRecDepth 100000 in
set_option maxHeartbeats 8000000 in
theorem neq_pfx (p q : Pfx) (f : p.addr.length = 16) (g : q.addr.length = 16) (W : World) (i j : Nat) : (do eqGuard .neq 32 (.tmp i) (.tmp j) p.val q.val; binOp .neq 32 p.val q.val : Sem Value).run Try.prog W = .ok (.bool (!eqP p q)) W := by
  obtain ⟨s, l, n⟩ := p
  obtain ⟨t, m, k⟩ := q
  have h1 := eq_addrP W l m f g
  unfold eqP Pfx.val Pfx.cells Pfx.row
  simp only at *
  generalize decide (l = m) = b at *
  obtain ⟨x0, x1, x2, x3, x4, x5, x6, x7, x8, x9, x10, x11, x12, x13, x14, x15, rfl⟩ := list16P f
  obtain ⟨y0, y1, y2, y3, y4, y5, y6, y7, y8, y9, y10, y11, y12, y13, y14, y15, rfl⟩ := list16P g
  clear f g
  have h2 := h1 b rfl
  clear h1
  unfold byteVals at *
  simp only [List.map_cons, List.map_nil, List.cons_append, List.nil_append] at *
  by_cases hn : n = k
  · subst hn
    cases s <;> cases t <;> cases b <;> go_simp
  · have hn2 : (n == k) = false := beq_eq_false_iff_ne.2 hn
    cases s <;> cases t <;> cases b <;> go_simp
theorem exec_eql_pfx {ρ : Operand → Value} {o : Oper} {W : World} (i j : Nat) (ty : TypeId) (ho : o.op = .binOp .eql 32 (.tmp i) (.tmp j) ty) (p q : Pfx) (f : p.addr.length = 16) (g : q.addr.length = 16) (hx : ρ (.tmp i) = p.val) (hy : ρ (.tmp j) = q.val) :
    (execOp ρ o).run Try.prog W = .ok (.value (.bool (eqP p q))) W := by
  have := eql_pfx p q f g W i j
  unfold execOp
  simp only [ho, hx, hy, Sem.run_bind] at this ⊢
  rw [this]
  rfl
theorem exec_neq_pfx {ρ : Operand → Value} {o : Oper} {W : World} (i j : Nat) (ty : TypeId) (ho : o.op = .binOp .neq 32 (.tmp i) (.tmp j) ty) (p q : Pfx) (f : p.addr.length = 16) (g : q.addr.length = 16) (hx : ρ (.tmp i) = p.val) (hy : ρ (.tmp j) = q.val) :
    (execOp ρ o).run Try.prog W = .ok (.value (.bool (!eqP p q))) W := by
  have := neq_pfx p q f g W i j
  unfold execOp
  simp only [ho, hx, hy, Sem.run_bind] at this ⊢
  rw [this]
  rfl
/-- A prefix is built of its parts. -/
theorem built_pfx (p : Pfx) (f : p.addr.length = 16) : Try.prog.built 32 [(0, .bool p.six), (1, arrV p.addr), (2, .int .i64 p.len)] = some p.cells := by
  obtain ⟨s, l, n⟩ := p
  obtain ⟨x0, x1, x2, x3, x4, x5, x6, x7, x8, x9, x10, x11, x12, x13, x14, x15, rfl⟩ := list16P f
  clear f
  kernel_rfl
theorem built_pfx2 (s : Bool) (l : List UInt8) (f : l.length = 16) : Try.prog.built 32 [(0, .bool s), (1, arrV l)] = some (Pfx.cells ⟨s, l, 0⟩) := by
  obtain ⟨x0, x1, x2, x3, x4, x5, x6, x7, x8, x9, x10, x11, x12, x13, x14, x15, rfl⟩ := list16P f
  clear f
  kernel_rfl
theorem built_pfx02 (s : Bool) (n : Int) : Try.prog.built 32 [(0, .bool s), (2, .int .i64 n)] = some (Pfx.cells ⟨s, List.replicate 16 0, n⟩) := by kernel_rfl
theorem built_pfx0 : Try.prog.built 32 [] = some (Pfx.cells ⟨false, List.replicate 16 0, 0⟩) := by kernel_rfl
section
variable {ops : Array Oper} {rest : List Oper} {o : Oper} {a : Act} {w : World} {Q : Exit → Act → World → Prop}
theorem wpList_build_pfx (hgd : o.guard = none) (x0 x1 x2 : Operand) (ho : o.op = .build 32 #[(0, x0), (1, x1), (2, x2)]) (p : Pfx) (f : p.addr.length = 16) (h0 : a.eval x0 = .bool p.six) (h1 : a.eval x1 = arrV p.addr) (h2 : a.eval x2 = .int .i64 p.len)
    (hR : wpList Try.prog ops Q rest (a.put o.dst p.val) w) : wpList Try.prog ops Q (o :: rest) a w :=
  wpList_plain hgd fun K hK => by
    unfold Oper.wp execOp
    have hb := run_build (P := Try.prog) w 32 #[(0, a.eval x0), (1, a.eval x1), (2, a.eval x2)] p.cells (by rw [h0, h1, h2]; exact built_pfx p f)
    simp only [ho, List.map_toArray, List.map_cons, List.map_nil, Sem.run_bind, hb, Result.andThen_ok]
    exact hK _ _ hR
theorem wpList_build_pfx2 (hgd : o.guard = none) (x0 x1 : Operand) (ho : o.op = .build 32 #[(0, x0), (1, x1)]) (s : Bool) (l : List UInt8) (f : l.length = 16) (h0 : a.eval x0 = .bool s) (h1 : a.eval x1 = arrV l)
    (hR : wpList Try.prog ops Q rest (a.put o.dst (Pfx.val ⟨s, l, 0⟩)) w) : wpList Try.prog ops Q (o :: rest) a w :=
  wpList_plain hgd fun K hK => by
    unfold Oper.wp execOp
    have hb := run_build (P := Try.prog) w 32 #[(0, a.eval x0), (1, a.eval x1)] (Pfx.cells ⟨s, l, 0⟩) (by rw [h0, h1]; exact built_pfx2 s l f)
    simp only [ho, List.map_toArray, List.map_cons, List.map_nil, Sem.run_bind, hb, Result.andThen_ok]
    exact hK _ _ hR
theorem wpList_build_pfx02 (hgd : o.guard = none) (x0 x2 : Operand) (ho : o.op = .build 32 #[(0, x0), (2, x2)]) (s : Bool) (n : Int) (h0 : a.eval x0 = .bool s) (h2 : a.eval x2 = .int .i64 n)
    (hR : wpList Try.prog ops Q rest (a.put o.dst (Pfx.val ⟨s, List.replicate 16 0, n⟩)) w) : wpList Try.prog ops Q (o :: rest) a w :=
  wpList_plain hgd fun K hK => by
    unfold Oper.wp execOp
    have hb := run_build (P := Try.prog) w 32 #[(0, a.eval x0), (2, a.eval x2)] (Pfx.cells ⟨s, List.replicate 16 0, n⟩) (by rw [h0, h2]; exact built_pfx02 s n)
    simp only [ho, List.map_toArray, List.map_cons, List.map_nil, Sem.run_bind, hb, Result.andThen_ok]
    exact hK _ _ hR
theorem wpList_build_pfx0 (hgd : o.guard = none) (ho : o.op = .build 32 #[])
    (hR : wpList Try.prog ops Q rest (a.put o.dst (Pfx.val ⟨false, List.replicate 16 0, 0⟩)) w) : wpList Try.prog ops Q (o :: rest) a w :=
  wpList_plain hgd fun K hK => by
    unfold Oper.wp execOp
    have hb := run_build (P := Try.prog) w 32 #[] (Pfx.cells ⟨false, List.replicate 16 0, 0⟩) built_pfx0
    simp only [ho, List.map_toArray, List.map_nil, Sem.run_bind, hb, Result.andThen_ok]
    exact hK _ _ hR
theorem wpList_eql_pfxB (hgd : o.guard = none) (i j : Nat) (ty : TypeId) (ho : o.op = .binOp .eql 32 (.tmp i) (.tmp j) ty) (p q : Pfx) (f : p.addr.length = 16) (g : q.addr.length = 16) (b : Bool) (hb : eqP p q = b) (hx : a.eval (.tmp i) = p.val) (hy : a.eval (.tmp j) = q.val)
    (hR : wpList Try.prog ops Q rest (a.put o.dst (.bool b)) w) : wpList Try.prog ops Q (o :: rest) a w := by
  subst hb
  exact wpList_plain hgd fun K hK => by
    unfold Oper.wp
    rw [exec_eql_pfx i j ty ho p q f g hx hy]
    exact hK _ _ hR
theorem wpList_eql_pfxGB (hw : Region.wanted o (yielded ops a.tmps) = true) (i j : Nat) (ty : TypeId) (ho : o.op = .binOp .eql 32 (.tmp i) (.tmp j) ty) (p q : Pfx) (f : p.addr.length = 16) (g : q.addr.length = 16) (b : Bool) (hb : eqP p q = b) (hx : a.eval (.tmp i) = p.val) (hy : a.eval (.tmp j) = q.val)
    (hR : wpList Try.prog ops Q rest (a.put o.dst (.bool b)) w) : wpList Try.prog ops Q (o :: rest) a w := by
  subst hb
  exact wpList_wanted hw fun K hK => by
    unfold Oper.wp
    rw [exec_eql_pfx i j ty ho p q f g hx hy]
    exact hK _ _ hR
theorem wpList_neq_pfxB (hgd : o.guard = none) (i j : Nat) (ty : TypeId) (ho : o.op = .binOp .neq 32 (.tmp i) (.tmp j) ty) (p q : Pfx) (f : p.addr.length = 16) (g : q.addr.length = 16) (b : Bool) (hb : (!eqP p q) = b) (hx : a.eval (.tmp i) = p.val) (hy : a.eval (.tmp j) = q.val)
    (hR : wpList Try.prog ops Q rest (a.put o.dst (.bool b)) w) : wpList Try.prog ops Q (o :: rest) a w := by
  subst hb
  exact wpList_plain hgd fun K hK => by
    unfold Oper.wp
    rw [exec_neq_pfx i j ty ho p q f g hx hy]
    exact hK _ _ hR
theorem wpList_neq_pfxGB (hw : Region.wanted o (yielded ops a.tmps) = true) (i j : Nat) (ty : TypeId) (ho : o.op = .binOp .neq 32 (.tmp i) (.tmp j) ty) (p q : Pfx) (f : p.addr.length = 16) (g : q.addr.length = 16) (b : Bool) (hb : (!eqP p q) = b) (hx : a.eval (.tmp i) = p.val) (hy : a.eval (.tmp j) = q.val)
    (hR : wpList Try.prog ops Q rest (a.put o.dst (.bool b)) w) : wpList Try.prog ops Q (o :: rest) a w := by
  subst hb
  exact wpList_wanted hw fun K hK => by
    unfold Oper.wp
    rw [exec_neq_pfx i j ty ho p q f g hx hy]
    exact hK _ _ hR
theorem wpList_load_pfxG (hw : Region.wanted o (yielded ops a.tmps) = true) (x : Operand) (ho : o.op = .load 32 x) (g : Nat) (p : Pfx) (f : p.addr.length = 16) (hx : a.eval x = .pointer (some ⟨g, 0, none⟩)) (hg : PfxT w g p)
    (hR : wpList Try.prog ops Q rest (a.put o.dst p.val) w) : wpList Try.prog ops Q (o :: rest) a w :=
  wpList_wanted hw fun K hK => by
    unfold Oper.wp
    rw [exec_load_pfx x ho g p f hx hg]
    exact hK _ _ hR
theorem wpList_load_arrRG (hw : Region.wanted o (yielded ops a.tmps) = true) (x : Operand) (ho : o.op = .load 30 x) (b k : Nat) (l : List UInt8) (hl : l.length = 16) (hx : a.eval x = .pointer (some ⟨b, k, none⟩)) (hc : w.rangeAt b k (byteVals l))
    (hR : wpList Try.prog ops Q rest (a.put o.dst (arrV l)) w) : wpList Try.prog ops Q (o :: rest) a w :=
  wpList_wanted hw fun K hK => by
    unfold Oper.wp
    rw [exec_load_arrR x ho b k l hl hx hc]
    exact hK _ _ hR
end
end Go.Proofs.Ytecefdocemkliaa
