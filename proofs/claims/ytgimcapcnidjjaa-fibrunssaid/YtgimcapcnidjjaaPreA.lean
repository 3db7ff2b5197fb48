/- A prefix whole, by value, into and out of a box, and compared: laws for the walks. Prefixes compared: laws for the walks. The small functions of package prefix. -/
import Derived.Test.YtgimcapcnidjjaaM8
import Derived.Test.YtgimcapcnidjjaaArr
import Derived.Test.YtgimcapcnidjjaaStr
import Derived.Test.YtgimcapcnidjjaaBaseMore
import Derived.Test.YtgimcapcnidjjaaArrI
import Derived.Test.YtgimcapcnidjjaaReg
import Derived.Lib.Hide
namespace Go.Proofs.Ytgimcapcnidjjaa
open Go Go.RowKit

/-- The cells of a prefix. -/
def Pfx.row (p : Pfx) : List Value := .bool p.six :: (byteVals p.addr ++ [.int .i64 p.len])
def Pfx.cells (p : Pfx) : Array Value := p.row.toArray
def Pfx.val (p : Pfx) : Value := .agg p.cells
def pfx0 : Pfx := ⟨false, [0, 0, 0, 0, 0, 0, 0, 0, 0, 0, 0, 0, 0, 0, 0, 0], 0⟩
def PfxT (w : World) (g : Nat) (p : Pfx) : Prop := w.heap[g]? = some (.cells p.cells 25 (0, 0))
theorem pfx_info : (Try.prog.info? 25).map (·.size) = some 18 := by kernel_rfl
theorem arr16P : IsArr 23 16 := ⟨by kernel_rfl, Try.underlying23, by kernel_rfl⟩
theorem pfx_size {p : Pfx} (f : p.addr.length = 16) : p.cells.size = 18 := by
  unfold Pfx.cells Pfx.row
  simp [byteVals_length, f]
theorem pfx_one (p : Pfx) : p.cells.all (·.oneCell') = true := by
  refine all_oneCell_toArray fun v hv => ?_
  unfold Pfx.row at hv
  simp only [List.mem_cons, List.mem_append] at hv
  rcases hv with rfl | hv | rfl | hv
  · rfl
  · exact byteVals_oneCell _ _ hv
  · rfl
  · cases hv
theorem pfx_infoC {p : Pfx} (f : p.addr.length = 16) : (Try.prog.info? 25).map (·.size) = some p.cells.size := by rw [pfx_size f]; exact pfx_info
theorem PfxT.lt {w : World} {g : Nat} {p : Pfx} (h : PfxT w g p) : g < w.heap.size := (Array.getElem?_eq_some_iff.1 h).1
theorem PfxT.below {w w' : World} {g : Nat} {p : Pfx} (h : PfxT w g p) {B : Nat} (hb : Below B w w') (hB : g < B) : PfxT w' g p := (hb.block g hB).trans h
theorem PfxT.up {w w' : World} {g : Nat} {p : Pfx} (h : PfxT w g p) (hb : Below w.heap.size w w') : PfxT w' g p := h.below hb h.lt
theorem PfxT.al {w : World} {g : Nat} {p : Pfx} (h : PfxT w g p) (o : Obj) : PfxT (w.alloc o) g p := h.up ((Below.refl _ _).alloc (Nat.le_refl _) _)
theorem PfxT.setOther {w : World} {g : Nat} {p : Pfx} (h : PfxT w g p) {k : Nat} (hk : g ≠ k) (i : Nat) (v : Value) : PfxT (w.setCell ⟨k, i, none⟩ v) g p := (Below.heap_setCell w _ v g (fun e => hk e)).trans h
theorem PfxT.rowOther {w : World} {g : Nat} {p : Pfx} (h : PfxT w g p) {k : Nat} (hk : g ≠ k) (cs : Array Value) : PfxT (w.setRow k cs) g p := (setRow_other w k g cs hk).trans h
theorem pfxT_new (w : World) (p : Pfx) : PfxT (w.alloc (.cells p.cells 25)) w.heap.size p := heap_alloc_new w _
theorem pfxT_setRow {w : World} {g : Nat} {p : Pfx} (h : PfxT w g p) (q : Pfx) : PfxT (w.setRow g q.cells) g q := setRow_heap _ _ _ _ _ _ h
theorem PfxT.cell {w : World} {g : Nat} {p : Pfx} (h : PfxT w g p) (j : Nat) : w.cell? ⟨g, j, none⟩ = p.row[j]? := by
  rw [cell_of_row w g j _ _ _ h]
  simp [Pfx.cells]
theorem PfxT.frozen {w : World} {g : Nat} {p : Pfx} (h : PfxT w g p) (i : Nat) : w.frozen? ⟨g, i, none⟩ = false := frozen_of_row w g i _ _ h
theorem PfxT.six {w : World} {g : Nat} {p : Pfx} (h : PfxT w g p) : w.cell? ⟨g, 0, none⟩ = some (.bool p.six) := by rw [h.cell]; rfl
theorem PfxT.len {w : World} {g : Nat} {p : Pfx} (h : PfxT w g p) (f : p.addr.length = 16) : w.cell? ⟨g, 17, none⟩ = some (.int .i64 p.len) := by
  rw [h.cell]
  unfold Pfx.row
  rw [List.getElem?_cons_succ, List.getElem?_append_right (by rw [byteVals_length, f]; omega), byteVals_length, f]
  rfl
theorem PfxT.byte {w : World} {g : Nat} {p : Pfx} (h : PfxT w g p) (i : Nat) (hi : i < p.addr.length) : w.cell? ⟨g, i + 1, none⟩ = some (.int .u8 (byteAt p.addr i)) := by
  rw [h.cell]
  unfold Pfx.row
  rw [List.getElem?_cons_succ, List.getElem?_append_left (by rw [byteVals_length]; exact hi)]
  exact byteVals_getElem? _ _ hi
theorem PfxT.range {w : World} {g : Nat} {p : Pfx} (h : PfxT w g p) : w.rangeAt g 1 (byteVals p.addr) := by
  intro j v hv
  have hq : j < p.addr.length := by rw [← byteVals_length]; exact (List.getElem?_eq_some_iff.1 hv).1
  rw [Nat.add_comm, h.byte j hq, ← hv, byteVals_getElem? _ _ hq]
theorem PfxT.set {w : World} {g : Nat} {p q : Pfx} (h : PfxT w g p) (i : Nat) (v : Value) (he : p.row.set i v = q.row) : PfxT (w.setCell ⟨g, i, none⟩ v) g q := by
  unfold PfxT
  rw [heap_setCell_same w g i _ _ _ h]
  unfold Pfx.cells
  rw [← he]
  simp
theorem PfxT.setByte {w : World} {g : Nat} {p : Pfx} (h : PfxT w g p) (i : Nat) (hi : i < p.addr.length) (x : Int) (b : UInt8) (hx : x = (b.toNat : Int)) : PfxT (w.setCell ⟨g, i + 1, none⟩ (.int .u8 x)) g ⟨p.six, p.addr.set i b, p.len⟩ := by
  subst hx
  refine h.set _ _ ?_
  unfold Pfx.row
  rw [List.set_cons_succ, List.set_append_left _ _ (by rw [byteVals_length]; exact hi), byteVals_set]
theorem PfxT.setLen {w : World} {g : Nat} {p : Pfx} (h : PfxT w g p) (f : p.addr.length = 16) (n : Int) : PfxT (w.setCell ⟨g, 17, none⟩ (.int .i64 n)) g ⟨p.six, p.addr, n⟩ := by
  refine h.set _ _ ?_
  unfold Pfx.row
  rw [List.set_cons_succ, List.set_append_right _ _ (by rw [byteVals_length, f]; omega), byteVals_length, f]
  rfl
theorem PfxT.setSix {w : World} {g : Nat} {p : Pfx} (h : PfxT w g p) (b : Bool) : PfxT (w.setCell ⟨g, 0, none⟩ (.bool b)) g ⟨b, p.addr, p.len⟩ := h.set _ _ rfl
section
variable {ops : Array Oper} {rest : List Oper} {o : Oper} {a : Act} {w : World} {Q : Exit → Act → World → Prop}
theorem wpList_store_pfx (hgd : o.guard = none) (x y : Operand) (ho : o.op = .store 25 x y) (g : Nat) (p : Pfx) (f : p.addr.length = 16) (old : Array Value) (hx : a.eval x = .pointer (some ⟨g, 0, none⟩)) (hy : a.eval y = .agg p.cells)
    (hg : w.heap[g]? = some (.cells old 25 (0, 0))) (hold : old.size = 18)
    (hR : wpList Try.prog ops Q rest (a.put o.dst undef) (w.setRow g p.cells)) : wpList Try.prog ops Q (o :: rest) a w :=
  wpList_store_row hgd _ x y ho g p.cells hx hy _ old hg (pfx_infoC f) (by rw [hold, pfx_size f]) (pfx_one p) hR
theorem wpList_store_newP (hgd : o.guard = none) (x y : Operand) (ho : o.op = .store 25 x y) (p : Pfx) (f : p.addr.length = 16) (old : Array Value) (hx : a.eval x = .pointer (some ⟨w.heap.size, 0, none⟩)) (hy : a.eval y = .agg p.cells) (hold : old.size = 18)
    (hR : wpList Try.prog ops Q rest (a.put o.dst undef) (w.alloc (.cells p.cells 25))) : wpList Try.prog ops Q (o :: rest) a (w.alloc (.cells old 25)) := by
  refine wpList_store_pfx hgd x y ho w.heap.size p f old hx hy (heap_alloc_new w _) hold ?_
  rw [World.setRow_alloc_new]
  exact hR
theorem wpList_load_pfx (hgd : o.guard = none) (x : Operand) (ho : o.op = .load 25 x) (g : Nat) (p : Pfx) (f : p.addr.length = 16) (hx : a.eval x = .pointer (some ⟨g, 0, none⟩)) (hg : PfxT w g p)
    (hR : wpList Try.prog ops Q rest (a.put o.dst p.val) w) : wpList Try.prog ops Q (o :: rest) a w :=
  wpList_load_row hgd _ x ho g hx _ _ _ _ hg Try.underlying25 rfl (pfx_infoC f) hR
theorem wpList_load_arrR (hgd : o.guard = none) (x : Operand) (ho : o.op = .load 23 x) (b k : Nat) (l : List UInt8) (hl : l.length = 16) (hx : a.eval x = .pointer (some ⟨b, k, none⟩)) (hc : w.rangeAt b k (byteVals l))
    (hR : wpList Try.prog ops Q rest (a.put o.dst (arrV l)) w) : wpList Try.prog ops Q (o :: rest) a w :=
  wpList_load_mid hgd _ x ho b k hx (byteVals l) _ hc Try.underlying23 rfl (by rw [byteVals_length, hl]; exact arr16P.info) hR
end
theorem results_pfx {fn : Func} {u : Tmp} (h : fn.results = #[.cell u 25]) (tmps : Array Value) (w : World) (g : Nat) (p : Pfx) (f : p.addr.length = 16) (hp : tmps.getD u undef = .pointer (some ⟨g, 0, none⟩))
    (hg : PfxT w g p) : (results fn tmps).run Try.prog w = .ok p.val w :=
  results_cell_row h tmps w g _ _ _ _ hp hg Try.underlying25 rfl (pfx_infoC f)
theorem results_pfx2 {fn : Func} {u v : Tmp} (h : fn.results = #[.cell u 25, .tmp v]) (tmps : Array Value) (w : World) (g : Nat) (p : Pfx) (f : p.addr.length = 16) (hp : tmps.getD u undef = .pointer (some ⟨g, 0, none⟩))
    (hg : PfxT w g p) : (results fn tmps).run Try.prog w = .ok (.tuple #[p.val, tmps.getD v undef]) w := by
  rw [results_cell_tmp h, hp]
  have := run_loadVar_row (P := Try.prog) w g _ _ p.cells (0, 0) _ hg Try.underlying25 rfl (pfx_infoC f)
  simp only [asAddr, Sem.run_pure, Result.andThen_ok, this]
  rfl
theorem exec_load_pfx {ρ : Operand → Value} {o : Oper} {W : World} (x : Operand) (ho : o.op = .load 25 x) (g : Nat) (p : Pfx) (f : p.addr.length = 16) (hx : ρ x = .pointer (some ⟨g, 0, none⟩)) (hg : PfxT W g p) :
    (execOp ρ o).run Try.prog W = .ok (.value p.val) W := by
  unfold execOp
  simp only [ho, hx, Instr.loadAt, Instr.sureAddr, Sem.run_bind, Sem.run_pure, Result.andThen_ok, run_loadVar_row (P := Try.prog) W g _ _ p.cells (0, 0) _ hg Try.underlying25 rfl (pfx_infoC f)]
  rfl
theorem exec_load_arrR {ρ : Operand → Value} {o : Oper} {W : World} (x : Operand) (ho : o.op = .load 23 x) (b k : Nat) (l : List UInt8) (hl : l.length = 16) (hx : ρ x = .pointer (some ⟨b, k, none⟩)) (hc : W.rangeAt b k (byteVals l)) :
    (execOp ρ o).run Try.prog W = .ok (.value (arrV l)) W := by
  unfold execOp
  simp only [ho, hx, Instr.loadAt, Instr.sureAddr, Sem.run_bind, Sem.run_pure, Result.andThen_ok, run_loadVar_mid (P := Try.prog) W b k _ (byteVals l) _ hc Try.underlying23 rfl (by rw [byteVals_length, hl]; exact arr16P.info)]
  rfl
theorem list16P {l : List UInt8} (h : l.length = 16) : ∃ x0 x1 x2 x3 x4 x5 x6 x7 x8 x9 x10 x11 x12 x13 x14 x15, l = [x0, x1, x2, x3, x4, x5, x6, x7, x8, x9, x10, x11, x12, x13, x14, x15] := by
  match l, h with
  | [x0, x1, x2, x3, x4, x5, x6, x7, x8, x9, x10, x11, x12, x13, x14, x15], _ => exact ⟨_, _, _, _, _, _, _, _, _, _, _, _, _, _, _, _, rfl⟩
/-! Prefixes compared. -/
def eqP (p q : Pfx) : Bool := (p.six == q.six) && decide (p.addr = q.addr) && decide (p.len = q.len)
theorem eqP_iff {p q : Pfx} : eqP p q = true ↔ p = q := by
  obtain ⟨a, b, c⟩ := p
  obtain ⟨d, e, f⟩ := q
  unfold eqP
  simp [and_assoc]
theorem eqP_self (p : Pfx) : eqP p p = true := eqP_iff.2 rfl
theorem eqP_no {p q : Pfx} (h : p ≠ q) : eqP p q = false := by
  cases e : eqP p q
  · rfl
  · exact absurd (eqP_iff.1 e) h
end Go.Proofs.Ytgimcapcnidjjaa
namespace Go.Proofs.Ytgimcapcnidjjaa
open Go Go.RowKit

theorem eq_addrP (W : World) (l m : List UInt8) (hl : l.length = 16) (hm : m.length = 16) (b : Bool) (hb : decide (l = m) = b) : (Op.equalIn 9999 23 (.agg (byteVals l).toArray) (.agg (byteVals m).toArray)).run Try.prog W = .ok b W := by
  subst hb
  exact eq_arrV arr16P 9997 l m hl hm W
set_option maxRecDepth 100000 in
set_option maxHeartbeats 8000000 in
theorem eql_pfx (p q : Pfx) (f : p.addr.length = 16) (g : q.addr.length = 16) (W : World) (i j : Nat) : (do eqGuard .eql 25 (.tmp i) (.tmp j) p.val q.val; binOp .eql 25 p.val q.val : Sem Value).run Try.prog W = .ok (.bool (eqP p q)) W := by
  obtain ⟨s, l, n⟩ := p
  obtain ⟨t, m, k⟩ := q
  have h1 := eq_addrP W l m f g
  unfold eqP Pfx.val Pfx.cells Pfx.row
  simp only at *
  generalize decide (l = m) = b at *
  obtain ⟨x0, x1, x2, x3, x4, x5, x6, x7, x8, x9, x10, x11, x12, x13, x14, x15, rfl⟩ := list16P f
  obtain ⟨y0, y1, y2, y3, y4, y5, y6, y7, y8, y9, y10, y11, y12, y13, y14, y15, rfl⟩ := list16P g
  clear f g
  have h2 := h1 b rfl
  clear h1
  unfold byteVals at *
  simp only [List.map_cons, List.map_nil, List.cons_append, List.nil_append] at *
  by_cases hn : n = k
  · subst hn
    cases s <;> cases t <;> cases b <;> go_simp
  · have hn2 : (n == k) = false := beq_eq_false_iff_ne.2 hn
    cases s <;> cases t <;> cases b <;> go_simp
set_option maxRecDepth 100000 in
set_option maxHeartbeats 8000000 in
theorem neq_pfx (p q : Pfx) (f : p.addr.length = 16) (g : q.addr.length = 16) (W : World) (i j : Nat) : (do eqGuard .neq 25 (.tmp i) (.tmp j) p.val q.val; binOp .neq 25 p.val q.val : Sem Value).run Try.prog W = .ok (.bool (!eqP p q)) W := by
  obtain ⟨s, l, n⟩ := p
  obtain ⟨t, m, k⟩ := q
  have h1 := eq_addrP W l m f g
  unfold eqP Pfx.val Pfx.cells Pfx.row
  simp only at *
  generalize decide (l = m) = b at *
  obtain ⟨x0, x1, x2, x3, x4, x5, x6, x7, x8, x9, x10, x11, x12, x13, x14, x15, rfl⟩ := list16P f
  obtain ⟨y0, y1, y2, y3, y4, y5, y6, y7, y8, y9, y10, y11, y12, y13, y14, y15, rfl⟩ := list16P g
  clear f g
  have h2 := h1 b rfl
  clear h1
  unfold byteVals at *
  simp only [List.map_cons, List.map_nil, List.cons_append, List.nil_append] at *
  by_cases hn : n = k
  · subst hn
    cases s <;> cases t <;> cases b <;> go_simp
  · have hn2 : (n == k) = false := beq_eq_false_iff_ne.2 hn
    cases s <;> cases t <;> cases b <;> go_simp
theorem exec_eql_pfx {ρ : Operand → Value} {o : Oper} {W : World} (i j : Nat) (ty : TypeId) (ho : o.op = .binOp .eql 25 (.tmp i) (.tmp j) ty) (p q : Pfx) (f : p.addr.length = 16) (g : q.addr.length = 16) (hx : ρ (.tmp i) = p.val) (hy : ρ (.tmp j) = q.val) :
    (execOp ρ o).run Try.prog W = .ok (.value (.bool (eqP p q))) W := by
  have := eql_pfx p q f g W i j
  unfold execOp
  simp only [ho, hx, hy, Sem.run_bind] at this ⊢
  rw [this]
  rfl
theorem exec_neq_pfx {ρ : Operand → Value} {o : Oper} {W : World} (i j : Nat) (ty : TypeId) (ho : o.op = .binOp .neq 25 (.tmp i) (.tmp j) ty) (p q : Pfx) (f : p.addr.length = 16) (g : q.addr.length = 16) (hx : ρ (.tmp i) = p.val) (hy : ρ (.tmp j) = q.val) :
    (execOp ρ o).run Try.prog W = .ok (.value (.bool (!eqP p q))) W := by
  have := neq_pfx p q f g W i j
  unfold execOp
  simp only [ho, hx, hy, Sem.run_bind] at this ⊢
  rw [this]
  rfl
/-- A prefix is built of its parts. -/
theorem built_pfx (p : Pfx) (f : p.addr.length = 16) : Try.prog.built 25 [(0, .bool p.six), (1, arrV p.addr), (2, .int .i64 p.len)] = some p.cells := by
  obtain ⟨s, l, n⟩ := p
  obtain ⟨x0, x1, x2, x3, x4, x5, x6, x7, x8, x9, x10, x11, x12, x13, x14, x15, rfl⟩ := list16P f
  clear f
  kernel_rfl
theorem built_pfx2 (s : Bool) (l : List UInt8) (f : l.length = 16) : Try.prog.built 25 [(0, .bool s), (1, arrV l)] = some (Pfx.cells ⟨s, l, 0⟩) := by
  obtain ⟨x0, x1, x2, x3, x4, x5, x6, x7, x8, x9, x10, x11, x12, x13, x14, x15, rfl⟩ := list16P f
  clear f
  kernel_rfl
theorem built_pfx02 (s : Bool) (n : Int) : Try.prog.built 25 [(0, .bool s), (2, .int .i64 n)] = some (Pfx.cells ⟨s, List.replicate 16 0, n⟩) := by kernel_rfl
theorem built_pfx0 : Try.prog.built 25 [] = some (Pfx.cells ⟨false, List.replicate 16 0, 0⟩) := by kernel_rfl
section
variable {ops : Array Oper} {rest : List Oper} {o : Oper} {a : Act} {w : World} {Q : Exit → Act → World → Prop}
theorem wpList_build_pfx (hgd : o.guard = none) (x0 x1 x2 : Operand) (ho : o.op = .build 25 #[(0, x0), (1, x1), (2, x2)]) (p : Pfx) (f : p.addr.length = 16) (h0 : a.eval x0 = .bool p.six) (h1 : a.eval x1 = arrV p.addr) (h2 : a.eval x2 = .int .i64 p.len)
    (hR : wpList Try.prog ops Q rest (a.put o.dst p.val) w) : wpList Try.prog ops Q (o :: rest) a w :=
  wpList_plain hgd fun K hK => by
    unfold Oper.wp execOp
    have hb := run_build (P := Try.prog) w 25 #[(0, a.eval x0), (1, a.eval x1), (2, a.eval x2)] p.cells (by rw [h0, h1, h2]; exact built_pfx p f)
    simp only [ho, List.map_toArray, List.map_cons, List.map_nil, Sem.run_bind, hb, Result.andThen_ok]
    exact hK _ _ hR
theorem wpList_build_pfx2 (hgd : o.guard = none) (x0 x1 : Operand) (ho : o.op = .build 25 #[(0, x0), (1, x1)]) (s : Bool) (l : List UInt8) (f : l.length = 16) (h0 : a.eval x0 = .bool s) (h1 : a.eval x1 = arrV l)
    (hR : wpList Try.prog ops Q rest (a.put o.dst (Pfx.val ⟨s, l, 0⟩)) w) : wpList Try.prog ops Q (o :: rest) a w :=
  wpList_plain hgd fun K hK => by
    unfold Oper.wp execOp
    have hb := run_build (P := Try.prog) w 25 #[(0, a.eval x0), (1, a.eval x1)] (Pfx.cells ⟨s, l, 0⟩) (by rw [h0, h1]; exact built_pfx2 s l f)
    simp only [ho, List.map_toArray, List.map_cons, List.map_nil, Sem.run_bind, hb, Result.andThen_ok]
    exact hK _ _ hR
theorem wpList_build_pfx02 (hgd : o.guard = none) (x0 x2 : Operand) (ho : o.op = .build 25 #[(0, x0), (2, x2)]) (s : Bool) (n : Int) (h0 : a.eval x0 = .bool s) (h2 : a.eval x2 = .int .i64 n)
    (hR : wpList Try.prog ops Q rest (a.put o.dst (Pfx.val ⟨s, List.replicate 16 0, n⟩)) w) : wpList Try.prog ops Q (o :: rest) a w :=
  wpList_plain hgd fun K hK => by
    unfold Oper.wp execOp
    have hb := run_build (P := Try.prog) w 25 #[(0, a.eval x0), (2, a.eval x2)] (Pfx.cells ⟨s, List.replicate 16 0, n⟩) (by rw [h0, h2]; exact built_pfx02 s n)
    simp only [ho, List.map_toArray, List.map_cons, List.map_nil, Sem.run_bind, hb, Result.andThen_ok]
    exact hK _ _ hR
theorem wpList_build_pfx0 (hgd : o.guard = none) (ho : o.op = .build 25 #[])
    (hR : wpList Try.prog ops Q rest (a.put o.dst (Pfx.val ⟨false, List.replicate 16 0, 0⟩)) w) : wpList Try.prog ops Q (o :: rest) a w :=
  wpList_plain hgd fun K hK => by
    unfold Oper.wp execOp
    have hb := run_build (P := Try.prog) w 25 #[] (Pfx.cells ⟨false, List.replicate 16 0, 0⟩) built_pfx0
    simp only [ho, List.map_toArray, List.map_nil, Sem.run_bind, hb, Result.andThen_ok]
    exact hK _ _ hR
theorem wpList_eql_pfxB (hgd : o.guard = none) (i j : Nat) (ty : TypeId) (ho : o.op = .binOp .eql 25 (.tmp i) (.tmp j) ty) (p q : Pfx) (f : p.addr.length = 16) (g : q.addr.length = 16) (b : Bool) (hb : eqP p q = b) (hx : a.eval (.tmp i) = p.val) (hy : a.eval (.tmp j) = q.val)
    (hR : wpList Try.prog ops Q rest (a.put o.dst (.bool b)) w) : wpList Try.prog ops Q (o :: rest) a w := by
  subst hb
  exact wpList_plain hgd fun K hK => by
    unfold Oper.wp
    rw [exec_eql_pfx i j ty ho p q f g hx hy]
    exact hK _ _ hR
theorem wpList_eql_pfxGB (hw : Region.wanted o (yielded ops a.tmps) = true) (i j : Nat) (ty : TypeId) (ho : o.op = .binOp .eql 25 (.tmp i) (.tmp j) ty) (p q : Pfx) (f : p.addr.length = 16) (g : q.addr.length = 16) (b : Bool) (hb : eqP p q = b) (hx : a.eval (.tmp i) = p.val) (hy : a.eval (.tmp j) = q.val)
    (hR : wpList Try.prog ops Q rest (a.put o.dst (.bool b)) w) : wpList Try.prog ops Q (o :: rest) a w := by
  subst hb
  exact wpList_wanted hw fun K hK => by
    unfold Oper.wp
    rw [exec_eql_pfx i j ty ho p q f g hx hy]
    exact hK _ _ hR
theorem wpList_neq_pfxB (hgd : o.guard = none) (i j : Nat) (ty : TypeId) (ho : o.op = .binOp .neq 25 (.tmp i) (.tmp j) ty) (p q : Pfx) (f : p.addr.length = 16) (g : q.addr.length = 16) (b : Bool) (hb : (!eqP p q) = b) (hx : a.eval (.tmp i) = p.val) (hy : a.eval (.tmp j) = q.val)
    (hR : wpList Try.prog ops Q rest (a.put o.dst (.bool b)) w) : wpList Try.prog ops Q (o :: rest) a w := by
  subst hb
  exact wpList_plain hgd fun K hK => by
    unfold Oper.wp
    rw [exec_neq_pfx i j ty ho p q f g hx hy]
    exact hK _ _ hR
theorem wpList_neq_pfxGB (hw : Region.wanted o (yielded ops a.tmps) = true) (i j : Nat) (ty : TypeId) (ho : o.op = .binOp .neq 25 (.tmp i) (.tmp j) ty) (p q : Pfx) (f : p.addr.length = 16) (g : q.addr.length = 16) (b : Bool) (hb : (!eqP p q) = b) (hx : a.eval (.tmp i) = p.val) (hy : a.eval (.tmp j) = q.val)
    (hR : wpList Try.prog ops Q rest (a.put o.dst (.bool b)) w) : wpList Try.prog ops Q (o :: rest) a w := by
  subst hb
  exact wpList_wanted hw fun K hK => by
    unfold Oper.wp
    rw [exec_neq_pfx i j ty ho p q f g hx hy]
    exact hK _ _ hR
theorem wpList_load_pfxG (hw : Region.wanted o (yielded ops a.tmps) = true) (x : Operand) (ho : o.op = .load 25 x) (g : Nat) (p : Pfx) (f : p.addr.length = 16) (hx : a.eval x = .pointer (some ⟨g, 0, none⟩)) (hg : PfxT w g p)
    (hR : wpList Try.prog ops Q rest (a.put o.dst p.val) w) : wpList Try.prog ops Q (o :: rest) a w :=
  wpList_wanted hw fun K hK => by
    unfold Oper.wp
    rw [exec_load_pfx x ho g p f hx hg]
    exact hK _ _ hR
theorem wpList_load_arrRG (hw : Region.wanted o (yielded ops a.tmps) = true) (x : Operand) (ho : o.op = .load 23 x) (b k : Nat) (l : List UInt8) (hl : l.length = 16) (hx : a.eval x = .pointer (some ⟨b, k, none⟩)) (hc : w.rangeAt b k (byteVals l))
    (hR : wpList Try.prog ops Q rest (a.put o.dst (arrV l)) w) : wpList Try.prog ops Q (o :: rest) a w :=
  wpList_wanted hw fun K hK => by
    unfold Oper.wp
    rw [exec_load_arrR x ho b k l hl hx hc]
    exact hK _ _ hR
end
end Go.Proofs.Ytgimcapcnidjjaa
namespace Go.Proofs.Ytgimcapcnidjjaa
open Go Go.RowKit

theorem within_any (n m : Int) (w : World) : Calls Try.prog 71 #[.int .i64 n, .int .i64 m] w fun e w' => e = .returned (.int .i64 (max 0 (min n m))) ∧ w' = w := by
  go_enter Try.func71, Try.ntmps71
  go_wp2
  all_goals (go_ret; refine ⟨?_, rfl⟩; first | rfl | (refine congrArg Ending.returned (congrArg (Value.int .i64) (?_ : (_ : Int) = _)); omega))
theorem plongest_any (b : Bool) (w : World) : Calls Try.prog 72 #[.bool b] w fun e w' => e = .returned (.int .i64 (mostP b)) ∧ w' = w := by
  cases b <;> (go_enter Try.func72, Try.ntmps72; go_wp2; go_ret; exact ⟨rfl, rfl⟩)
theorem shl_mask : ∀ k : Fin 9, (255 * 2 ^ (8 - k.val) % 256 : Int) = ((256 - 2 ^ (8 - k.val) : Nat) : Int) := by decide +kernel
theorem mask_any (n i g : Nat) (hn : n ≤ 128) (hi : i < 16) (w : World) (hg : w.cell? ⟨g, 0, none⟩ = some (.int .i64 (n : Int))) :
    Calls Try.prog 78 #[.int .i64 (i : Int), .pointer (some ⟨g, 0, none⟩)] w fun e w' => e = .returned (.int .u8 ((256 - 2 ^ (8 - min 8 (n - 8 * i)) : Nat) : Int)) ∧ w' = w := by
  have hW := Lib.hid (fun m => within_any m 8)
  go_enter Try.func78, Try.ntmps78
  go_wp2_with (go_at_call 71; refine (hW.out _ _).mono ?_; rintro e w' ⟨rfl, rfl⟩)
  go_ret
  refine ⟨?_, rfl⟩
  have e1 : (8 - max 0 (min ((n : Int) - 8 * (i : Int)) 8)).toNat = 8 - min 8 (n - 8 * i) := by omega
  have e2 : ((255 * 2 ^ (8 - max 0 (min ((n : Int) - 8 * (i : Int)) 8)).toNat % 256 : Int)) = ((256 - 2 ^ (8 - min 8 (n - 8 * i)) : Nat) : Int) := by
    rw [e1]
    exact shl_mask ⟨min 8 (n - 8 * i), by omega⟩
  show Ending.returned (.int .u8 (255 * 2 ^ (8 - max 0 (min ((n : Int) - 8 * (i : Int)) 8)).toNat % 256)) = _
  rw [e2]
/-- What is kept of a byte, by a mask. -/
theorem and_mask : ∀ (k : Fin 9) (x : Fin 256), bits BinOp.and IntKind.u8 (x.val : Int) ((256 - 2 ^ (8 - k.val) : Nat) : Int) = ((x.val / 2 ^ (8 - k.val) * 2 ^ (8 - k.val) : Nat) : Int) := by decide +kernel
theorem maskB_and (x : UInt8) (k : Nat) (hk : k ≤ 8) : bits BinOp.and IntKind.u8 (x.toNat : Int) ((256 - 2 ^ (8 - k) : Nat) : Int) = ((maskB x k).toNat : Int) := by
  rw [maskB_toNat]
  exact and_mask ⟨k, by omega⟩ ⟨x.toNat, UInt8.toNat_lt x⟩
/-- An address whose first bytes are masked. -/
def mfill (l : List UInt8) (n k : Nat) : List UInt8 := (maskL l n).take k ++ l.drop k
theorem mfill_length (l : List UInt8) (n k : Nat) (hl : l.length = 16) (hk : k ≤ 16) : (mfill l n k).length = 16 := by
  unfold mfill
  rw [List.length_append, List.length_take, List.length_drop, maskL_length]
  omega
theorem mfill_full (l : List UInt8) (n : Nat) (hl : l.length = 16) : mfill l n 16 = maskL l n := by
  unfold mfill
  rw [List.take_of_length_le (by rw [maskL_length]; omega), List.drop_of_length_le (by omega), List.append_nil]
theorem mfill_at (l : List UInt8) (n k : Nat) (hk : k < 16) : (mfill l n k).getD k 0 = l.getD k 0 := by
  unfold mfill
  rw [List.getD, List.getD, List.getElem?_append_right (by rw [List.length_take, maskL_length]; omega), List.length_take, maskL_length, List.getElem?_drop, show k + (k - min k 16) = k by omega]
theorem maskL_at (l : List UInt8) (n k : Nat) (hk : k < 16) : (maskL l n)[k]? = some (maskB (l.getD k 0) (min 8 (n - 8 * k))) := by
  unfold maskL
  rw [List.getElem?_map, List.getElem?_range hk]
  rfl
theorem mfill_set (l : List UInt8) (n k : Nat) (hl : l.length = 16) (hk : k < 16) : (mfill l n k).set k (maskB (l.getD k 0) (min 8 (n - 8 * k))) = mfill l n (k + 1) := by
  apply List.ext_getElem?
  intro j
  unfold mfill
  rw [List.getElem?_set, List.getElem?_append, List.getElem?_append, List.length_append, List.length_take, List.length_take, List.length_drop, maskL_length, hl]
  by_cases h : k = j
  · subst h
    rw [if_pos rfl, if_pos (by omega), if_pos (by omega), List.getElem?_take, if_pos (by omega), maskL_at l n k hk]
  · rw [if_neg h]
    by_cases h2 : j < k
    · rw [if_pos (by omega), if_pos (by omega), List.getElem?_take, List.getElem?_take, if_pos h2, if_pos (by omega)]
    · rw [if_neg (by omega), if_neg (by omega), List.getElem?_drop, List.getElem?_drop]
      congr 1
      omega
/-- What is held in head. -/
def HeadZ (w : World) (n : Nat) (l : List UInt8) (W : World) : Prop := ArrT 23 W w.heap.size l ∧ W.heap[w.heap.size + 1]? = some (.cells #[.int .i64 (n : Int)] 3 (0, 0)) ∧ ArrT 23 W (w.heap.size + 1 + 1) (List.replicate 16 0) ∧ Below w.heap.size w W
theorem HeadZ.drew {w : World} {n : Nat} {l : List UInt8} {W : World} (h : HeadZ w n l W) : HeadZ w n l W.drew := ⟨h.1, h.2.1, h.2.2.1, h.2.2.2.drew⟩
theorem zero16P : (#[.int .u8 0, .int .u8 0, .int .u8 0, .int .u8 0, .int .u8 0, .int .u8 0, .int .u8 0, .int .u8 0, .int .u8 0, .int .u8 0, .int .u8 0, .int .u8 0, .int .u8 0, .int .u8 0, .int .u8 0, .int .u8 0] : Array Value) = (byteVals (List.replicate 16 0)).toArray := rfl
set_option maxRecDepth 100000 in
set_option maxHeartbeats 4000000 in
theorem head_any (l : List UInt8) (n : Nat) (w : World) (hl : l.length = 16) (hn : n ≤ 128) :
    Calls Try.prog 73 #[arrV l, .int .i64 (n : Int)] w fun r w' => r = .returned (arrV (maskL l n)) ∧ Below w.heap.size w w' := by
  generalize hW : (((w.alloc (.cells (byteVals l).toArray 23)).alloc (.cells #[.int .i64 (n : Int)] 3)).alloc (.cells (byteVals (List.replicate 16 0)).toArray 23)) = W
  have z : HeadZ w n l W := by
    refine ⟨?_, ?_, ?_, ?_⟩
    · rw [← hW]; exact ((arrT_new w l).allocO _).allocO _
    · rw [← hW]
      have := heap_alloc_new (w.alloc (.cells (byteVals l).toArray 23)) (.cells #[.int .i64 (n : Int)] 3)
      rw [World.size_alloc] at this
      exact (Below.heap_alloc _ _ _ (by simp)).trans this
    · have := arrT_new (t := 23) ((w.alloc (.cells (byteVals l).toArray 23)).alloc (.cells #[.int .i64 (n : Int)] 3)) (List.replicate 16 0)
      rw [World.size_alloc, World.size_alloc, hW] at this
      exact this
    · rw [← hW]; exact (((Below.refl _ _).alloc (Nat.le_refl _) _).alloc (by simp) _).alloc (by simp; omega) _
  have Z := Lib.hid z
  rw [← hW, ← zero16P] at Z
  clear hW z
  clear W
  rw [show arrV l = .agg (byteVals l).toArray from rfl]
  have HN := Lib.hid hn
  have HL := Lib.hid hl
  clear hl hn
  go_enter Try.func73, Try.ntmps73
  go_wp2
  go_loopw [8] (fun i wr => ∃ k : Nat, k ≤ 16 ∧ i = .int .i64 (k : Int) ∧ HeadZ w n (mfill l n k) wr) (fun i _ => 16 - (intOf i).toNat)
  case atStart => exact ⟨0, by omega, rfl, Z.out⟩
  case round =>
    obtain ⟨k, hk, rfl, hz⟩ := hrel
    clear Z
    by_cases hlt : k < 16
    · have hlt2 : (k : Int) < 16 := by omega
      have c1 := hz.1.cell k (by rw [mfill_length l n k HL.out hk]; omega)
      have f1 := hz.1.frozen k
      have HM := Lib.hid (fun W h => mask_any n k (w.heap.size + 1) HN.out hlt W h)
      have c2 : wr.cell? ⟨w.heap.size + 1, 0, none⟩ = some (.int .i64 (n : Int)) := by rw [cell_of_row wr _ 0 _ _ _ hz.2.1]; rfl
      rw [show byteAt (mfill l n k) k = ((l.getD k 0).toNat : Int) by unfold byteAt; rw [mfill_at l n k hlt]] at c1
      have hst := hz.1.store k ((maskB (l.getD k 0) (min 8 (n - 8 * k))).toNat : Int) _ rfl
      rw [mfill_set l n k HL.out hlt] at hst
      have hst2 : HeadZ w n (mfill l n (k + 1)) (wr.setCell ⟨w.heap.size, k, none⟩ (.int .u8 ((maskB (l.getD k 0) (min 8 (n - 8 * k))).toNat : Int))) :=
        ⟨hst, (Below.heap_setCell wr _ _ _ (fun e => by simp at e)).trans hz.2.1, hz.2.2.1.setOther (by omega) _ _, hz.2.2.2.setCell (by simp) _⟩
      have hand := maskB_and (l.getD k 0) (min 8 (n - 8 * k)) (by omega)
      have HZ := Lib.hid hst2
      clear hz hst hst2
      generalize l.getD k 0 = X at *
      generalize 256 - 2 ^ (8 - min 8 (n - 8 * k)) = M at *
      generalize maskB X (min 8 (n - 8 * k)) = Y at *
      go_wp2_with fail
      go_region_with (go_at_call 78; refine (HM.out _ (show wr.drew.cell? _ = _ from c2)).mono ?_; rintro e w' ⟨rfl, rfl⟩)
      all_goals go_wp2
      all_goals go_roundw
      case rel => exact ⟨k + 1, by omega, by go_num, HZ.out.drew⟩
      case measure => simp [intOf]; omega
      case rel => exact ⟨k + 1, by omega, by go_num, HZ.out.drew⟩
      case measure => simp [intOf]; omega
    · have h16 : k = 16 := by omega
      subst h16
      rw [mfill_full l n HL.out] at hz
      have HM := Lib.hid (maskL_length l n)
      have HZ := Lib.hid hz
      clear hz
      generalize hLL : maskL l n = L at *
      have HLL := Lib.hid hLL
      clear hLL
      go_wp2_with (first | (refine wpList_load_arrT rfl (.tmp 2) rfl w.heap.size L (by rw [HM.out]; exact arr16P) rfl HZ.out.1 ?_) | (refine wpList_store_arrT rfl (.tmp 4) (.tmp 20) rfl (w.heap.size + 1 + 1) L (by rw [HM.out]; exact arr16P) _ rfl rfl HZ.out.2.2.1 (by rw [HM.out]; rfl) ?_))
      exact bodyPost_ret (results_arrT Try.results73 _ _ (w.heap.size + 1 + 1) L (by rw [HM.out]; exact arr16P) rfl (arrT_setRow HZ.out.2.2.1 _)) rfl ⟨by rw [HLL.out], below_setRow HZ.out.2.2.2 (by omega) _⟩
end Go.Proofs.Ytgimcapcnidjjaa
