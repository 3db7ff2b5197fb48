/- A prefix whole, by value, into and out of a box, and compared: laws for the walks. -/
import Derived.Test.YtecefdocemkliaaM8
import Derived.Test.YtecefdocemkliaaArr
import Derived.Test.YtecefdocemkliaaStr
import Derived.Test.YtecefdocemkliaaBaseMore
namespace Go.Proofs.Ytecefdocemkliaa
open Go Go.RowKit

/-- The cells of a prefix. -/
def Pfx.row (p : Pfx) : List Value := .bool p.six :: (byteVals p.addr ++ [.int .i64 p.len])
def Pfx.cells (p : Pfx) : Array Value := p.row.toArray
def Pfx.val (p : Pfx) : Value := .agg p.cells
def pfx0 : Pfx := ⟨false, [0, 0, 0, 0, 0, 0, 0, 0, 0, 0, 0, 0, 0, 0, 0, 0], 0⟩
def PfxT (w : World) (g : Nat) (p : Pfx) : Prop := w.heap[g]? = some (.cells p.cells 32 (0, 0))
theorem pfx_info : (Try.prog.info? 32).map (·.size) = some 18 := by kernel_rfl
theorem arr16P : IsArr 30 16 := ⟨by kernel_rfl, Try.underlying30, by kernel_rfl⟩
theorem pfx_size {p : Pfx} (f : p.addr.length = 16) : p.cells.size = 18 := by
  unfold Pfx.cells Pfx.row
  simp [byteVals_length, f]
theorem pfx_one (p : Pfx) : p.cells.all (·.oneCell') = true := by
  refine all_oneCell_toArray fun v hv => ?_
  unfold Pfx.row at hv
  simp only [List.mem_cons, List.mem_append] at hv
  rcases hv with rfl | hv | rfl | hv
  · rfl
  · exact byteVals_oneCell _ _ hv
  · rfl
  · cases hv
theorem pfx_infoC {p : Pfx} (f : p.addr.length = 16) : (Try.prog.info? 32).map (·.size) = some p.cells.size := by rw [pfx_size f]; exact pfx_info
theorem PfxT.lt {w : World} {g : Nat} {p : Pfx} (h : PfxT w g p) : g < w.heap.size := (Array.getElem?_eq_some_iff.1 h).1
theorem PfxT.below {w w' : World} {g : Nat} {p : Pfx} (h : PfxT w g p) {B : Nat} (hb : Below B w w') (hB : g < B) : PfxT w' g p := (hb.block g hB).trans h
theorem PfxT.up {w w' : World} {g : Nat} {p : Pfx} (h : PfxT w g p) (hb : Below w.heap.size w w') : PfxT w' g p := h.below hb h.lt
theorem PfxT.al {w : World} {g : Nat} {p : Pfx} (h : PfxT w g p) (o : Obj) : PfxT (w.alloc o) g p := h.up ((Below.refl _ _).alloc (Nat.le_refl _) _)
theorem PfxT.setOther {w : World} {g : Nat} {p : Pfx} (h : PfxT w g p) {k : Nat} (hk : g ≠ k) (i : Nat) (v : Value) : PfxT (w.setCell ⟨k, i, none⟩ v) g p := (Below.heap_setCell w _ v g (fun e => hk e)).trans h
theorem PfxT.rowOther {w : World} {g : Nat} {p : Pfx} (h : PfxT w g p) {k : Nat} (hk : g ≠ k) (cs : Array Value) : PfxT (w.setRow k cs) g p := (setRow_other w k g cs hk).trans h
theorem pfxT_new (w : World) (p : Pfx) : PfxT (w.alloc (.cells p.cells 32)) w.heap.size p := heap_alloc_new w _
theorem pfxT_setRow {w : World} {g : Nat} {p : Pfx} (h : PfxT w g p) (q : Pfx) : PfxT (w.setRow g q.cells) g q := setRow_heap _ _ _ _ _ _ h
theorem PfxT.cell {w : World} {g : Nat} {p : Pfx} (h : PfxT w g p) (j : Nat) : w.cell? ⟨g, j, none⟩ = p.row[j]? := by
  rw [cell_of_row w g j _ _ _ h]
  simp [Pfx.cells]
theorem PfxT.frozen {w : World} {g : Nat} {p : Pfx} (h : PfxT w g p) (i : Nat) : w.frozen? ⟨g, i, none⟩ = false := frozen_of_row w g i _ _ h
theorem PfxT.six {w : World} {g : Nat} {p : Pfx} (h : PfxT w g p) : w.cell? ⟨g, 0, none⟩ = some (.bool p.six) := by rw [h.cell]; rfl
theorem PfxT.len {w : World} {g : Nat} {p : Pfx} (h : PfxT w g p) (f : p.addr.length = 16) : w.cell? ⟨g, 17, none⟩ = some (.int .i64 p.len) := by
  rw [h.cell]
  unfold Pfx.row
  rw [List.getElem?_cons_succ, List.getElem?_append_right (by rw [byteVals_length, f]; omega), byteVals_length, f]
  rfl
theorem PfxT.byte {w : World} {g : Nat} {p : Pfx} (h : PfxT w g p) (i : Nat) (hi : i < p.addr.length) : w.cell? ⟨g, i + 1, none⟩ = some (.int .u8 (byteAt p.addr i)) := by
  rw [h.cell]
  unfold Pfx.row
  rw [List.getElem?_cons_succ, List.getElem?_append_left (by rw [byteVals_length]; exact hi)]
  exact byteVals_getElem? _ _ hi
theorem PfxT.range {w : World} {g : Nat} {p : Pfx} (h : PfxT w g p) : w.rangeAt g 1 (byteVals p.addr) := by
  intro j v hv
  have hq : j < p.addr.length := by rw [← byteVals_length]; exact (List.getElem?_eq_some_iff.1 hv).1
  rw [Nat.add_comm, h.byte j hq, ← hv, byteVals_getElem? _ _ hq]
theorem PfxT.set {w : World} {g : Nat} {p q : Pfx} (h : PfxT w g p) (i : Nat) (v : Value) (he : p.row.set i v = q.row) : PfxT (w.setCell ⟨g, i, none⟩ v) g q := by
  unfold PfxT
  rw [heap_setCell_same w g i _ _ _ h]
  unfold Pfx.cells
  rw [← he]
  simp
theorem PfxT.setByte {w : World} {g : Nat} {p : Pfx} (h : PfxT w g p) (i : Nat) (hi : i < p.addr.length) (x : Int) (b : UInt8) (hx : x = (b.toNat : Int)) : PfxT (w.setCell ⟨g, i + 1, none⟩ (.int .u8 x)) g ⟨p.six, p.addr.set i b, p.len⟩ := by
  subst hx
  refine h.set _ _ ?_
  unfold Pfx.row
  rw [List.set_cons_succ, List.set_append_left _ _ (by rw [byteVals_length]; exact hi), byteVals_set]
theorem PfxT.setLen {w : World} {g : Nat} {p : Pfx} (h : PfxT w g p) (f : p.addr.length = 16) (n : Int) : PfxT (w.setCell ⟨g, 17, none⟩ (.int .i64 n)) g ⟨p.six, p.addr, n⟩ := by
  refine h.set _ _ ?_
  unfold Pfx.row
  rw [List.set_cons_succ, List.set_append_right _ _ (by rw [byteVals_length, f]; omega), byteVals_length, f]
  rfl
theorem PfxT.setSix {w : World} {g : Nat} {p : Pfx} (h : PfxT w g p) (b : Bool) : PfxT (w.setCell ⟨g, 0, none⟩ (.bool b)) g ⟨b, p.addr, p.len⟩ := h.set _ _ rfl
section
variable {ops : Array Oper} {rest : List Oper} {o : Oper} {a : Act} {w : World} {Q : Exit → Act → World → Prop}
theorem wpList_store_pfx (hgd : o.guard = none) (x y : Operand) (ho : o.op = .store 32 x y) (g : Nat) (p : Pfx) (f : p.addr.length = 16) (old : Array Value) (hx : a.eval x = .pointer (some ⟨g, 0, none⟩)) (hy : a.eval y = .agg p.cells)
    (hg : w.heap[g]? = some (.cells old 32 (0, 0))) (hold : old.size = 18)
    (hR : wpList Try.prog ops Q rest (a.put o.dst undef) (w.setRow g p.cells)) : wpList Try.prog ops Q (o :: rest) a w :=
  wpList_store_row hgd _ x y ho g p.cells hx hy _ old hg (pfx_infoC f) (by rw [hold, pfx_size f]) (pfx_one p) hR
theorem wpList_store_newP (hgd : o.guard = none) (x y : Operand) (ho : o.op = .store 32 x y) (p : Pfx) (f : p.addr.length = 16) (old : Array Value) (hx : a.eval x = .pointer (some ⟨w.heap.size, 0, none⟩)) (hy : a.eval y = .agg p.cells) (hold : old.size = 18)
    (hR : wpList Try.prog ops Q rest (a.put o.dst undef) (w.alloc (.cells p.cells 32))) : wpList Try.prog ops Q (o :: rest) a (w.alloc (.cells old 32)) := by
  refine wpList_store_pfx hgd x y ho w.heap.size p f old hx hy (heap_alloc_new w _) hold ?_
  rw [World.setRow_alloc_new]
  exact hR
theorem wpList_load_pfx (hgd : o.guard = none) (x : Operand) (ho : o.op = .load 32 x) (g : Nat) (p : Pfx) (f : p.addr.length = 16) (hx : a.eval x = .pointer (some ⟨g, 0, none⟩)) (hg : PfxT w g p)
    (hR : wpList Try.prog ops Q rest (a.put o.dst p.val) w) : wpList Try.prog ops Q (o :: rest) a w :=
  wpList_load_row hgd _ x ho g hx _ _ _ _ hg Try.underlying32 rfl (pfx_infoC f) hR
theorem wpList_load_arrR (hgd : o.guard = none) (x : Operand) (ho : o.op = .load 30 x) (b k : Nat) (l : List UInt8) (hl : l.length = 16) (hx : a.eval x = .pointer (some ⟨b, k, none⟩)) (hc : w.rangeAt b k (byteVals l))
    (hR : wpList Try.prog ops Q rest (a.put o.dst (arrV l)) w) : wpList Try.prog ops Q (o :: rest) a w :=
  wpList_load_mid hgd _ x ho b k hx (byteVals l) _ hc Try.underlying30 rfl (by rw [byteVals_length, hl]; exact arr16P.info) hR
end
theorem results_pfx {fn : Func} {u : Tmp} (h : fn.results = #[.cell u 32]) (tmps : Array Value) (w : World) (g : Nat) (p : Pfx) (f : p.addr.length = 16) (hp : tmps.getD u undef = .pointer (some ⟨g, 0, none⟩))
    (hg : PfxT w g p) : (results fn tmps).run Try.prog w = .ok p.val w :=
  results_cell_row h tmps w g _ _ _ _ hp hg Try.underlying32 rfl (pfx_infoC f)
theorem results_pfx2 {fn : Func} {u v : Tmp} (h : fn.results = #[.cell u 32, .tmp v]) (tmps : Array Value) (w : World) (g : Nat) (p : Pfx) (f : p.addr.length = 16) (hp : tmps.getD u undef = .pointer (some ⟨g, 0, none⟩))
    (hg : PfxT w g p) : (results fn tmps).run Try.prog w = .ok (.tuple #[p.val, tmps.getD v undef]) w := by
  rw [results_cell_tmp h, hp]
  have := run_loadVar_row (P := Try.prog) w g _ _ p.cells (0, 0) _ hg Try.underlying32 rfl (pfx_infoC f)
  simp only [asAddr, Sem.run_pure, Result.andThen_ok, this]
  rfl
theorem exec_load_pfx {ρ : Operand → Value} {o : Oper} {W : World} (x : Operand) (ho : o.op = .load 32 x) (g : Nat) (p : Pfx) (f : p.addr.length = 16) (hx : ρ x = .pointer (some ⟨g, 0, none⟩)) (hg : PfxT W g p) :
    (execOp ρ o).run Try.prog W = .ok (.value p.val) W := by
  unfold execOp
  simp only [ho, hx, Instr.loadAt, Instr.sureAddr, Sem.run_bind, Sem.run_pure, Result.andThen_ok, run_loadVar_row (P := Try.prog) W g _ _ p.cells (0, 0) _ hg Try.underlying32 rfl (pfx_infoC f)]
  rfl
theorem exec_load_arrR {ρ : Operand → Value} {o : Oper} {W : World} (x : Operand) (ho : o.op = .load 30 x) (b k : Nat) (l : List UInt8) (hl : l.length = 16) (hx : ρ x = .pointer (some ⟨b, k, none⟩)) (hc : W.rangeAt b k (byteVals l)) :
    (execOp ρ o).run Try.prog W = .ok (.value (arrV l)) W := by
  unfold execOp
  simp only [ho, hx, Instr.loadAt, Instr.sureAddr, Sem.run_bind, Sem.run_pure, Result.andThen_ok, run_loadVar_mid (P := Try.prog) W b k _ (byteVals l) _ hc Try.underlying30 rfl (by rw [byteVals_length, hl]; exact arr16P.info)]
  rfl
theorem list16P {l : List UInt8} (h : l.length = 16) : ∃ x0 x1 x2 x3 x4 x5 x6 x7 x8 x9 x10 x11 x12 x13 x14 x15, l = [x0, x1, x2, x3, x4, x5, x6, x7, x8, x9, x10, x11, x12, x13, x14, x15] := by
  match l, h with
  | [x0, x1, x2, x3, x4, x5, x6, x7, x8, x9, x10, x11, x12, x13, x14, x15], _ => exact ⟨_, _, _, _, _, _, _, _, _, _, _, _, _, _, _, _, rfl⟩
/-! Prefixes compared. -/
def eqP (p q : Pfx) : Bool := (p.six == q.six) && decide (p.addr = q.addr) && decide (p.len = q.len)
theorem eqP_iff {p q : Pfx} : eqP p q = true ↔ p = q := by
  obtain ⟨a, b, c⟩ := p
  obtain ⟨d, e, f⟩ := q
  unfold eqP
  simp [and_assoc]
theorem eqP_self (p : Pfx) : eqP p p = true := eqP_iff.2 rfl
theorem eqP_no {p q : Pfx} (h : p ≠ q) : eqP p q = false := by
  cases e : eqP p q
  · rfl
  · exact absurd (eqP_iff.1 e) h
end Go.Proofs.Ytecefdocemkliaa
