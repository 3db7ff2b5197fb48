/- A header of IPv4 whole, by value, into and out of a box: laws for the walks. -/
import Derived.Test.YtchkbdgoghcgcaaIp1
import Derived.Test.YtchkbdgoghcgcaaReg
import Derived.Deep.WholeRow
import Derived.Laws.ResultCell
namespace Go.Proofs.Ytchkbdgoghcgcaa
open Go Go.RowKit

theorem hdr_info : (Try.prog.info? 27).map (·.size) = some 17 := by kernel_rfl
theorem hdr_size (h : Hdr) : h.cells.size = 17 := rfl
theorem hdr_one (h : Hdr) : h.cells.all (·.oneCell') = true := by kernel_rfl
theorem hdr_infoC (h : Hdr) : (Try.prog.info? 27).map (·.size) = some h.cells.size := hdr_info

section
variable {ops : Array Oper} {rest : List Oper} {o : Oper} {a : Act} {w : World} {Q : Exit → Act → World → Prop}
theorem wpList_store_hdr (hgd : o.guard = none) (x y : Operand) (ho : o.op = .store 27 x y) (g : Nat) (h : Hdr) (old : Array Value) (hx : a.eval x = .pointer (some ⟨g, 0, none⟩)) (hy : a.eval y = .agg h.cells)
    (hg : w.heap[g]? = some (.cells old 27 (0, 0))) (hold : old.size = 17)
    (hR : wpList Try.prog ops Q rest (a.put o.dst undef) (w.setRow g h.cells)) : wpList Try.prog ops Q (o :: rest) a w :=
  wpList_store_row hgd _ x y ho g h.cells hx hy _ old hg (hdr_infoC h) hold (hdr_one h) hR
theorem wpList_store_new (hgd : o.guard = none) (x y : Operand) (ho : o.op = .store 27 x y) (h : Hdr) (old : Array Value) (hx : a.eval x = .pointer (some ⟨w.heap.size, 0, none⟩)) (hy : a.eval y = .agg h.cells) (hold : old.size = 17)
    (hR : wpList Try.prog ops Q rest (a.put o.dst undef) (w.alloc (.cells h.cells 27))) : wpList Try.prog ops Q (o :: rest) a (w.alloc (.cells old 27)) := by
  refine wpList_store_hdr hgd x y ho w.heap.size h old hx hy (heap_alloc_new w _) hold ?_
  rw [World.setRow_alloc_new]
  exact hR
theorem wpList_load_hdr (hgd : o.guard = none) (x : Operand) (ho : o.op = .load 27 x) (g : Nat) (h : Hdr) (hx : a.eval x = .pointer (some ⟨g, 0, none⟩)) (hg : w.heap[g]? = some (.cells h.cells 27 (0, 0)))
    (hR : wpList Try.prog ops Q rest (a.put o.dst h.val) w) : wpList Try.prog ops Q (o :: rest) a w :=
  wpList_load_row hgd _ x ho g hx _ _ _ _ hg Try.underlying27 rfl (hdr_infoC h) hR
end
theorem results_hdr {fn : Func} {p : Tmp} (h : fn.results = #[.cell p 27]) (tmps : Array Value) (w : World) (g : Nat) (hd : Hdr) (hp : tmps.getD p undef = .pointer (some ⟨g, 0, none⟩))
    (hg : w.heap[g]? = some (.cells hd.cells 27 (0, 0))) : (results fn tmps).run Try.prog w = .ok hd.val w :=
  results_cell_row h tmps w g _ _ _ _ hp hg Try.underlying27 rfl (hdr_infoC hd)
theorem results_hdr2 {fn : Func} {p u : Tmp} (h : fn.results = #[.cell p 27, .tmp u]) (tmps : Array Value) (w : World) (g : Nat) (hd : Hdr) (hp : tmps.getD p undef = .pointer (some ⟨g, 0, none⟩))
    (hg : w.heap[g]? = some (.cells hd.cells 27 (0, 0))) : (results fn tmps).run Try.prog w = .ok (.tuple #[hd.val, tmps.getD u undef]) w := by
  rw [results_cell_tmp h, hp]
  have := run_loadVar_row (P := Try.prog) w g _ _ hd.cells (0, 0) _ hg Try.underlying27 rfl (hdr_infoC hd)
  simp only [asAddr, Sem.run_pure, Result.andThen_ok, this]
  rfl
theorem exec_load_hdr {ρ : Operand → Value} {o : Oper} {W : World} (x : Operand) (ho : o.op = .load 27 x) (g : Nat) (h : Hdr) (hx : ρ x = .pointer (some ⟨g, 0, none⟩)) (hg : W.heap[g]? = some (.cells h.cells 27 (0, 0))) :
    (execOp ρ o).run Try.prog W = .ok (.value h.val) W := by
  unfold execOp
  simp only [ho, hx, Instr.loadAt, Instr.sureAddr, Sem.run_bind, Sem.run_pure, Result.andThen_ok, run_loadVar_row (P := Try.prog) W g _ _ h.cells (0, 0) _ hg Try.underlying27 rfl (hdr_infoC h)]
  rfl
/-- The cells of a header in its box. -/
theorem hdr_cell {W : World} {g : Nat} {h : Hdr} (hg : W.heap[g]? = some (.cells h.cells 27 (0, 0))) (j : Nat) : W.cell? ⟨g, j, none⟩ = h.cells[j]? := cell_of_row W g j _ _ _ hg
end Go.Proofs.Ytchkbdgoghcgcaa
