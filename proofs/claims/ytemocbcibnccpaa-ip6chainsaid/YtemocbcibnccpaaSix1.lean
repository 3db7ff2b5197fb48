/- A header of IPv6 whole, by value, and sixteen bytes by value, into and out of a box: laws for the walks. -/
import Derived.Test.YtemocbcibnccpaaM5
import Derived.Test.YtemocbcibnccpaaReg
import Derived.Test.YtemocbcibnccpaaCat1
import Derived.Test.YtemocbcibnccpaaBaseMore
import Derived.Deep.WholeRow
import Derived.Deep.MidRow
import Derived.Laws.ResultCell
import Derived.Laws.Cover3
namespace Go.Proofs.Ytemocbcibnccpaa
open Go Go.RowKit

/-- Bytes as an array by value. -/
def arrV (l : List UInt8) : Value := .agg (byteVals l).toArray
/-- The cells of a header. -/
def Hdr6.row (h : Hdr6) : List Value := .int .u8 (h.cls.toNat : Int) :: .int .i64 h.flow :: .int .i64 h.len :: .int .u8 (h.next.toNat : Int) :: .int .u8 (h.ttl.toNat : Int) :: (byteVals h.src ++ byteVals h.dst)
def Hdr6.cells (h : Hdr6) : Array Value := h.row.toArray
def Hdr6.val (h : Hdr6) : Value := .agg h.cells
structure Hdr6.wide (h : Hdr6) : Prop where
  s : h.src.length = 16
  d : h.dst.length = 16
def hdrZero6 : Hdr6 := ⟨0, 0, 0, 0, 0, [0, 0, 0, 0, 0, 0, 0, 0, 0, 0, 0, 0, 0, 0, 0, 0], [0, 0, 0, 0, 0, 0, 0, 0, 0, 0, 0, 0, 0, 0, 0, 0]⟩
theorem zero6_wide : hdrZero6.wide := ⟨rfl, rfl⟩

theorem hdr6_info : (Try.prog.info? 26).map (·.size) = some 37 := by kernel_rfl
theorem arr_info : (Try.prog.info? 24).map (·.size) = some 16 := by kernel_rfl
theorem hdr6_size {h : Hdr6} (f : h.wide) : h.cells.size = 37 := by
  unfold Hdr6.cells Hdr6.row
  simp [byteVals_length, f.s, f.d]
theorem hdr6_one (h : Hdr6) : h.cells.all (·.oneCell') = true := by
  refine all_oneCell_toArray fun v hv => ?_
  unfold Hdr6.row at hv
  simp only [List.mem_cons, List.mem_append] at hv
  rcases hv with rfl | rfl | rfl | rfl | rfl | hv | hv
  · rfl
  · rfl
  · rfl
  · rfl
  · rfl
  · exact byteVals_oneCell _ _ hv
  · exact byteVals_oneCell _ _ hv
theorem hdr6_infoC {h : Hdr6} (f : h.wide) : (Try.prog.info? 26).map (·.size) = some h.cells.size := by rw [hdr6_size f]; exact hdr6_info
theorem arr_infoC {l : List UInt8} (hl : l.length = 16) : (Try.prog.info? 24).map (·.size) = some (byteVals l).toArray.size := by
  rw [show (byteVals l).toArray.size = 16 by simp [byteVals_length, hl]]; exact arr_info
theorem arr_one (l : List UInt8) : (byteVals l).toArray.all (·.oneCell') = true := all_oneCell_toArray (byteVals_oneCell l)

section
variable {ops : Array Oper} {rest : List Oper} {o : Oper} {a : Act} {w : World} {Q : Exit → Act → World → Prop}
theorem wpList_store_hdr6 (hgd : o.guard = none) (x y : Operand) (ho : o.op = .store 26 x y) (g : Nat) (h : Hdr6) (f : h.wide) (old : Array Value) (hx : a.eval x = .pointer (some ⟨g, 0, none⟩)) (hy : a.eval y = .agg h.cells)
    (hg : w.heap[g]? = some (.cells old 26 (0, 0))) (hold : old.size = 37)
    (hR : wpList Try.prog ops Q rest (a.put o.dst undef) (w.setRow g h.cells)) : wpList Try.prog ops Q (o :: rest) a w :=
  wpList_store_row hgd _ x y ho g h.cells hx hy _ old hg (hdr6_infoC f) (by rw [hold, hdr6_size f]) (hdr6_one h) hR
theorem wpList_store_new6 (hgd : o.guard = none) (x y : Operand) (ho : o.op = .store 26 x y) (h : Hdr6) (f : h.wide) (old : Array Value) (hx : a.eval x = .pointer (some ⟨w.heap.size, 0, none⟩)) (hy : a.eval y = .agg h.cells) (hold : old.size = 37)
    (hR : wpList Try.prog ops Q rest (a.put o.dst undef) (w.alloc (.cells h.cells 26))) : wpList Try.prog ops Q (o :: rest) a (w.alloc (.cells old 26)) := by
  refine wpList_store_hdr6 hgd x y ho w.heap.size h f old hx hy (heap_alloc_new w _) hold ?_
  rw [World.setRow_alloc_new]
  exact hR
theorem wpList_load_hdr6 (hgd : o.guard = none) (x : Operand) (ho : o.op = .load 26 x) (g : Nat) (h : Hdr6) (f : h.wide) (hx : a.eval x = .pointer (some ⟨g, 0, none⟩)) (hg : w.heap[g]? = some (.cells h.cells 26 (0, 0)))
    (hR : wpList Try.prog ops Q rest (a.put o.dst h.val) w) : wpList Try.prog ops Q (o :: rest) a w :=
  wpList_load_row hgd _ x ho g hx _ _ _ _ hg Try.underlying26 rfl (hdr6_infoC f) hR
theorem wpList_store_arr (hgd : o.guard = none) (x y : Operand) (ho : o.op = .store 24 x y) (g : Nat) (l : List UInt8) (hl : l.length = 16) (old : Array Value) (hx : a.eval x = .pointer (some ⟨g, 0, none⟩)) (hy : a.eval y = .agg (byteVals l).toArray)
    (hg : w.heap[g]? = some (.cells old 24 (0, 0))) (hold : old.size = 16)
    (hR : wpList Try.prog ops Q rest (a.put o.dst undef) (w.setRow g (byteVals l).toArray)) : wpList Try.prog ops Q (o :: rest) a w :=
  wpList_store_row hgd _ x y ho g (byteVals l).toArray hx hy _ old hg (arr_infoC hl) (by rw [hold]; simp [byteVals_length, hl]) (arr_one l) hR
theorem wpList_load_arr (hgd : o.guard = none) (x : Operand) (ho : o.op = .load 24 x) (b k : Nat) (l : List UInt8) (hl : l.length = 16) (hx : a.eval x = .pointer (some ⟨b, k, none⟩)) (hc : w.rangeAt b k (byteVals l))
    (hR : wpList Try.prog ops Q rest (a.put o.dst (arrV l)) w) : wpList Try.prog ops Q (o :: rest) a w :=
  wpList_load_mid hgd _ x ho b k hx (byteVals l) _ hc Try.underlying24 rfl (by rw [byteVals_length, hl]; exact arr_info) hR
end
theorem results_arr {fn : Func} {p : Tmp} (h : fn.results = #[.cell p 24]) (tmps : Array Value) (w : World) (g : Nat) (l : List UInt8) (hl : l.length = 16) (hp : tmps.getD p undef = .pointer (some ⟨g, 0, none⟩))
    (hg : w.heap[g]? = some (.cells (byteVals l).toArray 24 (0, 0))) : (results fn tmps).run Try.prog w = .ok (arrV l) w :=
  results_cell_row h tmps w g _ _ _ _ hp hg Try.underlying24 rfl (arr_infoC hl)
theorem results_hdr6 {fn : Func} {p : Tmp} (h : fn.results = #[.cell p 26]) (tmps : Array Value) (w : World) (g : Nat) (hd : Hdr6) (f : hd.wide) (hp : tmps.getD p undef = .pointer (some ⟨g, 0, none⟩))
    (hg : w.heap[g]? = some (.cells hd.cells 26 (0, 0))) : (results fn tmps).run Try.prog w = .ok hd.val w :=
  results_cell_row h tmps w g _ _ _ _ hp hg Try.underlying26 rfl (hdr6_infoC f)
theorem results_hdr62 {fn : Func} {p u : Tmp} (h : fn.results = #[.cell p 26, .tmp u]) (tmps : Array Value) (w : World) (g : Nat) (hd : Hdr6) (f : hd.wide) (hp : tmps.getD p undef = .pointer (some ⟨g, 0, none⟩))
    (hg : w.heap[g]? = some (.cells hd.cells 26 (0, 0))) : (results fn tmps).run Try.prog w = .ok (.tuple #[hd.val, tmps.getD u undef]) w := by
  rw [results_cell_tmp h, hp]
  have := run_loadVar_row (P := Try.prog) w g _ _ hd.cells (0, 0) _ hg Try.underlying26 rfl (hdr6_infoC f)
  simp only [asAddr, Sem.run_pure, Result.andThen_ok, this]
  rfl
theorem exec_load_hdr6 {ρ : Operand → Value} {o : Oper} {W : World} (x : Operand) (ho : o.op = .load 26 x) (g : Nat) (h : Hdr6) (f : h.wide) (hx : ρ x = .pointer (some ⟨g, 0, none⟩)) (hg : W.heap[g]? = some (.cells h.cells 26 (0, 0))) :
    (execOp ρ o).run Try.prog W = .ok (.value h.val) W := by
  unfold execOp
  simp only [ho, hx, Instr.loadAt, Instr.sureAddr, Sem.run_bind, Sem.run_pure, Result.andThen_ok, run_loadVar_row (P := Try.prog) W g _ _ h.cells (0, 0) _ hg Try.underlying26 rfl (hdr6_infoC f)]
  rfl
theorem exec_load_arr {ρ : Operand → Value} {o : Oper} {W : World} (x : Operand) (ho : o.op = .load 24 x) (b k : Nat) (l : List UInt8) (hl : l.length = 16) (hx : ρ x = .pointer (some ⟨b, k, none⟩)) (hc : W.rangeAt b k (byteVals l)) :
    (execOp ρ o).run Try.prog W = .ok (.value (arrV l)) W := by
  unfold execOp
  simp only [ho, hx, Instr.loadAt, Instr.sureAddr, Sem.run_bind, Sem.run_pure, Result.andThen_ok, run_loadVar_mid (P := Try.prog) W b k _ (byteVals l) _ hc Try.underlying24 rfl (by rw [byteVals_length, hl]; exact arr_info)]
  rfl
/-- The cells of a header in its box. -/
theorem hdr6_cell {W : World} {g : Nat} {h : Hdr6} (hg : W.heap[g]? = some (.cells h.cells 26 (0, 0))) (j : Nat) : W.cell? ⟨g, j, none⟩ = h.row[j]? := by
  rw [cell_of_row W g j _ _ _ hg]
  simp [Hdr6.cells]
theorem range_of_row {W : World} {g : Nat} {r : List Value} {t : TypeId} {z : Nat × Nat} (hg : W.heap[g]? = some (.cells r.toArray t z)) (k : Nat) (p q s : List Value) (hr : r = p ++ (q ++ s)) (hp : p.length = k) : W.rangeAt g k q := by
  intro j v hj
  rw [cell_of_row W g (k + j) _ _ _ hg, ← hj, hr, ← hp]
  have hq : j < q.length := (List.getElem?_eq_some_iff.1 hj).1
  simp [List.getElem?_append, hq]
theorem hdr6_src {W : World} {g : Nat} {h : Hdr6} (hg : W.heap[g]? = some (.cells h.cells 26 (0, 0))) : W.rangeAt g 5 (byteVals h.src) :=
  range_of_row hg 5 [.int .u8 (h.cls.toNat : Int), .int .i64 h.flow, .int .i64 h.len, .int .u8 (h.next.toNat : Int), .int .u8 (h.ttl.toNat : Int)] _ (byteVals h.dst) rfl rfl
theorem hdr6_dst {W : World} {g : Nat} {h : Hdr6} (f : h.wide) (hg : W.heap[g]? = some (.cells h.cells 26 (0, 0))) : W.rangeAt g 21 (byteVals h.dst) :=
  range_of_row hg 21 (.int .u8 (h.cls.toNat : Int) :: .int .i64 h.flow :: .int .i64 h.len :: .int .u8 (h.next.toNat : Int) :: .int .u8 (h.ttl.toNat : Int) :: byteVals h.src) _ [] (by simp [Hdr6.row]) (by simp [byteVals_length, f.s])
/-- Bytes in a row are a slice of it. -/
theorem isB_of_range {W : World} {b k : Nat} {l : List UInt8} (hb : b < W.heap.size) (hc : W.rangeAt b k (byteVals l)) (cap : Nat) (h1 : l.length ≤ cap) (h2 : cap ≤ maxLen) : IsB W (.slice (some ⟨b, k, none⟩) l.length cap) l :=
  ⟨_, _, rfl, h1, h2, fun _ => ⟨b, k, rfl, hb, fun i hi => hc i _ (byteVals_getElem? l i hi)⟩⟩
theorem range_of_isB {W : World} {a : Option Addr} {n cap : Nat} {l : List UInt8} (h : IsB W (.slice a n cap) l) (hp : 0 < l.length) : ∃ b k, a = some ⟨b, k, none⟩ ∧ n = l.length ∧ b < W.heap.size ∧ W.rangeAt b k (byteVals l) := by
  obtain ⟨a2, cap2, he, h1, h2, h3⟩ := h
  simp only [Value.slice.injEq] at he
  obtain ⟨rfl, rfl, rfl⟩ := he
  obtain ⟨b, k, rfl, hlt, hc⟩ := h3 hp
  refine ⟨b, k, rfl, rfl, hlt, fun j v hj => ?_⟩
  have hq : j < l.length := by rw [← byteVals_length]; exact (List.getElem?_eq_some_iff.1 hj).1
  rw [hc j hq, ← hj, byteVals_getElem? l j hq]
theorem list16 {l : List UInt8} (h : l.length = 16) : ∃ x0 x1 x2 x3 x4 x5 x6 x7 x8 x9 x10 x11 x12 x13 x14 x15, l = [x0, x1, x2, x3, x4, x5, x6, x7, x8, x9, x10, x11, x12, x13, x14, x15] := by
  match l, h with
  | [x0, x1, x2, x3, x4, x5, x6, x7, x8, x9, x10, x11, x12, x13, x14, x15], _ => exact ⟨_, _, _, _, _, _, _, _, _, _, _, _, _, _, _, _, rfl⟩
/-- A header is built of its parts. -/
theorem built_hdr6 (h : Hdr6) (f : h.wide) : Try.prog.built 26 [(0, .int .u8 (h.cls.toNat : Int)), (1, .int .i64 h.flow), (2, .int .i64 h.len), (3, .int .u8 (h.next.toNat : Int)), (4, .int .u8 (h.ttl.toNat : Int)), (5, arrV h.src), (6, arrV h.dst)] = some h.cells := by
  obtain ⟨cls, flow, len, next, ttl, src, dst⟩ := h
  obtain ⟨x0, x1, x2, x3, x4, x5, x6, x7, x8, x9, x10, x11, x12, x13, x14, x15, rfl⟩ := list16 f.s
  obtain ⟨y0, y1, y2, y3, y4, y5, y6, y7, y8, y9, y10, y11, y12, y13, y14, y15, rfl⟩ := list16 f.d
  clear f
  kernel_rfl
theorem wpList_build_hdr6 {ops : Array Oper} {rest : List Oper} {o : Oper} {a : Act} {w : World} {Q : Exit → Act → World → Prop} (hgd : o.guard = none) (x0 x1 x2 x3 x4 x5 x6 : Operand) (ho : o.op = .build 26 #[(0, x0), (1, x1), (2, x2), (3, x3), (4, x4), (5, x5), (6, x6)]) (h : Hdr6) (f : h.wide)
    (h0 : a.eval x0 = .int .u8 (h.cls.toNat : Int)) (h1 : a.eval x1 = .int .i64 h.flow) (h2 : a.eval x2 = .int .i64 h.len) (h3 : a.eval x3 = .int .u8 (h.next.toNat : Int)) (h4 : a.eval x4 = .int .u8 (h.ttl.toNat : Int)) (h5 : a.eval x5 = arrV h.src) (h6 : a.eval x6 = arrV h.dst)
    (hR : wpList Try.prog ops Q rest (a.put o.dst h.val) w) : wpList Try.prog ops Q (o :: rest) a w :=
  wpList_plain hgd fun K hK => by
    unfold Oper.wp execOp
    have hb := run_build (P := Try.prog) w 26 #[(0, a.eval x0), (1, a.eval x1), (2, a.eval x2), (3, a.eval x3), (4, a.eval x4), (5, a.eval x5), (6, a.eval x6)] h.cells (by rw [h0, h1, h2, h3, h4, h5, h6]; exact built_hdr6 h f)
    simp only [ho, List.map_toArray, List.map_cons, List.map_nil, Sem.run_bind, hb, Result.andThen_ok]
    exact hK _ _ hR
end Go.Proofs.Ytemocbcibnccpaa
