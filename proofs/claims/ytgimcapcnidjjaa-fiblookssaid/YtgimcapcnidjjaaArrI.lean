/- Arrays of ints by value, and structs of ints alone, into and out of a box: laws for the walks. -/
import Derived.Test.YtgimcapcnidjjaaArr
namespace Go.Proofs.Ytgimcapcnidjjaa
open Go Go.RowKit

def intVals (l : List Int) : List Value := l.map (Value.int .i64)
def intV (l : List Int) : Value := .agg (intVals l).toArray
def intAt (l : List Int) (i : Nat) : Int := l.getD i 0
theorem intVals_length (l : List Int) : (intVals l).length = l.length := by simp [intVals]
theorem intVals_oneCell (l : List Int) : ∀ v ∈ intVals l, v.oneCell' = true := by
  intro v hv
  simp only [intVals, List.mem_map] at hv
  obtain ⟨b, _, rfl⟩ := hv
  rfl
theorem intVals_getElem? (l : List Int) (i : Nat) (h : i < l.length) : (intVals l)[i]? = some (.int .i64 (intAt l i)) := by
  simp [intVals, intAt, List.getElem?_eq_getElem h]
theorem intVals_set (c : List Int) (i : Nat) (b : Int) : (intVals c).set i (.int .i64 b) = intVals (c.set i b) := by
  simp [intVals, List.map_set]
theorem intVals_append (a b : List Int) : intVals (a ++ b) = intVals a ++ intVals b := by simp [intVals]
theorem int_one (l : List Int) : (intVals l).toArray.all (·.oneCell') = true := all_oneCell_toArray (intVals_oneCell l)
/-- Block g is a variable of type t, of just these ints, that may be written. -/
def IntT (t : TypeId) (w : World) (g : Nat) (c : List Int) : Prop := w.heap[g]? = some (.cells (intVals c).toArray t (0, 0))
/-- The type t is one of n cells, by value. -/
structure IsRow (t : TypeId) (n : Nat) : Prop where
  info : (Try.prog.info? t).map (·.size) = some n
  row : ∃ d, Try.prog.underlying t = some d ∧ d.isRow = true
variable {t : TypeId}
theorem IntT.lt {w : World} {g : Nat} {c : List Int} (h : IntT t w g c) : g < w.heap.size := (Array.getElem?_eq_some_iff.1 h).1
theorem IntT.cell {w : World} {g : Nat} {c : List Int} (h : IntT t w g c) (i : Nat) (hi : i < c.length) : w.cell? ⟨g, i, none⟩ = some (.int .i64 (intAt c i)) := by
  rw [cell_of_row w g i _ _ _ h]
  simpa using intVals_getElem? c i hi
theorem IntT.frozen {w : World} {g : Nat} {c : List Int} (h : IntT t w g c) (i : Nat) : w.frozen? ⟨g, i, none⟩ = false := frozen_of_row w g i _ _ h
theorem IntT.store {w : World} {g : Nat} {c : List Int} (h : IntT t w g c) (i : Nat) (x : Int) : IntT t (w.setCell ⟨g, i, none⟩ (.int .i64 x)) g (c.set i x) := by
  unfold IntT
  rw [heap_setCell_same w g i _ _ _ h, ← intVals_set]
  simp
theorem IntT.range {w : World} {g : Nat} {c : List Int} (h : IntT t w g c) : w.rangeAt g 0 (intVals c) := by
  intro j v hv
  rw [cell_of_row w g _ _ _ _ h]
  simpa using hv
theorem IntT.front {w : World} {g : Nat} {a b : List Int} (h : IntT t w g (a ++ b)) : w.rangeAt g 0 (intVals a) := by
  intro j v hv
  have hj : j < (intVals a).length := (List.getElem?_eq_some_iff.1 hv).1
  refine h.range j v ?_
  rw [intVals_append, List.getElem?_append_left hj]
  exact hv
theorem IntT.below {w w' : World} {g : Nat} {c : List Int} (h : IntT t w g c) {B : Nat} (hb : Below B w w') (hB : g < B) : IntT t w' g c := (hb.block g hB).trans h
theorem IntT.up {w w' : World} {g : Nat} {c : List Int} (h : IntT t w g c) (hb : Below w.heap.size w w') : IntT t w' g c := h.below hb h.lt
theorem IntT.iterAt {w : World} {g : Nat} {c : List Int} (h : IntT t w g c) {k : Nat} (hk : g ≠ k) (s : ByteArray) (p : Nat) : IntT t (w.iterAt k s p) g c := by
  unfold IntT
  rw [Lib.iterAt_other w k g s p hk]
  exact h
theorem IntT.setOther {w : World} {g : Nat} {c : List Int} (h : IntT t w g c) {k : Nat} (hk : g ≠ k) (i : Nat) (v : Value) : IntT t (w.setCell ⟨k, i, none⟩ v) g c := (Below.heap_setCell w _ v g (fun e => hk e)).trans h
theorem IntT.rowOther {w : World} {g : Nat} {c : List Int} (h : IntT t w g c) {k : Nat} (hk : g ≠ k) (cs : Array Value) : IntT t (w.setRow k cs) g c := (setRow_other w k g cs hk).trans h
theorem IntT.allocO {w : World} {g : Nat} {c : List Int} (h : IntT t w g c) (o : Obj) : IntT t (w.alloc o) g c := (Below.heap_alloc w o g h.lt).trans h
theorem ArrT.allocO {w : World} {g : Nat} {c : List UInt8} (h : ArrT t w g c) (o : Obj) : ArrT t (w.alloc o) g c := (Below.heap_alloc w o g h.lt).trans h
theorem intT_new (w : World) (c : List Int) : IntT t (w.alloc (.cells (intVals c).toArray t)) w.heap.size c := heap_alloc_new w _
theorem intT_setRow {w : World} {g : Nat} {c : List Int} (h : IntT t w g c) (d : List Int) : IntT t (w.setRow g (intVals d).toArray) g d := setRow_heap _ _ _ _ _ _ h
section
variable {ops : Array Oper} {rest : List Oper} {o : Oper} {a : Act} {w : World} {Q : Exit → Act → World → Prop}
theorem wpList_store_intT (hgd : o.guard = none) (x y : Operand) (ho : o.op = .store t x y) (g : Nat) (l : List Int) (ht : IsRow t l.length) (old : List Int) (hx : a.eval x = .pointer (some ⟨g, 0, none⟩)) (hy : a.eval y = intV l)
    (hg : IntT t w g old) (hold : old.length = l.length)
    (hR : wpList Try.prog ops Q rest (a.put o.dst undef) (w.setRow g (intVals l).toArray)) : wpList Try.prog ops Q (o :: rest) a w :=
  wpList_store_row hgd _ x y ho g (intVals l).toArray hx hy _ _ hg (by rw [ht.info]; simp [intVals_length]) (by simp [intVals_length, hold]) (int_one l) hR
theorem wpList_store_newI (hgd : o.guard = none) (x y : Operand) (ho : o.op = .store t x y) (l : List Int) (ht : IsRow t l.length) (old : Array Value) (hx : a.eval x = .pointer (some ⟨w.heap.size, 0, none⟩)) (hy : a.eval y = intV l) (hold : old.size = l.length)
    (hR : wpList Try.prog ops Q rest (a.put o.dst undef) (w.alloc (.cells (intVals l).toArray t))) : wpList Try.prog ops Q (o :: rest) a (w.alloc (.cells old t)) := by
  refine wpList_store_row hgd _ x y ho w.heap.size (intVals l).toArray hx hy _ old (heap_alloc_new w _) (by rw [ht.info]; simp [intVals_length]) (by simp [intVals_length, hold]) (int_one l) ?_
  rw [World.setRow_alloc_new]
  exact hR
theorem wpList_load_intR (hgd : o.guard = none) (x : Operand) (ho : o.op = .load t x) (g : Nat) (l : List Int) (ht : IsRow t l.length) (hx : a.eval x = .pointer (some ⟨g, 0, none⟩)) (hg : w.rangeAt g 0 (intVals l))
    (hR : wpList Try.prog ops Q rest (a.put o.dst (intV l)) w) : wpList Try.prog ops Q (o :: rest) a w := by
  obtain ⟨d, hd, hr⟩ := ht.row
  exact wpList_load_mid hgd _ x ho g 0 hx (intVals l) _ hg hd hr (by rw [intVals_length]; exact ht.info) hR
theorem wpList_load_intT (hgd : o.guard = none) (x : Operand) (ho : o.op = .load t x) (g : Nat) (l : List Int) (ht : IsRow t l.length) (hx : a.eval x = .pointer (some ⟨g, 0, none⟩)) (hg : IntT t w g l)
    (hR : wpList Try.prog ops Q rest (a.put o.dst (intV l)) w) : wpList Try.prog ops Q (o :: rest) a w := wpList_load_intR hgd x ho g l ht hx hg.range hR
end
theorem run_load_intR {w : World} {g : Nat} {l : List Int} (ht : IsRow t l.length) (hg : w.rangeAt g 0 (intVals l)) : (loadVar t ⟨g, 0, none⟩).run Try.prog w = .ok (intV l) w := by
  obtain ⟨d, hd, hr⟩ := ht.row
  exact run_loadVar_mid (P := Try.prog) w g 0 _ (intVals l) _ hg hd hr (by rw [intVals_length]; exact ht.info)
theorem results_intT {fn : Func} {p : Tmp} (h : fn.results = #[.cell p t]) (tmps : Array Value) (w : World) (g : Nat) (l : List Int) (ht : IsRow t l.length) (hp : tmps.getD p undef = .pointer (some ⟨g, 0, none⟩))
    (hg : IntT t w g l) : (results fn tmps).run Try.prog w = .ok (intV l) w := by
  obtain ⟨d, hd, hr⟩ := ht.row
  exact results_cell_row h tmps w g _ _ _ _ hp hg hd (by cases d <;> first | rfl | (simp [TypeDesc.isRow] at hr)) (by rw [ht.info]; simp [intVals_length])
theorem results_intT2 {fn : Func} {p u : Tmp} (h : fn.results = #[.cell p t, .tmp u]) (tmps : Array Value) (w : World) (g : Nat) (l : List Int) (ht : IsRow t l.length) (hp : tmps.getD p undef = .pointer (some ⟨g, 0, none⟩))
    (hg : IntT t w g l) : (results fn tmps).run Try.prog w = .ok (.tuple #[intV l, tmps.getD u undef]) w := by
  rw [results_cell_tmp h, hp]
  simp only [asAddr, Sem.run_pure, Result.andThen_ok, run_load_intR ht hg.range]
theorem exec_load_intR {ρ : Operand → Value} {o : Oper} {W : World} (x : Operand) (ho : o.op = .load t x) (g : Nat) (l : List Int) (ht : IsRow t l.length) (hx : ρ x = .pointer (some ⟨g, 0, none⟩)) (hg : W.rangeAt g 0 (intVals l)) :
    (execOp ρ o).run Try.prog W = .ok (.value (intV l)) W := by
  unfold execOp
  simp only [ho, hx, Instr.loadAt, Instr.sureAddr, Sem.run_bind, Sem.run_pure, Result.andThen_ok, run_load_intR ht hg]
/-- An element of an array by value. -/
theorem index_intV {n : Nat} (hr : Try.prog.underlying t = some (.array n 3)) (W : World) (l : List Int) (k : Nat) (hk : k < l.length) (hl : l.length = n) : (Instr.index t (intV l) (.int .i64 (k : Int))).run Try.prog W = .ok (.int .i64 (intAt l k)) W := by
  have hk2 : Try.prog.plainKey 3 = true := by kernel_rfl
  have hsz : (sizeOf 3).run Try.prog W = .ok 1 W := by go_simp
  have p := run_part_plain (P := Try.prog) (w := W) (e := 3) hk2 (xs := (intVals l).toArray) (off := k * 1) (by rw [Nat.mul_one, List.getElem?_toArray]; exact intVals_getElem? l k hk)
  have hc : (0 : Int) ≤ (k : Int) ∧ (k : Int) < (n : Int) := by omega
  unfold intV
  simp only [Instr.index, asIntOf, Sem.run_bind, Sem.run_pure, Result.andThen_ok, run_underlying hr, if_pos hc, hsz, Int.toNat_natCast, p]
/-- Pieces of an array in a box. -/
theorem slice_from {t e : TypeId} {n : Nat} (hu : Try.prog.underlying t = some (.array n e)) (he : ∀ W, (sizeOf e).run Try.prog W = .ok 1 W) (W : World) (g j : Nat) (hj : j ≤ n) :
    (Instr.sliceAt t (.pointer (some ⟨g, 0, none⟩)) (some (.int .i64 (j : Int))) none none).run Try.prog W = .ok (.slice (some (if n = j then ⟨g, 0, none⟩ else ⟨g, j, none⟩)) (n - j) (n - j)) W := by
  have h1 : (j : Int) ≤ (n : Int) := by omega
  have h2 : (0 : Int) ≤ (j : Int) := by omega
  simp [Instr.sliceAt, Instr.sureAddr, run_underlying hu, Instr.sliceBounds, run_sliceBound, h1, h2, he, Addr.add]
  by_cases h0 : j = 0
  · subst h0; simp
  · rw [if_neg h0]
theorem slice_to {t e : TypeId} {n : Nat} (hu : Try.prog.underlying t = some (.array n e)) (he : ∀ W, (sizeOf e).run Try.prog W = .ok 1 W) (W : World) (g j : Nat) (hj : j ≤ n) :
    (Instr.sliceAt t (.pointer (some ⟨g, 0, none⟩)) none (some (.int .i64 (j : Int))) none).run Try.prog W = .ok (.slice (some ⟨g, 0, none⟩) j n) W := by
  have h1 : (j : Int) ≤ (n : Int) := by omega
  have h2 : (0 : Int) ≤ (j : Int) := by omega
  simp [Instr.sliceAt, Instr.sureAddr, run_underlying hu, Instr.sliceBounds, run_sliceBound, h1, h2, he, Addr.add]
theorem slice_all {t e : TypeId} {n : Nat} (hu : Try.prog.underlying t = some (.array n e)) (he : ∀ W, (sizeOf e).run Try.prog W = .ok 1 W) (W : World) (g : Nat) :
    (Instr.sliceAt t (.pointer (some ⟨g, 0, none⟩)) none none none).run Try.prog W = .ok (.slice (some ⟨g, 0, none⟩) n n) W := by
  simp [Instr.sliceAt, Instr.sureAddr, run_underlying hu, Instr.sliceBounds, he, Addr.add]
theorem size_u8 (W : World) : (sizeOf 5).run Try.prog W = .ok 1 W := by go_simp
theorem size_int (W : World) : (sizeOf 3).run Try.prog W = .ok 1 W := by go_simp
/-- Arrays compared. -/
theorem eq_itemsI (d : Nat) (l m : List Int) (W : World) : ∀ is : List Nat, (∀ i ∈ is, i < l.length ∧ i < m.length) →
    (Op.eqItems (d + 1) 3 1 (intVals l).toArray (intVals m).toArray is).run Try.prog W = .ok (is.all fun i => l.getD i 0 == m.getD i 0) W
  | [], _ => rfl
  | i :: is, h => by
    have hk : Try.prog.plainKey 3 = true := by kernel_rfl
    have e1 := intVals_getElem? l i (h i (by simp)).1
    have e2 := intVals_getElem? m i (h i (by simp)).2
    have ih := eq_itemsI d l m W is (fun j hj => h j (by simp [hj]))
    have p1 := run_part_plain (P := Try.prog) (w := W) (e := 3) hk (xs := (intVals l).toArray) (off := i * 1) (by rw [Nat.mul_one, List.getElem?_toArray]; exact e1)
    have p2 := run_part_plain (P := Try.prog) (w := W) (e := 3) hk (xs := (intVals m).toArray) (off := i * 1) (by rw [Nat.mul_one, List.getElem?_toArray]; exact e2)
    have p3 : (Op.equalIn (d + 1) 3 (.int .i64 (intAt l i)) (.int .i64 (intAt m i))).run Try.prog W = .ok (l.getD i 0 == m.getD i 0) W := by
      unfold Op.equalIn intAt
      go_simp
    rw [Op.eqItems]
    simp only [Sem.run_bind, p1, p2, p3, Result.andThen_ok]
    cases hq : (l.getD i 0 == m.getD i 0)
    · simp only [Bool.not_false, if_true, List.all_cons, hq, Bool.false_and]
      rfl
    · simp only [Bool.not_true, Bool.false_eq_true, if_false, List.all_cons, hq, Bool.true_and]
      exact ih
theorem all_range_eqI (l m : List Int) (h : l.length = m.length) : ((List.range l.length).all fun i => l.getD i 0 == m.getD i 0) = decide (l = m) := by
  by_cases e : l = m
  · subst e
    simp
  · rw [decide_eq_false e, Bool.eq_false_iff]
    intro ha
    refine e (List.ext_getElem h fun i h1 h2 => ?_)
    have := List.all_eq_true.1 ha i (by simp; exact h1)
    simpa [List.getD, h1, h2] using this
/-- The type t is one of arrays of n ints. -/
structure IsInts (t : TypeId) (n : Nat) : Prop where
  info : (Try.prog.info? t).map (·.size) = some n
  row : Try.prog.underlying t = some (.array n 3)
  guard : Try.prog.eqGuardType Try.prog.depth t = false
theorem IsInts.isRow {t : TypeId} {n : Nat} (h : IsInts t n) : IsRow t n := ⟨h.info, _, h.row, rfl⟩
theorem infoInt : (Try.prog.info? 3).map (fun i => (i.zero, i.size, i.bytes)) = some (some (.int .i64 0), 1, 8) := by kernel_rfl
theorem eq_intV {t : TypeId} {n : Nat} (ht : IsInts t n) (d : Nat) (l m : List Int) (hl : l.length = n) (hm : m.length = n) (W : World) :
    (Op.equalIn (d + 2) t (intV l) (intV m)).run Try.prog W = .ok (decide (l = m)) W := by
  obtain ⟨i0, hi, _⟩ := info_parts infoInt
  have hc : Try.prog.cellsOf 3 = 1 := by kernel_rfl
  subst hl
  unfold intV
  rw [run_equalIn_array W (d + 1) _ _ ht.row hi, hc, eq_itemsI d l m W _ (fun i hi => by
    have := List.mem_range.1 hi
    omega), all_range_eqI l m hm.symm]
theorem eql_intV {t : TypeId} {n : Nat} (ht : IsInts t n) (x y : Operand) (l m : List Int) (hl : l.length = n) (hm : m.length = n) (W : World) :
    (do eqGuard .eql t x y (intV l) (intV m); binOp .eql t (intV l) (intV m) : Sem Value).run Try.prog W = .ok (.bool (decide (l = m))) W := by
  have h := eq_intV ht 9998 l m hl hm W
  have hg := ht.guard
  unfold intV at *
  go_simp
theorem exec_eql_int {t : TypeId} {n : Nat} {ρ : Operand → Value} {o : Oper} {W : World} (ht : IsInts t n) (x y : Operand) (ty : TypeId) (ho : o.op = .binOp .eql t x y ty) (l m : List Int) (hl : l.length = n) (hm : m.length = n) (hx : ρ x = intV l) (hy : ρ y = intV m) :
    (execOp ρ o).run Try.prog W = .ok (.value (.bool (decide (l = m)))) W := by
  have := eql_intV ht x y l m hl hm W
  unfold execOp
  simp only [ho, hx, hy, Sem.run_bind] at this ⊢
  rw [this]
  rfl
end Go.Proofs.Ytgimcapcnidjjaa
