/- Arrays of bytes by value, into and out of a box, of any length: laws for the walks. -/
import Derived.Test.YtgimcapcnidjjaaBaseMore
import Derived.Test.YtgimcapcnidjjaaOct
import Derived.Test.YtgimcapcnidjjaaStr
import Derived.Deep.WholeRow
import Derived.Deep.MidRow
import Derived.Laws.ResultCell
import Derived.Laws.Cover3
import Derived.Laws.CopyOwn
import Derived.ChangeKeysEq
namespace Go.Proofs.Ytgimcapcnidjjaa
open Go Go.RowKit

/-- Bytes as an array by value. -/
def arrV (l : List UInt8) : Value := .agg (byteVals l).toArray
theorem arr_one (l : List UInt8) : (byteVals l).toArray.all (·.oneCell') = true := all_oneCell_toArray (byteVals_oneCell l)
/-- Block g is an array of type t of just these bytes, that may be written. -/
def ArrT (t : TypeId) (w : World) (g : Nat) (c : List UInt8) : Prop := w.heap[g]? = some (.cells (byteVals c).toArray t (0, 0))
/-- The type t is one of arrays of n bytes. -/
structure IsArr (t : TypeId) (n : Nat) : Prop where
  info : (Try.prog.info? t).map (·.size) = some n
  row : Try.prog.underlying t = some (.array n 5)
  guard : Try.prog.eqGuardType Try.prog.depth t = false
variable {t : TypeId}
theorem ArrT.lt {w : World} {g : Nat} {c : List UInt8} (h : ArrT t w g c) : g < w.heap.size := (Array.getElem?_eq_some_iff.1 h).1
theorem ArrT.cell {w : World} {g : Nat} {c : List UInt8} (h : ArrT t w g c) (i : Nat) (hi : i < c.length) : w.cell? ⟨g, i, none⟩ = some (.int .u8 (byteAt c i)) := by
  rw [cell_of_row w g i _ _ _ h]
  simpa using byteVals_getElem? c i hi
theorem ArrT.frozen {w : World} {g : Nat} {c : List UInt8} (h : ArrT t w g c) (i : Nat) : w.frozen? ⟨g, i, none⟩ = false := frozen_of_row w g i _ _ h
theorem ArrT.store {w : World} {g : Nat} {c : List UInt8} (h : ArrT t w g c) (i : Nat) (x : Int) (b : UInt8) (hx : x = (b.toNat : Int)) : ArrT t (w.setCell ⟨g, i, none⟩ (.int .u8 x)) g (c.set i b) := by
  subst hx
  unfold ArrT
  rw [heap_setCell_same w g i _ _ _ h, ← byteVals_set]
  simp
theorem ArrT.range {w : World} {g : Nat} {c : List UInt8} (h : ArrT t w g c) : w.rangeAt g 0 (byteVals c) := by
  intro j v hv
  rw [cell_of_row w g _ _ _ _ h]
  simpa using hv
theorem ArrT.below {w w' : World} {g : Nat} {c : List UInt8} (h : ArrT t w g c) {B : Nat} (hb : Below B w w') (hB : g < B) : ArrT t w' g c := (hb.block g hB).trans h
theorem ArrT.up {w w' : World} {g : Nat} {c : List UInt8} (h : ArrT t w g c) (hb : Below w.heap.size w w') : ArrT t w' g c := h.below hb h.lt
theorem ArrT.iterAt {w : World} {g : Nat} {c : List UInt8} (h : ArrT t w g c) {k : Nat} (hk : g ≠ k) (s : ByteArray) (p : Nat) : ArrT t (w.iterAt k s p) g c := by
  unfold ArrT
  rw [Lib.iterAt_other w k g s p hk]
  exact h
theorem ArrT.setOther {w : World} {g : Nat} {c : List UInt8} (h : ArrT t w g c) {k : Nat} (hk : g ≠ k) (i : Nat) (v : Value) : ArrT t (w.setCell ⟨k, i, none⟩ v) g c := (Below.heap_setCell w _ v g (fun e => hk e)).trans h
theorem ArrT.rowOther {w : World} {g : Nat} {c : List UInt8} (h : ArrT t w g c) {k : Nat} (hk : g ≠ k) (cs : Array Value) : ArrT t (w.setRow k cs) g c := (setRow_other w k g cs hk).trans h
theorem arrT_new (w : World) (c : List UInt8) : ArrT t (w.alloc (.cells (byteVals c).toArray t)) w.heap.size c := heap_alloc_new w _
theorem arrT_setRow {w : World} {g : Nat} {c : List UInt8} (h : ArrT t w g c) (d : List UInt8) : ArrT t (w.setRow g (byteVals d).toArray) g d := setRow_heap _ _ _ _ _ _ h
section
variable {ops : Array Oper} {rest : List Oper} {o : Oper} {a : Act} {w : World} {Q : Exit → Act → World → Prop}
theorem wpList_store_arrT (hgd : o.guard = none) (x y : Operand) (ho : o.op = .store t x y) (g : Nat) (l : List UInt8) (ht : IsArr t l.length) (old : List UInt8) (hx : a.eval x = .pointer (some ⟨g, 0, none⟩)) (hy : a.eval y = .agg (byteVals l).toArray)
    (hg : ArrT t w g old) (hold : old.length = l.length)
    (hR : wpList Try.prog ops Q rest (a.put o.dst undef) (w.setRow g (byteVals l).toArray)) : wpList Try.prog ops Q (o :: rest) a w :=
  wpList_store_row hgd _ x y ho g (byteVals l).toArray hx hy _ _ hg (by rw [ht.info]; simp [byteVals_length]) (by simp [byteVals_length, hold]) (arr_one l) hR
theorem wpList_store_newT (hgd : o.guard = none) (x y : Operand) (ho : o.op = .store t x y) (l : List UInt8) (ht : IsArr t l.length) (old : Array Value) (hx : a.eval x = .pointer (some ⟨w.heap.size, 0, none⟩)) (hy : a.eval y = .agg (byteVals l).toArray) (hold : old.size = l.length)
    (hR : wpList Try.prog ops Q rest (a.put o.dst undef) (w.alloc (.cells (byteVals l).toArray t))) : wpList Try.prog ops Q (o :: rest) a (w.alloc (.cells old t)) := by
  refine wpList_store_row hgd _ x y ho w.heap.size (byteVals l).toArray hx hy _ old (heap_alloc_new w _) (by rw [ht.info]; simp [byteVals_length]) (by simp [byteVals_length, hold]) (arr_one l) ?_
  rw [World.setRow_alloc_new]
  exact hR
theorem wpList_load_arrT (hgd : o.guard = none) (x : Operand) (ho : o.op = .load t x) (g : Nat) (l : List UInt8) (ht : IsArr t l.length) (hx : a.eval x = .pointer (some ⟨g, 0, none⟩)) (hg : ArrT t w g l)
    (hR : wpList Try.prog ops Q rest (a.put o.dst (arrV l)) w) : wpList Try.prog ops Q (o :: rest) a w := by
  have hd := ht.row
  exact wpList_load_mid hgd _ x ho g 0 hx (byteVals l) _ hg.range hd rfl (by rw [byteVals_length]; exact ht.info) hR
end
theorem run_load_arrT {w : World} {g : Nat} {l : List UInt8} (ht : IsArr t l.length) (hg : ArrT t w g l) : (loadVar t ⟨g, 0, none⟩).run Try.prog w = .ok (arrV l) w := by
  have hd := ht.row
  exact run_loadVar_mid (P := Try.prog) w g 0 _ (byteVals l) _ hg.range hd rfl (by rw [byteVals_length]; exact ht.info)
theorem results_arrT {fn : Func} {p : Tmp} (h : fn.results = #[.cell p t]) (tmps : Array Value) (w : World) (g : Nat) (l : List UInt8) (ht : IsArr t l.length) (hp : tmps.getD p undef = .pointer (some ⟨g, 0, none⟩))
    (hg : ArrT t w g l) : (results fn tmps).run Try.prog w = .ok (arrV l) w := by
  have hd := ht.row
  exact results_cell_row h tmps w g _ _ _ _ hp hg hd rfl (by rw [ht.info]; simp [byteVals_length])
theorem results_arrT2 {fn : Func} {p u : Tmp} (h : fn.results = #[.cell p t, .tmp u]) (tmps : Array Value) (w : World) (g : Nat) (l : List UInt8) (ht : IsArr t l.length) (hp : tmps.getD p undef = .pointer (some ⟨g, 0, none⟩))
    (hg : ArrT t w g l) : (results fn tmps).run Try.prog w = .ok (.tuple #[arrV l, tmps.getD u undef]) w := by
  rw [results_cell_tmp h, hp]
  simp only [asAddr, Sem.run_pure, Result.andThen_ok, run_load_arrT ht hg]
theorem exec_load_arrT {ρ : Operand → Value} {o : Oper} {W : World} (x : Operand) (ho : o.op = .load t x) (g : Nat) (l : List UInt8) (ht : IsArr t l.length) (hx : ρ x = .pointer (some ⟨g, 0, none⟩)) (hg : ArrT t W g l) :
    (execOp ρ o).run Try.prog W = .ok (.value (arrV l)) W := by
  unfold execOp
  simp only [ho, hx, Instr.loadAt, Instr.sureAddr, Sem.run_bind, Sem.run_pure, Result.andThen_ok, run_load_arrT ht hg]
/-- Arrays compared. -/
theorem eq_items (d : Nat) (l m : List UInt8) (W : World) : ∀ is : List Nat, (∀ i ∈ is, i < l.length ∧ i < m.length) →
    (Op.eqItems (d + 1) 5 1 (byteVals l).toArray (byteVals m).toArray is).run Try.prog W = .ok (is.all fun i => l.getD i 0 == m.getD i 0) W
  | [], _ => rfl
  | i :: is, h => by
    have hk : Try.prog.plainKey 5 = true := by kernel_rfl
    have e1 := byteVals_getElem? l i (h i (by simp)).1
    have e2 := byteVals_getElem? m i (h i (by simp)).2
    have ih := eq_items d l m W is (fun j hj => h j (by simp [hj]))
    have p1 := run_part_plain (P := Try.prog) (w := W) (e := 5) hk (xs := (byteVals l).toArray) (off := i * 1) (by rw [Nat.mul_one, List.getElem?_toArray]; exact e1)
    have p2 := run_part_plain (P := Try.prog) (w := W) (e := 5) hk (xs := (byteVals m).toArray) (off := i * 1) (by rw [Nat.mul_one, List.getElem?_toArray]; exact e2)
    have p3 : (Op.equalIn (d + 1) 5 (.int .u8 (byteAt l i)) (.int .u8 (byteAt m i))).run Try.prog W = .ok (l.getD i 0 == m.getD i 0) W := by
      have : (byteAt l i == byteAt m i) = (l.getD i 0 == m.getD i 0) := by
        unfold byteAt
        by_cases hq : l.getD i 0 = m.getD i 0
        · rw [hq]; simp
        · rw [beq_eq_false_iff_ne.2 hq, beq_eq_false_iff_ne]
          intro e
          exact hq (UInt8.toNat_inj.1 (by omega))
      rw [← this]
      unfold Op.equalIn
      go_simp
    rw [Op.eqItems]
    simp only [Sem.run_bind, p1, p2, p3, Result.andThen_ok]
    cases hq : (l.getD i 0 == m.getD i 0)
    · simp only [Bool.not_false, if_true, List.all_cons, hq, Bool.false_and]
      rfl
    · simp only [Bool.not_true, Bool.false_eq_true, if_false, List.all_cons, hq, Bool.true_and]
      exact ih
theorem all_range_eq (l m : List UInt8) (h : l.length = m.length) : ((List.range l.length).all fun i => l.getD i 0 == m.getD i 0) = decide (l = m) := by
  by_cases e : l = m
  · subst e
    simp
  · rw [decide_eq_false e, Bool.eq_false_iff]
    intro ha
    refine e (List.ext_getElem h fun i h1 h2 => ?_)
    have := List.all_eq_true.1 ha i (by simp; exact h1)
    simpa [List.getD, h1, h2] using this
theorem eq_arrV {t : TypeId} {n : Nat} (ht : IsArr t n) (d : Nat) (l m : List UInt8) (hl : l.length = n) (hm : m.length = n) (W : World) :
    (Op.equalIn (d + 2) t (arrV l) (arrV m)).run Try.prog W = .ok (decide (l = m)) W := by
  obtain ⟨i0, hi, _⟩ := info_parts info5
  have hc : Try.prog.cellsOf 5 = 1 := by kernel_rfl
  subst hl
  unfold arrV
  rw [run_equalIn_array W (d + 1) _ _ ht.row hi, hc, eq_items d l m W _ (fun i hi => by
    have := List.mem_range.1 hi
    omega), all_range_eq l m hm.symm]
theorem eql_arrV {t : TypeId} {n : Nat} (ht : IsArr t n) (x y : Operand) (l m : List UInt8) (hl : l.length = n) (hm : m.length = n) (W : World) :
    (do eqGuard .eql t x y (arrV l) (arrV m); binOp .eql t (arrV l) (arrV m) : Sem Value).run Try.prog W = .ok (.bool (decide (l = m))) W := by
  have h := eq_arrV ht 9998 l m hl hm W
  have hg := ht.guard
  unfold arrV at *
  go_simp
theorem exec_eql_arr {t : TypeId} {n : Nat} {ρ : Operand → Value} {o : Oper} {W : World} (ht : IsArr t n) (x y : Operand) (ty : TypeId) (ho : o.op = .binOp .eql t x y ty) (l m : List UInt8) (hl : l.length = n) (hm : m.length = n) (hx : ρ x = arrV l) (hy : ρ y = arrV m) :
    (execOp ρ o).run Try.prog W = .ok (.value (.bool (decide (l = m)))) W := by
  have := eql_arrV ht x y l m hl hm W
  unfold execOp
  simp only [ho, hx, hy, Sem.run_bind] at this ⊢
  rw [this]
  rfl
section
variable {ops : Array Oper} {rest : List Oper} {o : Oper} {a : Act} {w : World} {Q : Exit → Act → World → Prop}
theorem wpList_eql_arr {t : TypeId} {n : Nat} (hgd : o.guard = none) (ht : IsArr t n) (x y : Operand) (ty : TypeId) (ho : o.op = .binOp .eql t x y ty) (l m : List UInt8) (hl : l.length = n) (hm : m.length = n) (hx : a.eval x = arrV l) (hy : a.eval y = arrV m)
    (hR : wpList Try.prog ops Q rest (a.put o.dst (.bool (decide (l = m)))) w) : wpList Try.prog ops Q (o :: rest) a w :=
  wpList_plain hgd fun K hK => by
    unfold Oper.wp
    rw [exec_eql_arr ht x y ty ho l m hl hm hx hy]
    exact hK _ _ hR
theorem wpList_eql_arrG {t : TypeId} {n : Nat} (hw : Region.wanted o (yielded ops a.tmps) = true) (ht : IsArr t n) (x y : Operand) (ty : TypeId) (ho : o.op = .binOp .eql t x y ty) (l m : List UInt8) (hl : l.length = n) (hm : m.length = n) (hx : a.eval x = arrV l) (hy : a.eval y = arrV m)
    (hR : wpList Try.prog ops Q rest (a.put o.dst (.bool (decide (l = m)))) w) : wpList Try.prog ops Q (o :: rest) a w :=
  wpList_wanted hw fun K hK => by
    unfold Oper.wp
    rw [exec_eql_arr ht x y ty ho l m hl hm hx hy]
    exact hK _ _ hR
theorem wpList_load_arrG (hw : Region.wanted o (yielded ops a.tmps) = true) (x : Operand) (ho : o.op = .load t x) (g : Nat) (l : List UInt8) (ht : IsArr t l.length) (hx : a.eval x = .pointer (some ⟨g, 0, none⟩)) (hg : ArrT t w g l)
    (hR : wpList Try.prog ops Q rest (a.put o.dst (arrV l)) w) : wpList Try.prog ops Q (o :: rest) a w :=
  wpList_wanted hw fun K hK => by
    unfold Oper.wp
    rw [exec_load_arrT x ho g l ht hx hg]
    exact hK _ _ hR
theorem wpList_eql_arrB {t : TypeId} {n : Nat} (hgd : o.guard = none) (ht : IsArr t n) (x y : Operand) (ty : TypeId) (ho : o.op = .binOp .eql t x y ty) (l m : List UInt8) (hl : l.length = n) (hm : m.length = n) (b : Bool) (hb : decide (l = m) = b) (hx : a.eval x = arrV l) (hy : a.eval y = arrV m)
    (hR : wpList Try.prog ops Q rest (a.put o.dst (.bool b)) w) : wpList Try.prog ops Q (o :: rest) a w := by
  subst hb
  exact wpList_eql_arr hgd ht x y ty ho l m hl hm hx hy hR
theorem wpList_eql_arrGB {t : TypeId} {n : Nat} (hw : Region.wanted o (yielded ops a.tmps) = true) (ht : IsArr t n) (x y : Operand) (ty : TypeId) (ho : o.op = .binOp .eql t x y ty) (l m : List UInt8) (hl : l.length = n) (hm : m.length = n) (b : Bool) (hb : decide (l = m) = b) (hx : a.eval x = arrV l) (hy : a.eval y = arrV m)
    (hR : wpList Try.prog ops Q rest (a.put o.dst (.bool b)) w) : wpList Try.prog ops Q (o :: rest) a w := by
  subst hb
  exact wpList_eql_arrG hw ht x y ty ho l m hl hm hx hy hR
end
end Go.Proofs.Ytgimcapcnidjjaa
