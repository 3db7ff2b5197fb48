/- A table of prefixes in memory (package lpm): boxes, nodes, the row of free ones, what a call may change. The small functions of package lpm: side, take, give. Items and nodes are built; a table's nodes are written, taken and given back: take and give of package lpm. take and give of package lpm. fork of package lpm. put of package lpm: an item is laid in at or below a node. put of package lpm: below a node, and where two part. -/
import Derived.Test.YtgimcapcnidjjaaPreB
import Derived.Test.YtgimcapcnidjjaaStc
import Derived.Test.YtgimcapcnidjjaaOrd9
import Derived.Great.BuildSlice
import Derived.Deep.AppendLies
namespace Go.Proofs.Ytgimcapcnidjjaa
open Go Go.RowKit

/-! Boxes of several cells. -/
def Bx (w : World) (g : Nat) (t : TypeId) (l : List Value) : Prop := w.heap[g]? = some (.cells l.toArray t (0, 0))
theorem Bx.lt {w : World} {g : Nat} {t : TypeId} {l : List Value} (h : Bx w g t l) : g < w.heap.size := (Array.getElem?_eq_some_iff.1 h).1
theorem Bx.up {w w' : World} {g : Nat} {t : TypeId} {l : List Value} (h : Bx w g t l) (hb : Below w.heap.size w w') : Bx w' g t l := (hb.block g h.lt).trans h
theorem Bx.al {w : World} {g : Nat} {t : TypeId} {l : List Value} (h : Bx w g t l) (o : Obj) : Bx (w.alloc o) g t l := h.up ((Below.refl _ _).alloc (Nat.le_refl _) _)
theorem Bx.new (w : World) (t : TypeId) (l : List Value) : Bx (w.alloc (.cells l.toArray t)) w.heap.size t l := heap_alloc_new w _
theorem Bx.cell {w : World} {g : Nat} {t : TypeId} {l : List Value} (h : Bx w g t l) (j : Nat) : w.cell? ⟨g, j, none⟩ = l[j]? := by
  rw [cell_of_row w g j _ _ _ h]
  simp
theorem Bx.frozen {w : World} {g : Nat} {t : TypeId} {l : List Value} (h : Bx w g t l) (i : Nat) : w.frozen? ⟨g, i, none⟩ = false := frozen_of_row w g i _ _ h
theorem Bx.range {w : World} {g : Nat} {t : TypeId} {l : List Value} (h : Bx w g t l) (k : Nat) (m : List Value) (hm : (l.drop k).take m.length = m) : w.rangeAt g k m := by
  intro j v hv
  rw [h.cell]
  have hj : j < m.length := (List.getElem?_eq_some_iff.1 hv).1
  rw [← hm, List.getElem?_take, if_pos hj, List.getElem?_drop] at hv
  exact hv
theorem Bx.set {w : World} {g : Nat} {t : TypeId} {l : List Value} (h : Bx w g t l) (i : Nat) (v : Value) : Bx (w.setCell ⟨g, i, none⟩ v) g t (l.set i v) := by
  unfold Bx
  rw [heap_setCell_same w g i _ _ _ h]
  simp
theorem Bx.setOther {w : World} {g : Nat} {t : TypeId} {l : List Value} (h : Bx w g t l) {k : Nat} (hk : g ≠ k) (i : Nat) (v : Value) : Bx (w.setCell ⟨k, i, none⟩ v) g t l := (Below.heap_setCell w _ v g (fun e => hk e)).trans h
theorem Bx.row {w : World} {g : Nat} {t : TypeId} {l : List Value} (h : Bx w g t l) (m : List Value) : Bx (w.setRow g m.toArray) g t m := setRow_heap _ _ _ _ _ _ h
/-! Laws: a thing of several cells goes whole into a fresh box, into a box, out of any place. -/
section
variable {ops : Array Oper} {rest : List Oper} {o : Oper} {a : Act} {w : World} {Q : Exit → Act → World → Prop}
theorem wpList_store_fresh (hgd : o.guard = none) (ty : TypeId) (x y : Operand) (ho : o.op = .store ty x y) (l : List Value) (old : Array Value) (b : Nat) (hx : a.eval x = .pointer (some ⟨b, 0, none⟩)) (hbw : w.heap.size = b) (hy : a.eval y = .agg l.toArray)
    (hi : (Try.prog.info? ty).map (·.size) = some l.length) (hold : old.size = l.length) (h1 : ∀ v ∈ l, v.oneCell' = true)
    (hR : wpList Try.prog ops Q rest (a.put o.dst undef) (w.alloc (.cells l.toArray ty))) : wpList Try.prog ops Q (o :: rest) a (w.alloc (.cells old ty)) := by
  subst hbw
  refine wpList_store_row hgd ty x y ho w.heap.size l.toArray hx hy ty old (heap_alloc_new w _) (by simpa using hi) (by simpa using hold) (all_oneCell_toArray h1) ?_
  rw [World.setRow_alloc_new]
  exact hR
theorem wpList_store_bx (hgd : o.guard = none) (ty : TypeId) (x y : Operand) (ho : o.op = .store ty x y) (g : Nat) (l m : List Value) (hx : a.eval x = .pointer (some ⟨g, 0, none⟩)) (hy : a.eval y = .agg l.toArray)
    (hg : Bx w g ty m) (hi : (Try.prog.info? ty).map (·.size) = some l.length) (hold : m.length = l.length) (h1 : ∀ v ∈ l, v.oneCell' = true)
    (hR : wpList Try.prog ops Q rest (a.put o.dst undef) (w.setRow g l.toArray)) : wpList Try.prog ops Q (o :: rest) a w :=
  wpList_store_row hgd ty x y ho g l.toArray hx hy ty _ hg (by simpa using hi) (by simpa using hold) (all_oneCell_toArray h1) hR
theorem wpList_load_any (hgd : o.guard = none) (ty : TypeId) (x : Operand) (ho : o.op = .load ty x) (b k : Nat) (l : List Value) (d : TypeDesc) (hx : a.eval x = .pointer (some ⟨b, k, none⟩)) (hc : w.rangeAt b k l)
    (hu : Try.prog.underlying ty = some d) (hd : d.isRow = true) (hi : (Try.prog.info? ty).map (·.size) = some l.length)
    (hR : wpList Try.prog ops Q rest (a.put o.dst (.agg l.toArray)) w) : wpList Try.prog ops Q (o :: rest) a w :=
  wpList_load_mid hgd ty x ho b k hx l d hc hu hd hi hR
end
theorem exec_load_any {ρ : Operand → Value} {o : Oper} {W : World} (ty : TypeId) (x : Operand) (ho : o.op = .load ty x) (b k : Nat) (l : List Value) (d : TypeDesc) (hx : ρ x = .pointer (some ⟨b, k, none⟩)) (hc : W.rangeAt b k l)
    (hu : Try.prog.underlying ty = some d) (hd : d.isRow = true) (hi : (Try.prog.info? ty).map (·.size) = some l.length) :
    (execOp ρ o).run Try.prog W = .ok (.value (.agg l.toArray)) W := by
  unfold execOp
  simp only [ho, hx, Instr.loadAt, Instr.sureAddr, Sem.run_bind, Sem.run_pure, Result.andThen_ok, run_loadVar_mid (P := Try.prog) W b k ty l d hc hu hd hi]
/-! Items and nodes. -/
structure Nd where
  p : Pfx
  v : Int
  held : Bool
  k0 : Nat
  k1 : Nat
def itR (p : Pfx) (v : Int) : List Value := p.row ++ [.int .i64 v]
def itV (p : Pfx) (v : Int) : Value := .agg (itR p v).toArray
def Nd.row (d : Nd) : List Value := d.p.row ++ [.int .i64 d.v, .bool d.held, .int .i64 (d.k0 : Int), .int .i64 (d.k1 : Int)]
def Nd.val (d : Nd) : Value := .agg d.row.toArray
def Nd.kid (d : Nd) (b : Bool) : Nat := if b then d.k1 else d.k0
def Nd.setKid (d : Nd) (b : Bool) (k : Nat) : Nd := if b then { d with k1 := k } else { d with k0 := k }
theorem row_len {p : Pfx} (f : p.addr.length = 16) : p.row.length = 18 := by
  unfold Pfx.row
  simp [byteVals_length, f]
theorem it_len {p : Pfx} (f : p.addr.length = 16) (v : Int) : (itR p v).length = 19 := by simp [itR, row_len f]
theorem nd_len {d : Nd} (f : d.p.addr.length = 16) : d.row.length = 22 := by simp [Nd.row, row_len f]
theorem row_one (p : Pfx) : ∀ v ∈ p.row, v.oneCell' = true := by
  intro v hv
  unfold Pfx.row at hv
  simp only [List.mem_cons, List.mem_append] at hv
  rcases hv with rfl | hv | rfl | hv
  · rfl
  · exact byteVals_oneCell _ _ hv
  · rfl
  · cases hv
theorem it_one (p : Pfx) (x : Int) : ∀ v ∈ itR p x, v.oneCell' = true := by
  intro v hv
  rcases List.mem_append.1 hv with hv | hv
  · exact row_one p v hv
  · rcases List.mem_cons.1 hv with rfl | hv
    · rfl
    · cases hv
theorem nd_one (d : Nd) : ∀ v ∈ d.row, v.oneCell' = true := by
  intro v hv
  rcases List.mem_append.1 hv with hv | hv
  · exact row_one d.p v hv
  · simp only [List.mem_cons] at hv
    rcases hv with rfl | rfl | rfl | rfl | hv
    · rfl
    · rfl
    · rfl
    · rfl
    · cases hv
theorem nd_info : (Try.prog.info? 111).map (·.size) = some 22 := by kernel_rfl
theorem it_info : (Try.prog.info? 44).map (·.size) = some 19 := by kernel_rfl
theorem nd_infoC {d : Nd} (f : d.p.addr.length = 16) : (Try.prog.info? 111).map (·.size) = some d.row.length := by rw [nd_len f]; exact nd_info
theorem it_infoC {p : Pfx} (f : p.addr.length = 16) (v : Int) : (Try.prog.info? 44).map (·.size) = some (itR p v).length := by rw [it_len f]; exact it_info
theorem pf_infoC {p : Pfx} (f : p.addr.length = 16) : (Try.prog.info? 25).map (·.size) = some p.row.length := by rw [row_len f]; exact pfx_info
/-- A node's parts, by their places. -/
theorem nd_pre {d : Nd} : (d.row.drop 0).take d.p.row.length = d.p.row := by simp [Nd.row]
theorem nd_it {d : Nd} : (d.row.drop 0).take (itR d.p d.v).length = itR d.p d.v := by
  rw [List.drop_zero]
  unfold Nd.row itR
  rw [List.take_append, List.take_of_length_le (by simp)]
  simp
theorem it_pre {p : Pfx} {v : Int} : ((itR p v).drop 0).take p.row.length = p.row := by simp [itR]
theorem nd_v {d : Nd} (f : d.p.addr.length = 16) : d.row[18]? = some (.int .i64 d.v) := by
  unfold Nd.row
  rw [List.getElem?_append_right (by rw [row_len f]; omega), row_len f]
  rfl
theorem nd_held {d : Nd} (f : d.p.addr.length = 16) : d.row[19]? = some (.bool d.held) := by
  unfold Nd.row
  rw [List.getElem?_append_right (by rw [row_len f]; omega), row_len f]
  rfl
theorem nd_k0 {d : Nd} (f : d.p.addr.length = 16) : d.row[20]? = some (.int .i64 (d.k0 : Int)) := by
  unfold Nd.row
  rw [List.getElem?_append_right (by rw [row_len f]; omega), row_len f]
  rfl
theorem nd_k1 {d : Nd} (f : d.p.addr.length = 16) : d.row[21]? = some (.int .i64 (d.k1 : Int)) := by
  unfold Nd.row
  rw [List.getElem?_append_right (by rw [row_len f]; omega), row_len f]
  rfl
theorem row_plen {p : Pfx} (f : p.addr.length = 16) : p.row[17]? = some (.int .i64 p.len) := by
  unfold Pfx.row
  rw [List.getElem?_cons_succ, List.getElem?_append_right (by rw [byteVals_length, f]; omega), byteVals_length, f]
  rfl
theorem nd_plen {d : Nd} (f : d.p.addr.length = 16) : d.row[17]? = some (.int .i64 d.p.len) := by
  unfold Nd.row
  rw [List.getElem?_append_left (by rw [row_len f]; omega)]
  exact row_plen f
theorem it_v {p : Pfx} {v : Int} (f : p.addr.length = 16) : (itR p v)[18]? = some (.int .i64 v) := by
  unfold itR
  rw [List.getElem?_append_right (by rw [row_len f]; omega), row_len f]
  rfl
theorem nd_kids {d : Nd} (f : d.p.addr.length = 16) : (d.row.drop 20).take 2 = [.int .i64 (d.k0 : Int), .int .i64 (d.k1 : Int)] := by
  unfold Nd.row
  rw [List.drop_append, row_len f, List.drop_of_length_le (by rw [row_len f]; omega)]
  rfl
theorem nd_set_kid {d : Nd} (f : d.p.addr.length = 16) (b : Bool) (k : Nat) : d.row.set (20 + if b then 1 else 0) (.int .i64 (k : Int)) = (d.setKid b k).row := by
  unfold Nd.row
  rw [List.set_append_right _ _ (by rw [row_len f]; omega), row_len f]
  cases b <;> rfl
theorem nd_set_v {d : Nd} (f : d.p.addr.length = 16) (x : Int) : d.row.set 18 (.int .i64 x) = (Nd.row { d with v := x }) := by
  unfold Nd.row
  rw [List.set_append_right _ _ (by rw [row_len f]; omega), row_len f]
  rfl
theorem nd_set_held {d : Nd} (f : d.p.addr.length = 16) (x : Bool) : d.row.set 19 (.bool x) = (Nd.row { d with held := x }) := by
  unfold Nd.row
  rw [List.set_append_right _ _ (by rw [row_len f]; omega), row_len f]
  rfl
/-! What a call may change: the blocks of X, and new ones. -/
structure Upd (w : World) (X : Nat → Prop) (w' : World) (X' : Nat → Prop) : Prop where
  os : w'.os = w.os
  tape : w'.tape = w.tape
  output : w'.output = w.output
  size : w.heap.size ≤ w'.heap.size
  block : ∀ k, k < w.heap.size → ¬ X k → w'.heap[k]? = w.heap[k]?
  sub : ∀ k, X' k → X k ∨ w.heap.size ≤ k
theorem Upd.refl (w : World) (X : Nat → Prop) : Upd w X w X := ⟨rfl, rfl, rfl, Nat.le_refl _, fun _ _ _ => rfl, fun _ h => .inl h⟩
theorem Upd.trans {w w1 w2 : World} {X X1 X2 : Nat → Prop} (h : Upd w X w1 X1) (k : Upd w1 X1 w2 X2) : Upd w X w2 X2 :=
  ⟨k.os.trans h.os, k.tape.trans h.tape, k.output.trans h.output, Nat.le_trans h.size k.size,
   fun i hi hx => (k.block i (Nat.lt_of_lt_of_le hi h.size) (fun h1 => (h.sub i h1).elim hx (fun h2 => absurd hi (by omega)))).trans (h.block i hi hx),
   fun i hi => (k.sub i hi).elim (h.sub i) (fun h1 => .inr (Nat.le_trans h.size h1))⟩
theorem Upd.of_below {w w' : World} (X : Nat → Prop) (h : Below w.heap.size w w') : Upd w X w' X := ⟨h.os, h.tape, h.output, h.size, fun k hk _ => h.block k hk, fun _ h => .inl h⟩
theorem Upd.below {w w' : World} {X X' : Nat → Prop} (h : Upd w X w' X') (B : Nat) (hB : B ≤ w.heap.size) (hX : ∀ k, X k → B ≤ k) : Below B w w' :=
  ⟨h.os, h.tape, h.output, h.size, fun k hk => h.block k (by omega) (fun hx => by have := hX k hx; omega)⟩
theorem Upd.of_grown {w w' : World} {row : Option Nat} {X : Nat → Prop} (h : w.grownBy w' row) (hX : ∀ k, row = some k → X k) : Upd w X w' X :=
  ⟨h.os, h.tape, h.output, h.size, fun k hk hx => h.block k hk (fun e => hx (hX k e.symm)), fun _ h => .inl h⟩
theorem Upd.wide {w w' : World} {X X' X2 : Nat → Prop} (h : Upd w X w' X') (hs : ∀ k, X2 k → X' k ∨ w.heap.size ≤ k) : Upd w X w' X2 :=
  ⟨h.os, h.tape, h.output, h.size, h.block, fun k hk => (hs k hk).elim (h.sub k) .inr⟩
theorem Upd.setCell {w : World} {X : Nat → Prop} (g i : Nat) (v : Value) (hX : X g) : Upd w X (w.setCell ⟨g, i, none⟩ v) X := by
  have hb : Below g w (w.setCell ⟨g, i, none⟩ v) := (Below.refl g w).setCell (p := ⟨g, i, none⟩) (Nat.le_refl _) v
  exact ⟨hb.os, hb.tape, hb.output, hb.size, fun k _ hx => Below.heap_setCell w _ v k (fun e => hx (by subst e; exact hX)), fun _ h => .inl h⟩
theorem Upd.setCells {X : Nat → Prop} (g : Nat) (hX : X g) : ∀ (vs : List Value) (w : World) (i : Nat), Upd w X (w.setCells g i vs) X
  | [], w, _ => Upd.refl w X
  | v :: vs, _, i => (Upd.setCell g i v hX).trans (Upd.setCells g hX vs _ (i + 1))
theorem Bx.upd {w w' : World} {X X' : Nat → Prop} {g : Nat} {t : TypeId} {l : List Value} (h : Bx w g t l) (hu : Upd w X w' X') (hg : ¬ X g) : Bx w' g t l := (hu.block g h.lt hg).trans h
/-! The table. -/
structure Tb where
  six : Bool
  room : Int
  count : Int
  root : Nat
  nds : List Nd
  free : List Nat
def intsN (l : List Nat) : List Value := l.map fun n : Nat => Value.int .i64 (n : Int)
def Tb.head (T : Tb) (vn vf : Value) : List Value := [.bool T.six, .int .i64 T.room, .int .i64 T.count, .int .i64 (T.root : Int), vn, vf]
structure TabG (w : World) (X : Nat → Prop) (g : Nat) (T : Tb) (gn cap : Nat) (vf : Value) : Prop where
  box : Bx w g 98 (T.head (.slice (some ⟨gn, 0, none⟩) T.nds.length cap) vf)
  nds : w.ownsRow 0 111 22 (.slice (some ⟨gn, 0, none⟩) T.nds.length cap) T.nds.length (T.nds.flatMap Nd.row)
  free : w.ownsRow 0 3 1 vf T.free.length (intsN T.free)
  addr : ∀ d ∈ T.nds, d.p.addr.length = 16
  inG : X g
  inN : X gn
  inF : ∀ k, vf.ownBlock = some k → X k
  low : ∀ k, X k → k < w.heap.size
def TabM (w : World) (X : Nat → Prop) (g : Nat) (T : Tb) : Prop := ∃ gn cap vf, TabG w X g T gn cap vf
theorem own_keep {w w' : World} {base : Nat} {e : TypeId} {size : Nat} {v : Value} {n : Nat} {xs : List Value} (h : w.ownsRow base e size v n xs) (hb : ∀ k, v.ownBlock = some k → w'.heap[k]? = w.heap[k]?) : w'.ownsRow base e size v n xs := by
  refine ⟨h.1, ?_⟩
  rcases h.2 with h0 | ⟨g, cap, cur, rfl, h2, hg, h3⟩
  · exact .inl h0
  · exact .inr ⟨g, cap, cur, rfl, h2, (hb g rfl).trans hg, h3⟩
section
variable {w w' : World} {X X' : Nat → Prop} {g gn cap : Nat} {T : Tb} {vf : Value}
theorem TabG.keep (h : TabG w X g T gn cap vf) (hk : ∀ k, X k → w'.heap[k]? = w.heap[k]?) (hs : w.heap.size ≤ w'.heap.size) : TabG w' X g T gn cap vf :=
  ⟨(hk g h.inG).trans h.box, own_keep h.nds (fun k e => by cases e; exact hk gn h.inN), own_keep h.free (fun k e => hk k (h.inF k e)), h.addr, h.inG, h.inN, h.inF, fun k hx => Nat.lt_of_lt_of_le (h.low k hx) hs⟩
theorem TabG.up (h : TabG w X g T gn cap vf) (hb : Below w.heap.size w w') : TabG w' X g T gn cap vf := h.keep (fun k hx => hb.block k (h.low k hx)) hb.size
theorem TabM.up (h : TabM w X g T) (hb : Below w.heap.size w w') : TabM w' X g T := by
  obtain ⟨gn, cap, vf, h⟩ := h
  exact ⟨gn, cap, vf, h.up hb⟩
theorem TabM.al (h : TabM w X g T) (o : Obj) : TabM (w.alloc o) X g T := h.up ((Below.refl _ _).alloc (Nat.le_refl _) _)
theorem TabM.other {Y Y' : Nat → Prop} (h : TabM w X g T) (hu : Upd w Y w' Y') (ha : ∀ k, X k → ¬ Y k) : TabM w' X g T := by
  obtain ⟨gn, cap, vf, h⟩ := h
  exact ⟨gn, cap, vf, h.keep (fun k hx => hu.block k (h.low k hx) (ha k hx)) hu.size⟩
theorem TabM.low (h : TabM w X g T) : ∀ k, X k → k < w.heap.size := by obtain ⟨gn, cap, vf, h⟩ := h; exact h.low
theorem TabM.addr (h : TabM w X g T) : ∀ d ∈ T.nds, d.p.addr.length = 16 := by obtain ⟨gn, cap, vf, h⟩ := h; exact h.addr
theorem TabG.c0 (h : TabG w X g T gn cap vf) : w.cell? ⟨g, 0, none⟩ = some (.bool T.six) := by rw [h.box.cell]; rfl
theorem TabG.c1 (h : TabG w X g T gn cap vf) : w.cell? ⟨g, 1, none⟩ = some (.int .i64 T.room) := by rw [h.box.cell]; rfl
theorem TabG.c2 (h : TabG w X g T gn cap vf) : w.cell? ⟨g, 2, none⟩ = some (.int .i64 T.count) := by rw [h.box.cell]; rfl
theorem TabG.c3 (h : TabG w X g T gn cap vf) : w.cell? ⟨g, 3, none⟩ = some (.int .i64 (T.root : Int)) := by rw [h.box.cell]; rfl
theorem TabG.c4 (h : TabG w X g T gn cap vf) : w.cell? ⟨g, 4, none⟩ = some (.slice (some ⟨gn, 0, none⟩) T.nds.length cap) := by rw [h.box.cell]; rfl
theorem TabG.c5 (h : TabG w X g T gn cap vf) : w.cell? ⟨g, 5, none⟩ = some vf := by rw [h.box.cell]; rfl
theorem TabG.caps (h : TabG w X g T gn cap vf) : T.nds.length ≤ cap ∧ cap ≤ maxLen := by
  rcases h.nds.2 with ⟨h1, _⟩ | ⟨g', cap', cur, h1, _, _, h2, h3, _⟩
  · cases h1
  · cases h1; exact ⟨h2, h3⟩
theorem TabG.range (h : TabG w X g T gn cap vf) (n : Nat) (d : Nd) (hd : T.nds[n]? = some d) : w.rangeAt gn (n * 22) d.row := by
  have h1 : ∀ x ∈ T.nds, (Nd.row x).length = 22 := fun x hx => nd_len (h.addr x hx)
  intro j v hv
  have hn : n < T.nds.length := (List.getElem?_eq_some_iff.1 hd).1
  have hj : j < 22 := by
    have := (List.getElem?_eq_some_iff.1 hv).1
    rw [h1 d (List.mem_of_getElem? hd)] at this
    exact this
  rw [h.nds.cellAt (n * 22 + j) (by omega), flat_get T.nds h1 n j d hd hj]
  exact hv
theorem TabG.there (h : TabG w X g T gn cap vf) (n : Nat) (d : Nd) (hd : T.nds[n]? = some d) (m : Nat) (hm : m ≤ 22) : w.there gn (n * 22) m := by
  intro j hj
  have hl := nd_len (h.addr d (List.mem_of_getElem? hd))
  have := h.range n d hd j (d.row[j]'(by omega)) (List.getElem?_eq_getElem (by omega))
  refine ⟨by rw [this]; rfl, ?_⟩
  rcases h.nds.2 with ⟨h1, _⟩ | ⟨g', cap', cur, h1, _, hg, _⟩
  · cases h1
  · cases h1; exact frozen_of_row w gn _ _ _ hg
theorem TabG.ne (h : TabG w X g T gn cap vf) : g ≠ gn := by
  intro e
  rcases h.nds.2 with ⟨h1, _⟩ | ⟨g', cap', cur, h1, _, hg, _⟩
  · cases h1
  · cases h1
    have := h.box
    unfold Bx at this
    rw [e, hg] at this
    cases this
theorem TabG.neF (h : TabG w X g T gn cap vf) : ∀ k, vf.ownBlock = some k → k ≠ g ∧ k ≠ gn := by
  intro k hk
  rcases h.free.2 with ⟨rfl, _⟩ | ⟨g', cap', cur, rfl, _, hg, _⟩
  · cases hk
  · cases hk
    constructor
    · intro e
      have := h.box
      unfold Bx at this
      rw [← e, hg] at this
      cases this
    · intro e
      rcases h.nds.2 with ⟨h1, _⟩ | ⟨g2, cap2, cur2, h1, _, hg2, _⟩
      · cases h1
      · cases h1
        rw [← e, hg] at hg2
        cases hg2
/-- A field of the table is written. -/
theorem TabG.setCount (h : TabG w X g T gn cap vf) (c : Int) : TabG (w.setCell ⟨g, 2, none⟩ (.int .i64 c)) X g { T with count := c } gn cap vf :=
  ⟨h.box.set 2 _, own_keep h.nds (fun k e => by cases e; exact Below.heap_setCell w _ _ gn (fun e => h.ne e.symm)), own_keep h.free (fun k e => Below.heap_setCell w _ _ k (fun e2 => (h.neF k e).1 e2)), h.addr, h.inG, h.inN, h.inF, fun k hx => by have := h.low k hx; simpa using this⟩
theorem TabG.setRoot (h : TabG w X g T gn cap vf) (r : Nat) : TabG (w.setCell ⟨g, 3, none⟩ (.int .i64 (r : Int))) X g { T with root := r } gn cap vf :=
  ⟨h.box.set 3 _, own_keep h.nds (fun k e => by cases e; exact Below.heap_setCell w _ _ gn (fun e => h.ne e.symm)), own_keep h.free (fun k e => Below.heap_setCell w _ _ k (fun e2 => (h.neF k e).1 e2)), h.addr, h.inG, h.inN, h.inF, fun k hx => by have := h.low k hx; simpa using this⟩
end
end Go.Proofs.Ytgimcapcnidjjaa
namespace Go.Proofs.Ytgimcapcnidjjaa
open Go Go.RowKit

/-- The side of a prefix's address at a place. -/
def sideB (a : List UInt8) (n : Int) : Bool := decide (0 ≤ n ∧ n < 128) && bitL a n.toNat
theorem bitI_side (a : List UInt8) (n : Int) : bitI a n = if sideB a n then 1 else 0 := by
  unfold bitI sideB
  by_cases h : 0 ≤ n ∧ n < 128
  · rw [decide_eq_true h, Bool.true_and]
    by_cases hb : bitL a n.toNat = true
    · rw [if_pos ⟨h.1, h.2, hb⟩, if_pos hb]
    · rw [if_neg (fun h => hb h.2.2), if_neg hb]
  · rw [decide_eq_false h, Bool.false_and, if_neg (fun h2 => h ⟨h2.1, h2.2.1⟩)]
    rfl
/-- Two boxes. -/
def TwoB (w : World) (t u : TypeId) (l m : List Value) (W : World) : Prop := Bx W w.heap.size t l ∧ Bx W (w.heap.size + 1) u m ∧ Below w.heap.size w W
theorem TwoB.up {w : World} {t u : TypeId} {l m : List Value} {W W' : World} (h : TwoB w t u l m W) (hb : Below W.heap.size W W') : TwoB w t u l m W' := ⟨h.1.up hb, h.2.1.up hb, below_up h.2.2 hb h.2.2.size⟩
theorem twoB_new (w : World) (t u : TypeId) (l m : List Value) : TwoB w t u l m ((w.alloc (.cells l.toArray t)).alloc (.cells m.toArray u)) := by
  refine ⟨(Bx.new w t l).al _, ?_, ((Below.refl _ _).alloc (Nat.le_refl _) _).alloc (by simp) _⟩
  have := Bx.new (w.alloc (.cells l.toArray t)) u m
  rw [World.size_alloc] at this
  exact this
set_option maxRecDepth 100000 in
set_option maxHeartbeats 4000000 in
theorem side_any (d : Nd) (q : Pfx) (w : World) (f : d.p.addr.length = 16) (hq : q.addr.length = 16) :
    Calls Try.prog 66 #[d.val, q.val] w fun e w' => e = .returned (.int .i64 (if sideB q.addr d.p.len then 1 else 0)) ∧ Below w.heap.size w w' := by
  have HB := Lib.hid (fun n W => bit_any q.addr n W hq)
  have Z := Lib.hid (twoB_new w 111 25 d.row q.row)
  have c1 : ((w.alloc (.cells d.row.toArray 111)).alloc (.cells q.row.toArray 25)).cell? ⟨w.heap.size, 17, none⟩ = some (.int .i64 d.p.len) := by rw [Z.out.1.cell]; exact nd_plen f
  have HR := Lib.hid (show PfxT ((w.alloc (.cells d.row.toArray 111)).alloc (.cells q.row.toArray 25)) (w.heap.size + 1) q from Z.out.2.1)
  have HQ := Lib.hid hq
  rw [← bitI_side]
  rw [show d.val = .agg d.row.toArray from rfl, show q.val = .agg q.row.toArray from rfl]
  generalize d.p.len = n at *
  clear f hq
  go_enter Try.func66, Try.ntmps66
  go_wp2_with (first | (refine wpList_load_arrR rfl (.tmp 5) rfl (w.heap.size + 1) 1 q.addr HQ.out rfl HR.out.range ?_) | (go_at_call 76; refine (HB.out _ _).mono ?_; rintro e w1 ⟨rfl, b1⟩))
  go_ret
  exact ⟨rfl, (Z.out.up b1).2.2⟩
end Go.Proofs.Ytgimcapcnidjjaa
namespace Go.Proofs.Ytgimcapcnidjjaa
open Go Go.RowKit

section
variable {ops : Array Oper} {rest : List Oper} {o : Oper} {a : Act} {w : World} {Q : Exit → Act → World → Prop}
theorem wpList_build1 (hgd : o.guard = none) (t : TypeId) (i0 : Nat) (x0 : Operand) (ho : o.op = .build t #[(i0, x0)]) (v0 : Value) (l : List Value) (h0 : a.eval x0 = v0) (hb : Try.prog.built t [(i0, v0)] = some l.toArray)
    (hR : wpList Try.prog ops Q rest (a.put o.dst (.agg l.toArray)) w) : wpList Try.prog ops Q (o :: rest) a w :=
  wpList_plain hgd fun K hK => by
    unfold Oper.wp execOp
    have hb := run_build (P := Try.prog) w t #[(i0, a.eval x0)] l.toArray (by rw [h0]; exact hb)
    simp only [ho, List.map_toArray, List.map_cons, List.map_nil, Sem.run_bind, hb, Result.andThen_ok]
    exact hK _ _ hR
theorem wpList_build2 (hgd : o.guard = none) (t : TypeId) (i0 i1 : Nat) (x0 x1 : Operand) (ho : o.op = .build t #[(i0, x0), (i1, x1)]) (v0 v1 : Value) (l : List Value) (h0 : a.eval x0 = v0) (h1 : a.eval x1 = v1) (hb : Try.prog.built t [(i0, v0), (i1, v1)] = some l.toArray)
    (hR : wpList Try.prog ops Q rest (a.put o.dst (.agg l.toArray)) w) : wpList Try.prog ops Q (o :: rest) a w :=
  wpList_plain hgd fun K hK => by
    unfold Oper.wp execOp
    have hb := run_build (P := Try.prog) w t #[(i0, a.eval x0), (i1, a.eval x1)] l.toArray (by rw [h0, h1]; exact hb)
    simp only [ho, List.map_toArray, List.map_cons, List.map_nil, Sem.run_bind, hb, Result.andThen_ok]
    exact hK _ _ hR
theorem wpList_build0 (hgd : o.guard = none) (t : TypeId) (ho : o.op = .build t #[]) (l : List Value) (hb : Try.prog.built t [] = some l.toArray)
    (hR : wpList Try.prog ops Q rest (a.put o.dst (.agg l.toArray)) w) : wpList Try.prog ops Q (o :: rest) a w :=
  wpList_plain hgd fun K hK => by
    unfold Oper.wp execOp
    have hb := run_build (P := Try.prog) w t #[] l.toArray hb
    simp only [ho, List.map_toArray, List.map_nil, Sem.run_bind, hb, Result.andThen_ok]
    exact hK _ _ hR
end
theorem exec_build3 {ρ : Operand → Value} {o : Oper} {W : World} (t : TypeId) (i0 i1 i2 : Nat) (x0 x1 x2 : Operand) (ho : o.op = .build t #[(i0, x0), (i1, x1), (i2, x2)]) (v0 v1 v2 : Value) (l : List Value) (h0 : ρ x0 = v0) (h1 : ρ x1 = v1) (h2 : ρ x2 = v2) (hb : Try.prog.built t [(i0, v0), (i1, v1), (i2, v2)] = some l.toArray) :
    (execOp ρ o).run Try.prog W = .ok (.value (.agg l.toArray)) W := by
  unfold execOp
  have hb := run_build (P := Try.prog) W t #[(i0, ρ x0), (i1, ρ x1), (i2, ρ x2)] l.toArray (by rw [h0, h1, h2]; exact hb)
  simp only [ho, List.map_toArray, List.map_cons, List.map_nil, Sem.run_bind, hb, Result.andThen_ok, Sem.run_pure]
theorem exec_build2 {ρ : Operand → Value} {o : Oper} {W : World} (t : TypeId) (i0 i1 : Nat) (x0 x1 : Operand) (ho : o.op = .build t #[(i0, x0), (i1, x1)]) (v0 v1 : Value) (l : List Value) (h0 : ρ x0 = v0) (h1 : ρ x1 = v1) (hb : Try.prog.built t [(i0, v0), (i1, v1)] = some l.toArray) :
    (execOp ρ o).run Try.prog W = .ok (.value (.agg l.toArray)) W := by
  unfold execOp
  have hb := run_build (P := Try.prog) W t #[(i0, ρ x0), (i1, ρ x1)] l.toArray (by rw [h0, h1]; exact hb)
  simp only [ho, List.map_toArray, List.map_cons, List.map_nil, Sem.run_bind, hb, Result.andThen_ok, Sem.run_pure]
def nd0 : Nd := ⟨⟨false, List.replicate 16 0, 0⟩, 0, false, 0, 0⟩
theorem built_it2 (p : Pfx) (f : p.addr.length = 16) (v : Int) : Try.prog.built 44 [(0, p.val), (1, .int .i64 v)] = some (itR p v).toArray := by
  obtain ⟨s, l, n⟩ := p
  obtain ⟨x0, x1, x2, x3, x4, x5, x6, x7, x8, x9, x10, x11, x12, x13, x14, x15, rfl⟩ := list16P f
  clear f
  kernel_rfl
theorem built_it1 (p : Pfx) (f : p.addr.length = 16) : Try.prog.built 44 [(0, p.val)] = some (itR p 0).toArray := by
  obtain ⟨s, l, n⟩ := p
  obtain ⟨x0, x1, x2, x3, x4, x5, x6, x7, x8, x9, x10, x11, x12, x13, x14, x15, rfl⟩ := list16P f
  clear f
  kernel_rfl
theorem built_it0 : Try.prog.built 44 [] = some (itR ⟨false, List.replicate 16 0, 0⟩ 0).toArray := by kernel_rfl
theorem built_nd0 : Try.prog.built 111 [] = some nd0.row.toArray := by kernel_rfl
theorem built_nd1 (p : Pfx) (f : p.addr.length = 16) (v : Int) : Try.prog.built 111 [(0, itV p v)] = some (Nd.row ⟨p, v, false, 0, 0⟩).toArray := by
  obtain ⟨s, l, n⟩ := p
  obtain ⟨x0, x1, x2, x3, x4, x5, x6, x7, x8, x9, x10, x11, x12, x13, x14, x15, rfl⟩ := list16P f
  clear f
  kernel_rfl
theorem built_nd2 (p : Pfx) (f : p.addr.length = 16) (v : Int) : Try.prog.built 111 [(0, itV p v), (1, .bool true)] = some (Nd.row ⟨p, v, true, 0, 0⟩).toArray := by
  obtain ⟨s, l, n⟩ := p
  obtain ⟨x0, x1, x2, x3, x4, x5, x6, x7, x8, x9, x10, x11, x12, x13, x14, x15, rfl⟩ := list16P f
  clear f
  kernel_rfl
theorem built_nd3 (p : Pfx) (f : p.addr.length = 16) (v : Int) (a b : Nat) : Try.prog.built 111 [(0, itV p v), (1, .bool true), (2, .agg #[.int .i64 (a : Int), .int .i64 (b : Int)])] = some (Nd.row ⟨p, v, true, a, b⟩).toArray := by
  obtain ⟨s, l, n⟩ := p
  obtain ⟨x0, x1, x2, x3, x4, x5, x6, x7, x8, x9, x10, x11, x12, x13, x14, x15, rfl⟩ := list16P f
  clear f
  kernel_rfl
/-- One thing as a slice of one. -/
theorem fold_set : ∀ (l : List Value) (k : Nat) (z : List Value), k + l.length ≤ z.length → (l.zipIdx k).foldl (fun (cs : Array Value) (x : Value × Nat) => cs.setIfInBounds (0 + x.2) x.1) z.toArray = (z.take k ++ l ++ z.drop (k + l.length)).toArray
  | [], k, z, _ => by simp
  | x :: l, k, z, h => by
    have hk : k < z.length := by simp at h; omega
    rw [List.zipIdx_cons, List.foldl_cons]
    have ih := fold_set l (k + 1) (z.set k x) (by simp at h ⊢; omega)
    simp only [Nat.zero_add, List.setIfInBounds_toArray] at ih ⊢
    rw [ih, List.drop_set_of_lt (by omega), List.take_set, List.take_succ_eq_append_getElem hk, List.set_append_right _ _ (by simp; omega)]
    simp [Nat.min_eq_left (Nat.le_of_lt hk), Nat.add_assoc, Nat.add_comm 1]
theorem fill_one (c : Nat) (l : List Value) (hl : l.length = c) (z : Array Value) (hz : z.size = c) : Instr.fill (fun i => some (i * c, c)) z [(0, .agg l.toArray)] = some l.toArray := by
  obtain ⟨z⟩ := z
  unfold Instr.fill
  have h := fold_set l 0 z (by simp at hz; omega)
  simp only [Nat.zero_mul, Value.cells]
  rw [if_neg (by simp at hz ⊢; omega)]
  unfold Instr.fill
  congr 1
  have e : l.toArray.zipIdx = l.zipIdx.toArray := by
    apply Array.ext'
    simp
  rw [e, List.foldl_toArray]
  refine Eq.trans h ?_
  simp at hz
  simp [hz, hl]
theorem fill_nd (d : Nd) (f : d.p.addr.length = 16) (z : Array Value) (hz : z.size = 22) : Instr.fill (fun i => some (i * 22, 22)) z [(0, d.val)] = some d.row.toArray := fill_one 22 d.row (nd_len f) z hz
theorem fill_it (p : Pfx) (v : Int) (f : p.addr.length = 16) (z : Array Value) (hz : z.size = 19) : Instr.fill (fun i => some (i * 19, 19)) z [(0, itV p v)] = some (itR p v).toArray := fill_one 19 (itR p v) (it_len f v) z hz
theorem nd_infoF : (Try.prog.info? 111).map (fun i => (i.zero, i.size, i.bytes)) = some (some nd0.val, 22, 64) := by kernel_rfl
theorem it_infoF : (Try.prog.info? 44).map (fun i => (i.zero, i.size, i.bytes)) = some (some (itV ⟨false, List.replicate 16 0, 0⟩ 0), 19, 40) := by kernel_rfl
theorem wp_one_nd {o : Oper} {a : Act} {w : World} {K : Act → World → Prop} {Q : Exit → Act → World → Prop} (x : Operand) (ho : o.op = .buildSlice 95 1 #[(0, x)]) (d : Nd) (f : d.p.addr.length = 16) (hx : a.eval x = d.val)
    (h : K (a.put o.dst (.slice (some ⟨w.heap.size, 0, none⟩) 1 1)) (w.alloc (.cells d.row.toArray 111))) : o.wp Try.prog a w K Q := by
  obtain ⟨i, hi, hz, hs, _⟩ := info_parts nd_infoF
  refine wp_buildSlice 95 111 1 #[(0, x)] ho d.row.toArray i nd0.val Try.underlying95 hi hz (by rw [hs]; decide) (by rw [hs]; decide) ?_ h
  simp only [List.map_toArray, List.map_cons, List.map_nil, hx, hs]
  exact fill_nd d f _ (by simp)
theorem wpList_one_it {ops : Array Oper} {rest : List Oper} {o : Oper} {a : Act} {w : World} {Q : Exit → Act → World → Prop} (hg : o.guard = none) (x : Operand) (ho : o.op = .buildSlice 56 1 #[(0, x)]) (p : Pfx) (v : Int) (f : p.addr.length = 16) (hx : a.eval x = itV p v)
    (h : wpList Try.prog ops Q rest (a.put o.dst (.slice (some ⟨w.heap.size, 0, none⟩) 1 1)) (w.alloc (.cells (itR p v).toArray 44))) : wpList Try.prog ops Q (o :: rest) a w := by
  obtain ⟨i, hi, hz, hs, _⟩ := info_parts it_infoF
  refine wpList_buildSlice hg 56 44 1 #[(0, x)] ho (itR p v).toArray i (itV ⟨false, List.replicate 16 0, 0⟩ 0) Try.underlying56 hi hz (by rw [hs]; decide) (by rw [hs]; decide) ?_ h
  simp only [List.map_toArray, List.map_cons, List.map_nil, hx, hs]
  exact fill_it p v f _ (by simp)
/-! The table's rows are written. -/
theorem own_setCells {base : Nat} {e : TypeId} {size : Nat} {g n cap : Nat} : ∀ (vs : List Value) (w : World) (xs : List Value) (j : Nat), w.ownsRow base e size (.slice (some ⟨g, 0, none⟩) n cap) n xs → j + vs.length ≤ xs.length →
    (w.setCells g j vs).ownsRow base e size (.slice (some ⟨g, 0, none⟩) n cap) n (xs.take j ++ vs ++ xs.drop (j + vs.length))
  | [], w, xs, j, h, _ => by simpa [World.setCells] using h
  | v :: vs, w, xs, j, h, hj => by
    have hj2 : j < xs.length := by simp at hj; omega
    have := own_setCells vs (w.setCell ⟨g, j, none⟩ v) (xs.set j v) (j + 1) (h.stored j v).1 (by simp at hj ⊢; omega)
    rw [World.setCells]
    have e : (xs.set j v).take (j + 1) ++ vs ++ (xs.set j v).drop (j + 1 + vs.length) = xs.take j ++ (v :: vs) ++ xs.drop (j + (v :: vs).length) := by
      rw [List.drop_set_of_lt (by omega), List.take_set, List.take_succ_eq_append_getElem hj2, List.set_append_right _ _ (by simp; omega)]
      simp [Nat.min_eq_left (Nat.le_of_lt hj2), Nat.add_assoc, Nat.add_comm 1]
    rw [e] at this
    exact this
section
variable {w w' : World} {X X' : Nat → Prop} {g gn cap : Nat} {T : Tb} {vf : Value}
theorem TabG.setNode (h : TabG w X g T gn cap vf) (n : Nat) (hn : n < T.nds.length) (d : Nd) (f : d.p.addr.length = 16) :
    TabG (w.setCells gn (n * 22) d.row) X g { T with nds := T.nds.set n d } gn cap vf := by
  have h1 : ∀ x ∈ T.nds, (Nd.row x).length = 22 := fun x hx => nd_len (h.addr x hx)
  have hu : Upd w (fun k => k = gn) (w.setCells gn (n * 22) d.row) (fun k => k = gn) := Upd.setCells (X := fun k => k = gn) gn rfl d.row w (n * 22)
  refine ⟨?_, ?_, own_keep h.free (fun k e => ?_), ?_, h.inG, h.inN, h.inF, fun k hx => Nat.lt_of_lt_of_le (h.low k hx) hu.size⟩
  · have := (hu.block g h.box.lt h.ne).trans h.box
    simpa [Tb.head, Bx] using this
  · have := own_setCells d.row w (T.nds.flatMap Nd.row) (n * 22) h.nds (by rw [cflat_length T.nds h1, nd_len f]; omega)
    rw [nd_len f, flat_put T.nds h1 n hn d] at this
    simpa using this
  · refine hu.block k (h.low k (h.inF k e)) (h.neF k e).2
  · intro x hx
    rcases List.mem_or_eq_of_mem_set hx with hx | rfl
    · exact h.addr x hx
    · exact f
theorem TabG.setKid (h : TabG w X g T gn cap vf) (n : Nat) (d : Nd) (hd : T.nds[n]? = some d) (b : Bool) (k : Nat) :
    TabG (w.setCell ⟨gn, n * 22 + (20 + if b then 1 else 0), none⟩ (.int .i64 (k : Int))) X g { T with nds := T.nds.set n (d.setKid b k) } gn cap vf := by
  have h1 : ∀ x ∈ T.nds, (Nd.row x).length = 22 := fun x hx => nd_len (h.addr x hx)
  have f := h.addr d (List.mem_of_getElem? hd)
  have hu : Upd w (fun k => k = gn) (w.setCell ⟨gn, n * 22 + (20 + if b then 1 else 0), none⟩ (.int .i64 (k : Int))) (fun k => k = gn) := Upd.setCell (X := fun k => k = gn) gn _ _ rfl
  refine ⟨?_, ?_, own_keep h.free (fun k e => ?_), ?_, h.inG, h.inN, h.inF, fun k hx => Nat.lt_of_lt_of_le (h.low k hx) hu.size⟩
  · have := (hu.block g h.box.lt h.ne).trans h.box
    simpa [Tb.head, Bx] using this
  · have := (h.nds.stored (n * 22 + (20 + if b then 1 else 0)) (.int .i64 (k : Int))).1
    rw [flat_set T.nds h1 n (20 + if b then 1 else 0) d (d.setKid b k) _ hd (by cases b <;> simp) (nd_set_kid f b k).symm] at this
    simpa using this
  · refine hu.block k (h.low k (h.inF k e)) (h.neF k e).2
  · intro x hx
    rcases List.mem_or_eq_of_mem_set hx with hx | rfl
    · exact h.addr x hx
    · cases b <;> exact f
/-- A node more: what append answered is stored. -/
theorem TabG.more (h : TabG w X g T gn cap vf) (d : Nd) (f : d.p.addr.length = 16) {gn' cap' : Nat} {w1 : World} (hown : w1.ownsRow 0 111 22 (.slice (some ⟨gn', 0, none⟩) (T.nds.length + 1) cap') (T.nds.length + 1) (T.nds.flatMap Nd.row ++ d.row))
    (hgr : w.grownBy w1 (some gn)) (hat : some gn = some gn' ∨ gn' = w.heap.size) (hlt : gn' < w1.heap.size) :
    TabG (w1.setCell ⟨g, 4, none⟩ (.slice (some ⟨gn', 0, none⟩) (T.nds.length + 1) cap')) (fun k => X k ∨ k = gn') g { T with nds := T.nds ++ [d] } gn' cap' vf ∧ Upd w X (w1.setCell ⟨g, 4, none⟩ (.slice (some ⟨gn', 0, none⟩) (T.nds.length + 1) cap')) (fun k => X k ∨ k = gn') := by
  have hg1 : Bx w1 g 98 (T.head (.slice (some ⟨gn, 0, none⟩) T.nds.length cap) vf) := (hgr.block g h.box.lt (fun e => h.ne (by cases e; rfl))).trans h.box
  have hne : g ≠ gn' := by
    rcases hat with e | e
    · cases e; exact h.ne
    · have := h.box.lt; omega
  have hF : ∀ k, vf.ownBlock = some k → k < w.heap.size := fun k e => h.low k (h.inF k e)
  have hu1 : Upd w X w1 (fun k => X k ∨ k = gn') := (Upd.of_grown hgr (fun k e => by cases e; exact h.inN)).wide (fun k hk => by
    rcases hk with hk | rfl
    · exact .inl hk
    · rcases hat with e | e
      · cases e; exact .inl h.inN
      · exact .inr (by omega))
  refine ⟨⟨?_, ?_, ?_, ?_, .inl h.inG, .inr rfl, fun k e => .inl (h.inF k e), ?_⟩, hu1.trans (Upd.setCell g 4 _ (.inl h.inG))⟩
  · have := hg1.set 4 (.slice (some ⟨gn', 0, none⟩) (T.nds.length + 1) cap')
    simpa [Tb.head] using this
  · have := own_keep (w' := w1.setCell ⟨g, 4, none⟩ (.slice (some ⟨gn', 0, none⟩) (T.nds.length + 1) cap')) hown (fun k e => by cases e; exact Below.heap_setCell w1 _ _ gn' (fun e => hne e.symm))
    simpa [List.flatMap_append] using this
  · refine own_keep h.free (fun k e => ?_)
    rw [Below.heap_setCell w1 _ _ k (fun e2 => (h.neF k e).1 e2)]
    exact hgr.block k (hF k e) (fun e2 => (h.neF k e).2 (by cases e2; rfl))
  · intro x hx
    rcases List.mem_append.1 hx with hx | hx
    · exact h.addr x hx
    · rw [List.mem_singleton.1 hx]; exact f
  · intro k hk
    show k < (w1.setCell _ _).heap.size
    rw [World.size_setCell]
    rcases hk with hk | rfl
    · exact Nat.lt_of_lt_of_le (h.low k hk) hgr.size
    · exact hlt
/-- One of the free ones is taken out. -/
theorem TabG.pop {gf cf : Nat} {fr : List Nat} {n : Nat} (h : TabG w X g T gn cap (.slice (some ⟨gf, 0, none⟩) (fr.length + 1) cf)) (hf : T.free = fr ++ [n]) :
    TabG (w.setCell ⟨g, 5, none⟩ (.slice (some ⟨gf, 0, none⟩) fr.length cf)) X g { T with free := fr } gn cap (.slice (some ⟨gf, 0, none⟩) fr.length cf) := by
  refine ⟨?_, own_keep h.nds (fun k e => by cases e; exact Below.heap_setCell w _ _ gn (fun e => h.ne e.symm)), ?_, h.addr, h.inG, h.inN, fun k e => by cases e; exact h.inF gf rfl, fun k hx => by have := h.low k hx; simpa using this⟩
  · have := h.box.set 5 (.slice (some ⟨gf, 0, none⟩) fr.length cf)
    simpa [Tb.head] using this
  · have hfr := h.free
    rw [hf, List.length_append, List.length_singleton] at hfr
    have hne := (h.neF gf rfl).1
    rcases hfr.2 with ⟨h1, _⟩ | ⟨g', cap', cur, h1, h2, hg, h3, h4, h5, h6⟩
    · cases h1
    · cases h1
      refine ⟨by simp [intsN], .inr ⟨gf, cf, cur, rfl, h2, (Below.heap_setCell w _ _ gf (fun e => hne e)).trans hg, (show fr.length ≤ cf by omega), h4, h5, ?_⟩⟩
      have := congrArg (List.take (fr.length * 1)) h6
      rw [List.take_take] at this
      simp only [intsN, List.map_append] at this
      rw [Nat.min_eq_left (by omega)] at this
      rw [this, List.take_append_of_le_length (by simp), List.take_of_length_le (by simp)]
      rfl
/-- One more is free. -/
theorem TabG.push (h : TabG w X g T gn cap vf) (n : Nat) {gf' cap' : Nat} {w1 : World} (hown : w1.ownsRow 0 3 1 (.slice (some ⟨gf', 0, none⟩) (T.free.length + 1) cap') (T.free.length + 1) (intsN T.free ++ [.int .i64 (n : Int)]))
    (hgr : w.grownBy w1 vf.ownBlock) (hat : vf.ownBlock = some gf' ∨ gf' = w.heap.size) (hlt : gf' < w1.heap.size) :
    TabG (w1.setCell ⟨g, 5, none⟩ (.slice (some ⟨gf', 0, none⟩) (T.free.length + 1) cap')) (fun k => X k ∨ k = gf') g { T with free := T.free ++ [n] } gn cap (.slice (some ⟨gf', 0, none⟩) (T.free.length + 1) cap') ∧ Upd w X (w1.setCell ⟨g, 5, none⟩ (.slice (some ⟨gf', 0, none⟩) (T.free.length + 1) cap')) (fun k => X k ∨ k = gf') := by
  have hg1 : Bx w1 g 98 (T.head (.slice (some ⟨gn, 0, none⟩) T.nds.length cap) vf) := (hgr.block g h.box.lt (fun e => (h.neF g e.symm).1 rfl)).trans h.box
  have hne : g ≠ gf' := by
    rcases hat with e | e
    · exact fun e2 => (h.neF gf' e).1 e2.symm
    · have := h.box.lt; omega
  have hu1 : Upd w X w1 (fun k => X k ∨ k = gf') := (Upd.of_grown hgr (fun k e => h.inF k e)).wide (fun k hk => by
    rcases hk with hk | rfl
    · exact .inl hk
    · rcases hat with e | e
      · exact .inl (h.inF _ e)
      · exact .inr (by omega))
  refine ⟨⟨?_, ?_, ?_, h.addr, .inl h.inG, .inl h.inN, fun k e => by cases e; exact .inr rfl, ?_⟩, hu1.trans (Upd.setCell g 5 _ (.inl h.inG))⟩
  · have := hg1.set 5 (.slice (some ⟨gf', 0, none⟩) (T.free.length + 1) cap')
    simpa [Tb.head] using this
  · refine own_keep h.nds (fun k e => ?_)
    cases e
    rw [Below.heap_setCell w1 _ _ gn (fun e2 => h.ne e2.symm)]
    exact hgr.block gn (h.low gn h.inN) (fun e2 => (h.neF gn e2.symm).2 rfl)
  · have := own_keep (w' := w1.setCell ⟨g, 5, none⟩ (.slice (some ⟨gf', 0, none⟩) (T.free.length + 1) cap')) hown (fun k e => by cases e; exact Below.heap_setCell w1 _ _ gf' (fun e => hne e.symm))
    simpa [intsN] using this
  · intro k hk
    show k < (w1.setCell _ _).heap.size
    rw [World.size_setCell]
    rcases hk with hk | rfl
    · exact Nat.lt_of_lt_of_le (h.low k hk) hgr.size
    · exact hlt
end
end Go.Proofs.Ytgimcapcnidjjaa
namespace Go.Proofs.Ytgimcapcnidjjaa
open Go Go.RowKit

def takeN (T : Tb) (d : Nd) : Option (Nat × Tb) :=
  match T.free.getLast? with
  | some n => if n < T.nds.length then some (n, { T with nds := T.nds.set n d, free := T.free.dropLast }) else none
  | none => some (T.nds.length, { T with nds := T.nds ++ [d] })
/-- What is known in a region that reads a slice out of the table and a thing out of a box. -/
def HeldT (g : Nat) (v : Value) (b : Nat) (t : TypeId) (l : List Value) (W : World) : Prop := W.cell? ⟨g, 4, none⟩ = some v ∧ Bx W b t l
def HeldB (b : Nat) (t : TypeId) (l : List Value) (W : World) : Prop := Bx W b t l
theorem rangeAll {w : World} {g : Nat} {t : TypeId} {l : List Value} (h : Bx w g t l) : w.rangeAt g 0 l := h.range 0 l (by simp)
set_option maxRecDepth 100000 in
set_option maxHeartbeats 4000000 in
theorem take_free (T : Tb) (d : Nd) (w : World) (X : Nat → Prop) (g : Nat) (h : TabM w X g T) (f : d.p.addr.length = 16) (fr : List Nat) (n : Nat) (hf : T.free = fr ++ [n]) (hn : n < T.nds.length) :
    Calls Try.prog 65 #[.pointer (some ⟨g, 0, none⟩), d.val] w fun e w' => e = .returned (.int .i64 (n : Int)) ∧ ∃ X', TabM w' X' g { T with nds := T.nds.set n d, free := fr } ∧ Upd w X w' X' := by
  obtain ⟨gn, cap, vf, h⟩ := h
  obtain ⟨gf, cf, rfl⟩ : ∃ gf cf, vf = .slice (some ⟨gf, 0, none⟩) (fr.length + 1) cf := by
    have := h.free
    rw [hf, List.length_append, List.length_singleton] at this
    obtain ⟨gf, cf, e, _⟩ := this.form (by omega)
    exact ⟨gf, cf, e⟩
  have hcaps := h.caps
  have hfr := h.free
  rw [hf, List.length_append, List.length_singleton] at hfr
  have hcl : fr.length + 1 ≤ cf ∧ cf ≤ maxLen := by
    rcases hfr.2 with ⟨h1, _⟩ | ⟨g', cap', cur, h1, _, _, h2, h3, _⟩
    · cases h1
    · cases h1; exact ⟨h2, h3⟩
  have hb : Below w.heap.size w (w.alloc (.cells d.row.toArray 111)) := (Below.refl _ _).alloc (Nat.le_refl _) _
  have h1 := h.up hb
  have hgl := h.box.lt
  have hfr1 := own_below hfr hb
  have cf0 : (w.alloc (.cells d.row.toArray 111)).cell? ⟨gf, fr.length, none⟩ = some (.int .i64 (n : Int)) := by
    rw [hfr1.cellAt fr.length (by omega)]
    simp [intsN]
  have hsz : (w.alloc (.cells d.row.toArray 111)).heap.size = w.heap.size + 1 := by simp
  have c5 := h1.c5
  have c4 := h1.c4
  have z5 : (w.alloc (.cells d.row.toArray 111)).frozen? ⟨g, 5, none⟩ = false := h1.box.frozen 5
  have HU0 := Lib.hid (Upd.of_below X hb)
  have HP := Lib.hid (h.pop hf)
  have HF := Lib.hid f
  rw [show d.val = .agg d.row.toArray from rfl]
  unfold maxLen at hcl hcaps
  clear h h1 hfr hfr1 hb hf f HU0
  go_enter Try.func65, Try.ntmps65
  go_wp2
  have e0 : (w.setCell ⟨g, 5, none⟩ (.slice (some ⟨gf, 0, none⟩) fr.length cf)).heap.size = w.heap.size := by simp
  have hb2 : Below w.heap.size (w.setCell ⟨g, 5, none⟩ (.slice (some ⟨gf, 0, none⟩) fr.length cf)) ((w.setCell ⟨g, 5, none⟩ (.slice (some ⟨gf, 0, none⟩) fr.length cf)).alloc (.cells d.row.toArray 111)) := (Below.refl _ _).alloc (by simp) _
  have h2 := HP.out.up (by rw [e0]; exact hb2)
  have hbx := Bx.new (w.setCell ⟨g, 5, none⟩ (.slice (some ⟨gf, 0, none⟩) fr.length cf)) 111 d.row
  rw [e0] at hbx
  have hu : Upd w X ((w.setCell ⟨g, 5, none⟩ (.slice (some ⟨gf, 0, none⟩) fr.length cf)).alloc (.cells d.row.toArray 111)) X := (Upd.setCell g 5 _ HP.out.inG).trans (Upd.of_below X (by rw [e0]; exact hb2))
  generalize (w.setCell ⟨g, 5, none⟩ (.slice (some ⟨gf, 0, none⟩) fr.length cf)).alloc (.cells d.row.toArray 111) = W at *
  clear hb2 e0
  have hgn : gn < w.heap.size := by have := HP.out.low gn HP.out.inN; simpa using this
  refine wp_region_noPanic ?_
  refine wp_region_held_drew (S := HeldT g (.slice (some ⟨gn, 0, none⟩) T.nds.length cap) w.heap.size 111 d.row) (by kernel_rfl) ⟨h2.c4, hbx⟩ (fun hHeld => ?_)
  have h3 : TabG W.drew X g { T with free := fr } gn cap (.slice (some ⟨gf, 0, none⟩) fr.length cf) := ⟨h2.box, h2.nds, h2.free, h2.addr, h2.inG, h2.inN, h2.inF, h2.low⟩
  have hu3 : Upd w X W.drew X := ⟨hu.os, hu.tape, hu.output, hu.size, hu.block, hu.sub⟩
  clear h2 hu hbx
  generalize W.drew = W2 at *
  refine held_take (v := ?v623) 0 rfl (by kernel_rfl) (by kernel_rfl) (by kernel_rfl) (fun _ _ _ h => h) (by rfl) ?y623 (by assumption) ?_
  case y623 => (intro w hSw; unfold HeldT at hSw; go_simp; (try with_reducible rfl); (try omega))
  simp only [List.setIfInBounds_toArray, List.set_cons_zero, List.set_cons_succ]
  refine held_take (v := ?v626) 1 rfl (by kernel_rfl) (by kernel_rfl) (by kernel_rfl) (fun _ _ _ h => h) (by rfl) ?y626 (by assumption) ?_
  case y626 => (intro w hSw; unfold HeldT at hSw; go_simp; (try with_reducible rfl); (try omega))
  simp only [List.setIfInBounds_toArray, List.set_cons_zero, List.set_cons_succ]
  refine held_take (v := ?v629) 2 rfl (by kernel_rfl) (by kernel_rfl) (by kernel_rfl) (fun _ _ _ h => h) (by rfl) ?y629 (by assumption) ?_
  case y629 => (intro w hSw; unfold HeldT at hSw; go_simp; (try with_reducible rfl); (try omega))
  simp only [List.setIfInBounds_toArray, List.set_cons_zero, List.set_cons_succ]
  refine held_take (v := ?v632) 3 rfl (by kernel_rfl) (by kernel_rfl) (by kernel_rfl) (fun _ _ _ h => h) (by rfl) ?y632 (by assumption) ?_
  case y632 => (intro w hSw; unfold HeldT at hSw; go_simp; (try with_reducible rfl); (try omega))
  simp only [List.setIfInBounds_toArray, List.set_cons_zero, List.set_cons_succ]
  refine held_take (v := ?v635) 4 rfl (by kernel_rfl) (by kernel_rfl) (by kernel_rfl) (fun _ _ _ h => h) (by rfl) ?y635 (by assumption) ?_
  case y635 => (intro w hSw; unfold HeldT at hSw; go_simp; (try with_reducible rfl); (try omega))
  simp only [List.setIfInBounds_toArray, List.set_cons_zero, List.set_cons_succ]
  refine held_take (v := d.val) 5 rfl (by kernel_rfl) (by kernel_rfl) (by kernel_rfl) (fun _ _ _ h => h) (by rfl) (fun W hSw => exec_load_any _ (.tmp 3) rfl w.heap.size 0 d.row _ rfl (rangeAll hSw.2) Try.underlying111 rfl (nd_infoC HF.out)) (by assumption) ?_
  simp only [List.setIfInBounds_toArray, List.set_cons_zero, List.set_cons_succ]
  refine held_take (v := ?v640) 6 rfl (by kernel_rfl) (by kernel_rfl) (by kernel_rfl) (fun _ _ _ h => h) (by rfl) ?y640 (by assumption) ?_
  case y640 => (intro w hSw; unfold HeldT at hSw; go_simp; (try with_reducible rfl); (try omega))
  simp only [List.setIfInBounds_toArray, List.set_cons_zero, List.set_cons_succ]
  refine held_none 7 rfl (by kernel_rfl) (by rfl) (fun K hK => ?_)
  refine wp_store_mid 111 (.tmp 37) (.tmp 36) rfl gn (n * 22) d.row.toArray rfl rfl ?_ (by simpa using nd_infoC HF.out) (all_oneCell_toArray (nd_one d)) ?_
  · obtain ⟨d0, hd0⟩ : ∃ d0, T.nds[n]? = some d0 := ⟨_, List.getElem?_eq_getElem hn⟩
    exact h3.there n d0 hd0 _ (by simp [nd_len HF.out])
  · have h4 := h3.setNode n hn d HF.out
    have hu4 := hu3.trans (Upd.setCells gn h3.inN d.row W2 (n * 22))
    refine hK.out _ _ ⟨h4.c4.trans (by simp), ?_⟩ (fun _ => ?_)
    · exact hHeld.2.upd (Upd.setCells (X := fun k => k = gn) gn rfl d.row W2 (n * 22)) (by omega)
    clear hK K
    refine wpAnyH_done (by kernel_rfl) ?_ _
    refine NoPanic.normal ?_
    go_wp2
    go_ret
    exact ⟨rfl, X, ⟨gn, cap, _, h4⟩, hu4⟩
set_option maxRecDepth 100000 in
set_option maxHeartbeats 4000000 in
theorem take_new (T : Tb) (d : Nd) (w : World) (X : Nat → Prop) (g : Nat) (h : TabM w X g T) (f : d.p.addr.length = 16) (hf : T.free = []) (hl : T.nds.length ≤ 1000000) :
    Calls Try.prog 65 #[.pointer (some ⟨g, 0, none⟩), d.val] w fun e w' => e = .returned (.int .i64 (T.nds.length : Int)) ∧ ∃ X', TabM w' X' g { T with nds := T.nds ++ [d] } ∧ Upd w X w' X' := by
  obtain ⟨gn, cap, vf, h⟩ := h
  obtain ⟨fa, fc, rfl⟩ : ∃ fa fc, vf = .slice fa 0 fc := by
    have := h.free
    rw [hf] at this
    rcases this.2 with ⟨rfl, _⟩ | ⟨g', cap', cur, rfl, _⟩
    · exact ⟨_, _, rfl⟩
    · exact ⟨_, _, rfl⟩
  have hb : Below w.heap.size w (w.alloc (.cells d.row.toArray 111)) := (Below.refl _ _).alloc (Nat.le_refl _) _
  have h1 := h.up hb
  have hbx := Bx.new w 111 d.row
  have hu := Upd.of_below X hb
  have c5 := h1.c5
  have hgl := h.low gn h.inN
  have hgg := h.low g h.inG
  have hgne := h.ne
  have HH := Lib.hid h1
  have HF := Lib.hid f
  have HU := Lib.hid hu
  have HBX := Lib.hid hbx
  rw [show d.val = .agg d.row.toArray from rfl]
  clear h h1 hb hf f hu hbx
  go_enter Try.func65, Try.ntmps65
  go_wp2
  have h1 := HH.out
  have hu := HU.out
  have hbx := HBX.out
  clear HH HU HBX c5
  generalize w.alloc (.cells d.row.toArray 111) = W at *
  refine wp_region_noPanic ?_
  refine wp_region_held_drew (S := HeldB w.heap.size 111 d.row) (by kernel_rfl) hbx (fun hHeld => ?_)
  have h3 : TabG W.drew X g T gn cap (.slice fa 0 fc) := ⟨h1.box, h1.nds, h1.free, h1.addr, h1.inG, h1.inN, h1.inF, h1.low⟩
  have hu3 : Upd w X W.drew X := ⟨hu.os, hu.tape, hu.output, hu.size, hu.block, hu.sub⟩
  clear h1 hu hbx
  generalize W.drew = W2 at *
  have c4 := h3.c4
  have hbb : Below W2.heap.size W2 (W2.alloc (.cells d.row.toArray 111)) := (Below.refl _ _).alloc (Nat.le_refl _) _
  have c4' := (h3.up hbb).c4
  have hx4 : Bx (W2.alloc (.cells d.row.toArray 111)) w.heap.size 111 d.row := Bx.al hHeld _
  refine held_take (v := ?v699) 0 rfl (by kernel_rfl) (by kernel_rfl) (by kernel_rfl) (fun _ _ _ h => h) (by rfl) ?y699 (by assumption) ?_
  case y699 => (intro w hSw; unfold HeldB at hSw; go_simp; (try with_reducible rfl); (try omega))
  simp only [List.setIfInBounds_toArray, List.set_cons_zero, List.set_cons_succ]
  refine held_take (v := ?v702) 1 rfl (by kernel_rfl) (by kernel_rfl) (by kernel_rfl) (fun _ _ _ h => h) (by rfl) ?y702 (by assumption) ?_
  case y702 => (intro w hSw; unfold HeldB at hSw; go_simp; (try with_reducible rfl); (try omega))
  simp only [List.setIfInBounds_toArray, List.set_cons_zero, List.set_cons_succ]
  refine held_take (v := ?v705) 2 rfl (by kernel_rfl) (by kernel_rfl) (by kernel_rfl) (fun _ _ _ h => h) (by rfl) ?y705 (by assumption) ?_
  case y705 => (intro w hSw; unfold HeldB at hSw; go_simp; (try with_reducible rfl); (try omega))
  simp only [List.setIfInBounds_toArray, List.set_cons_zero, List.set_cons_succ]
  refine held_take (v := ?v708) 3 rfl (by kernel_rfl) (by kernel_rfl) (by kernel_rfl) (fun _ _ _ h => h) (by rfl) ?y708 (by assumption) ?_
  case y708 => (intro w hSw; unfold HeldB at hSw; go_simp; (try with_reducible rfl); (try omega))
  simp only [List.setIfInBounds_toArray, List.set_cons_zero, List.set_cons_succ]
  refine held_take (v := d.val) 5 rfl (by kernel_rfl) (by kernel_rfl) (by kernel_rfl) (fun _ _ _ h => h) (by rfl) (fun W hSw => exec_load_any _ (.tmp 3) rfl w.heap.size 0 d.row _ rfl (rangeAll hSw) Try.underlying111 rfl (nd_infoC HF.out)) (by assumption) ?_
  simp only [List.setIfInBounds_toArray, List.set_cons_zero, List.set_cons_succ]
  refine wpAnyH_ready (rs := [4, 6]) (by kernel_rfl) (by simp) (AllReadyH.cons rfl (fun K hK => ?_) (AllReadyH.cons rfl (fun K hK => ?_) AllReadyH.nil))
  rw [if_pos (by rfl)]
  go_simp
  refine hK.out _ _ hHeld (fun _ => ?_)
  clear hK K
  refine held_one 6 rfl (by kernel_rfl) (by rfl) (fun K hK => ?_)
  refine wp_one_nd (.tmp 44) rfl d HF.out rfl ?_
  refine hK.out _ _ hx4 (fun _ => ?_)
  clear hK K
  rotate_left
  rw [if_pos (by rfl)]
  refine wp_one_nd (.tmp 44) rfl d HF.out rfl ?_
  refine hK.out _ _ hx4 (fun _ => ?_)
  clear hK K
  refine held_one 4 rfl (by kernel_rfl) (by rfl) (fun K hK => ?_)
  go_simp
  refine hK.out _ _ hx4 (fun _ => ?_)
  clear hK K
  all_goals (
    try simp only [Act.put, List.setIfInBounds_toArray, List.set_cons_zero, List.set_cons_succ]
    have h4 := h3.up hbb
    have hu4 := hu3.trans (Upd.of_below X hbb)
    have hbn := Bx.new W2 111 d.row
    have hsz : (W2.alloc (.cells d.row.toArray 111)).heap.size = W2.heap.size + 1 := by simp
    clear h3 hu3 hbb c4 c4'
    generalize W2.alloc (.cells d.row.toArray 111) = W3 at *
    obtain ⟨ti, hti, htz, hts, htb⟩ := info_parts nd_infoF
    refine held_one 7 rfl (by kernel_rfl) (by rfl) (fun K hK => ?_)
    refine wp_append_lies W3 (.tmp 43) (.tmp 45) 95 rfl 0 111 ti nd0.val 22 64 Try.underlying95 hti htz hts htb rfl (by decide) _ T.nds.length (T.nds.flatMap Nd.row) rfl h4.nds ⟨W2.heap.size, 0, none⟩ 1 1 d.row rfl (by rw [nd_len HF.out]) (fun j u hj => World.news_of_block hbn j u (by simpa using hj)) (nd_one d) (by omega) (by unfold maxLen; omega) (by omega) (by omega) _ rfl ?_
    intro g' cap' w1 hown hgr hat hlt
    obtain ⟨h5, hu5⟩ := h4.more d HF.out hown hgr hat hlt
    have hxx : Bx w1 w.heap.size 111 d.row := (hgr.block w.heap.size (Bx.lt hx4) (fun e => by have := Option.some.inj e; simp only at this; omega)).trans hx4
    have hx5 : HeldB w.heap.size 111 d.row (w1.setCell ⟨g, 4, none⟩ (.slice (some ⟨g', 0, none⟩) (T.nds.length + 1) cap')) := Bx.setOther hxx (by omega) _ _
    have c6 : w1.cell? ⟨g, 4, none⟩ = some (.slice (some ⟨gn, 0, none⟩) T.nds.length cap) := (hgr.cell_far ⟨g, 4, none⟩ h4.box.lt (fun e => by cases e; exact hgne rfl)).trans h4.c4
    have z6 : w1.frozen? ⟨g, 4, none⟩ = false := (hgr.frozen_far ⟨g, 4, none⟩ h4.box.lt (fun e => by cases e; exact hgne rfl)).trans (h4.box.frozen 4)
    refine hK.out _ _ hxx (fun _ => ?_)
    clear hK K
    (try simp only [Act.put, List.setIfInBounds_toArray, List.set_cons_zero, List.set_cons_succ])
    have hHeld2 : HeldB w.heap.size 111 d.row w1 := hxx
    refine held_take (v := ?v752) 8 rfl (by kernel_rfl) (by kernel_rfl) (by kernel_rfl) (fun _ _ _ h => h) (by rfl) ?y752 (by assumption) ?_
    case y752 => (intro w hSw; unfold HeldB at hSw; go_simp; (try with_reducible rfl); (try omega))
    simp only [List.setIfInBounds_toArray, List.set_cons_zero, List.set_cons_succ]
    refine held_take (v := ?v755) 9 rfl (by kernel_rfl) (by kernel_rfl) (by kernel_rfl) (fun _ _ _ h => h) (by rfl) ?y755 (by assumption) ?_
    case y755 => (intro w hSw; unfold HeldB at hSw; go_simp; (try with_reducible rfl); (try omega))
    simp only [List.setIfInBounds_toArray, List.set_cons_zero, List.set_cons_succ]
    refine held_none 10 rfl (by kernel_rfl) (by rfl) (fun K hK => ?_)
    go_simp
    refine hK.out _ _ hx5 (fun _ => ?_)
    clear hK K
    refine wpAnyH_done (by kernel_rfl) ?_ _
    refine NoPanic.normal ?_
    have c7 := h5.c4
    simp only [List.length_append, List.length_singleton] at c7
    go_wp2
    go_ret
    exact ⟨rfl, _, ⟨_, _, _, h5⟩, hu4.trans hu5⟩)
theorem take_any (T T' : Tb) (d : Nd) (r : Nat) (w : World) (X : Nat → Prop) (g : Nat) (h : TabM w X g T) (f : d.p.addr.length = 16) (hT : takeN T d = some (r, T')) (hl : T.nds.length ≤ 1000000) :
    Calls Try.prog 65 #[.pointer (some ⟨g, 0, none⟩), d.val] w fun e w' => e = .returned (.int .i64 (r : Int)) ∧ ∃ X', TabM w' X' g T' ∧ Upd w X w' X' := by
  rcases List.eq_nil_or_concat T.free with hf | ⟨fr, n, hf⟩
  · have := take_new T d w X g h f hf hl
    rw [takeN, hf] at hT
    rw [hf] at this
    cases hT
    exact this
  · rw [List.concat_eq_append] at hf
    rw [takeN, hf, List.getLast?_append] at hT
    simp only [List.getLast?_singleton, Option.some_or, List.dropLast_concat] at hT
    split at hT
    · rename_i hn
      have := take_free T d w X g h f fr n hf hn
      cases hT
      exact this
    · cases hT
theorem int_infoF : (Try.prog.info? 3).map (fun i => (i.zero, i.size, i.bytes)) = some (some (.int .i64 0), 1, 8) := by kernel_rfl
def giveN (T : Tb) (n : Nat) : Tb := { T with nds := T.nds.set n nd0, free := T.free ++ [n] }
set_option maxRecDepth 100000 in
set_option maxHeartbeats 4000000 in
theorem give_any (T : Tb) (n : Nat) (w : World) (X : Nat → Prop) (g : Nat) (h : TabM w X g T) (hn : n < T.nds.length) (hl2 : T.free.length ≤ 1000000) :
    Calls Try.prog 69 #[.pointer (some ⟨g, 0, none⟩), .int .i64 (n : Int)] w fun e w' => (∃ v, e = .returned v) ∧ ∃ X', TabM w' X' g (giveN T n) ∧ Upd w X w' X' := by
  obtain ⟨gn, cap, vf, h⟩ := h
  have c4 := h.c4
  have HH := Lib.hid h
  have hcaps := h.caps
  unfold maxLen at hcaps
  obtain ⟨d0, hd0⟩ : ∃ d0, T.nds[n]? = some d0 := ⟨_, List.getElem?_eq_getElem hn⟩
  have HTH := Lib.hid (h.there n d0 hd0 22 (by omega))
  have HF : Hid (nd0.p.addr.length = 16) := rfl
  clear h hd0
  go_enter Try.func69, Try.ntmps69
  go_wp2_with (first | (refine wpList_build0 rfl 111 rfl nd0.row built_nd0 ?_) | (refine wpList_store_mid rfl 111 (.tmp 10) (.tmp 9) rfl gn (n * 22) nd0.row.toArray rfl rfl HTH.out nd_info (all_oneCell_toArray (nd_one nd0)) ?_; refine Hid.out ?_))
  refine Lib.hid ?_
  have h1 := HH.out.setNode n hn nd0 HF.out
  have hu1 : Upd w X (w.setCells gn (n * 22) nd0.row) X := Upd.setCells gn HH.out.inN nd0.row w (n * 22)
  generalize w.setCells gn (n * 22) nd0.row = W at *
  have c5 := h1.c5
  have z5 : W.frozen? ⟨g, 5, none⟩ = false := h1.box.frozen 5
  obtain ⟨ti, hti, htz, hts, htb⟩ := info_parts int_infoF
  have hbb : Below W.heap.size W (W.alloc (.cells #[.int .i64 (n : Int)] 3)) := (Below.refl _ _).alloc (Nat.le_refl _) _
  have H1 := Lib.hid (h1.up hbb)
  have HU1 := Lib.hid (hu1.trans (Upd.of_below X hbb))
  have HBN := Lib.hid (Bx.new W 3 [.int .i64 (n : Int)])
  have hgl : g < W.heap.size := h1.box.lt
  have hvf := Lib.hid h1.neF
  have HSZ := Lib.hid (show (W.alloc (.cells #[.int .i64 (n : Int)] 3)).heap.size = W.heap.size + 1 by simp)
  clear h1 hu1 HH HTH
  go_wp2_with (at_builtin; refine wpList_append_lies _ rfl _ _ 96 rfl 0 3 ti (.int .i64 0) 1 8 Try.underlying96 hti htz hts htb rfl (by decide) _ T.free.length (intsN T.free) rfl H1.out.free ⟨W.heap.size, 0, none⟩ 1 1 [.int .i64 (n : Int)] rfl rfl (fun j u hj => World.news_of_block HBN.out j u (by simpa using hj)) (by simp [Value.oneCell']) (by omega) (by unfold maxLen; omega) (by omega) (by omega) _ rfl ?_; intro g' cap' w1 hown hgr hat hlt; refine Hid.out ?_)
  refine Lib.hid ?_
  obtain ⟨h5, hu5⟩ := H1.out.push n hown hgr hat hlt
  have c6 : w1.cell? ⟨g, 5, none⟩ = some vf := (hgr.cell_far ⟨g, 5, none⟩ H1.out.box.lt (fun e => (hvf.out g e.symm).1 rfl)).trans H1.out.c5
  have z6 : w1.frozen? ⟨g, 5, none⟩ = false := (hgr.frozen_far ⟨g, 5, none⟩ H1.out.box.lt (fun e => (hvf.out g e.symm).1 rfl)).trans (H1.out.box.frozen 5)
  have HE := Lib.hid (⟨h5, hu5⟩ : _ ∧ _)
  have HU5 := Lib.hid (HU1.out.trans hu5)
  clear h5 hu5 hown hgr hat H1 HU1 HBN hbb
  go_wp2
  go_end0
  exact ⟨⟨_, rfl⟩, _, ⟨_, _, _, HE.out.1⟩, HU5.out⟩
end Go.Proofs.Ytgimcapcnidjjaa
namespace Go.Proofs.Ytgimcapcnidjjaa
open Go Go.RowKit

theorem comV_len (p q : Pfx) : (comV p q).addr.length = 16 := by
  unfold comV
  split
  · exact of_len _ _ _
  · rfl
theorem setKid_len (d : Nd) (b : Bool) (k : Nat) : (d.setKid b k).p = d.p := by cases b <;> rfl
def forkD (d : Nd) (p : Pfx) (n : Nat) : Nd := Nd.setKid ⟨comV d.p p, 0, false, 0, 0⟩ (sideB d.p.addr (comV d.p p).len) n
set_option maxRecDepth 100000 in
set_option maxHeartbeats 4000000 in
theorem fork_any (T T' : Tb) (n : Nat) (p : Pfx) (d : Nd) (r : Nat) (w : World) (X : Nat → Prop) (g : Nat) (h : TabM w X g T) (hp : p.addr.length = 16) (hd : T.nds[n]? = some d) (hT : takeN T (forkD d p n) = some (r, T')) (hl : T.nds.length ≤ 1000000) :
    Calls Try.prog 67 #[.pointer (some ⟨g, 0, none⟩), .int .i64 (n : Int), p.val] w fun e w' => e = .returned (.int .i64 (r : Int)) ∧ ∃ X', TabM w' X' g T' ∧ Upd w X w' X' := by
  obtain ⟨gn, cap, vf, h⟩ := h
  have hn : n < T.nds.length := (List.getElem?_eq_some_iff.1 hd).1
  have fd := h.addr d (List.mem_of_getElem? hd)
  have hcaps := h.caps
  unfold maxLen at hcaps
  have hb : Below w.heap.size w (w.alloc (.cells p.row.toArray 25)) := (Below.refl _ _).alloc (Nat.le_refl _) _
  have h1 := h.up hb
  have c4 := h1.c4
  have R1 := Lib.hid (show (w.alloc (.cells p.row.toArray 25)).rangeAt gn (n * 22) d.p.row from fun j v hv => by
    refine h1.range n d hd j v ?_
    unfold Nd.row
    rw [List.getElem?_append_left (List.getElem?_eq_some_iff.1 hv).1]
    exact hv)
  have HC := Lib.hid (fun W => common_any d.p p W fd hp)
  have HCL := Lib.hid (comV_len d.p p)
  have HT := Lib.hid hT
  have H1 := Lib.hid h1
  have HU := Lib.hid (Upd.of_below X hb)
  have HP := Lib.hid hp
  have HD := Lib.hid fd
  have HZ := Lib.hid (twoB_new w 25 25 p.row d.p.row)
  have hsz : (w.alloc (.cells p.row.toArray 25)).heap.size = w.heap.size + 1 := by simp
  rw [show p.val = .agg p.row.toArray from rfl]
  clear h h1 hT fd hp hb
  go_enter Try.func67, Try.ntmps67
  go_wp2_with (first
    | (refine wpList_load_any rfl 25 (.tmp 18) rfl gn (n * 22) d.p.row _ rfl R1.out Try.underlying25 rfl (pf_infoC HD.out) ?_)
    | (refine wpList_store_fresh rfl 25 (.tmp 7) (.tmp 19) rfl d.p.row _ (w.heap.size + 1) rfl (by simp) rfl (pf_infoC HD.out) (by rw [row_len HD.out]; rfl) (row_one d.p) ?_; refine Hid.out ?_))
  refine Lib.hid ?_
  have hb2 : Below w.heap.size w ((w.alloc (.cells p.row.toArray 25)).alloc (.cells d.p.row.toArray 25)) := HZ.out.2.2
  have h2 := H1.out.up ((Below.refl _ _).alloc (Nat.le_refl _) (.cells d.p.row.toArray 25))
  have hu2 := HU.out.trans (Upd.of_below X ((Below.refl _ _).alloc (Nat.le_refl _) (.cells d.p.row.toArray 25)))
  have hz2 := HZ.out
  clear H1 HU HZ hsz R1 c4
  generalize (w.alloc (.cells p.row.toArray 25)).alloc (.cells d.p.row.toArray 25) = W at *
  have RP := Lib.hid (show PfxT W w.heap.size p from hz2.1)
  have RD := Lib.hid (show PfxT W (w.heap.size + 1) d.p from hz2.2.1)
  go_wp2_with (first
    | (refine wpList_load_pfx rfl (.tmp 7) rfl (w.heap.size + 1) d.p HD.out rfl RD.out ?_)
    | (refine wpList_load_pfx rfl (.tmp 5) rfl w.heap.size p HP.out rfl RP.out ?_)
    | (go_at_call 77; refine (HC.out _).mono ?_; rintro e w1 ⟨rfl, b1⟩; refine Hid.out ?_))
  refine Lib.hid ?_
  have h3 := h2.up b1
  have hu3 := hu2.trans (Upd.of_below X b1)
  have RD3 := Lib.hid (RD.out.up b1)
  unfold forkD at HT
  generalize comV d.p p = c at *
  generalize (d.p.six == p.six) = s6 at *
  have HS := Lib.hid (fun W => side_any ⟨c, 0, false, 0, 0⟩ d.p W HCL.out HD.out)
  simp only at HS
  generalize sideB d.p.addr c.len = b at *
  obtain ⟨k, hk⟩ : ∃ k : Nat, k = if b then 1 else 0 := ⟨_, rfl⟩
  rw [show (if b = true then (1 : Int) else 0) = (k : Int) by rw [hk]; cases b <;> rfl] at HS
  have hk2 : k < 2 := by rw [hk]; cases b <;> decide
  have HK := Lib.hid hk
  clear hk
  have HZ3 := Lib.hid (twoB_new w1 25 111 c.row (Nd.row ⟨c, 0, false, 0, 0⟩))
  have h4 := Lib.hid (h3.up HZ3.out.2.2)
  have hu4 := Lib.hid (hu3.trans (Upd.of_below X HZ3.out.2.2))
  have RD4 := Lib.hid (RD3.out.up HZ3.out.2.2)
  have HRC := Lib.hid (show PfxT (w1.alloc (.cells c.row.toArray 25)) w1.heap.size c from Bx.new w1 _ _)
  have HBN := Lib.hid (rangeAll HZ3.out.2.1)
  have hwx : w.heap.size + 1 < w1.heap.size := Nat.lt_of_lt_of_le RD.out.lt b1.size
  have hgw : ∀ k, X k → k < w1.heap.size := h3.low
  have HGW := Lib.hid hgw
  rw [show c.val = .agg c.row.toArray from rfl]
  clear h2 hu2 hz2 RP RD hb2 HC h3 hu3 b1 RD3 hgw
  go_wp2_with (first
    | (refine wpList_store_fresh rfl 25 (.tmp 8) (.tmp 24) rfl c.row _ w1.heap.size rfl rfl rfl (pf_infoC HCL.out) (by rw [row_len HCL.out]; rfl) (row_one c) ?_)
    | (refine wpList_load_pfx rfl (.tmp 8) rfl w1.heap.size c HCL.out rfl HRC.out ?_)
    | (refine wpList_build1 rfl 44 0 (.tmp 26) rfl c.val (itR c 0) rfl (built_it1 c HCL.out) ?_)
    | (refine wpList_build1 rfl 111 0 (.tmp 27) rfl (itV c 0) (Nd.row ⟨c, 0, false, 0, 0⟩) rfl (built_nd1 c HCL.out 0) ?_)
    | (refine wpList_store_fresh rfl 111 (.tmp 10) (.tmp 28) rfl (Nd.row ⟨c, 0, false, 0, 0⟩) _ (w1.heap.size + 1) rfl (by simp) rfl (nd_infoC HCL.out) (by rw [nd_len HCL.out]; rfl) (nd_one _) ?_)
    | (refine wpList_load_any rfl 111 (.tmp 10) rfl (w1.heap.size + 1) 0 (Nd.row ⟨c, 0, false, 0, 0⟩) _ rfl HBN.out Try.underlying111 rfl (nd_infoC HCL.out) ?_)
    | (refine wpList_load_pfx rfl (.tmp 7) rfl (w.heap.size + 1) d.p HD.out rfl RD4.out ?_)
    | (go_at_call 66; refine (HS.out _).mono ?_; rintro e w2 ⟨rfl, b2⟩; refine Hid.out ?_))
  refine Lib.hid ?_
  have b5 : Below w1.heap.size w1 w2 := below_up HZ3.out.2.2 b2 HZ3.out.2.2.size
  have h5 := h4.out.up b2
  have hu5 := hu4.out.trans (Upd.of_below X b2)
  have hn5 := HZ3.out.2.1.up b2
  have hbd : w1.heap.size + 1 < w2.heap.size := hn5.lt
  have cc : (w2.cell? ⟨w1.heap.size + 1, 20 + k, none⟩) = some (.int .i64 0) := by
    rw [hn5.cell]
    unfold Nd.row
    rw [List.getElem?_append_right (by rw [row_len HCL.out]; omega), row_len HCL.out]
    match k, hk2 with
    | 0, _ => rfl
    | 1, _ => rfl
  have zz : w2.frozen? ⟨w1.heap.size + 1, 20 + k, none⟩ = false := hn5.frozen _
  have hset := hn5.set (20 + k) (.int .i64 (n : Int))
  rw [HK.out, nd_set_kid HCL.out b n, ← HK.out] at hset
  have HX : ∀ q, X q → q ≠ w1.heap.size + 1 := fun q hq e => by have := HGW.out q hq; omega
  have h6 : TabG (w2.setCell ⟨w1.heap.size + 1, 20 + k, none⟩ (.int .i64 (n : Int))) X g T gn cap vf := h5.keep (fun q hq => Below.heap_setCell w2 _ _ q (fun e => HX q hq e)) (by simp)
  have hu6 : Upd w X (w2.setCell ⟨w1.heap.size + 1, 20 + k, none⟩ (.int .i64 (n : Int))) X := by
    refine ⟨hu5.os, hu5.tape, hu5.output, by simpa using hu5.size, fun q hq hx => (Below.heap_setCell w2 _ _ q (fun e => ?_)).trans (hu5.block q hq hx), hu5.sub⟩
    simp only at e
    omega
  have HTK := Lib.hid (fun W X (h : TabM W X g T) => take_any T T' (Nd.setKid ⟨c, 0, false, 0, 0⟩ b n) r W X g h (by rw [setKid_len]; exact HCL.out) HT.out hl)
  have HR6 := Lib.hid (rangeAll hset)
  have H6 := Lib.hid h6
  have HU6 := Lib.hid hu6
  clear h4 hu4 RD4 HRC HBN HZ3 HS hn5 h5 hu5 b5 b2 hset h6 hu6
  go_wp2_with (first
    | (refine wpList_load_any rfl 111 (.tmp 10) rfl (w1.heap.size + 1) 0 (Nd.row (Nd.setKid ⟨c, 0, false, 0, 0⟩ b n)) _ rfl HR6.out Try.underlying111 rfl (nd_infoC (by rw [setKid_len]; exact HCL.out)) ?_)
    | (go_at_call 65; refine (HTK.out _ X ⟨_, _, _, H6.out⟩).mono ?_; rintro e w3 ⟨rfl, X', h7, hu7⟩; refine Hid.out ?_))
  refine Lib.hid ?_
  go_wp2
  go_ret
  exact ⟨rfl, X', h7, HU6.out.trans hu7⟩
end Go.Proofs.Ytgimcapcnidjjaa
namespace Go.Proofs.Ytgimcapcnidjjaa
open Go Go.RowKit

def putN : Nat → Tb → Nat → Pfx → Int → Option (Nat × Tb)
  | 0, _, _, _, _ => none
  | f + 1, T, n, p, v =>
    if n = 0 then takeN T ⟨p, v, true, 0, 0⟩
    else match T.nds[n]? with
      | none => none
      | some d =>
        if eqP d.p p = true then some (n, { T with nds := T.nds.set n ⟨p, v, true, d.k0, d.k1⟩ })
        else if covP d.p p = true then
          match putN f T (d.kid (sideB p.addr d.p.len)) p v with
          | none => none
          | some (r, T1) =>
            match T1.nds[n]? with
            | none => none
            | some d1 => some (n, { T1 with nds := T1.nds.set n (d1.setKid (sideB p.addr d.p.len) r) })
        else
          match takeN T (forkD d p n) with
          | none => none
          | some (n1, T1) => putN f T1 n1 p v
/-- What a call answers that lays into a table. -/
def LaidT (w : World) (X : Nat → Prop) (g : Nat) (T' : Tb) (r : Nat) (e : Ending) (w' : World) : Prop := e = .returned (.int .i64 (r : Int)) ∧ ∃ X', TabM w' X' g T' ∧ Upd w X w' X'
def HeldP (g : Nat) (v : Value) (b : Nat) (t u : TypeId) (l m : List Value) (W : World) : Prop := W.cell? ⟨g, 4, none⟩ = some v ∧ Bx W b t l ∧ Bx W (b + 1) u m
def HeldQ (b : Nat) (t u : TypeId) (l m : List Value) (W : World) : Prop := Bx W b t l ∧ Bx W (b + 1) u m
set_option maxRecDepth 100000 in
set_option maxHeartbeats 4000000 in
theorem put_zero (T T' : Tb) (p : Pfx) (v : Int) (r : Nat) (w : World) (X : Nat → Prop) (g : Nat) (h : TabM w X g T) (hp : p.addr.length = 16) (hT : takeN T ⟨p, v, true, 0, 0⟩ = some (r, T')) (hl : T.nds.length ≤ 1000000) :
    Calls Try.prog 54 #[.pointer (some ⟨g, 0, none⟩), .int .i64 0, itV p v] w (LaidT w X g T' r) := by
  unfold LaidT
  have HT := Lib.hid (fun W X (h : TabM W X g T) => take_any T T' ⟨p, v, true, 0, 0⟩ r W X g h hp hT hl)
  have hb : Below w.heap.size w (w.alloc (.cells (itR p v).toArray 44)) := (Below.refl _ _).alloc (Nat.le_refl _) _
  have H1 := Lib.hid (h.up hb)
  have HU := Lib.hid (Upd.of_below X hb)
  have HR := Lib.hid (rangeAll (Bx.new w 44 (itR p v)))
  have HP := Lib.hid hp
  rw [show itV p v = .agg (itR p v).toArray from rfl]
  clear h hp hT hb
  go_enter Try.func54, Try.ntmps54
  go_wp2_with (first
    | (refine wpList_load_any rfl 44 (.tmp 5) rfl w.heap.size 0 (itR p v) _ rfl HR.out Try.underlying44 rfl (it_infoC HP.out v) ?_)
    | (refine wpList_build2 rfl 111 0 1 (.tmp 13) _ rfl (itV p v) (.bool true) (Nd.row ⟨p, v, true, 0, 0⟩) rfl rfl (built_nd2 p HP.out v) ?_)
    | (go_at_call 65; refine (HT.out _ X H1.out).mono ?_; rintro e w3 ⟨rfl, X', h7, hu7⟩; refine Hid.out ?_))
  refine Lib.hid ?_
  go_wp2
  go_ret
  exact ⟨rfl, X', h7, HU.out.trans hu7⟩
set_option maxRecDepth 100000 in
set_option maxHeartbeats 4000000 in
theorem put_eq (T : Tb) (n : Nat) (d : Nd) (p : Pfx) (v : Int) (w : World) (X : Nat → Prop) (g : Nat) (h : TabM w X g T) (hp : p.addr.length = 16) (hn0 : n ≠ 0) (hd : T.nds[n]? = some d) (he : eqP d.p p = true) :
    Calls Try.prog 54 #[.pointer (some ⟨g, 0, none⟩), .int .i64 (n : Int), itV p v] w (LaidT w X g { T with nds := T.nds.set n ⟨p, v, true, d.k0, d.k1⟩ } n) := by
  unfold LaidT
  obtain ⟨gn, cap, vf, h⟩ := h
  have hn : n < T.nds.length := (List.getElem?_eq_some_iff.1 hd).1
  have fd := h.addr d (List.mem_of_getElem? hd)
  have hcaps := h.caps
  unfold maxLen at hcaps
  have hb : Below w.heap.size w (w.alloc (.cells (itR p v).toArray 44)) := (Below.refl _ _).alloc (Nat.le_refl _) _
  have h1 := h.up hb
  have c4 := h1.c4
  have R1 := Lib.hid (h1.range n d hd)
  have HZ := Lib.hid (twoB_new w 44 111 (itR p v) d.row)
  have H1 := Lib.hid h
  have HP := Lib.hid hp
  have HD := Lib.hid fd
  have HE := Lib.hid he
  have hsz : (w.alloc (.cells (itR p v).toArray 44)).heap.size = w.heap.size + 1 := by simp
  rw [show itV p v = .agg (itR p v).toArray from rfl]
  clear h h1 fd hp hb he
  go_enter Try.func54, Try.ntmps54
  go_wp2_with (first
    | (refine wpList_load_any rfl 111 (.tmp 21) rfl gn (n * 22) d.row _ rfl R1.out Try.underlying111 rfl (nd_infoC HD.out) ?_)
    | (refine wpList_store_fresh rfl 111 (.tmp 7) (.tmp 22) rfl d.row _ (w.heap.size + 1) rfl (by simp) rfl (nd_infoC HD.out) (by rw [nd_len HD.out]; rfl) (nd_one d) ?_; refine Hid.out ?_))
  refine Lib.hid ?_
  have hz := HZ.out
  have h2 := H1.out.up hz.2.2
  have hu2 := Upd.of_below X hz.2.2
  clear HZ hsz R1 c4
  generalize (w.alloc (.cells (itR p v).toArray 44)).alloc (.cells d.row.toArray 111) = W at *
  have RI := Lib.hid (hz.1.range 0 p.row it_pre)
  have RN := Lib.hid (hz.2.1.range 0 d.p.row nd_pre)
  go_wp2_with (first
    | (refine wpList_load_any rfl 25 (.tmp 33) rfl (w.heap.size + 1) 0 d.p.row _ rfl RN.out Try.underlying25 rfl (pf_infoC HD.out) ?_)
    | (refine wpList_load_any rfl 25 (.tmp 35) rfl w.heap.size 0 p.row _ rfl RI.out Try.underlying25 rfl (pf_infoC HP.out) ?_)
    | (refine wpList_eql_pfxB rfl 34 36 _ rfl d.p p HD.out HP.out true HE.out rfl rfl ?_; refine Hid.out ?_))
  refine Lib.hid ?_
  go_wp2
  have hgn : gn < w.heap.size := H1.out.low gn H1.out.inN
  refine wp_region_noPanic ?_
  refine wp_region_held_drew (S := HeldP g (.slice (some ⟨gn, 0, none⟩) T.nds.length cap) w.heap.size 44 111 (itR p v) d.row) (by kernel_rfl) ⟨h2.c4, hz.1, hz.2.1⟩ (fun hHeld => ?_)
  have h3 : TabG W.drew X g T gn cap vf := ⟨h2.box, h2.nds, h2.free, h2.addr, h2.inG, h2.inN, h2.inF, h2.low⟩
  have hu3 : Upd w X W.drew X := ⟨hu2.os, hu2.tape, hu2.output, hu2.size, hu2.block, hu2.sub⟩
  clear h2 hu2 hz RI RN
  generalize W.drew = W2 at *
  refine held_take (v := ?v1050) 0 rfl (by kernel_rfl) (by kernel_rfl) (by kernel_rfl) (fun _ _ _ h => h) (by rfl) ?y1050 (by assumption) ?_
  case y1050 => (intro w hSw; unfold HeldP at hSw; go_simp; (try with_reducible rfl); (try omega))
  simp only [List.setIfInBounds_toArray, List.set_cons_zero, List.set_cons_succ]
  refine held_take (v := ?v1053) 1 rfl (by kernel_rfl) (by kernel_rfl) (by kernel_rfl) (fun _ _ _ h => h) (by rfl) ?y1053 (by assumption) ?_
  case y1053 => (intro w hSw; unfold HeldP at hSw; go_simp; (try with_reducible rfl); (try omega))
  simp only [List.setIfInBounds_toArray, List.set_cons_zero, List.set_cons_succ]
  refine held_take (v := ?v1056) 2 rfl (by kernel_rfl) (by kernel_rfl) (by kernel_rfl) (fun _ _ _ h => h) (by rfl) ?y1056 (by assumption) ?_
  case y1056 => (intro w hSw; unfold HeldP at hSw; go_simp; (try with_reducible rfl); (try omega))
  simp only [List.setIfInBounds_toArray, List.set_cons_zero, List.set_cons_succ]
  refine held_take (v := ?v1059) 3 rfl (by kernel_rfl) (by kernel_rfl) (by kernel_rfl) (fun _ _ _ h => h) (by rfl) ?y1059 (by assumption) ?_
  case y1059 => (intro w hSw; unfold HeldP at hSw; go_simp; (try with_reducible rfl); (try omega))
  simp only [List.setIfInBounds_toArray, List.set_cons_zero, List.set_cons_succ]
  refine held_take (v := ?v1062) 4 rfl (by kernel_rfl) (by kernel_rfl) (by kernel_rfl) (fun _ _ _ h => h) (by rfl) ?y1062 (by assumption) ?_
  case y1062 => (intro w hSw; unfold HeldP at hSw; go_simp; (try with_reducible rfl); (try omega))
  simp only [List.setIfInBounds_toArray, List.set_cons_zero, List.set_cons_succ]
  refine held_take (v := itV p v) 5 rfl (by kernel_rfl) (by kernel_rfl) (by kernel_rfl) (fun _ _ _ h => h) (by rfl) (fun W hSw => exec_load_any _ (.tmp 5) rfl w.heap.size 0 (itR p v) _ rfl (rangeAll hSw.2.1) Try.underlying44 rfl (it_infoC HP.out v)) (by assumption) ?_
  simp only [List.setIfInBounds_toArray, List.set_cons_zero, List.set_cons_succ]
  refine held_take (v := ?v1067) 6 rfl (by kernel_rfl) (by kernel_rfl) (by kernel_rfl) (fun _ _ _ h => h) (by rfl) ?y1067 (by assumption) ?_
  case y1067 => (intro w hSw; unfold HeldP at hSw; go_simp; (try with_reducible rfl); (try omega))
  simp only [List.setIfInBounds_toArray, List.set_cons_zero, List.set_cons_succ]
  refine held_take (v := .agg #[.int .i64 (d.k0 : Int), .int .i64 (d.k1 : Int)]) 7 rfl (by kernel_rfl) (by kernel_rfl) (by kernel_rfl) (fun _ _ _ h => h) (by rfl) (fun W hSw => exec_load_any _ (.tmp 44) rfl (w.heap.size + 1) 20 [.int .i64 (d.k0 : Int), .int .i64 (d.k1 : Int)] _ rfl (hSw.2.2.range 20 _ (nd_kids HD.out)) Try.underlying109 rfl (by kernel_rfl)) (by assumption) ?_
  simp only [List.setIfInBounds_toArray, List.set_cons_zero, List.set_cons_succ]
  refine held_take (v := Nd.val ⟨p, v, true, d.k0, d.k1⟩) 8 rfl (by kernel_rfl) (by kernel_rfl) (by kernel_rfl) (fun _ _ _ h => h) (by rfl) (fun W hSw => exec_build3 _ 0 1 2 (.tmp 43) _ (.tmp 45) rfl (itV p v) (.bool true) _ (Nd.row ⟨p, v, true, d.k0, d.k1⟩) rfl rfl rfl (built_nd3 p HP.out v d.k0 d.k1)) (by assumption) ?_
  simp only [List.setIfInBounds_toArray, List.set_cons_zero, List.set_cons_succ]
  refine held_take (v := ?v1074) 9 rfl (by kernel_rfl) (by kernel_rfl) (by kernel_rfl) (fun _ _ _ h => h) (by rfl) ?y1074 (by assumption) ?_
  case y1074 => (intro w hSw; unfold HeldP at hSw; go_simp; (try with_reducible rfl); (try omega))
  simp only [List.setIfInBounds_toArray, List.set_cons_zero, List.set_cons_succ]
  refine held_none 10 rfl (by kernel_rfl) (by rfl) (fun K hK => ?_)
  refine wp_store_mid 111 (.tmp 47) (.tmp 46) rfl gn (n * 22) (Nd.row ⟨p, v, true, d.k0, d.k1⟩).toArray rfl rfl ?_ (by simpa using nd_infoC (d := ⟨p, v, true, d.k0, d.k1⟩) HP.out) (all_oneCell_toArray (nd_one _)) ?_
  · exact h3.there n d hd _ (by simp [nd_len (d := ⟨p, v, true, d.k0, d.k1⟩) HP.out])
  · have h4 := h3.setNode n hn ⟨p, v, true, d.k0, d.k1⟩ HP.out
    have hu4 := hu3.trans (Upd.setCells gn h3.inN (Nd.row ⟨p, v, true, d.k0, d.k1⟩) W2 (n * 22))
    have hu5 := Upd.setCells (X := fun k => k = gn) gn rfl (Nd.row ⟨p, v, true, d.k0, d.k1⟩) W2 (n * 22)
    refine hK.out _ _ ⟨h4.c4.trans (by simp), hHeld.2.1.upd hu5 (by omega), hHeld.2.2.upd hu5 (by omega)⟩ (fun _ => ?_)
    clear hK K
    refine wpAnyH_done (by kernel_rfl) ?_ _
    refine NoPanic.normal ?_
    go_wp2
    go_ret
    exact ⟨rfl, X, ⟨gn, cap, _, h4⟩, hu4⟩
end Go.Proofs.Ytgimcapcnidjjaa
namespace Go.Proofs.Ytgimcapcnidjjaa
open Go Go.RowKit

theorem HeldQ.upd {b : Nat} {t u : TypeId} {l m : List Value} {W W' : World} {X X' : Nat → Prop} (h : HeldQ b t u l m W) (hu : Upd W X W' X') (hX : ∀ k, X k → k < b) : HeldQ b t u l m W' :=
  ⟨h.1.upd hu (fun hx => by have := hX _ hx; omega), h.2.upd hu (fun hx => by have := hX _ hx; omega)⟩
theorem kid_cell {W : World} {b : Nat} {d : Nd} (f : d.p.addr.length = 16) (h : Bx W b 111 d.row) (s : Bool) (k : Nat) (hk : k = if s then 1 else 0) : W.cell? ⟨b, 20 + k, none⟩ = some (.int .i64 ((d.kid s : Nat) : Int)) := by
  rw [h.cell, hk]
  cases s
  · exact nd_k0 f
  · exact nd_k1 f
set_option maxRecDepth 100000 in
set_option maxHeartbeats 4000000 in
theorem put_cov (T T1 : Tb) (n r : Nat) (d d1 : Nd) (p : Pfx) (v : Int) (w : World) (X : Nat → Prop) (g : Nat) (h : TabM w X g T) (hp : p.addr.length = 16) (hn0 : n ≠ 0) (hd : T.nds[n]? = some d) (he : eqP d.p p = false) (hc : covP d.p p = true)
    (hrec : ∀ W X, TabM W X g T → Calls Try.prog 54 #[.pointer (some ⟨g, 0, none⟩), .int .i64 ((d.kid (sideB p.addr d.p.len) : Nat) : Int), itV p v] W (LaidT W X g T1 r)) (hd1 : T1.nds[n]? = some d1) :
    Calls Try.prog 54 #[.pointer (some ⟨g, 0, none⟩), .int .i64 (n : Int), itV p v] w (LaidT w X g { T1 with nds := T1.nds.set n (d1.setKid (sideB p.addr d.p.len) r) } n) := by
  unfold LaidT at hrec ⊢
  obtain ⟨gn, cap, vf, h⟩ := h
  have hn : n < T.nds.length := (List.getElem?_eq_some_iff.1 hd).1
  have hn1 : n < T1.nds.length := (List.getElem?_eq_some_iff.1 hd1).1
  have fd := h.addr d (List.mem_of_getElem? hd)
  have hcaps := h.caps
  unfold maxLen at hcaps
  have hb : Below w.heap.size w (w.alloc (.cells (itR p v).toArray 44)) := (Below.refl _ _).alloc (Nat.le_refl _) _
  have h1 := h.up hb
  have c4 := h1.c4
  have R1 := Lib.hid (h1.range n d hd)
  have HZ := Lib.hid (twoB_new w 44 111 (itR p v) d.row)
  have H1 := Lib.hid h
  have HP := Lib.hid hp
  have HD := Lib.hid fd
  have HE := Lib.hid he
  have HC := Lib.hid (fun W => covers_any d.p p W fd hp)
  rw [hc] at HC
  have HS := Lib.hid (fun W => side_any d p W fd hp)
  have HR := Lib.hid hrec
  generalize sideB p.addr d.p.len = s at *
  obtain ⟨k, hk⟩ : ∃ k : Nat, k = if s then 1 else 0 := ⟨_, rfl⟩
  rw [show (if s = true then (1 : Int) else 0) = (k : Int) by rw [hk]; cases s <;> rfl] at HS
  have hk2 : k < 2 := by rw [hk]; cases s <;> decide
  have HK := Lib.hid hk
  have hk3 : (k : Int) < 2 := by omega
  have hsz : (w.alloc (.cells (itR p v).toArray 44)).heap.size = w.heap.size + 1 := by simp
  rw [show itV p v = .agg (itR p v).toArray from rfl]
  clear h h1 fd hp hb he hc hrec hk
  go_enter Try.func54, Try.ntmps54
  go_wp2_with (first
    | (refine wpList_load_any rfl 111 (.tmp 21) rfl gn (n * 22) d.row _ rfl R1.out Try.underlying111 rfl (nd_infoC HD.out) ?_)
    | (refine wpList_store_fresh rfl 111 (.tmp 7) (.tmp 22) rfl d.row _ (w.heap.size + 1) rfl (by simp) rfl (nd_infoC HD.out) (by rw [nd_len HD.out]; rfl) (nd_one d) ?_; refine Hid.out ?_))
  refine Lib.hid ?_
  have hz := HZ.out
  have h2 := H1.out.up hz.2.2
  have hu2 := Upd.of_below X hz.2.2
  clear HZ hsz R1 c4
  generalize (w.alloc (.cells (itR p v).toArray 44)).alloc (.cells d.row.toArray 111) = W at *
  have RI := Lib.hid (hz.1.range 0 p.row it_pre)
  have RN := Lib.hid (hz.2.1.range 0 d.p.row nd_pre)
  go_wp2_with (first
    | (refine wpList_load_any rfl 25 (.tmp 33) rfl (w.heap.size + 1) 0 d.p.row _ rfl RN.out Try.underlying25 rfl (pf_infoC HD.out) ?_)
    | (refine wpList_load_any rfl 25 (.tmp 35) rfl w.heap.size 0 p.row _ rfl RI.out Try.underlying25 rfl (pf_infoC HP.out) ?_)
    | (refine wpList_load_any rfl 25 (.tmp 50) rfl (w.heap.size + 1) 0 d.p.row _ rfl RN.out Try.underlying25 rfl (pf_infoC HD.out) ?_)
    | (refine wpList_load_any rfl 25 (.tmp 52) rfl w.heap.size 0 p.row _ rfl RI.out Try.underlying25 rfl (pf_infoC HP.out) ?_)
    | (refine wpList_eql_pfxB rfl 34 36 _ rfl d.p p HD.out HP.out false HE.out rfl rfl ?_)
    | (go_at_call 47; refine (HC.out _).mono ?_; rintro e w1 ⟨rfl, b1⟩; refine Hid.out ?_))
  refine Lib.hid ?_
  have hz1 := hz.up b1
  have h3 := h2.up b1
  have hu3 := hu2.trans (Upd.of_below X b1)
  clear hz h2 hu2 RI RN b1
  have RI := Lib.hid (hz1.1.range 0 p.row it_pre)
  have RN := Lib.hid (rangeAll hz1.2.1)
  go_wp2_with (first
    | (refine wpList_load_any rfl 111 (.tmp 7) rfl (w.heap.size + 1) 0 d.row _ rfl RN.out Try.underlying111 rfl (nd_infoC HD.out) ?_)
    | (refine wpList_load_any rfl 25 (.tmp 56) rfl w.heap.size 0 p.row _ rfl RI.out Try.underlying25 rfl (pf_infoC HP.out) ?_)
    | (go_at_call 66; refine (HS.out _).mono ?_; rintro e w2 ⟨rfl, b2⟩; refine Hid.out ?_))
  refine Lib.hid ?_
  have hz2 := hz1.up b2
  have h4 := h3.up b2
  have hu4 := hu3.trans (Upd.of_below X b2)
  clear hz1 h3 hu3 RI RN b2
  have HXL := Lib.hid H1.out.low
  go_wp2
  refine wp_region_noPanic ?_
  refine wp_region_held_drew (S := HeldQ w.heap.size 44 111 (itR p v) d.row) (by kernel_rfl) ⟨hz2.1, hz2.2.1⟩ (fun hHeld => ?_)
  have h5 : TabG w2.drew X g T gn cap vf := ⟨h4.box, h4.nds, h4.free, h4.addr, h4.inG, h4.inN, h4.inF, h4.low⟩
  have hu5 : Upd w X w2.drew X := ⟨hu4.os, hu4.tape, hu4.output, hu4.size, hu4.block, hu4.sub⟩
  clear h4 hu4 hz2
  generalize w2.drew = W2 at *
  refine held_take (v := ?v1178) 0 rfl (by kernel_rfl) (by kernel_rfl) (by kernel_rfl) (fun _ _ _ h => h) (by rfl) ?y1178 (by assumption) ?_
  case y1178 => (intro w hSw; unfold HeldQ at hSw; go_simp; (try with_reducible rfl); (try omega))
  simp only [List.setIfInBounds_toArray, List.set_cons_zero, List.set_cons_succ]
  refine held_take (v := ?v1181) 1 rfl (by kernel_rfl) (by kernel_rfl) (by kernel_rfl) (fun _ _ _ h => h) (by rfl) ?y1181 (by assumption) ?_
  case y1181 => (intro w hSw; unfold HeldQ at hSw; go_simp; (try with_reducible rfl); (try omega))
  simp only [List.setIfInBounds_toArray, List.set_cons_zero, List.set_cons_succ]
  refine held_take (v := ?v1184) 2 rfl (by kernel_rfl) (by kernel_rfl) (by kernel_rfl) (fun _ _ _ h => h) (by rfl) ?y1184 (by assumption) ?_
  case y1184 => (intro w hSw; unfold HeldQ at hSw; go_simp; (try with_reducible rfl); (try omega))
  simp only [List.setIfInBounds_toArray, List.set_cons_zero, List.set_cons_succ]
  refine held_take (v := ?v1187) 3 rfl (by kernel_rfl) (by kernel_rfl) (by kernel_rfl) (fun _ _ _ h => h) (by rfl) ?y1187 (by assumption) ?_
  case y1187 => (intro w hSw; unfold HeldQ at hSw; go_simp; (try with_reducible rfl); (try omega))
  simp only [List.setIfInBounds_toArray, List.set_cons_zero, List.set_cons_succ]
  refine held_take (v := .int .i64 ((d.kid s : Nat) : Int)) 4 rfl (by kernel_rfl) (by kernel_rfl) (by kernel_rfl) (fun _ _ _ h => h) (by rfl) (fun W hSw => (by have hc := kid_cell HD.out hSw.2 s k HK.out; go_simp)) (by assumption) ?_
  simp only [List.setIfInBounds_toArray, List.set_cons_zero, List.set_cons_succ]
  refine held_take (v := itV p v) 5 rfl (by kernel_rfl) (by kernel_rfl) (by kernel_rfl) (fun _ _ _ h => h) (by rfl) (fun W hSw => exec_load_any _ (.tmp 5) rfl w.heap.size 0 (itR p v) _ rfl (rangeAll hSw.1) Try.underlying44 rfl (it_infoC HP.out v)) (by assumption) ?_
  simp only [List.setIfInBounds_toArray, List.set_cons_zero, List.set_cons_succ]
  refine held_one 6 rfl (by kernel_rfl) (by rfl) (fun K hK => ?_)
  go_simp
  refine (HR.out _ X ⟨_, _, _, h5⟩).mono ?_
  rintro e w3 ⟨rfl, X', ⟨gn', cap', vf', h6⟩, hu6⟩
  have hH6 := HeldQ.upd hHeld hu6 HXL.out
  refine hK.out _ _ hH6 (fun _ => ?_)
  clear hK K
  refine held_take (v := ?v1201) 7 rfl (by kernel_rfl) (by kernel_rfl) (by kernel_rfl) (fun _ _ _ h => h) (by rfl) ?y1201 (by assumption) ?_
  case y1201 => (intro w hSw; unfold HeldQ at hSw; go_simp; (try with_reducible rfl); (try omega))
  simp only [List.setIfInBounds_toArray, List.set_cons_zero, List.set_cons_succ]
  refine wpAnyH_done (by kernel_rfl) ?_ _
  refine NoPanic.normal ?_
  have c4 := h6.c4
  have hcaps1 := h6.caps
  unfold maxLen at hcaps1
  have hth := h6.there n d1 hd1 22 (by omega) (20 + k) (by omega)
  have z4 : w3.frozen? ⟨gn', n * 22 + (20 + k), none⟩ = false := hth.2
  obtain ⟨old, hold⟩ := Option.isSome_iff_exists.1 hth.1
  have z5 : w3.frozen? ⟨gn', n * 22 + 20 + k, none⟩ = false := by rw [Nat.add_assoc]; exact z4
  have hold5 : w3.cell? ⟨gn', n * 22 + 20 + k, none⟩ = some old := by rw [Nat.add_assoc]; exact hold
  have H7 := h6.setKid n d1 hd1 s r
  rw [← HK.out, ← Nat.add_assoc] at H7
  have HU7 := (hu5.trans hu6).trans (Upd.setCell gn' (n * 22 + 20 + k) (.int .i64 (r : Int)) h6.inN)
  have H7 := Lib.hid H7
  have HU7 := Lib.hid HU7
  clear h6 hu6 hu5 h5 hth hH6 hHeld H1 HR HS HC
  go_wp2
  go_ret
  exact ⟨rfl, X', ⟨_, _, _, H7.out⟩, HU7.out⟩
set_option maxRecDepth 100000 in
set_option maxHeartbeats 4000000 in
theorem put_fork (T T1 T2 : Tb) (n n1 r : Nat) (d : Nd) (p : Pfx) (v : Int) (w : World) (X : Nat → Prop) (g : Nat) (h : TabM w X g T) (hp : p.addr.length = 16) (hn0 : n ≠ 0) (hd : T.nds[n]? = some d) (he : eqP d.p p = false) (hc : covP d.p p = false)
    (hf : takeN T (forkD d p n) = some (n1, T1)) (hl : T.nds.length ≤ 1000000)
    (hrec : ∀ W X, TabM W X g T1 → Calls Try.prog 54 #[.pointer (some ⟨g, 0, none⟩), .int .i64 (n1 : Int), itV p v] W (LaidT W X g T2 r)) :
    Calls Try.prog 54 #[.pointer (some ⟨g, 0, none⟩), .int .i64 (n : Int), itV p v] w (LaidT w X g T2 r) := by
  unfold LaidT at hrec ⊢
  obtain ⟨gn, cap, vf, h⟩ := h
  have hn : n < T.nds.length := (List.getElem?_eq_some_iff.1 hd).1
  have fd := h.addr d (List.mem_of_getElem? hd)
  have hcaps := h.caps
  unfold maxLen at hcaps
  have hb : Below w.heap.size w (w.alloc (.cells (itR p v).toArray 44)) := (Below.refl _ _).alloc (Nat.le_refl _) _
  have h1 := h.up hb
  have c4 := h1.c4
  have R1 := Lib.hid (h1.range n d hd)
  have HZ := Lib.hid (twoB_new w 44 111 (itR p v) d.row)
  have H1 := Lib.hid h
  have HP := Lib.hid hp
  have HD := Lib.hid fd
  have HE := Lib.hid he
  have HC := Lib.hid (fun W => covers_any d.p p W fd hp)
  rw [hc] at HC
  have HF := Lib.hid (fun W X (h : TabM W X g T) => fork_any T T1 n p d n1 W X g h hp hd hf hl)
  have HR := Lib.hid hrec
  have hsz : (w.alloc (.cells (itR p v).toArray 44)).heap.size = w.heap.size + 1 := by simp
  rw [show itV p v = .agg (itR p v).toArray from rfl]
  clear h h1 fd hp hb he hc hrec hf
  go_enter Try.func54, Try.ntmps54
  go_wp2_with (first
    | (refine wpList_load_any rfl 111 (.tmp 21) rfl gn (n * 22) d.row _ rfl R1.out Try.underlying111 rfl (nd_infoC HD.out) ?_)
    | (refine wpList_store_fresh rfl 111 (.tmp 7) (.tmp 22) rfl d.row _ (w.heap.size + 1) rfl (by simp) rfl (nd_infoC HD.out) (by rw [nd_len HD.out]; rfl) (nd_one d) ?_; refine Hid.out ?_))
  refine Lib.hid ?_
  have hz := HZ.out
  have h2 := H1.out.up hz.2.2
  have hu2 := Upd.of_below X hz.2.2
  clear HZ hsz R1 c4
  generalize (w.alloc (.cells (itR p v).toArray 44)).alloc (.cells d.row.toArray 111) = W at *
  have RI := Lib.hid (hz.1.range 0 p.row it_pre)
  have RN := Lib.hid (hz.2.1.range 0 d.p.row nd_pre)
  go_wp2_with (first
    | (refine wpList_load_any rfl 25 (.tmp 33) rfl (w.heap.size + 1) 0 d.p.row _ rfl RN.out Try.underlying25 rfl (pf_infoC HD.out) ?_)
    | (refine wpList_load_any rfl 25 (.tmp 35) rfl w.heap.size 0 p.row _ rfl RI.out Try.underlying25 rfl (pf_infoC HP.out) ?_)
    | (refine wpList_load_any rfl 25 (.tmp 50) rfl (w.heap.size + 1) 0 d.p.row _ rfl RN.out Try.underlying25 rfl (pf_infoC HD.out) ?_)
    | (refine wpList_load_any rfl 25 (.tmp 52) rfl w.heap.size 0 p.row _ rfl RI.out Try.underlying25 rfl (pf_infoC HP.out) ?_)
    | (refine wpList_eql_pfxB rfl 34 36 _ rfl d.p p HD.out HP.out false HE.out rfl rfl ?_)
    | (go_at_call 47; refine (HC.out _).mono ?_; rintro e w1 ⟨rfl, b1⟩; refine Hid.out ?_))
  refine Lib.hid ?_
  have hz1 := hz.up b1
  have h3 := h2.up b1
  have hu3 := hu2.trans (Upd.of_below X b1)
  clear hz h2 hu2 RI RN b1
  have HXL := Lib.hid H1.out.low
  go_wp2
  refine wp_region_noPanic ?_
  refine wp_region_held_drew (S := HeldQ w.heap.size 44 111 (itR p v) d.row) (by kernel_rfl) ⟨hz1.1, hz1.2.1⟩ (fun hHeld => ?_)
  have h5 : TabG w1.drew X g T gn cap vf := ⟨h3.box, h3.nds, h3.free, h3.addr, h3.inG, h3.inN, h3.inF, h3.low⟩
  have hu5 : Upd w X w1.drew X := ⟨hu3.os, hu3.tape, hu3.output, hu3.size, hu3.block, hu3.sub⟩
  have hwl : w.heap.size + 1 < w1.drew.heap.size := hz1.2.1.lt
  clear h3 hu3 hz1
  generalize w1.drew = W2 at *
  refine held_take (v := ?v1284) 0 rfl (by kernel_rfl) (by kernel_rfl) (by kernel_rfl) (fun _ _ _ h => h) (by rfl) ?y1284 (by assumption) ?_
  case y1284 => (intro w hSw; unfold HeldQ at hSw; go_simp; (try with_reducible rfl); (try omega))
  simp only [List.setIfInBounds_toArray, List.set_cons_zero, List.set_cons_succ]
  refine held_take (v := ?v1287) 1 rfl (by kernel_rfl) (by kernel_rfl) (by kernel_rfl) (fun _ _ _ h => h) (by rfl) ?y1287 (by assumption) ?_
  case y1287 => (intro w hSw; unfold HeldQ at hSw; go_simp; (try with_reducible rfl); (try omega))
  simp only [List.setIfInBounds_toArray, List.set_cons_zero, List.set_cons_succ]
  refine held_take (v := ?v1290) 2 rfl (by kernel_rfl) (by kernel_rfl) (by kernel_rfl) (fun _ _ _ h => h) (by rfl) ?y1290 (by assumption) ?_
  case y1290 => (intro w hSw; unfold HeldQ at hSw; go_simp; (try with_reducible rfl); (try omega))
  simp only [List.setIfInBounds_toArray, List.set_cons_zero, List.set_cons_succ]
  refine held_take (v := ?v1293) 3 rfl (by kernel_rfl) (by kernel_rfl) (by kernel_rfl) (fun _ _ _ h => h) (by rfl) ?y1293 (by assumption) ?_
  case y1293 => (intro w hSw; unfold HeldQ at hSw; go_simp; (try with_reducible rfl); (try omega))
  simp only [List.setIfInBounds_toArray, List.set_cons_zero, List.set_cons_succ]
  refine held_take (v := p.val) 4 rfl (by kernel_rfl) (by kernel_rfl) (by kernel_rfl) (fun _ _ _ h => h) (by rfl) (fun W hSw => exec_load_any _ (.tmp 26) rfl w.heap.size 0 p.row _ rfl (hSw.1.range 0 p.row it_pre) Try.underlying25 rfl (pf_infoC HP.out)) (by assumption) ?_
  simp only [List.setIfInBounds_toArray, List.set_cons_zero, List.set_cons_succ]
  refine held_take (v := itV p v) 6 rfl (by kernel_rfl) (by kernel_rfl) (by kernel_rfl) (fun _ _ _ h => h) (by rfl) (fun W hSw => exec_load_any _ (.tmp 5) rfl w.heap.size 0 (itR p v) _ rfl (rangeAll hSw.1) Try.underlying44 rfl (it_infoC HP.out v)) (by assumption) ?_
  simp only [List.setIfInBounds_toArray, List.set_cons_zero, List.set_cons_succ]
  refine held_one 5 rfl (by kernel_rfl) (by rfl) (fun K hK => ?_)
  go_simp
  refine (HF.out _ X ⟨_, _, _, h5⟩).mono ?_
  rintro e w3 ⟨rfl, X1, h6, hu6⟩
  have hH6 := HeldQ.upd hHeld hu6 HXL.out
  refine hK.out _ _ hH6 (fun _ => ?_)
  clear hK K
  refine held_one 7 rfl (by kernel_rfl) (by rfl) (fun K hK => ?_)
  go_simp
  refine (HR.out _ X1 h6).mono ?_
  rintro e w4 ⟨rfl, X2, h7, hu7⟩
  have hX1 : ¬ X1 w.heap.size ∧ ¬ X1 (w.heap.size + 1) := by
    constructor <;> (intro hx; have := (hu6.sub _ hx).imp_left (HXL.out _); omega)
  refine hK.out _ _ ⟨hH6.1.upd hu7 hX1.1, hH6.2.upd hu7 hX1.2⟩ (fun _ => ?_)
  clear hK K
  have hH7 : HeldQ w.heap.size 44 111 (itR p v) d.row w4 := ⟨hH6.1.upd hu7 hX1.1, hH6.2.upd hu7 hX1.2⟩
  refine held_take (v := ?v1316) 8 rfl (by kernel_rfl) (by kernel_rfl) (by kernel_rfl) (fun _ _ _ h => h) (by rfl) ?y1316 (by assumption) ?_
  case y1316 => (intro w hSw; unfold HeldQ at hSw; go_simp; (try with_reducible rfl); (try omega))
  simp only [List.setIfInBounds_toArray, List.set_cons_zero, List.set_cons_succ]
  refine wpAnyH_done (by kernel_rfl) ?_ _
  refine NoPanic.normal ?_
  go_wp2
  go_ret
  exact ⟨rfl, X2, h7, (hu5.trans hu6).trans hu7⟩
theorem takeN_len {T T' : Tb} {d : Nd} {r : Nat} (h : takeN T d = some (r, T')) : T'.nds.length ≤ T.nds.length + 1 := by
  unfold takeN at h
  split at h
  · split at h
    · cases h; simp
    · cases h
  · cases h; simp
/-- put, as it reckons. -/
theorem put_any : ∀ (f : Nat) (T T' : Tb) (n r : Nat) (p : Pfx) (v : Int) (w : World) (X : Nat → Prop) (g : Nat), TabM w X g T → p.addr.length = 16 → putN f T n p v = some (r, T') → T.nds.length + f ≤ 1000000 →
    Calls Try.prog 54 #[.pointer (some ⟨g, 0, none⟩), .int .i64 (n : Int), itV p v] w (LaidT w X g T' r)
  | 0, T, T', n, r, p, v, w, X, g, _, _, hT, _ => by cases hT
  | f + 1, T, T', n, r, p, v, w, X, g, h, hp, hT, hl => by
    unfold putN at hT
    split at hT
    · rename_i hn
      subst hn
      exact put_zero T T' p v r w X g h hp hT (by omega)
    · rename_i hn
      split at hT
      · cases hT
      · rename_i d hd
        split at hT
        · rename_i he
          cases hT
          exact put_eq T n d p v w X g h hp hn hd he
        · rename_i he
          have he : eqP d.p p = false := by simpa using he
          split at hT
          · rename_i hc
            split at hT
            · cases hT
            · rename_i r1 T1 hr
              split at hT
              · cases hT
              · rename_i d1 hd1
                cases hT
                exact put_cov T T1 n r1 d d1 p v w X g h hp hn hd he hc (fun W Y hW => put_any f T T1 _ r1 p v W Y g hW hp hr (by omega)) hd1
          · rename_i hc
            have hc : covP d.p p = false := by simpa using hc
            split at hT
            · cases hT
            · rename_i n1 T1 hf
              have := takeN_len hf
              exact put_fork T T1 T' n n1 r d p v w X g h hp hn hd he hc hf (by omega) (fun W Y hW => put_any f T1 T' n1 r p v W Y g hW hp hT (by omega))
end Go.Proofs.Ytgimcapcnidjjaa
