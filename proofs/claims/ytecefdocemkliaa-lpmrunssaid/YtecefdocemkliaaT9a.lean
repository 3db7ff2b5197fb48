/- A table of prefixes in memory (package lpm): boxes, nodes, the row of free ones, what a call may change. -/
import Derived.Test.YtecefdocemkliaaPre5
import Derived.Test.YtecefdocemkliaaStc
import Derived.Test.YtecefdocemkliaaM9
namespace Go.Proofs.Ytecefdocemkliaa
open Go Go.RowKit

/-! Boxes of several cells. -/
def Bx (w : World) (g : Nat) (t : TypeId) (l : List Value) : Prop := w.heap[g]? = some (.cells l.toArray t (0, 0))
theorem Bx.lt {w : World} {g : Nat} {t : TypeId} {l : List Value} (h : Bx w g t l) : g < w.heap.size := (Array.getElem?_eq_some_iff.1 h).1
theorem Bx.up {w w' : World} {g : Nat} {t : TypeId} {l : List Value} (h : Bx w g t l) (hb : Below w.heap.size w w') : Bx w' g t l := (hb.block g h.lt).trans h
theorem Bx.al {w : World} {g : Nat} {t : TypeId} {l : List Value} (h : Bx w g t l) (o : Obj) : Bx (w.alloc o) g t l := h.up ((Below.refl _ _).alloc (Nat.le_refl _) _)
theorem Bx.new (w : World) (t : TypeId) (l : List Value) : Bx (w.alloc (.cells l.toArray t)) w.heap.size t l := heap_alloc_new w _
theorem Bx.cell {w : World} {g : Nat} {t : TypeId} {l : List Value} (h : Bx w g t l) (j : Nat) : w.cell? ⟨g, j, none⟩ = l[j]? := by
  rw [cell_of_row w g j _ _ _ h]
  simp
theorem Bx.frozen {w : World} {g : Nat} {t : TypeId} {l : List Value} (h : Bx w g t l) (i : Nat) : w.frozen? ⟨g, i, none⟩ = false := frozen_of_row w g i _ _ h
theorem Bx.range {w : World} {g : Nat} {t : TypeId} {l : List Value} (h : Bx w g t l) (k : Nat) (m : List Value) (hm : (l.drop k).take m.length = m) : w.rangeAt g k m := by
  intro j v hv
  rw [h.cell]
  have hj : j < m.length := (List.getElem?_eq_some_iff.1 hv).1
  rw [← hm, List.getElem?_take, if_pos hj, List.getElem?_drop] at hv
  exact hv
theorem Bx.set {w : World} {g : Nat} {t : TypeId} {l : List Value} (h : Bx w g t l) (i : Nat) (v : Value) : Bx (w.setCell ⟨g, i, none⟩ v) g t (l.set i v) := by
  unfold Bx
  rw [heap_setCell_same w g i _ _ _ h]
  simp
theorem Bx.setOther {w : World} {g : Nat} {t : TypeId} {l : List Value} (h : Bx w g t l) {k : Nat} (hk : g ≠ k) (i : Nat) (v : Value) : Bx (w.setCell ⟨k, i, none⟩ v) g t l := (Below.heap_setCell w _ v g (fun e => hk e)).trans h
theorem Bx.row {w : World} {g : Nat} {t : TypeId} {l : List Value} (h : Bx w g t l) (m : List Value) : Bx (w.setRow g m.toArray) g t m := setRow_heap _ _ _ _ _ _ h
/-! Laws: a thing of several cells goes whole into a fresh box, into a box, out of any place. -/
section
variable {ops : Array Oper} {rest : List Oper} {o : Oper} {a : Act} {w : World} {Q : Exit → Act → World → Prop}
theorem wpList_store_fresh (hgd : o.guard = none) (ty : TypeId) (x y : Operand) (ho : o.op = .store ty x y) (l : List Value) (old : Array Value) (b : Nat) (hx : a.eval x = .pointer (some ⟨b, 0, none⟩)) (hbw : w.heap.size = b) (hy : a.eval y = .agg l.toArray)
    (hi : (Try.prog.info? ty).map (·.size) = some l.length) (hold : old.size = l.length) (h1 : ∀ v ∈ l, v.oneCell' = true)
    (hR : wpList Try.prog ops Q rest (a.put o.dst undef) (w.alloc (.cells l.toArray ty))) : wpList Try.prog ops Q (o :: rest) a (w.alloc (.cells old ty)) := by
  subst hbw
  refine wpList_store_row hgd ty x y ho w.heap.size l.toArray hx hy ty old (heap_alloc_new w _) (by simpa using hi) (by simpa using hold) (all_oneCell_toArray h1) ?_
  rw [World.setRow_alloc_new]
  exact hR
theorem wpList_store_bx (hgd : o.guard = none) (ty : TypeId) (x y : Operand) (ho : o.op = .store ty x y) (g : Nat) (l m : List Value) (hx : a.eval x = .pointer (some ⟨g, 0, none⟩)) (hy : a.eval y = .agg l.toArray)
    (hg : Bx w g ty m) (hi : (Try.prog.info? ty).map (·.size) = some l.length) (hold : m.length = l.length) (h1 : ∀ v ∈ l, v.oneCell' = true)
    (hR : wpList Try.prog ops Q rest (a.put o.dst undef) (w.setRow g l.toArray)) : wpList Try.prog ops Q (o :: rest) a w :=
  wpList_store_row hgd ty x y ho g l.toArray hx hy ty _ hg (by simpa using hi) (by simpa using hold) (all_oneCell_toArray h1) hR
theorem wpList_load_any (hgd : o.guard = none) (ty : TypeId) (x : Operand) (ho : o.op = .load ty x) (b k : Nat) (l : List Value) (d : TypeDesc) (hx : a.eval x = .pointer (some ⟨b, k, none⟩)) (hc : w.rangeAt b k l)
    (hu : Try.prog.underlying ty = some d) (hd : d.isRow = true) (hi : (Try.prog.info? ty).map (·.size) = some l.length)
    (hR : wpList Try.prog ops Q rest (a.put o.dst (.agg l.toArray)) w) : wpList Try.prog ops Q (o :: rest) a w :=
  wpList_load_mid hgd ty x ho b k hx l d hc hu hd hi hR
end
theorem exec_load_any {ρ : Operand → Value} {o : Oper} {W : World} (ty : TypeId) (x : Operand) (ho : o.op = .load ty x) (b k : Nat) (l : List Value) (d : TypeDesc) (hx : ρ x = .pointer (some ⟨b, k, none⟩)) (hc : W.rangeAt b k l)
    (hu : Try.prog.underlying ty = some d) (hd : d.isRow = true) (hi : (Try.prog.info? ty).map (·.size) = some l.length) :
    (execOp ρ o).run Try.prog W = .ok (.value (.agg l.toArray)) W := by
  unfold execOp
  simp only [ho, hx, Instr.loadAt, Instr.sureAddr, Sem.run_bind, Sem.run_pure, Result.andThen_ok, run_loadVar_mid (P := Try.prog) W b k ty l d hc hu hd hi]
/-! Items and nodes. -/
structure Nd where
  p : Pfx
  v : Int
  held : Bool
  k0 : Nat
  k1 : Nat
def itR (p : Pfx) (v : Int) : List Value := p.row ++ [.int .i64 v]
def itV (p : Pfx) (v : Int) : Value := .agg (itR p v).toArray
def Nd.row (d : Nd) : List Value := d.p.row ++ [.int .i64 d.v, .bool d.held, .int .i64 (d.k0 : Int), .int .i64 (d.k1 : Int)]
def Nd.val (d : Nd) : Value := .agg d.row.toArray
def Nd.kid (d : Nd) (b : Bool) : Nat := if b then d.k1 else d.k0
def Nd.setKid (d : Nd) (b : Bool) (k : Nat) : Nd := if b then { d with k1 := k } else { d with k0 := k }
theorem row_len {p : Pfx} (f : p.addr.length = 16) : p.row.length = 18 := by
  unfold Pfx.row
  simp [byteVals_length, f]
theorem it_len {p : Pfx} (f : p.addr.length = 16) (v : Int) : (itR p v).length = 19 := by simp [itR, row_len f]
theorem nd_len {d : Nd} (f : d.p.addr.length = 16) : d.row.length = 22 := by simp [Nd.row, row_len f]
theorem row_one (p : Pfx) : ∀ v ∈ p.row, v.oneCell' = true := by
  intro v hv
  unfold Pfx.row at hv
  simp only [List.mem_cons, List.mem_append] at hv
  rcases hv with rfl | hv | rfl | hv
  · rfl
  · exact byteVals_oneCell _ _ hv
  · rfl
  · cases hv
theorem it_one (p : Pfx) (x : Int) : ∀ v ∈ itR p x, v.oneCell' = true := by
  intro v hv
  rcases List.mem_append.1 hv with hv | hv
  · exact row_one p v hv
  · rcases List.mem_cons.1 hv with rfl | hv
    · rfl
    · cases hv
theorem nd_one (d : Nd) : ∀ v ∈ d.row, v.oneCell' = true := by
  intro v hv
  rcases List.mem_append.1 hv with hv | hv
  · exact row_one d.p v hv
  · simp only [List.mem_cons] at hv
    rcases hv with rfl | rfl | rfl | rfl | hv
    · rfl
    · rfl
    · rfl
    · rfl
    · cases hv
theorem nd_info : (Try.prog.info? 79).map (·.size) = some 22 := by kernel_rfl
theorem it_info : (Try.prog.info? 44).map (·.size) = some 19 := by kernel_rfl
theorem nd_infoC {d : Nd} (f : d.p.addr.length = 16) : (Try.prog.info? 79).map (·.size) = some d.row.length := by rw [nd_len f]; exact nd_info
theorem it_infoC {p : Pfx} (f : p.addr.length = 16) (v : Int) : (Try.prog.info? 44).map (·.size) = some (itR p v).length := by rw [it_len f]; exact it_info
theorem pf_infoC {p : Pfx} (f : p.addr.length = 16) : (Try.prog.info? 32).map (·.size) = some p.row.length := by rw [row_len f]; exact pfx_info
/-- A node's parts, by their places. -/
theorem nd_pre {d : Nd} : (d.row.drop 0).take d.p.row.length = d.p.row := by simp [Nd.row]
theorem nd_it {d : Nd} : (d.row.drop 0).take (itR d.p d.v).length = itR d.p d.v := by
  rw [List.drop_zero]
  unfold Nd.row itR
  rw [List.take_append, List.take_of_length_le (by simp)]
  simp
theorem it_pre {p : Pfx} {v : Int} : ((itR p v).drop 0).take p.row.length = p.row := by simp [itR]
theorem nd_v {d : Nd} (f : d.p.addr.length = 16) : d.row[18]? = some (.int .i64 d.v) := by
  unfold Nd.row
  rw [List.getElem?_append_right (by rw [row_len f]; omega), row_len f]
  rfl
theorem nd_held {d : Nd} (f : d.p.addr.length = 16) : d.row[19]? = some (.bool d.held) := by
  unfold Nd.row
  rw [List.getElem?_append_right (by rw [row_len f]; omega), row_len f]
  rfl
theorem nd_k0 {d : Nd} (f : d.p.addr.length = 16) : d.row[20]? = some (.int .i64 (d.k0 : Int)) := by
  unfold Nd.row
  rw [List.getElem?_append_right (by rw [row_len f]; omega), row_len f]
  rfl
theorem nd_k1 {d : Nd} (f : d.p.addr.length = 16) : d.row[21]? = some (.int .i64 (d.k1 : Int)) := by
  unfold Nd.row
  rw [List.getElem?_append_right (by rw [row_len f]; omega), row_len f]
  rfl
theorem row_plen {p : Pfx} (f : p.addr.length = 16) : p.row[17]? = some (.int .i64 p.len) := by
  unfold Pfx.row
  rw [List.getElem?_cons_succ, List.getElem?_append_right (by rw [byteVals_length, f]; omega), byteVals_length, f]
  rfl
theorem nd_plen {d : Nd} (f : d.p.addr.length = 16) : d.row[17]? = some (.int .i64 d.p.len) := by
  unfold Nd.row
  rw [List.getElem?_append_left (by rw [row_len f]; omega)]
  exact row_plen f
theorem it_v {p : Pfx} {v : Int} (f : p.addr.length = 16) : (itR p v)[18]? = some (.int .i64 v) := by
  unfold itR
  rw [List.getElem?_append_right (by rw [row_len f]; omega), row_len f]
  rfl
theorem nd_kids {d : Nd} (f : d.p.addr.length = 16) : (d.row.drop 20).take 2 = [.int .i64 (d.k0 : Int), .int .i64 (d.k1 : Int)] := by
  unfold Nd.row
  rw [List.drop_append, row_len f, List.drop_of_length_le (by rw [row_len f]; omega)]
  rfl
theorem nd_set_kid {d : Nd} (f : d.p.addr.length = 16) (b : Bool) (k : Nat) : d.row.set (20 + if b then 1 else 0) (.int .i64 (k : Int)) = (d.setKid b k).row := by
  unfold Nd.row
  rw [List.set_append_right _ _ (by rw [row_len f]; omega), row_len f]
  cases b <;> rfl
theorem nd_set_v {d : Nd} (f : d.p.addr.length = 16) (x : Int) : d.row.set 18 (.int .i64 x) = (Nd.row { d with v := x }) := by
  unfold Nd.row
  rw [List.set_append_right _ _ (by rw [row_len f]; omega), row_len f]
  rfl
theorem nd_set_held {d : Nd} (f : d.p.addr.length = 16) (x : Bool) : d.row.set 19 (.bool x) = (Nd.row { d with held := x }) := by
  unfold Nd.row
  rw [List.set_append_right _ _ (by rw [row_len f]; omega), row_len f]
  rfl
/-! What a call may change: the blocks of X, and new ones. -/
structure Upd (w : World) (X : Nat → Prop) (w' : World) (X' : Nat → Prop) : Prop where
  os : w'.os = w.os
  tape : w'.tape = w.tape
  output : w'.output = w.output
  size : w.heap.size ≤ w'.heap.size
  block : ∀ k, k < w.heap.size → ¬ X k → w'.heap[k]? = w.heap[k]?
  sub : ∀ k, X' k → X k ∨ w.heap.size ≤ k
theorem Upd.refl (w : World) (X : Nat → Prop) : Upd w X w X := ⟨rfl, rfl, rfl, Nat.le_refl _, fun _ _ _ => rfl, fun _ h => .inl h⟩
theorem Upd.trans {w w1 w2 : World} {X X1 X2 : Nat → Prop} (h : Upd w X w1 X1) (k : Upd w1 X1 w2 X2) : Upd w X w2 X2 :=
  ⟨k.os.trans h.os, k.tape.trans h.tape, k.output.trans h.output, Nat.le_trans h.size k.size,
   fun i hi hx => (k.block i (Nat.lt_of_lt_of_le hi h.size) (fun h1 => (h.sub i h1).elim hx (fun h2 => absurd hi (by omega)))).trans (h.block i hi hx),
   fun i hi => (k.sub i hi).elim (h.sub i) (fun h1 => .inr (Nat.le_trans h.size h1))⟩
theorem Upd.of_below {w w' : World} (X : Nat → Prop) (h : Below w.heap.size w w') : Upd w X w' X := ⟨h.os, h.tape, h.output, h.size, fun k hk _ => h.block k hk, fun _ h => .inl h⟩
theorem Upd.below {w w' : World} {X X' : Nat → Prop} (h : Upd w X w' X') (B : Nat) (hB : B ≤ w.heap.size) (hX : ∀ k, X k → B ≤ k) : Below B w w' :=
  ⟨h.os, h.tape, h.output, h.size, fun k hk => h.block k (by omega) (fun hx => by have := hX k hx; omega)⟩
theorem Upd.of_grown {w w' : World} {row : Option Nat} {X : Nat → Prop} (h : w.grownBy w' row) (hX : ∀ k, row = some k → X k) : Upd w X w' X :=
  ⟨h.os, h.tape, h.output, h.size, fun k hk hx => h.block k hk (fun e => hx (hX k e.symm)), fun _ h => .inl h⟩
theorem Upd.wide {w w' : World} {X X' X2 : Nat → Prop} (h : Upd w X w' X') (hs : ∀ k, X2 k → X' k ∨ w.heap.size ≤ k) : Upd w X w' X2 :=
  ⟨h.os, h.tape, h.output, h.size, h.block, fun k hk => (hs k hk).elim (h.sub k) .inr⟩
theorem Upd.setCell {w : World} {X : Nat → Prop} (g i : Nat) (v : Value) (hX : X g) : Upd w X (w.setCell ⟨g, i, none⟩ v) X := by
  have hb : Below g w (w.setCell ⟨g, i, none⟩ v) := (Below.refl g w).setCell (p := ⟨g, i, none⟩) (Nat.le_refl _) v
  exact ⟨hb.os, hb.tape, hb.output, hb.size, fun k _ hx => Below.heap_setCell w _ v k (fun e => hx (by subst e; exact hX)), fun _ h => .inl h⟩
theorem Upd.setCells {X : Nat → Prop} (g : Nat) (hX : X g) : ∀ (vs : List Value) (w : World) (i : Nat), Upd w X (w.setCells g i vs) X
  | [], w, _ => Upd.refl w X
  | v :: vs, _, i => (Upd.setCell g i v hX).trans (Upd.setCells g hX vs _ (i + 1))
theorem Bx.upd {w w' : World} {X X' : Nat → Prop} {g : Nat} {t : TypeId} {l : List Value} (h : Bx w g t l) (hu : Upd w X w' X') (hg : ¬ X g) : Bx w' g t l := (hu.block g h.lt hg).trans h
/-! The table. -/
structure Tb where
  six : Bool
  room : Int
  count : Int
  root : Nat
  nds : List Nd
  free : List Nat
def intsN (l : List Nat) : List Value := l.map fun n : Nat => Value.int .i64 (n : Int)
def Tb.head (T : Tb) (vn vf : Value) : List Value := [.bool T.six, .int .i64 T.room, .int .i64 T.count, .int .i64 (T.root : Int), vn, vf]
structure TabG (w : World) (X : Nat → Prop) (g : Nat) (T : Tb) (gn cap : Nat) (vf : Value) : Prop where
  box : Bx w g 60 (T.head (.slice (some ⟨gn, 0, none⟩) T.nds.length cap) vf)
  nds : w.ownsRow 0 79 22 (.slice (some ⟨gn, 0, none⟩) T.nds.length cap) T.nds.length (T.nds.flatMap Nd.row)
  free : w.ownsRow 0 3 1 vf T.free.length (intsN T.free)
  addr : ∀ d ∈ T.nds, d.p.addr.length = 16
  inG : X g
  inN : X gn
  inF : ∀ k, vf.ownBlock = some k → X k
  low : ∀ k, X k → k < w.heap.size
def TabM (w : World) (X : Nat → Prop) (g : Nat) (T : Tb) : Prop := ∃ gn cap vf, TabG w X g T gn cap vf
theorem own_keep {w w' : World} {base : Nat} {e : TypeId} {size : Nat} {v : Value} {n : Nat} {xs : List Value} (h : w.ownsRow base e size v n xs) (hb : ∀ k, v.ownBlock = some k → w'.heap[k]? = w.heap[k]?) : w'.ownsRow base e size v n xs := by
  refine ⟨h.1, ?_⟩
  rcases h.2 with h0 | ⟨g, cap, cur, rfl, h2, hg, h3⟩
  · exact .inl h0
  · exact .inr ⟨g, cap, cur, rfl, h2, (hb g rfl).trans hg, h3⟩
section
variable {w w' : World} {X X' : Nat → Prop} {g gn cap : Nat} {T : Tb} {vf : Value}
theorem TabG.keep (h : TabG w X g T gn cap vf) (hk : ∀ k, X k → w'.heap[k]? = w.heap[k]?) (hs : w.heap.size ≤ w'.heap.size) : TabG w' X g T gn cap vf :=
  ⟨(hk g h.inG).trans h.box, own_keep h.nds (fun k e => by cases e; exact hk gn h.inN), own_keep h.free (fun k e => hk k (h.inF k e)), h.addr, h.inG, h.inN, h.inF, fun k hx => Nat.lt_of_lt_of_le (h.low k hx) hs⟩
theorem TabG.up (h : TabG w X g T gn cap vf) (hb : Below w.heap.size w w') : TabG w' X g T gn cap vf := h.keep (fun k hx => hb.block k (h.low k hx)) hb.size
theorem TabM.up (h : TabM w X g T) (hb : Below w.heap.size w w') : TabM w' X g T := by
  obtain ⟨gn, cap, vf, h⟩ := h
  exact ⟨gn, cap, vf, h.up hb⟩
theorem TabM.al (h : TabM w X g T) (o : Obj) : TabM (w.alloc o) X g T := h.up ((Below.refl _ _).alloc (Nat.le_refl _) _)
theorem TabM.other {Y Y' : Nat → Prop} (h : TabM w X g T) (hu : Upd w Y w' Y') (ha : ∀ k, X k → ¬ Y k) : TabM w' X g T := by
  obtain ⟨gn, cap, vf, h⟩ := h
  exact ⟨gn, cap, vf, h.keep (fun k hx => hu.block k (h.low k hx) (ha k hx)) hu.size⟩
theorem TabM.low (h : TabM w X g T) : ∀ k, X k → k < w.heap.size := by obtain ⟨gn, cap, vf, h⟩ := h; exact h.low
theorem TabM.addr (h : TabM w X g T) : ∀ d ∈ T.nds, d.p.addr.length = 16 := by obtain ⟨gn, cap, vf, h⟩ := h; exact h.addr
theorem TabG.c0 (h : TabG w X g T gn cap vf) : w.cell? ⟨g, 0, none⟩ = some (.bool T.six) := by rw [h.box.cell]; rfl
theorem TabG.c1 (h : TabG w X g T gn cap vf) : w.cell? ⟨g, 1, none⟩ = some (.int .i64 T.room) := by rw [h.box.cell]; rfl
theorem TabG.c2 (h : TabG w X g T gn cap vf) : w.cell? ⟨g, 2, none⟩ = some (.int .i64 T.count) := by rw [h.box.cell]; rfl
theorem TabG.c3 (h : TabG w X g T gn cap vf) : w.cell? ⟨g, 3, none⟩ = some (.int .i64 (T.root : Int)) := by rw [h.box.cell]; rfl
theorem TabG.c4 (h : TabG w X g T gn cap vf) : w.cell? ⟨g, 4, none⟩ = some (.slice (some ⟨gn, 0, none⟩) T.nds.length cap) := by rw [h.box.cell]; rfl
theorem TabG.c5 (h : TabG w X g T gn cap vf) : w.cell? ⟨g, 5, none⟩ = some vf := by rw [h.box.cell]; rfl
theorem TabG.caps (h : TabG w X g T gn cap vf) : T.nds.length ≤ cap ∧ cap ≤ maxLen := by
  rcases h.nds.2 with ⟨h1, _⟩ | ⟨g', cap', cur, h1, _, _, h2, h3, _⟩
  · cases h1
  · cases h1; exact ⟨h2, h3⟩
theorem TabG.range (h : TabG w X g T gn cap vf) (n : Nat) (d : Nd) (hd : T.nds[n]? = some d) : w.rangeAt gn (n * 22) d.row := by
  have h1 : ∀ x ∈ T.nds, (Nd.row x).length = 22 := fun x hx => nd_len (h.addr x hx)
  intro j v hv
  have hn : n < T.nds.length := (List.getElem?_eq_some_iff.1 hd).1
  have hj : j < 22 := by
    have := (List.getElem?_eq_some_iff.1 hv).1
    rw [h1 d (List.mem_of_getElem? hd)] at this
    exact this
  rw [h.nds.cellAt (n * 22 + j) (by omega), flat_get T.nds h1 n j d hd hj]
  exact hv
theorem TabG.there (h : TabG w X g T gn cap vf) (n : Nat) (d : Nd) (hd : T.nds[n]? = some d) (m : Nat) (hm : m ≤ 22) : w.there gn (n * 22) m := by
  intro j hj
  have hl := nd_len (h.addr d (List.mem_of_getElem? hd))
  have := h.range n d hd j (d.row[j]'(by omega)) (List.getElem?_eq_getElem (by omega))
  refine ⟨by rw [this]; rfl, ?_⟩
  rcases h.nds.2 with ⟨h1, _⟩ | ⟨g', cap', cur, h1, _, hg, _⟩
  · cases h1
  · cases h1; exact frozen_of_row w gn _ _ _ hg
theorem TabG.ne (h : TabG w X g T gn cap vf) : g ≠ gn := by
  intro e
  rcases h.nds.2 with ⟨h1, _⟩ | ⟨g', cap', cur, h1, _, hg, _⟩
  · cases h1
  · cases h1
    have := h.box
    unfold Bx at this
    rw [e, hg] at this
    cases this
theorem TabG.neF (h : TabG w X g T gn cap vf) : ∀ k, vf.ownBlock = some k → k ≠ g ∧ k ≠ gn := by
  intro k hk
  rcases h.free.2 with ⟨rfl, _⟩ | ⟨g', cap', cur, rfl, _, hg, _⟩
  · cases hk
  · cases hk
    constructor
    · intro e
      have := h.box
      unfold Bx at this
      rw [← e, hg] at this
      cases this
    · intro e
      rcases h.nds.2 with ⟨h1, _⟩ | ⟨g2, cap2, cur2, h1, _, hg2, _⟩
      · cases h1
      · cases h1
        rw [← e, hg] at hg2
        cases hg2
/-- A field of the table is written. -/
theorem TabG.setCount (h : TabG w X g T gn cap vf) (c : Int) : TabG (w.setCell ⟨g, 2, none⟩ (.int .i64 c)) X g { T with count := c } gn cap vf :=
  ⟨h.box.set 2 _, own_keep h.nds (fun k e => by cases e; exact Below.heap_setCell w _ _ gn (fun e => h.ne e.symm)), own_keep h.free (fun k e => Below.heap_setCell w _ _ k (fun e2 => (h.neF k e).1 e2)), h.addr, h.inG, h.inN, h.inF, fun k hx => by have := h.low k hx; simpa using this⟩
theorem TabG.setRoot (h : TabG w X g T gn cap vf) (r : Nat) : TabG (w.setCell ⟨g, 3, none⟩ (.int .i64 (r : Int))) X g { T with root := r } gn cap vf :=
  ⟨h.box.set 3 _, own_keep h.nds (fun k e => by cases e; exact Below.heap_setCell w _ _ gn (fun e => h.ne e.symm)), own_keep h.free (fun k e => Below.heap_setCell w _ _ k (fun e2 => (h.neF k e).1 e2)), h.addr, h.inG, h.inN, h.inF, fun k hx => by have := h.low k hx; simpa using this⟩
end
end Go.Proofs.Ytecefdocemkliaa
