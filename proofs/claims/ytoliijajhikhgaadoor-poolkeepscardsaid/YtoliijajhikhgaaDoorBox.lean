/- Boxes of several cells, of no program's own types; laws for one operation, in a fence and out of one; what a round of a range over a function keeps; marks of such ranges. (Moved here in round 11 from TabA, TabC, TabD, T9o, Aw9.) -/
import Derived.RangeFuncNested
import Derived.RangeFuncBound
import Derived.RangeFuncCalls
import Derived.RangeFuncLeaves
import Derived.Shelf.Abstract
import Derived.Shelf.RegionOpen
import Derived.WalkKit
import Derived.OwnWalkIn
import Derived.TacticsInMore
import Derived.LoopNIn
import Derived.LoopIn
import Derived.Great.BuildSlice
import Derived.Deep.AppendLies
import Derived.Deep.WholeRow
import Derived.Test.YtoliijajhikhgaaDoorAwake
import Derived.Test.YtoliijajhikhgaaDoorStc
namespace Go.Proofs.YtoliijajhikhgaaDoor
open Go Go.RowKit
def Bx (w : World) (g : Nat) (t : TypeId) (l : List Value) : Prop := w.heap[g]? = some (.cells l.toArray t (0, 0))
theorem Bx.lt {w : World} {g : Nat} {t : TypeId} {l : List Value} (h : Bx w g t l) : g < w.heap.size := (Array.getElem?_eq_some_iff.1 h).1
theorem Bx.up {w w' : World} {g : Nat} {t : TypeId} {l : List Value} (h : Bx w g t l) (hb : Below w.heap.size w w') : Bx w' g t l := (hb.block g h.lt).trans h
theorem Bx.al {w : World} {g : Nat} {t : TypeId} {l : List Value} (h : Bx w g t l) (o : Obj) : Bx (w.alloc o) g t l := h.up ((Below.refl _ _).alloc (Nat.le_refl _) _)
theorem Bx.new (w : World) (t : TypeId) (l : List Value) : Bx (w.alloc (.cells l.toArray t)) w.heap.size t l := heap_alloc_new w _
theorem Bx.cell {w : World} {g : Nat} {t : TypeId} {l : List Value} (h : Bx w g t l) (j : Nat) : w.cell? ⟨g, j, none⟩ = l[j]? := by
  rw [cell_of_row w g j _ _ _ h]
  simp
theorem Bx.frozen {w : World} {g : Nat} {t : TypeId} {l : List Value} (h : Bx w g t l) (i : Nat) : w.frozen? ⟨g, i, none⟩ = false := frozen_of_row w g i _ _ h
theorem Bx.range {w : World} {g : Nat} {t : TypeId} {l : List Value} (h : Bx w g t l) (k : Nat) (m : List Value) (hm : (l.drop k).take m.length = m) : w.rangeAt g k m := by
  intro j v hv
  rw [h.cell]
  have hj : j < m.length := (List.getElem?_eq_some_iff.1 hv).1
  rw [← hm, List.getElem?_take, if_pos hj, List.getElem?_drop] at hv
  exact hv
theorem Bx.set {w : World} {g : Nat} {t : TypeId} {l : List Value} (h : Bx w g t l) (i : Nat) (v : Value) : Bx (w.setCell ⟨g, i, none⟩ v) g t (l.set i v) := by
  unfold Bx
  rw [heap_setCell_same w g i _ _ _ h]
  simp
theorem Bx.setOther {w : World} {g : Nat} {t : TypeId} {l : List Value} (h : Bx w g t l) {k : Nat} (hk : g ≠ k) (i : Nat) (v : Value) : Bx (w.setCell ⟨k, i, none⟩ v) g t l := (Below.heap_setCell w _ v g (fun e => hk e)).trans h
theorem Bx.row {w : World} {g : Nat} {t : TypeId} {l : List Value} (h : Bx w g t l) (m : List Value) : Bx (w.setRow g m.toArray) g t m := setRow_heap _ _ _ _ _ _ h
section
variable {ops : Array Oper} {rest : List Oper} {o : Oper} {a : Act} {w : World} {Q : Exit → Act → World → Prop}
theorem wpList_store_fresh (hgd : o.guard = none) (ty : TypeId) (x y : Operand) (ho : o.op = .store ty x y) (l : List Value) (old : Array Value) (b : Nat) (hx : a.eval x = .pointer (some ⟨b, 0, none⟩)) (hbw : w.heap.size = b) (hy : a.eval y = .agg l.toArray)
    (hi : (Tryd.prog.info? ty).map (·.size) = some l.length) (hold : old.size = l.length) (h1 : ∀ v ∈ l, v.oneCell' = true)
    (hR : wpList Tryd.prog ops Q rest (a.put o.dst undef) (w.alloc (.cells l.toArray ty))) : wpList Tryd.prog ops Q (o :: rest) a (w.alloc (.cells old ty)) := by
  subst hbw
  refine wpList_store_row hgd ty x y ho w.heap.size l.toArray hx hy ty old (heap_alloc_new w _) (by simpa using hi) (by simpa using hold) (all_oneCell_toArray h1) ?_
  rw [World.setRow_alloc_new]
  exact hR
theorem wpList_store_bx (hgd : o.guard = none) (ty : TypeId) (x y : Operand) (ho : o.op = .store ty x y) (g : Nat) (l m : List Value) (hx : a.eval x = .pointer (some ⟨g, 0, none⟩)) (hy : a.eval y = .agg l.toArray)
    (hg : Bx w g ty m) (hi : (Tryd.prog.info? ty).map (·.size) = some l.length) (hold : m.length = l.length) (h1 : ∀ v ∈ l, v.oneCell' = true)
    (hR : wpList Tryd.prog ops Q rest (a.put o.dst undef) (w.setRow g l.toArray)) : wpList Tryd.prog ops Q (o :: rest) a w :=
  wpList_store_row hgd ty x y ho g l.toArray hx hy ty _ hg (by simpa using hi) (by simpa using hold) (all_oneCell_toArray h1) hR
theorem wpList_load_any (hgd : o.guard = none) (ty : TypeId) (x : Operand) (ho : o.op = .load ty x) (b k : Nat) (l : List Value) (d : TypeDesc) (hx : a.eval x = .pointer (some ⟨b, k, none⟩)) (hc : w.rangeAt b k l)
    (hu : Tryd.prog.underlying ty = some d) (hd : d.isRow = true) (hi : (Tryd.prog.info? ty).map (·.size) = some l.length)
    (hR : wpList Tryd.prog ops Q rest (a.put o.dst (.agg l.toArray)) w) : wpList Tryd.prog ops Q (o :: rest) a w :=
  wpList_load_mid hgd ty x ho b k hx l d hc hu hd hi hR
end
theorem exec_load_any {ρ : Operand → Value} {o : Oper} {W : World} (ty : TypeId) (x : Operand) (ho : o.op = .load ty x) (b k : Nat) (l : List Value) (d : TypeDesc) (hx : ρ x = .pointer (some ⟨b, k, none⟩)) (hc : W.rangeAt b k l)
    (hu : Tryd.prog.underlying ty = some d) (hd : d.isRow = true) (hi : (Tryd.prog.info? ty).map (·.size) = some l.length) :
    (execOp ρ o).run Tryd.prog W = .ok (.value (.agg l.toArray)) W := by
  unfold execOp
  simp only [ho, hx, Instr.loadAt, Instr.sureAddr, Sem.run_bind, Sem.run_pure, Result.andThen_ok, run_loadVar_mid (P := Tryd.prog) W b k ty l d hc hu hd hi]
theorem own_keep {w w' : World} {base : Nat} {e : TypeId} {size : Nat} {v : Value} {n : Nat} {xs : List Value} (h : w.ownsRow base e size v n xs) (hb : ∀ k, v.ownBlock = some k → w'.heap[k]? = w.heap[k]?) : w'.ownsRow base e size v n xs := by
  refine ⟨h.1, ?_⟩
  rcases h.2 with h0 | ⟨g, cap, cur, rfl, h2, hg, h3⟩
  · exact .inl h0
  · exact .inr ⟨g, cap, cur, rfl, h2, (hb g rfl).trans hg, h3⟩
/-- Two boxes. -/
def TwoB (w : World) (t u : TypeId) (l m : List Value) (W : World) : Prop := Bx W w.heap.size t l ∧ Bx W (w.heap.size + 1) u m ∧ Below w.heap.size w W
theorem TwoB.up {w : World} {t u : TypeId} {l m : List Value} {W W' : World} (h : TwoB w t u l m W) (hb : Below W.heap.size W W') : TwoB w t u l m W' := ⟨h.1.up hb, h.2.1.up hb, below_up h.2.2 hb h.2.2.size⟩
theorem twoB_new (w : World) (t u : TypeId) (l m : List Value) : TwoB w t u l m ((w.alloc (.cells l.toArray t)).alloc (.cells m.toArray u)) := by
  refine ⟨(Bx.new w t l).al _, ?_, ((Below.refl _ _).alloc (Nat.le_refl _) _).alloc (by simp) _⟩
  have := Bx.new (w.alloc (.cells l.toArray t)) u m
  rw [World.size_alloc] at this
  exact this
theorem rangeAll {w : World} {g : Nat} {t : TypeId} {l : List Value} (h : Bx w g t l) : w.rangeAt g 0 l := h.range 0 l (by simp)
section
variable {ops : Array Oper} {rest : List Oper} {o : Oper} {a : Act} {w w' : World} {Q : Exit → Act → World → Prop}
theorem plV (hw : Region.wanted o (yielded ops a.tmps) = true) (v : Value) (hrun : (execOp a.eval o).run Tryd.prog w = .ok (.value v) w') (h : wpList Tryd.prog ops Q rest (a.put o.dst v) w') : wpList Tryd.prog ops Q (o :: rest) a w :=
  wpList_wanted hw fun K hK => by
    unfold Oper.wp
    rw [hrun]
    exact hK _ _ h
theorem plS (hw : Region.wanted o (yielded ops a.tmps) = true) (hrun : (execOp a.eval o).run Tryd.prog w = .ok .skip w') (h : wpList Tryd.prog ops Q rest (a.put o.dst undef) w') : wpList Tryd.prog ops Q (o :: rest) a w :=
  wpList_wanted hw fun K hK => by
    unfold Oper.wp
    rw [hrun]
    exact hK _ _ h
end
end Go.Proofs.YtoliijajhikhgaaDoor
namespace Go.Proofs.YtoliijajhikhgaaDoor
open Go Go.RowKit Go.Shelf
attribute [local go_sem] Oper.semAt_some
section
variable {F : Fence} {n : Nat} {ops : Array Oper} {rest : List Oper} {o : Oper} {a : Act} {w w' : World} {Q : Exit → Act → World → Prop}
theorem inV (hw : Region.wanted o (yielded ops a.tmps) = true) (hnd : ∀ c, o.op ≠ .defer c) (hab : o.about Tryd.prog w a.eval = none) (v : Value) (hrun : (execOp a.eval o).run Tryd.prog w = .ok (.value v) w')
    (h : wpListIn F n Tryd.prog ops Q rest (a.put o.dst v) w') : wpListIn F n Tryd.prog ops Q (o :: rest) a w :=
  wpListIn_step fun K hK => by
    rw [if_pos hw]
    unfold Oper.wpIn
    refine ⟨fun f hf => (by rw [hab] at hf; cases hf), ?_⟩
    rw [Oper.semAt_plain F _ _ hnd, hrun]
    exact hK _ _ h
theorem inS (hw : Region.wanted o (yielded ops a.tmps) = true) (hnd : ∀ c, o.op ≠ .defer c) (hab : o.about Tryd.prog w a.eval = none) (hrun : (execOp a.eval o).run Tryd.prog w = .ok .skip w')
    (h : wpListIn F n Tryd.prog ops Q rest (a.put o.dst undef) w') : wpListIn F n Tryd.prog ops Q (o :: rest) a w :=
  wpListIn_step fun K hK => by
    rw [if_pos hw]
    unfold Oper.wpIn
    refine ⟨fun f hf => (by rw [hab] at hf; cases hf), ?_⟩
    rw [Oper.semAt_plain F _ _ hnd, hrun]
    exact hK _ _ h
end
theorem exec_store_fresh {ρ : Operand → Value} {o : Oper} {w : World} (ty : TypeId) (x y : Operand) (ho : o.op = .store ty x y) (l : List Value) (old : Array Value) (b : Nat) (hx : ρ x = .pointer (some ⟨b, 0, none⟩)) (hbw : w.heap.size = b) (hy : ρ y = .agg l.toArray)
    (hi : (Tryd.prog.info? ty).map (·.size) = some l.length) (hold : old.size = l.length) (h1 : ∀ v ∈ l, v.oneCell' = true) :
    (execOp ρ o).run Tryd.prog (w.alloc (.cells old ty)) = .ok .skip (w.alloc (.cells l.toArray ty)) := by
  subst hbw
  unfold execOp
  have := run_storeVar_row (P := Tryd.prog) (w.alloc (.cells old ty)) w.heap.size ty ty old l.toArray (heap_alloc_new w _) (by simpa using hi) (by simpa using hold) (all_oneCell_toArray h1)
  simp only [ho, hx, hy, Instr.storeAt, Instr.sureAddr, Sem.run_bind, Sem.run_pure, Result.andThen_ok, this]
  rw [World.setRow_alloc_new]
/-- What a round keeps: all cells but those of O. -/
def KpW (O : Nat → Prop) (W W' : World) : Prop := W.heap.size ≤ W'.heap.size ∧ ∀ k c t z, ¬ O k → W.heap[k]? = some (.cells c t z) → W'.heap[k]? = some (.cells c t z)
theorem KpW.refl (O : Nat → Prop) (W : World) : KpW O W W := ⟨Nat.le_refl _, fun _ _ _ _ _ h => h⟩
theorem KpW.trans {O : Nat → Prop} {A B C : World} (h : KpW O A B) (k : KpW O B C) : KpW O A C := ⟨Nat.le_trans h.1 k.1, fun i c t z ho hi => k.2 i c t z ho (h.2 i c t z ho hi)⟩
theorem KpW.put (O : Nat → Prop) (W : World) (l : Nat) (o o' : Obj) (h : W.heap[l]? = some o) (hc : o.isCells = false) : KpW O W (W.putObj l o') := by
  refine ⟨by simp, fun k c t z _ hk => ?_⟩
  have hne : k ≠ l := fun e => by rw [e, h] at hk; cases hk; cases hc
  exact (World.putObj_heap_other hne).trans hk
theorem KpW.below {O : Nat → Prop} {A B : World} (h : Below A.heap.size A B) : KpW O A B := ⟨h.size, fun k _ _ _ _ hk => (h.block k (Array.getElem?_eq_some_iff.1 hk).1).trans hk⟩
theorem KpW.set {O : Nat → Prop} (W : World) (b i : Nat) (v : Value) (h : O b) : KpW O W (W.setCell ⟨b, i, none⟩ v) := ⟨by simp, fun k _ _ _ ho hk => (Below.heap_setCell W _ v k (fun e => ho (by rw [show k = b from e]; exact h))).trans hk⟩
theorem Bx.kpw {O : Nat → Prop} {W W' : World} {b : Nat} {t : TypeId} {l : List Value} (h : Bx W b t l) (hk : KpW O W W') (ho : ¬ O b) : Bx W' b t l := hk.2 b _ _ _ ho h
theorem own_kpw {O : Nat → Prop} {w w' : World} {base : Nat} {e : TypeId} {size : Nat} {v : Value} {n : Nat} {xs : List Value} (h : w.ownsRow base e size v n xs) (hk : KpW O w w') (ho : ∀ k, v.ownBlock = some k → ¬ O k) : w'.ownsRow base e size v n xs := by
  refine ⟨h.1, ?_⟩
  rcases h.2 with h0 | ⟨g, cap, cur, rfl, h2, hg, h3⟩
  · exact .inl h0
  · exact .inr ⟨g, cap, cur, rfl, h2, hk.2 g _ _ _ (ho g rfl) hg, h3⟩
/-- The same, of all that there is; the world's own parts stay. -/
structure KpO (O : Nat → Prop) (W W' : World) : Prop where
  size : W.heap.size ≤ W'.heap.size
  keep : ∀ k c t z, ¬ O k → W.heap[k]? = some (.cells c t z) → W'.heap[k]? = some (.cells c t z)
  all : ∀ k, ¬ O k → k < W.heap.size → W'.heap[k]? = W.heap[k]?
  os : W'.os = W.os
  tape : W'.tape = W.tape
  output : W'.output = W.output
theorem KpO.of {O : Nat → Prop} {W W' : World} (h1 : W.heap.size ≤ W'.heap.size) (h2 : ∀ k, ¬ O k → k < W.heap.size → W'.heap[k]? = W.heap[k]?) (h3 : W'.os = W.os) (h4 : W'.tape = W.tape) (h5 : W'.output = W.output) : KpO O W W' :=
  ⟨h1, fun k _ _ _ ho hk => (h2 k ho (Array.getElem?_eq_some_iff.1 hk).1).trans hk, h2, h3, h4, h5⟩
theorem KpO.refl (O : Nat → Prop) (W : World) : KpO O W W := .of (Nat.le_refl _) (fun _ _ _ => rfl) rfl rfl rfl
theorem KpO.trans {O : Nat → Prop} {A B C : World} (h : KpO O A B) (k : KpO O B C) : KpO O A C := .of (Nat.le_trans h.size k.size) (fun i ho hi => (k.all i ho (Nat.lt_of_lt_of_le hi h.size)).trans (h.all i ho hi)) (k.os.trans h.os) (k.tape.trans h.tape) (k.output.trans h.output)
theorem KpO.below {O : Nat → Prop} {A B : World} (h : Below A.heap.size A B) : KpO O A B := .of h.size (fun k _ hk => h.block k hk) h.os h.tape h.output
theorem KpO.set {O : Nat → Prop} (W : World) (b i : Nat) (v : Value) (h : O b) : KpO O W (W.setCell ⟨b, i, none⟩ v) :=
  have hb := (Below.refl 0 W).setCell (p := ⟨b, i, none⟩) (Nat.zero_le _) v
  .of hb.size (fun k ho _ => Below.heap_setCell W _ v k (fun e => ho (by rw [show k = b from e]; exact h))) hb.os hb.tape hb.output
theorem KpO.base {O : Nat → Prop} {W W' : World} {B : Nat} (h : KpO O W W') (hO : ∀ k, O k → B ≤ k) (hB : B ≤ W.heap.size) : Below B W W' :=
  ⟨h.os, h.tape, h.output, h.size, fun k hk => h.all k (fun ho => by have := hO k ho; omega) (by omega)⟩
theorem Bx.kp {O : Nat → Prop} {W W' : World} {b : Nat} {t : TypeId} {l : List Value} (h : Bx W b t l) (hk : KpO O W W') (ho : ¬ O b) : Bx W' b t l := hk.2 b _ _ _ ho h
theorem own_kp {O : Nat → Prop} {w w' : World} {base : Nat} {e : TypeId} {size : Nat} {v : Value} {n : Nat} {xs : List Value} (h : w.ownsRow base e size v n xs) (hk : KpO O w w') (ho : ∀ k, v.ownBlock = some k → ¬ O k) : w'.ownsRow base e size v n xs := by
  refine ⟨h.1, ?_⟩
  rcases h.2 with h0 | ⟨g, cap, cur, rfl, h2, hg, h3⟩
  · exact .inl h0
  · exact .inr ⟨g, cap, cur, rfl, h2, hk.2 g _ _ _ (ho g rfl) hg, h3⟩
def intOf9 : Value → Nat
  | .int _ i => i.toNat
  | _ => 0
theorem grown_of_below9 {w w' : World} (h : Below w.heap.size w w') : w.grownBy w' none := ⟨h.os, h.tape, h.output, h.size, fun k hk _ => h.block k hk⟩
def HeldN (_W : World) : Prop := True
theorem bx_from {X Y : World} {row : Option Nat} {B b : Nat} {t : TypeId} {l : List Value} (h : Bx X b t l) (hg : X.grownBy Y row) (hr : ∀ r, row = some r → B ≤ r ∧ ∃ o : Obj, X.heap[r]? = some o ∧ o.isCells = false) : Bx Y b t l := by
  refine (hg.block b h.lt (fun e => ?_)).trans h
  obtain ⟨_, o, ho, hc⟩ := hr b e.symm
  rw [show X.heap[b]? = _ from h] at ho
  cases ho
  cases hc
theorem own_type {w : World} {base : Nat} {e : TypeId} {size : Nat} {v : Value} {n : Nat} {xs : List Value} (h : w.ownsRow base e size v n xs) : ∀ k, v.ownBlock = some k → ∃ cur, w.heap[k]? = some (.cells cur e (0, 0)) := by
  intro k hk
  rcases h.2 with ⟨rfl, _⟩ | ⟨g, cap, cur, rfl, _, hg, _⟩
  · cases hk
  · cases hk; exact ⟨cur, hg⟩
theorem room_wide (k : Nat) : Fence.wide.room k := fun d h => by cases h
theorem YieldAt.deep {m : Nat} (m' : Nat) {l : Nat} {args : Array Value} {W : World} {R : Ending → World → Prop} (h : YieldAt Fence.wide m Tryd.prog l args W R) : YieldAt Fence.wide m' Tryd.prog l args W R := by
  obtain ⟨fn, tmps, assign, body, hy, h1, h2⟩ := h
  exact ⟨fn, tmps, assign, body, hy, h1, fun c cs _ => h2 c cs (room_wide _)⟩
theorem keeps_put {B : Nat} (W : World) (l : Nat) (o : Obj) (hl : l < B) : KeepsFrom B W (W.putObj l o) := ⟨by simp, fun k _ hB hk _ => (World.putObj_heap_other (by omega)).trans hk⟩
theorem keeps_trans {B : Nat} {U V W : World} (h : KeepsFrom B U V) (k : KeepsFrom B V W) : KeepsFrom B U W := ⟨Nat.le_trans h.size k.size, fun i o hB hi hc => k.same i o hB (h.same i o hB hi hc) hc⟩
theorem keeps_less {B B' : Nat} {U V : World} (h : KeepsFrom B U V) (hB : B ≤ B') : KeepsFrom B' U V := ⟨h.size, fun i o hi => h.same i o (Nat.le_trans hB hi)⟩
theorem heap_own {X Y : World} {row : Option Nat} {B k : Nat} (hk : k < B) {o : Obj} (h : X.heap[k]? = some o) (hg : X.grownBy Y row) (hr : ∀ r, row = some r → B ≤ r) : Y.heap[k]? = some o :=
  (hg.block k (Array.getElem?_eq_some_iff.1 h).1 (fun e => by have := hr k e.symm; omega)).trans h
theorem own_from {X Y : World} {row : Option Nat} {B base : Nat} {e : TypeId} {size : Nat} {v : Value} {n : Nat} {xs : List Value} (h : X.ownsRow base e size v n xs) (hg : X.grownBy Y row) (hr : ∀ r, row = some r → B ≤ r ∧ ∃ o : Obj, X.heap[r]? = some o ∧ o.isCells = false) : Y.ownsRow base e size v n xs := by
  refine ⟨h.1, ?_⟩
  rcases h.2 with h0 | ⟨g, cap, cur, rfl, h3, hgg, h4⟩
  · exact .inl h0
  · refine .inr ⟨g, cap, cur, rfl, h3, (hg.block g (Array.getElem?_eq_some_iff.1 hgg).1 (fun e => ?_)).trans hgg, h4⟩
    obtain ⟨_, o, ho, hc⟩ := hr g e.symm
    rw [hgg] at ho
    cases ho
    cases hc
def marks (Ds : List Nat) : List Deferred := Ds.map fun D => { target := .collected D, args := #[] }
theorem leaves_marks {n : Nat} {fn : Func} {tmps : Array Value} {R : Ending → World → Prop} (v : Value) (hv : ∀ W, (results fn tmps).run Tryd.prog W = .ok v W) (B : Nat) (Z : World → Prop) (hR : ∀ W, Z W → R (.returned v) W) (hZ : OwnFrom B (fun (_ : Unit) W => Z W)) :
    ∀ (Ds : List Nat) (W : World), Ds.Nodup → (∀ D ∈ Ds, B ≤ D ∧ W.heap[D]? = some (.deferred (some []))) → Z W → LeavesInM Fence.wide n Tryd.prog fn tmps R (marks Ds) .returning W
  | [], W, _, _, hz => ⟨v, hv W, hR W hz⟩
  | D :: Ds, W, hnd, hD, hz => by
    have h0 := hD D (by simp)
    refine ⟨by simp, .inl ⟨D, _, rfl, run_takeDeferred h0.2, ?_⟩⟩
    refine leaves_marks v hv B Z hR hZ Ds _ (List.nodup_cons.1 hnd).2 (fun E hE => ⟨(hD E (by simp [hE])).1, ?_⟩) (hZ.putObj (s := ()) _ hz h0.1 h0.2 rfl)
    rw [World.putObj_heap_other (fun e => (List.nodup_cons.1 hnd).1 (by rw [← e]; exact hE))]
    exact (hD E (by simp [hE])).2
section
variable {ops : Array Oper} {rest : List Oper} {o : Oper} {a : Act} {w : World} {Q : Exit → Act → World → Prop}
theorem wpList_build1 (hgd : o.guard = none) (t : TypeId) (i0 : Nat) (x0 : Operand) (ho : o.op = .build t #[(i0, x0)]) (v0 : Value) (l : List Value) (h0 : a.eval x0 = v0) (hb : Tryd.prog.built t [(i0, v0)] = some l.toArray)
    (hR : wpList Tryd.prog ops Q rest (a.put o.dst (.agg l.toArray)) w) : wpList Tryd.prog ops Q (o :: rest) a w :=
  wpList_plain hgd fun K hK => by
    unfold Oper.wp execOp
    have hb := run_build (P := Tryd.prog) w t #[(i0, a.eval x0)] l.toArray (by rw [h0]; exact hb)
    simp only [ho, List.map_toArray, List.map_cons, List.map_nil, Sem.run_bind, hb, Result.andThen_ok]
    exact hK _ _ hR
theorem wpList_build2 (hgd : o.guard = none) (t : TypeId) (i0 i1 : Nat) (x0 x1 : Operand) (ho : o.op = .build t #[(i0, x0), (i1, x1)]) (v0 v1 : Value) (l : List Value) (h0 : a.eval x0 = v0) (h1 : a.eval x1 = v1) (hb : Tryd.prog.built t [(i0, v0), (i1, v1)] = some l.toArray)
    (hR : wpList Tryd.prog ops Q rest (a.put o.dst (.agg l.toArray)) w) : wpList Tryd.prog ops Q (o :: rest) a w :=
  wpList_plain hgd fun K hK => by
    unfold Oper.wp execOp
    have hb := run_build (P := Tryd.prog) w t #[(i0, a.eval x0), (i1, a.eval x1)] l.toArray (by rw [h0, h1]; exact hb)
    simp only [ho, List.map_toArray, List.map_cons, List.map_nil, Sem.run_bind, hb, Result.andThen_ok]
    exact hK _ _ hR
theorem wpList_build0 (hgd : o.guard = none) (t : TypeId) (ho : o.op = .build t #[]) (l : List Value) (hb : Tryd.prog.built t [] = some l.toArray)
    (hR : wpList Tryd.prog ops Q rest (a.put o.dst (.agg l.toArray)) w) : wpList Tryd.prog ops Q (o :: rest) a w :=
  wpList_plain hgd fun K hK => by
    unfold Oper.wp execOp
    have hb := run_build (P := Tryd.prog) w t #[] l.toArray hb
    simp only [ho, List.map_toArray, List.map_nil, Sem.run_bind, hb, Result.andThen_ok]
    exact hK _ _ hR
end
theorem exec_build3 {ρ : Operand → Value} {o : Oper} {W : World} (t : TypeId) (i0 i1 i2 : Nat) (x0 x1 x2 : Operand) (ho : o.op = .build t #[(i0, x0), (i1, x1), (i2, x2)]) (v0 v1 v2 : Value) (l : List Value) (h0 : ρ x0 = v0) (h1 : ρ x1 = v1) (h2 : ρ x2 = v2) (hb : Tryd.prog.built t [(i0, v0), (i1, v1), (i2, v2)] = some l.toArray) :
    (execOp ρ o).run Tryd.prog W = .ok (.value (.agg l.toArray)) W := by
  unfold execOp
  have hb := run_build (P := Tryd.prog) W t #[(i0, ρ x0), (i1, ρ x1), (i2, ρ x2)] l.toArray (by rw [h0, h1, h2]; exact hb)
  simp only [ho, List.map_toArray, List.map_cons, List.map_nil, Sem.run_bind, hb, Result.andThen_ok, Sem.run_pure]
theorem exec_build2 {ρ : Operand → Value} {o : Oper} {W : World} (t : TypeId) (i0 i1 : Nat) (x0 x1 : Operand) (ho : o.op = .build t #[(i0, x0), (i1, x1)]) (v0 v1 : Value) (l : List Value) (h0 : ρ x0 = v0) (h1 : ρ x1 = v1) (hb : Tryd.prog.built t [(i0, v0), (i1, v1)] = some l.toArray) :
    (execOp ρ o).run Tryd.prog W = .ok (.value (.agg l.toArray)) W := by
  unfold execOp
  have hb := run_build (P := Tryd.prog) W t #[(i0, ρ x0), (i1, ρ x1)] l.toArray (by rw [h0, h1]; exact hb)
  simp only [ho, List.map_toArray, List.map_cons, List.map_nil, Sem.run_bind, hb, Result.andThen_ok, Sem.run_pure]
/-- One thing as a slice of one. -/
theorem fold_set : ∀ (l : List Value) (k : Nat) (z : List Value), k + l.length ≤ z.length → (l.zipIdx k).foldl (fun (cs : Array Value) (x : Value × Nat) => cs.setIfInBounds (0 + x.2) x.1) z.toArray = (z.take k ++ l ++ z.drop (k + l.length)).toArray
  | [], k, z, _ => by simp
  | x :: l, k, z, h => by
    have hk : k < z.length := by simp at h; omega
    rw [List.zipIdx_cons, List.foldl_cons]
    have ih := fold_set l (k + 1) (z.set k x) (by simp at h ⊢; omega)
    simp only [Nat.zero_add, List.setIfInBounds_toArray] at ih ⊢
    rw [ih, List.drop_set_of_lt (by omega), List.take_set, List.take_succ_eq_append_getElem hk, List.set_append_right _ _ (by simp; omega)]
    simp [Nat.min_eq_left (Nat.le_of_lt hk), Nat.add_assoc, Nat.add_comm 1]
theorem fill_one (c : Nat) (l : List Value) (hl : l.length = c) (z : Array Value) (hz : z.size = c) : Instr.fill (fun i => some (i * c, c)) z [(0, .agg l.toArray)] = some l.toArray := by
  obtain ⟨z⟩ := z
  unfold Instr.fill
  have h := fold_set l 0 z (by simp at hz; omega)
  simp only [Nat.zero_mul, Value.cells]
  rw [if_neg (by simp at hz ⊢; omega)]
  unfold Instr.fill
  congr 1
  have e : l.toArray.zipIdx = l.zipIdx.toArray := by
    apply Array.ext'
    simp
  rw [e, List.foldl_toArray]
  refine Eq.trans h ?_
  simp at hz
  simp [hz, hl]
section
variable {P : Program} {op : Op} {ty : TypeId} {pos : String} {af : Array Edge} {gd : Option (Nat × Bool)} {tmps : Array Value} {df : List Deferred} {o : Oper} {a : Act} {w w' : World} {K : Act → World → Prop} {Q : Exit → Act → World → Prop}
theorem wp_of_value {d : Nat} {v : Value} (hrun : (execOp (Act.eval ⟨tmps, df⟩) ⟨some d, op, ty, pos, af, gd⟩).run P w = .ok (.value v) w') (h : K ⟨tmps.setIfInBounds d v, df⟩ w') : Oper.wp P ⟨some d, op, ty, pos, af, gd⟩ ⟨tmps, df⟩ w K Q := by
  unfold Oper.wp
  rw [hrun]
  exact h
theorem wp_of_skip (hrun : (execOp a.eval o).run P w = .ok .skip w') (h : K (a.put o.dst undef) w') : Oper.wp P o a w K Q := by
  unfold Oper.wp
  rw [hrun]
  exact h
end
theorem below_row {B : Nat} {w W : World} (h : Below B w W) {g : Nat} (hg : B ≤ g) (cs : Array Value) : Below B w (W.setRow g cs) :=
  ⟨h.os, h.tape, h.output, by simpa using h.size, fun k hk => (setRow_other W g k cs (by omega)).trans (h.block k hk)⟩
theorem Bx.rowOther {w : World} {g : Nat} {t : TypeId} {l : List Value} (h : Bx w g t l) {k : Nat} (hk : g ≠ k) (cs : Array Value) : Bx (w.setRow k cs) g t l := (setRow_other w k g cs hk).trans h
end Go.Proofs.YtoliijajhikhgaaDoor
