/- Items and nodes are built; a table's nodes are written, taken and given back: take and give of package lpm. -/
import Derived.Test.YtecefdocemkliaaT9b
import Derived.Great.BuildSlice
import Derived.Deep.AppendLies
namespace Go.Proofs.Ytecefdocemkliaa
open Go Go.RowKit

section
variable {ops : Array Oper} {rest : List Oper} {o : Oper} {a : Act} {w : World} {Q : Exit → Act → World → Prop}
theorem wpList_build1 (hgd : o.guard = none) (t : TypeId) (i0 : Nat) (x0 : Operand) (ho : o.op = .build t #[(i0, x0)]) (v0 : Value) (l : List Value) (h0 : a.eval x0 = v0) (hb : Try.prog.built t [(i0, v0)] = some l.toArray)
    (hR : wpList Try.prog ops Q rest (a.put o.dst (.agg l.toArray)) w) : wpList Try.prog ops Q (o :: rest) a w :=
  wpList_plain hgd fun K hK => by
    unfold Oper.wp execOp
    have hb := run_build (P := Try.prog) w t #[(i0, a.eval x0)] l.toArray (by rw [h0]; exact hb)
    simp only [ho, List.map_toArray, List.map_cons, List.map_nil, Sem.run_bind, hb, Result.andThen_ok]
    exact hK _ _ hR
theorem wpList_build2 (hgd : o.guard = none) (t : TypeId) (i0 i1 : Nat) (x0 x1 : Operand) (ho : o.op = .build t #[(i0, x0), (i1, x1)]) (v0 v1 : Value) (l : List Value) (h0 : a.eval x0 = v0) (h1 : a.eval x1 = v1) (hb : Try.prog.built t [(i0, v0), (i1, v1)] = some l.toArray)
    (hR : wpList Try.prog ops Q rest (a.put o.dst (.agg l.toArray)) w) : wpList Try.prog ops Q (o :: rest) a w :=
  wpList_plain hgd fun K hK => by
    unfold Oper.wp execOp
    have hb := run_build (P := Try.prog) w t #[(i0, a.eval x0), (i1, a.eval x1)] l.toArray (by rw [h0, h1]; exact hb)
    simp only [ho, List.map_toArray, List.map_cons, List.map_nil, Sem.run_bind, hb, Result.andThen_ok]
    exact hK _ _ hR
theorem wpList_build0 (hgd : o.guard = none) (t : TypeId) (ho : o.op = .build t #[]) (l : List Value) (hb : Try.prog.built t [] = some l.toArray)
    (hR : wpList Try.prog ops Q rest (a.put o.dst (.agg l.toArray)) w) : wpList Try.prog ops Q (o :: rest) a w :=
  wpList_plain hgd fun K hK => by
    unfold Oper.wp execOp
    have hb := run_build (P := Try.prog) w t #[] l.toArray hb
    simp only [ho, List.map_toArray, List.map_nil, Sem.run_bind, hb, Result.andThen_ok]
    exact hK _ _ hR
end
theorem exec_build3 {ρ : Operand → Value} {o : Oper} {W : World} (t : TypeId) (i0 i1 i2 : Nat) (x0 x1 x2 : Operand) (ho : o.op = .build t #[(i0, x0), (i1, x1), (i2, x2)]) (v0 v1 v2 : Value) (l : List Value) (h0 : ρ x0 = v0) (h1 : ρ x1 = v1) (h2 : ρ x2 = v2) (hb : Try.prog.built t [(i0, v0), (i1, v1), (i2, v2)] = some l.toArray) :
    (execOp ρ o).run Try.prog W = .ok (.value (.agg l.toArray)) W := by
  unfold execOp
  have hb := run_build (P := Try.prog) W t #[(i0, ρ x0), (i1, ρ x1), (i2, ρ x2)] l.toArray (by rw [h0, h1, h2]; exact hb)
  simp only [ho, List.map_toArray, List.map_cons, List.map_nil, Sem.run_bind, hb, Result.andThen_ok, Sem.run_pure]
theorem exec_build2 {ρ : Operand → Value} {o : Oper} {W : World} (t : TypeId) (i0 i1 : Nat) (x0 x1 : Operand) (ho : o.op = .build t #[(i0, x0), (i1, x1)]) (v0 v1 : Value) (l : List Value) (h0 : ρ x0 = v0) (h1 : ρ x1 = v1) (hb : Try.prog.built t [(i0, v0), (i1, v1)] = some l.toArray) :
    (execOp ρ o).run Try.prog W = .ok (.value (.agg l.toArray)) W := by
  unfold execOp
  have hb := run_build (P := Try.prog) W t #[(i0, ρ x0), (i1, ρ x1)] l.toArray (by rw [h0, h1]; exact hb)
  simp only [ho, List.map_toArray, List.map_cons, List.map_nil, Sem.run_bind, hb, Result.andThen_ok, Sem.run_pure]
def nd0 : Nd := ⟨⟨false, List.replicate 16 0, 0⟩, 0, false, 0, 0⟩
theorem built_it2 (p : Pfx) (f : p.addr.length = 16) (v : Int) : Try.prog.built 44 [(0, p.val), (1, .int .i64 v)] = some (itR p v).toArray := by
  obtain ⟨s, l, n⟩ := p
  obtain ⟨x0, x1, x2, x3, x4, x5, x6, x7, x8, x9, x10, x11, x12, x13, x14, x15, rfl⟩ := list16P f
  clear f
  kernel_rfl
theorem built_it1 (p : Pfx) (f : p.addr.length = 16) : Try.prog.built 44 [(0, p.val)] = some (itR p 0).toArray := by
  obtain ⟨s, l, n⟩ := p
  obtain ⟨x0, x1, x2, x3, x4, x5, x6, x7, x8, x9, x10, x11, x12, x13, x14, x15, rfl⟩ := list16P f
  clear f
  kernel_rfl
theorem built_it0 : Try.prog.built 44 [] = some (itR ⟨false, List.replicate 16 0, 0⟩ 0).toArray := by kernel_rfl
theorem built_nd0 : Try.prog.built 79 [] = some nd0.row.toArray := by kernel_rfl
theorem built_nd1 (p : Pfx) (f : p.addr.length = 16) (v : Int) : Try.prog.built 79 [(0, itV p v)] = some (Nd.row ⟨p, v, false, 0, 0⟩).toArray := by
  obtain ⟨s, l, n⟩ := p
  obtain ⟨x0, x1, x2, x3, x4, x5, x6, x7, x8, x9, x10, x11, x12, x13, x14, x15, rfl⟩ := list16P f
  clear f
  kernel_rfl
theorem built_nd2 (p : Pfx) (f : p.addr.length = 16) (v : Int) : Try.prog.built 79 [(0, itV p v), (1, .bool true)] = some (Nd.row ⟨p, v, true, 0, 0⟩).toArray := by
  obtain ⟨s, l, n⟩ := p
  obtain ⟨x0, x1, x2, x3, x4, x5, x6, x7, x8, x9, x10, x11, x12, x13, x14, x15, rfl⟩ := list16P f
  clear f
  kernel_rfl
theorem built_nd3 (p : Pfx) (f : p.addr.length = 16) (v : Int) (a b : Nat) : Try.prog.built 79 [(0, itV p v), (1, .bool true), (2, .agg #[.int .i64 (a : Int), .int .i64 (b : Int)])] = some (Nd.row ⟨p, v, true, a, b⟩).toArray := by
  obtain ⟨s, l, n⟩ := p
  obtain ⟨x0, x1, x2, x3, x4, x5, x6, x7, x8, x9, x10, x11, x12, x13, x14, x15, rfl⟩ := list16P f
  clear f
  kernel_rfl
/-- One thing as a slice of one. -/
theorem fold_set : ∀ (l : List Value) (k : Nat) (z : List Value), k + l.length ≤ z.length → (l.zipIdx k).foldl (fun (cs : Array Value) (x : Value × Nat) => cs.setIfInBounds (0 + x.2) x.1) z.toArray = (z.take k ++ l ++ z.drop (k + l.length)).toArray
  | [], k, z, _ => by simp
  | x :: l, k, z, h => by
    have hk : k < z.length := by simp at h; omega
    rw [List.zipIdx_cons, List.foldl_cons]
    have ih := fold_set l (k + 1) (z.set k x) (by simp at h ⊢; omega)
    simp only [Nat.zero_add, List.setIfInBounds_toArray] at ih ⊢
    rw [ih, List.drop_set_of_lt (by omega), List.take_set, List.take_succ_eq_append_getElem hk, List.set_append_right _ _ (by simp; omega)]
    simp [Nat.min_eq_left (Nat.le_of_lt hk), Nat.add_assoc, Nat.add_comm 1]
theorem fill_one (c : Nat) (l : List Value) (hl : l.length = c) (z : Array Value) (hz : z.size = c) : Instr.fill (fun i => some (i * c, c)) z [(0, .agg l.toArray)] = some l.toArray := by
  obtain ⟨z⟩ := z
  unfold Instr.fill
  have h := fold_set l 0 z (by simp at hz; omega)
  simp only [Nat.zero_mul, Value.cells]
  rw [if_neg (by simp at hz ⊢; omega)]
  unfold Instr.fill
  congr 1
  have e : l.toArray.zipIdx = l.zipIdx.toArray := by
    apply Array.ext'
    simp
  rw [e, List.foldl_toArray]
  refine Eq.trans h ?_
  simp at hz
  simp [hz, hl]
theorem fill_nd (d : Nd) (f : d.p.addr.length = 16) (z : Array Value) (hz : z.size = 22) : Instr.fill (fun i => some (i * 22, 22)) z [(0, d.val)] = some d.row.toArray := fill_one 22 d.row (nd_len f) z hz
theorem fill_it (p : Pfx) (v : Int) (f : p.addr.length = 16) (z : Array Value) (hz : z.size = 19) : Instr.fill (fun i => some (i * 19, 19)) z [(0, itV p v)] = some (itR p v).toArray := fill_one 19 (itR p v) (it_len f v) z hz
theorem nd_infoF : (Try.prog.info? 79).map (fun i => (i.zero, i.size, i.bytes)) = some (some nd0.val, 22, 64) := by kernel_rfl
theorem it_infoF : (Try.prog.info? 44).map (fun i => (i.zero, i.size, i.bytes)) = some (some (itV ⟨false, List.replicate 16 0, 0⟩ 0), 19, 40) := by kernel_rfl
theorem wp_one_nd {o : Oper} {a : Act} {w : World} {K : Act → World → Prop} {Q : Exit → Act → World → Prop} (x : Operand) (ho : o.op = .buildSlice 57 1 #[(0, x)]) (d : Nd) (f : d.p.addr.length = 16) (hx : a.eval x = d.val)
    (h : K (a.put o.dst (.slice (some ⟨w.heap.size, 0, none⟩) 1 1)) (w.alloc (.cells d.row.toArray 79))) : o.wp Try.prog a w K Q := by
  obtain ⟨i, hi, hz, hs, _⟩ := info_parts nd_infoF
  refine wp_buildSlice 57 79 1 #[(0, x)] ho d.row.toArray i nd0.val Try.underlying57 hi hz (by rw [hs]; decide) (by rw [hs]; decide) ?_ h
  simp only [List.map_toArray, List.map_cons, List.map_nil, hx, hs]
  exact fill_nd d f _ (by simp)
theorem wpList_one_it {ops : Array Oper} {rest : List Oper} {o : Oper} {a : Act} {w : World} {Q : Exit → Act → World → Prop} (hg : o.guard = none) (x : Operand) (ho : o.op = .buildSlice 55 1 #[(0, x)]) (p : Pfx) (v : Int) (f : p.addr.length = 16) (hx : a.eval x = itV p v)
    (h : wpList Try.prog ops Q rest (a.put o.dst (.slice (some ⟨w.heap.size, 0, none⟩) 1 1)) (w.alloc (.cells (itR p v).toArray 44))) : wpList Try.prog ops Q (o :: rest) a w := by
  obtain ⟨i, hi, hz, hs, _⟩ := info_parts it_infoF
  refine wpList_buildSlice hg 55 44 1 #[(0, x)] ho (itR p v).toArray i (itV ⟨false, List.replicate 16 0, 0⟩ 0) Try.underlying55 hi hz (by rw [hs]; decide) (by rw [hs]; decide) ?_ h
  simp only [List.map_toArray, List.map_cons, List.map_nil, hx, hs]
  exact fill_it p v f _ (by simp)
/-! The table's rows are written. -/
theorem own_setCells {base : Nat} {e : TypeId} {size : Nat} {g n cap : Nat} : ∀ (vs : List Value) (w : World) (xs : List Value) (j : Nat), w.ownsRow base e size (.slice (some ⟨g, 0, none⟩) n cap) n xs → j + vs.length ≤ xs.length →
    (w.setCells g j vs).ownsRow base e size (.slice (some ⟨g, 0, none⟩) n cap) n (xs.take j ++ vs ++ xs.drop (j + vs.length))
  | [], w, xs, j, h, _ => by simpa [World.setCells] using h
  | v :: vs, w, xs, j, h, hj => by
    have hj2 : j < xs.length := by simp at hj; omega
    have := own_setCells vs (w.setCell ⟨g, j, none⟩ v) (xs.set j v) (j + 1) (h.stored j v).1 (by simp at hj ⊢; omega)
    rw [World.setCells]
    have e : (xs.set j v).take (j + 1) ++ vs ++ (xs.set j v).drop (j + 1 + vs.length) = xs.take j ++ (v :: vs) ++ xs.drop (j + (v :: vs).length) := by
      rw [List.drop_set_of_lt (by omega), List.take_set, List.take_succ_eq_append_getElem hj2, List.set_append_right _ _ (by simp; omega)]
      simp [Nat.min_eq_left (Nat.le_of_lt hj2), Nat.add_assoc, Nat.add_comm 1]
    rw [e] at this
    exact this
section
variable {w w' : World} {X X' : Nat → Prop} {g gn cap : Nat} {T : Tb} {vf : Value}
theorem TabG.setNode (h : TabG w X g T gn cap vf) (n : Nat) (hn : n < T.nds.length) (d : Nd) (f : d.p.addr.length = 16) :
    TabG (w.setCells gn (n * 22) d.row) X g { T with nds := T.nds.set n d } gn cap vf := by
  have h1 : ∀ x ∈ T.nds, (Nd.row x).length = 22 := fun x hx => nd_len (h.addr x hx)
  have hu : Upd w (fun k => k = gn) (w.setCells gn (n * 22) d.row) (fun k => k = gn) := Upd.setCells (X := fun k => k = gn) gn rfl d.row w (n * 22)
  refine ⟨?_, ?_, own_keep h.free (fun k e => ?_), ?_, h.inG, h.inN, h.inF, fun k hx => Nat.lt_of_lt_of_le (h.low k hx) hu.size⟩
  · have := (hu.block g h.box.lt h.ne).trans h.box
    simpa [Tb.head, Bx] using this
  · have := own_setCells d.row w (T.nds.flatMap Nd.row) (n * 22) h.nds (by rw [cflat_length T.nds h1, nd_len f]; omega)
    rw [nd_len f, flat_put T.nds h1 n hn d] at this
    simpa using this
  · refine hu.block k (h.low k (h.inF k e)) (h.neF k e).2
  · intro x hx
    rcases List.mem_or_eq_of_mem_set hx with hx | rfl
    · exact h.addr x hx
    · exact f
theorem TabG.setKid (h : TabG w X g T gn cap vf) (n : Nat) (d : Nd) (hd : T.nds[n]? = some d) (b : Bool) (k : Nat) :
    TabG (w.setCell ⟨gn, n * 22 + (20 + if b then 1 else 0), none⟩ (.int .i64 (k : Int))) X g { T with nds := T.nds.set n (d.setKid b k) } gn cap vf := by
  have h1 : ∀ x ∈ T.nds, (Nd.row x).length = 22 := fun x hx => nd_len (h.addr x hx)
  have f := h.addr d (List.mem_of_getElem? hd)
  have hu : Upd w (fun k => k = gn) (w.setCell ⟨gn, n * 22 + (20 + if b then 1 else 0), none⟩ (.int .i64 (k : Int))) (fun k => k = gn) := Upd.setCell (X := fun k => k = gn) gn _ _ rfl
  refine ⟨?_, ?_, own_keep h.free (fun k e => ?_), ?_, h.inG, h.inN, h.inF, fun k hx => Nat.lt_of_lt_of_le (h.low k hx) hu.size⟩
  · have := (hu.block g h.box.lt h.ne).trans h.box
    simpa [Tb.head, Bx] using this
  · have := (h.nds.stored (n * 22 + (20 + if b then 1 else 0)) (.int .i64 (k : Int))).1
    rw [flat_set T.nds h1 n (20 + if b then 1 else 0) d (d.setKid b k) _ hd (by cases b <;> simp) (nd_set_kid f b k).symm] at this
    simpa using this
  · refine hu.block k (h.low k (h.inF k e)) (h.neF k e).2
  · intro x hx
    rcases List.mem_or_eq_of_mem_set hx with hx | rfl
    · exact h.addr x hx
    · cases b <;> exact f
/-- A node more: what append answered is stored. -/
theorem TabG.more (h : TabG w X g T gn cap vf) (d : Nd) (f : d.p.addr.length = 16) {gn' cap' : Nat} {w1 : World} (hown : w1.ownsRow 0 79 22 (.slice (some ⟨gn', 0, none⟩) (T.nds.length + 1) cap') (T.nds.length + 1) (T.nds.flatMap Nd.row ++ d.row))
    (hgr : w.grownBy w1 (some gn)) (hat : some gn = some gn' ∨ gn' = w.heap.size) (hlt : gn' < w1.heap.size) :
    TabG (w1.setCell ⟨g, 4, none⟩ (.slice (some ⟨gn', 0, none⟩) (T.nds.length + 1) cap')) (fun k => X k ∨ k = gn') g { T with nds := T.nds ++ [d] } gn' cap' vf ∧ Upd w X (w1.setCell ⟨g, 4, none⟩ (.slice (some ⟨gn', 0, none⟩) (T.nds.length + 1) cap')) (fun k => X k ∨ k = gn') := by
  have hg1 : Bx w1 g 60 (T.head (.slice (some ⟨gn, 0, none⟩) T.nds.length cap) vf) := (hgr.block g h.box.lt (fun e => h.ne (by cases e; rfl))).trans h.box
  have hne : g ≠ gn' := by
    rcases hat with e | e
    · cases e; exact h.ne
    · have := h.box.lt; omega
  have hF : ∀ k, vf.ownBlock = some k → k < w.heap.size := fun k e => h.low k (h.inF k e)
  have hu1 : Upd w X w1 (fun k => X k ∨ k = gn') := (Upd.of_grown hgr (fun k e => by cases e; exact h.inN)).wide (fun k hk => by
    rcases hk with hk | rfl
    · exact .inl hk
    · rcases hat with e | e
      · cases e; exact .inl h.inN
      · exact .inr (by omega))
  refine ⟨⟨?_, ?_, ?_, ?_, .inl h.inG, .inr rfl, fun k e => .inl (h.inF k e), ?_⟩, hu1.trans (Upd.setCell g 4 _ (.inl h.inG))⟩
  · have := hg1.set 4 (.slice (some ⟨gn', 0, none⟩) (T.nds.length + 1) cap')
    simpa [Tb.head] using this
  · have := own_keep (w' := w1.setCell ⟨g, 4, none⟩ (.slice (some ⟨gn', 0, none⟩) (T.nds.length + 1) cap')) hown (fun k e => by cases e; exact Below.heap_setCell w1 _ _ gn' (fun e => hne e.symm))
    simpa [List.flatMap_append] using this
  · refine own_keep h.free (fun k e => ?_)
    rw [Below.heap_setCell w1 _ _ k (fun e2 => (h.neF k e).1 e2)]
    exact hgr.block k (hF k e) (fun e2 => (h.neF k e).2 (by cases e2; rfl))
  · intro x hx
    rcases List.mem_append.1 hx with hx | hx
    · exact h.addr x hx
    · rw [List.mem_singleton.1 hx]; exact f
  · intro k hk
    show k < (w1.setCell _ _).heap.size
    rw [World.size_setCell]
    rcases hk with hk | rfl
    · exact Nat.lt_of_lt_of_le (h.low k hk) hgr.size
    · exact hlt
/-- One of the free ones is taken out. -/
theorem TabG.pop {gf cf : Nat} {fr : List Nat} {n : Nat} (h : TabG w X g T gn cap (.slice (some ⟨gf, 0, none⟩) (fr.length + 1) cf)) (hf : T.free = fr ++ [n]) :
    TabG (w.setCell ⟨g, 5, none⟩ (.slice (some ⟨gf, 0, none⟩) fr.length cf)) X g { T with free := fr } gn cap (.slice (some ⟨gf, 0, none⟩) fr.length cf) := by
  refine ⟨?_, own_keep h.nds (fun k e => by cases e; exact Below.heap_setCell w _ _ gn (fun e => h.ne e.symm)), ?_, h.addr, h.inG, h.inN, fun k e => by cases e; exact h.inF gf rfl, fun k hx => by have := h.low k hx; simpa using this⟩
  · have := h.box.set 5 (.slice (some ⟨gf, 0, none⟩) fr.length cf)
    simpa [Tb.head] using this
  · have hfr := h.free
    rw [hf, List.length_append, List.length_singleton] at hfr
    have hne := (h.neF gf rfl).1
    rcases hfr.2 with ⟨h1, _⟩ | ⟨g', cap', cur, h1, h2, hg, h3, h4, h5, h6⟩
    · cases h1
    · cases h1
      refine ⟨by simp [intsN], .inr ⟨gf, cf, cur, rfl, h2, (Below.heap_setCell w _ _ gf (fun e => hne e)).trans hg, (show fr.length ≤ cf by omega), h4, h5, ?_⟩⟩
      have := congrArg (List.take (fr.length * 1)) h6
      rw [List.take_take] at this
      simp only [intsN, List.map_append] at this
      rw [Nat.min_eq_left (by omega)] at this
      rw [this, List.take_append_of_le_length (by simp), List.take_of_length_le (by simp)]
      rfl
/-- One more is free. -/
theorem TabG.push (h : TabG w X g T gn cap vf) (n : Nat) {gf' cap' : Nat} {w1 : World} (hown : w1.ownsRow 0 3 1 (.slice (some ⟨gf', 0, none⟩) (T.free.length + 1) cap') (T.free.length + 1) (intsN T.free ++ [.int .i64 (n : Int)]))
    (hgr : w.grownBy w1 vf.ownBlock) (hat : vf.ownBlock = some gf' ∨ gf' = w.heap.size) (hlt : gf' < w1.heap.size) :
    TabG (w1.setCell ⟨g, 5, none⟩ (.slice (some ⟨gf', 0, none⟩) (T.free.length + 1) cap')) (fun k => X k ∨ k = gf') g { T with free := T.free ++ [n] } gn cap (.slice (some ⟨gf', 0, none⟩) (T.free.length + 1) cap') ∧ Upd w X (w1.setCell ⟨g, 5, none⟩ (.slice (some ⟨gf', 0, none⟩) (T.free.length + 1) cap')) (fun k => X k ∨ k = gf') := by
  have hg1 : Bx w1 g 60 (T.head (.slice (some ⟨gn, 0, none⟩) T.nds.length cap) vf) := (hgr.block g h.box.lt (fun e => (h.neF g e.symm).1 rfl)).trans h.box
  have hne : g ≠ gf' := by
    rcases hat with e | e
    · exact fun e2 => (h.neF gf' e).1 e2.symm
    · have := h.box.lt; omega
  have hu1 : Upd w X w1 (fun k => X k ∨ k = gf') := (Upd.of_grown hgr (fun k e => h.inF k e)).wide (fun k hk => by
    rcases hk with hk | rfl
    · exact .inl hk
    · rcases hat with e | e
      · exact .inl (h.inF _ e)
      · exact .inr (by omega))
  refine ⟨⟨?_, ?_, ?_, h.addr, .inl h.inG, .inl h.inN, fun k e => by cases e; exact .inr rfl, ?_⟩, hu1.trans (Upd.setCell g 5 _ (.inl h.inG))⟩
  · have := hg1.set 5 (.slice (some ⟨gf', 0, none⟩) (T.free.length + 1) cap')
    simpa [Tb.head] using this
  · refine own_keep h.nds (fun k e => ?_)
    cases e
    rw [Below.heap_setCell w1 _ _ gn (fun e2 => h.ne e2.symm)]
    exact hgr.block gn (h.low gn h.inN) (fun e2 => (h.neF gn e2.symm).2 rfl)
  · have := own_keep (w' := w1.setCell ⟨g, 5, none⟩ (.slice (some ⟨gf', 0, none⟩) (T.free.length + 1) cap')) hown (fun k e => by cases e; exact Below.heap_setCell w1 _ _ gf' (fun e => hne e.symm))
    simpa [intsN] using this
  · intro k hk
    show k < (w1.setCell _ _).heap.size
    rw [World.size_setCell]
    rcases hk with hk | rfl
    · exact Nat.lt_of_lt_of_le (h.low k hk) hgr.size
    · exact hlt
end
end Go.Proofs.Ytecefdocemkliaa
