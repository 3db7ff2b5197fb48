/- Rows of a block that are written in place: slices of things of c cells cut, copied, cleared, appended to, made longer by zeros; of no program's own types. -/
import Derived.Test.YtoliijajhikhgaaDoorBox
import Derived.Lib.AppendZerosOnto
import Derived.Lib.Overlaps
import Derived.Laws.CopyOwn
namespace Go.Proofs.YtoliijajhikhgaaDoor
open Go Go.RowKit Go.Lib

/-- A part of a row of g whose things have c cells. -/
def slc (g l h cap c : Nat) : Value := .slice (some (if cap = l then ⟨g, 0, none⟩ else ⟨g, l * c, none⟩)) (h - l) (cap - l)
theorem slc_cut (g l h cap c : Nat) : ∃ k, slc g l h cap c = .slice (some ⟨g, k, none⟩) (h - l) (cap - l) ∧ (l < cap → k = l * c) ∧ (l = cap → k = 0) := by
  unfold slc
  by_cases hl : cap = l
  · exact ⟨0, by rw [if_pos hl], by omega, fun _ => rfl⟩
  · exact ⟨l * c, by rw [if_neg hl], fun _ => rfl, by omega⟩
section
variable {P : Program} {ρ : Operand → Value} {o : Oper} {w : World}
theorem exec_slice_l (t : TypeId) (x lo : Operand) (ho : o.op = .slice t x (some lo) none none) (ht : P.underlying t = some (.slice (P.elem t))) (c : Nat) (hz : ∀ w, (sizeOf (P.elem t)).run P w = .ok c w)
    (g n cap l : Nat) (hx : ρ x = .slice (some ⟨g, 0, none⟩) n cap) (hl : ρ lo = .int .i64 (l : Int)) (h : l ≤ n) : (execOp ρ o).run P w = .ok (.value (slc g l n cap c)) w := by
  unfold execOp
  have h9 := run_slice_l w t (some ⟨g, 0, none⟩) n cap ht .i64 (l : Int) (by omega) (by omega)
  rw [hz] at h9
  simp only [Result.andThen_ok, sliced, Int.toNat_natCast] at h9
  simp only [ho, hx, hl, Option.map_some, Option.map_none, run_sliceAt_slice _ _ _ _ _ _ ht, h9, Sem.run_bind, Sem.run_pure, Result.andThen_ok]
  simp only [slc, Addr.add_lit, Nat.zero_add]
  split <;> rfl
theorem exec_slice_h (t : TypeId) (x hi : Operand) (ho : o.op = .slice t x none (some hi) none) (ht : P.underlying t = some (.slice (P.elem t))) (c : Nat) (hz : ∀ w, (sizeOf (P.elem t)).run P w = .ok c w)
    (g n cap h : Nat) (hx : ρ x = .slice (some ⟨g, 0, none⟩) n cap) (hl : ρ hi = .int .i64 (h : Int)) (hh : h ≤ cap) : (execOp ρ o).run P w = .ok (.value (.slice (some ⟨g, 0, none⟩) h cap)) w := by
  unfold execOp
  have h9 := run_slice_h w t (some ⟨g, 0, none⟩) n cap ht .i64 (h : Int) (by omega) (by omega)
  rw [hz] at h9
  simp only [Result.andThen_ok, sliced, Int.toNat_natCast] at h9
  simp only [ho, hx, hl, Option.map_some, Option.map_none, run_sliceAt_slice _ _ _ _ _ _ ht, h9, Sem.run_bind, Sem.run_pure, Result.andThen_ok]
  simp [Addr.add]
theorem exec_slice_lh (t : TypeId) (x lo hi : Operand) (ho : o.op = .slice t x (some lo) (some hi) none) (ht : P.underlying t = some (.slice (P.elem t))) (c : Nat) (hz : ∀ w, (sizeOf (P.elem t)).run P w = .ok c w)
    (g n cap l h : Nat) (hx : ρ x = .slice (some ⟨g, 0, none⟩) n cap) (hl : ρ lo = .int .i64 (l : Int)) (hh : ρ hi = .int .i64 (h : Int)) (h1 : l ≤ h) (h2 : h ≤ cap) : (execOp ρ o).run P w = .ok (.value (slc g l h cap c)) w := by
  unfold execOp
  have h9 := run_slice_lh w t (some ⟨g, 0, none⟩) n cap ht .i64 .i64 (l : Int) (h : Int) (by omega) (by omega) (by omega)
  rw [hz] at h9
  simp only [Result.andThen_ok, sliced, Int.toNat_natCast] at h9
  simp only [ho, hx, hl, hh, Option.map_some, Option.map_none, run_sliceAt_slice _ _ _ _ _ _ ht, h9, Sem.run_bind, Sem.run_pure, Result.andThen_ok]
  simp only [slc, Addr.add_lit, Nat.zero_add]
  split <;> rfl
theorem exec_copy (d s : Operand) (dT sT : TypeId) (ho : o.op = .call { callee := .builtin .copy, args := #[d, s], argTypes := #[dT, sT] }) (v u : Value) (hd : ρ d = v) (hs : ρ s = u) {v' : Value} {w' : World}
    (hr : (Builtin.copy_ #[dT, sT] o.type #[v, u]).run P w = .ok v' w') : (execOp ρ o).run P w = .ok (.value v') w' := by
  unfold execOp
  simp only [ho, resolve, invoke, builtin, Sem.run_bind, Sem.run_pure, Result.andThen_ok, List.map_toArray, List.map_cons, List.map_nil, hd, hs, hr]
theorem exec_append (d s : Operand) (dT sT : TypeId) (ho : o.op = .call { callee := .builtin .append, args := #[d, s], argTypes := #[dT, sT] }) (v u : Value) (hd : ρ d = v) (hs : ρ s = u) {v' : Value} {w' : World}
    (hr : (Builtin.append_ #[dT, sT] o.type #[v, u]).run P w = .ok v' w') : (execOp ρ o).run P w = .ok (.value v') w' := by
  unfold execOp
  simp only [ho, resolve, invoke, builtin, Sem.run_bind, Sem.run_pure, Result.andThen_ok, List.map_toArray, List.map_cons, List.map_nil, hd, hs, hr]
theorem exec_clear (d : Operand) (dT : TypeId) (ho : o.op = .call { callee := .builtin .clear, args := #[d], argTypes := #[dT] }) (v : Value) (hd : ρ d = v) {v' : Value} {w' : World}
    (hr : (Builtin.clear_ #[dT] o.type #[v]).run P w = .ok v' w') : (execOp ρ o).run P w = .ok (.value v') w' := by
  unfold execOp
  simp only [ho, resolve, invoke, builtin, Sem.run_bind, Sem.run_pure, Result.andThen_ok, List.map_toArray, List.map_cons, List.map_nil, hd, hr]
end
/-! What such operations do to the block. -/
section
variable {P : Program} {w : World} {e : TypeId} {c g : Nat} {cur : List Value}
theorem run_copy_row (dT sT ty : TypeId) (hu : P.underlying dT = some (.slice e)) (hs : ∀ w, (sizeOf e).run P w = .ok c w) (hg : Bx w g e cur) (off dLen dCap : Nat) (sp : Option Addr) (sLen sCap m : Nat) (hm : Nat.min sLen dLen = m)
    (cs : List Value) (hl : cs.length = m * c) (hc : 0 < cs.length → ∃ a, sp = some a ∧ ∀ j v, cs[j]? = some v → w.cell? (a.add j) = some v) (h1 : ∀ v ∈ cs, v.oneCell' = true) (hfit : off + cs.length ≤ cur.length) :
    (Builtin.copy_ #[dT, sT] ty #[.slice (some ⟨g, off, none⟩) dLen dCap, .slice sp sLen sCap]).run P w = .ok (goInt m) (w.setRow g (splice cur off cs).toArray) := by
  have hf : (Builtin.firstCells c m (.slice sp sLen sCap)).run P w = .ok cs.toArray w := by
    cases sp with
    | none =>
      have h0 : cs = [] := by
        rcases Nat.eq_zero_or_pos cs.length with h | h
        · exact List.eq_nil_of_length_eq_zero h
        · obtain ⟨a, ha, _⟩ := hc h
          cases ha
      subst h0
      exact run_firstCells_none (P := P) (w := w) c m sLen sCap
    | some a =>
      refine run_firstCells_some (P := P) w c m a sLen sCap cs hl (fun j v hj => ?_)
      obtain ⟨a', ha, h2⟩ := hc (by have := (List.getElem?_eq_some_iff.1 hj).1; omega)
      cases ha
      exact h2 j v hj
  have hst := run_storeCells_at P g off e cs 0 cur.toArray w hg (by simpa using hfit) h1
  simp only [Nat.add_zero] at hst
  simp [Builtin.copy_, run_underlying hu, hs, Builtin.lenOf, hm, hf, hst, splice, List.append_assoc]
theorem run_clear_row (t : TypeId) (hu : P.underlying t = some (.slice e)) (z : Value) (hz : ∀ w, (zeroValue e).run P w = .ok z w) (hzc : z.cells.size = c) (hc0 : 0 < c) (h1 : ∀ u ∈ z.cells.toList, u.oneCell' = true)
    (hg : Bx w g e cur) (off n : Nat) (hfit : off + n * c ≤ cur.length) :
    ∃ cs : List Value, cs.length = n * c ∧ ∀ ty cap, (Builtin.clear_ #[t] ty #[.slice (some ⟨g, off, none⟩) n cap]).run P w = .ok (.tuple #[]) (w.setRow g (splice cur off cs).toArray) := by
  cases n with
  | zero =>
    refine ⟨[], by simp, fun ty cap => ?_⟩
    rw [show (splice cur off ([] : List Value)).toArray = cur.toArray by simp [splice], setRow_self w g _ e _ hg]
    simp [Builtin.clear_, run_underlying hu]
  | succ n =>
    refine ⟨(Builtin.zeroCells z.cells (n + 1)).toList, by simp [Builtin.zeroCells, hzc], fun ty cap => ?_⟩
    have hlen : (Builtin.zeroCells z.cells (n + 1)).toList.length = (n + 1) * c := by simp [Builtin.zeroCells, hzc]
    have hst := run_storeCells_at P g off e (Builtin.zeroCells z.cells (n + 1)).toList 0 cur.toArray w hg (by simp only [Nat.add_zero]; rw [hlen]; simpa using hfit) (fun u hu => h1 u (by
      simp only [Builtin.zeroCells, Array.toList_map, List.mem_map] at hu
      obtain ⟨i, _, rfl⟩ := hu
      rw [getElem!_pos z.cells (i % z.cells.size) (Nat.mod_lt _ (by omega))]
      simp))
    simp only [Nat.add_zero] at hst
    simp [Builtin.clear_, run_underlying hu, hz, hst, splice, List.append_assoc]
end
/-! Lists spliced. -/
theorem splice_mid {α : Type} (X M T C : List α) (h : M.length = C.length) : splice (X ++ (M ++ T)) X.length C = X ++ (C ++ T) := by
  unfold splice
  rw [List.take_left, ← h, show X ++ (M ++ T) = (X ++ M) ++ T from (List.append_assoc _ _ _).symm, show X.length + M.length = (X ++ M).length from (List.length_append).symm, List.drop_left]
theorem splice_at {α : Type} (X Z C : List α) (off : Nat) (ho : off = X.length) (h : C.length ≤ Z.length) : splice (X ++ Z) off C = X ++ (C ++ Z.drop C.length) := by
  subst ho
  have := splice_mid X (Z.take C.length) (Z.drop C.length) C (by rw [List.length_take]; omega)
  rwa [List.take_append_drop] at this
theorem splice_len {α : Type} (L C : List α) (off : Nat) (h : off + C.length ≤ L.length) : (splice L off C).length = L.length := by simp [splice]; omega
theorem splice_keep {α : Type} (L C : List α) (off k : Nat) (hk : k ≤ off) (ho : off ≤ L.length) : (splice L off C).take k = L.take k := by
  unfold splice
  rw [List.take_append_of_le_length (by rw [List.length_take]; omega), List.take_take, Nat.min_eq_left hk]
/-- First what lies behind is moved, then the new is laid in. -/
theorem splice_up {α : Type} (L N Y : List α) (a d : Nat) (hN : N.length = d) (h : a + d + Y.length ≤ L.length) : (splice (splice L (a + d) Y) a N).take (a + d + Y.length) = L.take a ++ N ++ Y := by
  have e1 : L = (L.take a ++ (L.drop a).take d) ++ (L.drop a).drop d := by rw [List.append_assoc, List.take_append_drop, List.take_append_drop]
  have l1 : (L.take a).length = a := by rw [List.length_take]; omega
  have l2 : ((L.drop a).take d).length = d := by rw [List.length_take, List.length_drop]; omega
  have s1 : splice L (a + d) Y = L.take a ++ ((L.drop a).take d ++ (Y ++ ((L.drop a).drop d).drop Y.length)) := by
    conv => lhs; rw [e1]
    rw [splice_at _ _ _ (a + d) (by rw [List.length_append, l1, l2]) (by simp only [List.length_drop]; omega), List.append_assoc]
  have s2 : splice (splice L (a + d) Y) a N = L.take a ++ (N ++ (Y ++ ((L.drop a).drop d).drop Y.length)) := by
    have h3 := splice_mid (L.take a) ((L.drop a).take d) (Y ++ ((L.drop a).drop d).drop Y.length) N (by rw [l2, hN])
    rw [l1] at h3
    rw [s1, h3]
  rw [s2, show L.take a ++ (N ++ (Y ++ ((L.drop a).drop d).drop Y.length)) = (L.take a ++ N ++ Y) ++ ((L.drop a).drop d).drop Y.length by simp only [List.append_assoc]]
  refine List.take_left' ?_
  simp only [List.length_append, l1, hN]
/-- First the new is laid in, then what lay behind. -/
theorem splice_down {α : Type} (L N Y : List α) (a d : Nat) (hN : N.length = d) (h : a + d + Y.length ≤ L.length) : (splice (splice L a N) (a + d) Y).take (a + d + Y.length) = L.take a ++ N ++ Y := by
  have l1 : (L.take a).length = a := by rw [List.length_take]; omega
  have e1 : L = L.take a ++ L.drop a := (List.take_append_drop _ _).symm
  have s1 : splice L a N = (L.take a ++ N) ++ (L.drop a).drop d := by
    conv => lhs; rw [e1]
    rw [splice_at _ _ _ a l1.symm (by rw [List.length_drop]; omega), hN, List.append_assoc]
  have s2 : splice (splice L a N) (a + d) Y = (L.take a ++ N) ++ (Y ++ ((L.drop a).drop d).drop Y.length) := by
    rw [s1]
    exact splice_at _ _ _ (a + d) (by rw [List.length_append, l1, hN]) (by simp only [List.length_drop]; omega)
  rw [s2, ← List.append_assoc]
  refine List.take_left' ?_
  simp only [List.length_append, l1, hN]
theorem splice_one {α : Type} (L N : List α) (a d : Nat) (hN : N.length = d) (h : a + d ≤ L.length) : (splice L a N).take (a + d) = L.take a ++ N := by
  have := splice_down L N [] a d hN (by simpa using h)
  simp only [List.length_nil, Nat.add_zero, List.append_nil] at this
  rw [splice_keep _ _ _ _ (Nat.le_refl _) (by rw [splice_len _ _ _ (by omega)]; omega)] at this
  exact this
/-! Own rows opened and shut. -/
structure RwI (w : World) (e : TypeId) (c g n cap : Nat) (cur : List Value) : Prop where
  bx : Bx w g e cur
  fit : n ≤ cap
  max : cap ≤ maxLen
  len : cur.length = cap * c
theorem own_open {w : World} {base : Nat} {e : TypeId} {c : Nat} {v : Value} {n : Nat} {xs : List Value} (h : w.ownsRow base e c v n xs) (hn : 0 < n) :
    ∃ g cap cur, v = .slice (some ⟨g, 0, none⟩) n cap ∧ base ≤ g ∧ RwI w e c g n cap cur ∧ cur.take (n * c) = xs := by
  rcases h.2 with ⟨_, h0⟩ | ⟨g, cap, cur, h1, h2, h3, h4, h5, h6, h7⟩
  · omega
  · exact ⟨g, cap, cur.toList, h1, h2, ⟨by unfold Bx; simpa using h3, h4, h5, by simpa using h6⟩, h7⟩
theorem RwI.shut {w : World} {e : TypeId} {c g n cap : Nat} {cur : List Value} (h : RwI w e c g n cap cur) {base : Nat} (hb : base ≤ g) {xs : List Value} (hx : cur.take (n * c) = xs) : w.ownsRow base e c (.slice (some ⟨g, 0, none⟩) n cap) n xs := by
  refine ⟨?_, .inr ⟨g, cap, cur.toArray, rfl, hb, h.bx, h.fit, h.max, by simpa using h.len, by simpa using hx⟩⟩
  rw [← hx, List.length_take, h.len, Nat.min_eq_left (Nat.mul_le_mul_right c h.fit)]
theorem RwI.row {w : World} {e : TypeId} {c g n cap : Nat} {cur : List Value} (h : RwI w e c g n cap cur) {m : Nat} (hm : m ≤ cap) {l : List Value} (hl : l.length = cur.length) : RwI (w.setRow g l.toArray) e c g m cap l :=
  ⟨h.bx.row l, hm, h.max, hl.trans h.len⟩
theorem RwI.to {w : World} {e : TypeId} {c g n cap : Nat} {cur : List Value} (h : RwI w e c g n cap cur) {m : Nat} (hm : m ≤ cap) : RwI w e c g m cap cur := ⟨h.bx, hm, h.max, h.len⟩
theorem kp_row {O : Nat → Prop} (W : World) (g : Nat) (cs : Array Value) (h : O g) : KpO O W (W.setRow g cs) :=
  have hb := below_row (Below.refl 0 W) (Nat.zero_le g) cs
  .of hb.size (fun k ho _ => setRow_other W g k cs (fun e => ho (e ▸ h))) hb.os hb.tape hb.output
theorem KpO.more {O O' : Nat → Prop} {A B : World} (h : KpO O A B) (hO : ∀ k, O k → O' k) : KpO O' A B := .of h.size (fun k hk hl => h.all k (fun h1 => hk (hO k h1)) hl) h.os h.tape h.output
theorem KpO.dr {O : Nat → Prop} {W W' : World} (h : KpO O W.drew W') : KpO O W W' := (KpO.below (Below.refl _ _).drew).trans h
theorem kp_alloc {O : Nat → Prop} (W : World) (o : Obj) : KpO O W (W.alloc o) := KpO.below ((Below.refl _ _).alloc (Nat.le_refl _) _)
theorem kp_drew {O : Nat → Prop} (W : World) (o : Obj) : KpO O W (W.drew.alloc o) := KpO.below ((Below.refl _ _).drew.alloc (Nat.le_refl _) _)
theorem Bx.at {w : World} {g : Nat} {e : TypeId} {cur : List Value} (h : Bx w g e cur) (k : Nat) (cs : List Value) (hk : (cur.drop k).take cs.length = cs) : ∀ j v, cs[j]? = some v → w.cell? ((⟨g, k, none⟩ : Addr).add j) = some v := fun j v hj => by
  rw [Addr.add_lit, h.cell]
  rw [← hk] at hj
  have hj2 : j < cs.length := by
    have := (List.getElem?_eq_some_iff.1 hj).1
    rw [List.length_take] at this
    omega
  rw [List.getElem?_take, if_pos hj2, List.getElem?_drop] at hj
  exact hj
/-- What a run of operations over a row leaves: the row anew, in its block or a new one, all else as it was. -/
structure RowTo (w w' : World) (base : Nat) (e : TypeId) (c : Nat) (v v' : Value) (n : Nat) (xs : List Value) : Prop where
  own : w'.ownsRow base e c v' n xs
  kp : KpO (fun k => v.ownBlock = some k) w w'
  new : ∀ k, v'.ownBlock = some k → v.ownBlock = some k ∨ w.heap.size ≤ k
/-! Appended to a row: in its block, or a new one. -/
section
variable {P : Program} {w : World} {e : TypeId} {c : Nat}
theorem kp_grown {w w' : World} {row : Option Nat} (h : w.grownBy w' row) : KpO (fun k => row = some k) w w' := .of h.size (fun k ho hk => h.block k hk (fun e => ho e.symm)) h.os h.tape h.output
theorem run_append_to (t : TypeId) (i : TypeInfo) (z : Value) (ht : P.underlying t = some (.slice e)) (hi : P.info? e = some i) (hz : i.zero = some z) (hsize : i.size = c) (hzs : z.cells.size = c) (hsz : 0 < c)
    {base : Nat} {v : Value} {n : Nat} {xs : List Value} (hown : w.ownsRow base e c v n xs) (a : Addr) (m sc : Nat) (hm : 0 < m) (nws : List Value) (hl : nws.length = m * c) (hnews : ∀ j u, nws[j]? = some u → w.cell? (a.add j) = some u) (h1 : ∀ u ∈ nws, u.oneCell' = true)
    (h63 : n + m ≤ 10000000) (hby : i.bytes ≤ 1000) (hbase : base ≤ w.heap.size) :
    ∃ v' w', (∀ ty, (Builtin.append_ #[t, t] ty #[v, .slice (some a) m sc]).run P w = .ok v' w') ∧ RowTo w w' base e c v v' (n + m) (xs ++ nws) := by
  subst hsize
  have hml : n + m ≤ maxLen := by unfold maxLen; omega
  have hbb : (n + m) * i.bytes ≤ 140737488355328 := by
    have h2 : (n + m) * i.bytes ≤ 10000000 * 1000 := Nat.mul_le_mul h63 hby
    omega
  have hmb : m * i.bytes ≤ (n + m) * i.bytes := Nat.mul_le_mul_right _ (by omega)
  have hgrw : ∀ (old : Nat), RowTo w (w.drew.alloc (.cells (xs.toArray ++ nws.toArray ++ Builtin.zeroCells z.cells (grownCap w (n + m) old e - (n + m))) e)) base e i.size v (.slice (some ⟨w.heap.size, 0, none⟩) (n + m) (grownCap w (n + m) old e)) (n + m) (xs ++ nws) := by
    intro old
    have hge := grownCap_ge w (n + m) old e
    have hcm : grownCap w (n + m) old e ≤ maxLen := grownCap_le_maxLen w (n + m) old e hml
    have hlen : (xs ++ nws).length = (n + m) * i.size := by rw [List.length_append, hown.1, hl, Nat.add_mul]
    refine ⟨⟨hlen, .inr ⟨w.heap.size, _, _, rfl, hbase, heap_alloc_new w.drew _, hge, hcm, ?_, ?_⟩⟩, kp_drew _ _, fun k hk => .inr (by cases hk; exact Nat.le_refl _)⟩
    · simp only [Array.size_append, List.size_toArray, size_zeroCells, hzs, hown.1, hl, ← Nat.add_mul]
      congr 1
      omega
    · simp only [Array.toList_append, List.append_assoc]
      rw [← List.append_assoc, ← hlen]
      exact List.take_left
  rcases Nat.eq_zero_or_pos n with h0 | h0
  · rcases hown.2 with ⟨rfl, rfl⟩ | ⟨g, cap, cur, rfl, hbg, hg, hnc, hcm, hcs, htake⟩
    · have hx : xs = [] := List.eq_nil_of_length_eq_zero (by simpa using hown.1)
      subst hx
      have hr := fun ty => run_append_nil (P := P) w t ty e i z ht hi hz a m sc nws hl hnews hm (by unfold maxLen at hml; omega) (by omega)
      have hgr := hgrw 0
      simp only [Nat.zero_add, List.nil_append, Array.empty_append] at hgr ⊢
      exact ⟨_, _, hr, hgr⟩
    · by_cases hroom : n + m ≤ cap
      · have hfit : n * i.size + nws.length ≤ cur.size := by rw [hl, hcs, ← Nat.add_mul]; exact Nat.mul_le_mul_right _ hroom
        have hr := fun ty => run_append_room (P := P) w t ty e i ht hi g n cap cur hg a m sc nws hl hnews h1 hroom hfit
        refine ⟨_, _, hr, ⟨by rw [List.length_append, hown.1, hl, Nat.add_mul], .inr ⟨g, cap, _, rfl, hbg, setRow_heap w g cur _ e _ hg, hroom, hcm, ?_, ?_⟩⟩, kp_row _ _ _ rfl, fun k hk => .inl (by cases hk; rfl)⟩
        · simp only [List.size_toArray, List.length_append, List.length_take, List.length_drop, Array.length_toList]
          omega
        · rw [htake, show (n + m) * i.size = (xs ++ nws).length by rw [List.length_append, hown.1, hl, Nat.add_mul]]
          exact List.take_left
      · have holds : ∀ j u, xs[j]? = some u → w.cell? ((⟨g, 0, none⟩ : Addr).add j) = some u := hown.cells (g := g) rfl
        have hr := fun ty => run_append_grow (P := P) w t ty e i z ht hi hz ⟨g, 0, none⟩ n cap xs hown.1 holds a m sc nws hl hnews (by omega) (by unfold maxLen at hml; omega) (growslice_fits (by omega) hbb)
        exact ⟨_, _, hr, hgrw cap⟩
  · rcases hown.2 with ⟨rfl, rfl⟩ | ⟨g, cap, cur, rfl, hbg, hg, hnc, hcm, hcs, htake⟩
    · omega
    · by_cases hroom : n + m ≤ cap
      · have hfit : n * i.size + nws.length ≤ cur.size := by rw [hl, hcs, ← Nat.add_mul]; exact Nat.mul_le_mul_right _ hroom
        have hr := fun ty => run_append_room (P := P) w t ty e i ht hi g n cap cur hg a m sc nws hl hnews h1 hroom hfit
        refine ⟨_, _, hr, ⟨by rw [List.length_append, hown.1, hl, Nat.add_mul], .inr ⟨g, cap, _, rfl, hbg, setRow_heap w g cur _ e _ hg, hroom, hcm, ?_, ?_⟩⟩, kp_row _ _ _ rfl, fun k hk => .inl (by cases hk; rfl)⟩
        · simp only [List.size_toArray, List.length_append, List.length_take, List.length_drop, Array.length_toList]
          omega
        · rw [htake, show (n + m) * i.size = (xs ++ nws).length by rw [List.length_append, hown.1, hl, Nat.add_mul]]
          exact List.take_left
      · have holds : ∀ j u, xs[j]? = some u → w.cell? ((⟨g, 0, none⟩ : Addr).add j) = some u := hown.cells (g := g) rfl
        have hr := fun ty => run_append_grow (P := P) w t ty e i z ht hi hz ⟨g, 0, none⟩ n cap xs hown.1 holds a m sc nws hl hnews (by omega) (by unfold maxLen at hml; omega) (growslice_fits (by omega) hbb)
        exact ⟨_, _, hr, hgrw cap⟩
/-- A row made longer by zeros, where there is no room. -/
theorem run_zeros_to (t tn : TypeId) (kn : IntKind) (i : TypeInfo) (z : Value) (ht : P.underlying t = some (.slice e)) (htn : P.underlying tn = some (.int kn)) (hi : P.info? e = some i) (hz : i.zero = some z) (hsize : i.size = c) (hzs : z.cells.size = c) (hsz : 0 < c)
    {g n cap : Nat} {cur : List Value} (h : RwI w e c g n cap cur) (a tot : Nat) (han : a ≤ n) (htot : cap < tot) (hat : a ≤ tot) (h63 : tot ≤ 10000000) (hby : i.bytes ≤ 1000) :
    ∃ cap' cur' w', (∀ ty, (Builtin.append_ #[t, tn] ty #[.slice (some ⟨g, 0, none⟩) a cap, .int .i64 ((tot - a : Nat) : Int)]).run P w = .ok (.slice (some ⟨w.heap.size, 0, none⟩) tot cap') w') ∧ RwI w' e c w.heap.size tot cap' cur' ∧ cur'.take (a * c) = cur.take (a * c) ∧ Below w.heap.size w w' := by
  subst hsize
  have hac : a ≤ cap := Nat.le_trans han h.fit
  have hal : a * i.size ≤ cap * i.size := Nat.mul_le_mul_right _ hac
  have holds := run_firstCells_some (P := P) w.drew i.size a ⟨g, 0, none⟩ a cap (cur.take (a * i.size)) (by rw [List.length_take, h.len]; omega)
    (Bx.at (w := w.drew) (g := g) (e := e) (cur := cur) h.bx 0 _ (by rw [List.drop_zero, List.length_take, h.len, Nat.min_eq_left hal]))
  have hbb : tot * i.bytes ≤ 140737488355328 := by
    have h2 : tot * i.bytes ≤ 10000000 * 1000 := Nat.mul_le_mul h63 hby
    omega
  have hkb : (tot - a) * i.bytes ≤ tot * i.bytes := Nat.mul_le_mul_right _ (by omega)
  have hfit := growslice_fits (need := tot) (old := cap) (bytes := i.bytes) htot hbb
  have hr := fun ty => run_append_grow_zeros (P := P) w t tn ty e i z .i64 kn ht htn hi hz (some ⟨g, 0, none⟩) a cap (cur.take (a * i.size)) holds (tot - a) (by omega) hsz (by omega) (by omega) (by omega) (by rw [show a + (tot - a) = tot by omega]; exact hfit)
  rw [show a + (tot - a) = tot by omega] at hr
  have hge := grownCap_ge w tot cap e
  have hcm : grownCap w tot cap e ≤ maxLen := grownCap_le_maxLen w tot cap e (by unfold maxLen; omega)
  refine ⟨_, ((cur.take (a * i.size)).toArray ++ Builtin.zeroCells z.cells (tot - a) ++ Builtin.zeroCells z.cells (grownCap w tot cap e - tot)).toList, _, hr, ⟨?_, hge, hcm, ?_⟩, ?_, (Below.refl _ _).drew.alloc (Nat.le_refl _) _⟩
  · unfold Bx
    rw [Array.toArray_toList]
    exact heap_alloc_new w.drew _
  · rw [Array.length_toList]
    simp only [Array.size_append, List.size_toArray, size_zeroCells, hzs, List.length_take, h.len, Nat.min_eq_left hal, ← Nat.add_mul]
    congr 1
    omega
  · simp only [Array.toList_append, List.append_assoc]
    refine List.take_left' ?_
    rw [List.length_take, h.len, Nat.min_eq_left hal]
theorem step_exec {ops : Array Oper} {o : Oper} {a : Act} {w w' : World} {K : Act → World → Prop} {Q : Exit → Act → World → Prop} {E : Prop} (hg : o.guard = none) (v : Value) (hr : (execOp a.eval o).run P w = .ok (.value v) w') (hK : K (a.put o.dst v) w') :
    if Region.wanted o (yielded ops a.tmps) = true then Oper.wp P o a w K Q else E := by
  have hw : Region.wanted o (yielded ops a.tmps) = true := by simp [Region.wanted, hg]
  rw [if_pos hw]
  unfold Oper.wp
  rw [hr]
  exact hK
end
end Go.Proofs.YtoliijajhikhgaaDoor
