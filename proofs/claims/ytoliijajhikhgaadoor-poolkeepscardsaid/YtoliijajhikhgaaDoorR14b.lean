/- The document's pool (footplateref14): a thing stands at a number. -/
import Derived.Test.YtoliijajhikhgaaDoorR14a
namespace Go.Proofs.YtoliijajhikhgaaDoor
open Go Go.RowKit

/-- A box of the call, another, the answer's. -/
structure AtZ (w W : World) (l : List Value) (x : Th14) (m : List Value) : Prop where
  p : Bx W w.heap.size 32 l
  x : Bx W (w.heap.size + 1) 50 (xR x)
  r : Bx W (w.heap.size + 1 + 1) 32 m
  b : Below w.heap.size w W
section
variable {w W W' : World} {l m : List Value} {x : Th14}
theorem AtZ.up (h : AtZ w W l x m) (hb : Below W.heap.size W W') : AtZ w W' l x m := ⟨h.p.up hb, h.x.up hb, h.r.up hb, below_up h.b hb h.b.size⟩
theorem AtZ.low (h : AtZ w W l x m) : w.heap.size + 3 ≤ W.heap.size := h.r.lt
theorem AtZ.kp {O : Nat → Prop} (h : AtZ w W l x m) (hk : KpO O W W') (hO : ∀ k, O k → w.heap.size + 3 ≤ k) : AtZ w W' l x m :=
  have h3 := h.low
  ⟨h.p.kp hk (fun e => by have := hO _ e; omega), h.x.kp hk (fun e => by have := hO _ e; omega), h.r.kp hk (fun e => by have := hO _ e; omega),
    h.b.trans (hk.base (fun k e => by have := hO k e; omega) (by omega))⟩
theorem AtZ.putP (h : AtZ w W l x m) (v : Value) : AtZ w (W.setCell ⟨w.heap.size, 2, none⟩ v) (l.set 2 v) x m := ⟨h.p.set 2 v, h.x.setOther (by omega) 2 v, h.r.setOther (by omega) 2 v, h.b.setCell (p := ⟨w.heap.size, 2, none⟩) (Nat.le_refl _) v⟩
theorem AtZ.ans (h : AtZ w W l x m) (m' : List Value) : AtZ w (W.setRow (w.heap.size + 1 + 1) m'.toArray) l x m' := ⟨h.p.rowOther (by omega) _, h.x.rowOther (by omega) _, h.r.row _, below_row h.b (by omega) _⟩
end
theorem atZ_new (w : World) (l : List Value) (x : Th14) (m : List Value) : AtZ w (((w.alloc (.cells l.toArray 32)).alloc (.cells (xR x).toArray 50)).alloc (.cells m.toArray 32)) l x m := by
  have h := twoB_new w 32 50 l (xR x)
  have h3 := Bx.new ((w.alloc (.cells l.toArray 32)).alloc (.cells (xR x).toArray 50)) 32 m
  rw [show ((w.alloc (.cells l.toArray 32)).alloc (.cells (xR x).toArray 50)).heap.size = w.heap.size + 1 + 1 by simp] at h3
  exact ⟨h.1.al _, h.2.1.al _, h3, h.2.2.alloc h.2.2.size _⟩
theorem fill_x14 (x : Th14) (z : Array Value) (hz : z.size = 10) : Instr.fill (fun i => some (i * 10, 10)) z [(0, .agg (xR x).toArray)] = some (xR x).toArray := fill_one 10 (xR x) rfl z hz
theorem exec_one_x14 {ρ : Operand → Value} {o : Oper} {w : World} (x : Operand) (ho : o.op = .buildSlice 30 1 #[(0, x)]) (s : Th14) (hx : ρ x = .agg (xR s).toArray) (b : Nat) (hb : w.heap.size = b) :
    (execOp ρ o).run Tryd.prog w = .ok (.value (.slice (some ⟨b, 0, none⟩) 1 1)) (w.alloc (.cells (xR s).toArray 50)) := by
  subst hb
  obtain ⟨i, hi, hz, hs, _⟩ := info_parts x14_infoF
  have := run_buildSlice (P := Tryd.prog) w 30 50 1 #[(0, .agg (xR s).toArray)] (xR s).toArray i (.agg (xR th0).toArray) Tryd.underlying30 hi hz (by rw [hs]; decide) (by rw [hs]; decide) (by rw [hs]; exact fill_x14 s _ (by simp [xR]))
  unfold execOp
  simp only [ho, List.map_toArray, List.map_cons, List.map_nil, hx, Sem.run_bind, this, Result.andThen_ok, Sem.run_pure]
theorem isX_one {W : World} {b : Nat} {t : TypeId} {x : Th14} (h : Bx W b t (xR x)) : IsC xR 10 W (.slice (some ⟨b, 0, none⟩) 1 1) [x] := by
  refine ⟨fun y hy => rfl, _, 1, rfl, by simp, by simp [maxLen], fun _ => ⟨b, 0, rfl, h.lt, ?_⟩⟩
  have := rangeAll h
  simpa using this
/-- 'append([]X(nil), x...)'. -/
theorem dup_x14 {w : World} {ops : Array Oper} {rest : List Oper} {o : Oper} {a : Act} {Q : Exit → Act → World → Prop} (hgd : o.guard = none) (s x : Operand)
    (ho : o.op = .call { callee := .builtin .append, args := #[s, x], argTypes := #[30, 30] })
    (base : Nat) (v : Value) (D0 : List Th14) (hs : a.eval s = v) (hv : w.ownsRow base 50 10 v D0.length (D0.flatMap xR)) (b : Option Addr) (m k : Nat) (D : List Th14) (hx : a.eval x = .slice b m k) (hl : IsC xR 10 w (.slice b m k) D) (hn : D0.length + D.length ≤ 100000) (hb : base ≤ w.heap.size)
    (h : ∀ a' N c' w', Hid (N = (D0 ++ D).length) → w'.ownsRow base 50 10 (.slice a' N c') N ((D0 ++ D).flatMap xR) → w.grownBy w' v.ownBlock → wpList Tryd.prog ops Q rest (a.put o.dst (.slice a' N c')) w') : wpList Tryd.prog ops Q (o :: rest) a w := by
  refine append_cs hgd _ _ 30 50 ho (.agg (xR th0).toArray) 120 Tryd.underlying30 x14_infoF rfl (by decide) (by decide) base v D0.length (D0.flatMap xR) hs hv b m k D hx hl (x14_all D) (by omega) hb ?_
  intro v1 W1 hO hg
  rw [← List.length_append, ← List.flatMap_append] at hO
  obtain ⟨a', c', rfl, _⟩ := slice_of14 hO
  exact h a' _ c' W1 (Lib.hid rfl) hO hg
set_option maxRecDepth 100000 in
set_option maxHeartbeats 8000000 in
theorem rat_app (is : Bool) (room : Int) (v : Value) (D : List Th14) (x : Th14) (w : World) (hC : IsC xR 10 w v D) (hD : D.length ≤ 10000) :
    Calls Tryd.prog 33 #[p14V is room v, .int .i64 (D.length : Int), .agg (xR x).toArray] w fun e w' => ∃ v', e = .returned (p14V is room v') ∧ w'.ownsRow w.heap.size 50 10 v' (D ++ [x]).length ((D ++ [x]).flatMap xR) ∧ v'.oneCell' = true ∧ Below w.heap.size w w' := by
  obtain ⟨a, cap, rfl⟩ := isc_slice hC
  have hZ := atZ_new w (p14R is room (.slice a D.length cap)) x (p14R false 0 (.slice none 0 0))
  have HC := Lib.hid (hC.below hZ.b)
  have HZ := Lib.hid hZ
  have ez : (#[.bool false, .int .i64 0, .slice none 0 0] : Array Value) = (p14R false 0 (.slice none 0 0)).toArray := rfl
  have c2 := (hZ.p.cell 2).trans (show _ = some (.slice a D.length cap) from rfl)
  rw [show p14V is room (.slice a D.length cap) = .agg (p14R is room (.slice a D.length cap)).toArray from rfl]
  clear hC hZ
  go_enter Tryd.func33, Tryd.ntmps33
  go_wp2_with (at_builtin; refine dup_x14 rfl _ _ rfl (w.heap.size + 3) (.slice none 0 0) [] rfl (World.ownsRow_nil _ _ _ _) a D.length cap D rfl HC.out (by simp; omega) HZ.out.low ?_; intro a1 N1 d1 W1 hN hO hg; refine Hid.out ?_)
  refine Lib.hid ?_
  obtain rfl : N1 = D.length := hN.out
  rw [List.nil_append] at hO
  have HZ1 := Lib.hid (HZ.out.kp (KpO.grown14 hg) (fun k e => by cases e))
  have HO1 := Lib.hid hO
  clear hO hg HZ HC c2
  have HO2 := Lib.hid (own_below HO1.out ((Below.refl _ _).alloc (Nat.le_refl _) (.cells (xR x).toArray 50)))
  have HN := Lib.hid (Bx.new W1 50 (xR x))
  have HZ2 := Lib.hid (HZ1.out.up ((Below.refl _ _).alloc (Nat.le_refl _) (.cells (xR x).toArray 50)))
  have heq : ((D.length : Int) == (D.length : Int)) = true := by simp
  go_wp2_with (first
    | (refine plV rfl (.agg (xR x).toArray) (exec_load_any _ (.tmp 5) rfl (w.heap.size + 1) 0 (xR x) _ rfl (rangeAll HZ1.out.x) Tryd.underlying50 rfl x14_info) ?_)
    | (refine plV rfl (.slice (some ⟨W1.heap.size, 0, none⟩) 1 1) (exec_one_x14 (.tmp 17) rfl x rfl _ rfl) ?_)
    | (at_builtin; refine dup_x14 rfl _ _ rfl (w.heap.size + 3) (.slice a1 D.length d1) D rfl HO2.out (some ⟨W1.heap.size, 0, none⟩) 1 1 [x] rfl (isX_one HN.out) (by simp; omega) HZ2.out.low ?_; intro a2 N2 d2 W2 HN2 hO2 hg2; refine Hid.out ?_))
  refine Lib.hid ?_
  have HZ3 := Lib.hid (HZ2.out.kp (KpO.grown14 hg2) (fun k e => (HO2.out.lt k e).1))
  have HO3 := Lib.hid hO2
  clear hO2 hg2 HO2 HN HZ2 HZ1 HO1
  have c2 := (HZ3.out.p.cell 2).trans (show _ = some (.slice a D.length cap) from rfl)
  have f2 := HZ3.out.p.frozen 2
  have HZ4 := Lib.hid (show AtZ w _ (p14R is room (.slice a2 N2 d2)) x _ from HZ3.out.putP (.slice a2 N2 d2))
  have HO4 := Lib.hid (own_kp HO3.out (KpO.set (O := fun k => k = w.heap.size) W2 w.heap.size 2 (.slice a2 N2 d2) rfl) (fun k e q => by have := (HO3.out.lt k e).1; omega))
  clear HZ3 HO3
  go_wp2_with (first
    | (refine plV rfl (p14V is room (.slice a2 N2 d2)) (exec_load_any _ (.tmp 3) rfl w.heap.size 0 _ _ rfl (rangeAll HZ4.out.p) Tryd.underlying32 rfl p14_info) ?_)
    | (refine wpList_store_bx rfl 32 (.tmp 6) (.tmp 26) rfl (w.heap.size + 1 + 1) (p14R is room (.slice a2 N2 d2)) _ rfl rfl HZ4.out.r p14_info rfl (p14_one _ _ _ rfl) ?_; refine Hid.out ?_))
  refine Lib.hid ?_
  go_wp2
  rw [← HN2.out]
  exact bodyPost_ret (results_cell_row Tryd.results33 _ _ (w.heap.size + 1 + 1) _ _ _ _ rfl (HZ4.out.r.row (p14R is room (.slice a2 N2 d2))) Tryd.underlying32 rfl p14_info) rfl ⟨_, rfl, own_mono (own_kp HO4.out (kp_row (O := fun k => k = w.heap.size + 1 + 1) _ _ _ rfl) (fun k e q => by have := (HO4.out.lt k e).1; omega)) (by omega), rfl, (HZ4.out.ans (p14R is room (.slice a2 N2 d2))).b⟩
set_option maxRecDepth 100000 in
set_option maxHeartbeats 8000000 in
theorem rat_set (is : Bool) (room : Int) (v : Value) (D : List Th14) (i : Nat) (x : Th14) (w : World) (hC : IsC xR 10 w v D) (hD : D.length ≤ 10000) (hi : i < D.length) :
    Calls Tryd.prog 33 #[p14V is room v, .int .i64 (i : Int), .agg (xR x).toArray] w fun e w' => ∃ v', e = .returned (p14V is room v') ∧ w'.ownsRow w.heap.size 50 10 v' D.length ((D.set i x).flatMap xR) ∧ v'.oneCell' = true ∧ Below w.heap.size w w' := by
  obtain ⟨a, cap, rfl⟩ := isc_slice hC
  have hZ := atZ_new w (p14R is room (.slice a D.length cap)) x (p14R false 0 (.slice none 0 0))
  have HC := Lib.hid (hC.below hZ.b)
  have HZ := Lib.hid hZ
  have ez : (#[.bool false, .int .i64 0, .slice none 0 0] : Array Value) = (p14R false 0 (.slice none 0 0)).toArray := rfl
  have c2 := (hZ.p.cell 2).trans (show _ = some (.slice a D.length cap) from rfl)
  rw [show p14V is room (.slice a D.length cap) = .agg (p14R is room (.slice a D.length cap)).toArray from rfl]
  clear hC hZ
  go_enter Tryd.func33, Tryd.ntmps33
  go_wp2_with (at_builtin; refine dup_x14 rfl _ _ rfl (w.heap.size + 3) (.slice none 0 0) [] rfl (World.ownsRow_nil _ _ _ _) a D.length cap D rfl HC.out (by simp; omega) HZ.out.low ?_; intro a1 N1 d1 W1 hN hO hg; refine Hid.out ?_)
  refine Lib.hid ?_
  obtain rfl : N1 = D.length := hN.out
  rw [List.nil_append] at hO
  have HZ1 := Lib.hid (HZ.out.kp (KpO.grown14 hg) (fun k e => by cases e))
  have HO1 := Lib.hid hO
  clear hO hg HZ HC c2
  obtain ⟨g, c, hv⟩ := ownG_form HO1.out (by omega)
  cases hv
  have hne : ((i : Int) == (D.length : Int)) = false := by simp; omega
  have hi0 : ¬ (i : Int) < 0 := by omega
  have hii : (i : Int) < (D.length : Int) := by omega
  have hg := (HO1.out.lt g rfl).1
  have HTH := Lib.hid (ownG_there HO1.out (x14_len D) i hi)
  have HO2 := Lib.hid (ownG_put HO1.out (x14_len D) i hi x rfl)
  have HZ2 := Lib.hid (HZ1.out.kp (kpo_setCells (O := fun k => k = g) rfl (xR x) (i * 10) W1) (fun k e => by rw [e]; exact hg))
  go_wp2_with (first
    | (refine plV rfl (.agg (xR x).toArray) (exec_load_any _ (.tmp 5) rfl (w.heap.size + 1) 0 (xR x) _ rfl (rangeAll HZ1.out.x) Tryd.underlying50 rfl x14_info) ?_)
    | (refine wpList_store_mid rfl 50 (.tmp 23) (.tmp 22) rfl g (i * 10) (xR x).toArray rfl rfl HTH.out x14_info (all_oneCell_toArray (x14_one x)) ?_; refine Hid.out ?_))
  refine Lib.hid ?_
  generalize W1.setCells g (i * 10) (xR x) = W2 at *
  have HO3 := Lib.hid HO2.out
  have c2 := (HZ2.out.p.cell 2).trans (show _ = some (.slice a D.length cap) from rfl)
  have f2 := HZ2.out.p.frozen 2
  have HZ4 := Lib.hid (show AtZ w _ (p14R is room (.slice (some ⟨g, 0, none⟩) D.length d1)) x _ from HZ2.out.putP (.slice (some ⟨g, 0, none⟩) D.length d1))
  have HO4 := Lib.hid (own_kp HO3.out (KpO.set (O := fun k => k = w.heap.size) W2 w.heap.size 2 (.slice (some ⟨g, 0, none⟩) D.length d1) rfl) (fun k e q => by have := (HO3.out.lt k e).1; omega))
  clear HZ2 HO3 HO2 HTH HO1 HZ1
  go_wp2_with (first
    | (refine plV rfl (p14V is room (.slice (some ⟨g, 0, none⟩) D.length d1)) (exec_load_any _ (.tmp 3) rfl w.heap.size 0 _ _ rfl (rangeAll HZ4.out.p) Tryd.underlying32 rfl p14_info) ?_)
    | (refine wpList_store_bx rfl 32 (.tmp 6) (.tmp 26) rfl (w.heap.size + 1 + 1) (p14R is room (.slice (some ⟨g, 0, none⟩) D.length d1)) _ rfl rfl HZ4.out.r p14_info rfl (p14_one _ _ _ rfl) ?_; refine Hid.out ?_))
  refine Lib.hid ?_
  go_wp2
  have HO5 := own_mono (own_kp HO4.out (kp_row (O := fun k => k = w.heap.size + 1 + 1) _ _ (p14R is room (.slice (some ⟨g, 0, none⟩) D.length d1)).toArray rfl) (fun k e q => by have := (HO4.out.lt k e).1; omega)) (show w.heap.size ≤ w.heap.size + 3 by omega)
  exact bodyPost_ret (results_cell_row Tryd.results33 _ _ (w.heap.size + 1 + 1) _ _ _ _ rfl (HZ4.out.r.row (p14R is room (.slice (some ⟨g, 0, none⟩) D.length d1))) Tryd.underlying32 rfl p14_info) rfl ⟨_, rfl, HO5, rfl, (HZ4.out.ans (p14R is room (.slice (some ⟨g, 0, none⟩) D.length d1))).b⟩
end Go.Proofs.YtoliijajhikhgaaDoor
