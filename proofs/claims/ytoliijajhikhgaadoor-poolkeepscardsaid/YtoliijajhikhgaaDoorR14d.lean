/- The document's pool (footplateref14): Ref, Unref. -/
import Derived.Test.YtoliijajhikhgaaDoorR14c
namespace Go.Proofs.YtoliijajhikhgaaDoor
open Go Go.RowKit

theorem beq_eq_decide_p14 (a : Int) : (a == 0) = decide (a = 0) := rfl
theorem exec_store_bx14 {ρ : Operand → Value} {o : Oper} {w : World} (ty : TypeId) (x y : Operand) (ho : o.op = .store ty x y) (g : Nat) (l m : List Value) (hx : ρ x = .pointer (some ⟨g, 0, none⟩)) (hy : ρ y = .agg l.toArray)
    (hg : Bx w g ty m) (hi : (Tryd.prog.info? ty).map (·.size) = some l.length) (hold : m.length = l.length) (h1 : ∀ v ∈ l, v.oneCell' = true) :
    (execOp ρ o).run Tryd.prog w = .ok .skip (w.setRow g l.toArray) := by
  unfold execOp
  have := run_storeVar_row (P := Tryd.prog) w g ty ty m.toArray l.toArray hg (by simpa using hi) (by simpa using hold) (all_oneCell_toArray h1)
  simp only [ho, hx, hy, Instr.storeAt, Instr.sureAddr, Sem.run_bind, Sem.run_pure, Result.andThen_ok, this]
/-- The pool's box, the answer's, the thing's. -/
structure RfZ (w W : World) (l m : List Value) (g : Nat) (x : Th14) : Prop where
  p : Bx W w.heap.size 32 l
  r : Bx W (w.heap.size + 1) 32 m
  x : Bx W g 50 (xR x)
  b : Below w.heap.size w W
  n : w.heap.size + 2 ≤ g
section
variable {w W W' : World} {l m : List Value} {g : Nat} {x : Th14}
theorem RfZ.up (h : RfZ w W l m g x) (hb : Below W.heap.size W W') : RfZ w W' l m g x := ⟨h.p.up hb, h.r.up hb, h.x.up hb, below_up h.b hb h.b.size, h.n⟩
theorem RfZ.low (h : RfZ w W l m g x) : w.heap.size + 2 ≤ W.heap.size := Nat.le_trans h.n (Nat.le_of_lt h.x.lt)
theorem RfZ.take (h : RfZ w W l m g x) (y : Th14) : RfZ w (W.setRow g (xR y).toArray) l m g y := have h2 := h.n; ⟨h.p.rowOther (by omega) _, h.r.rowOther (by omega) _, h.x.row _, below_row h.b (by omega) _, h.n⟩
theorem RfZ.use (h : RfZ w W l m g x) (u : Int) : RfZ w (W.setCell ⟨g, 9, none⟩ (.int .i64 u)) l m g { x with u := u } := have h2 := h.n; ⟨h.p.setOther (by omega) 9 _, h.r.setOther (by omega) 9 _, h.x.set 9 _, h.b.setCell (p := ⟨g, 9, none⟩) (show w.heap.size ≤ g by omega) _, h.n⟩
theorem RfZ.ans (h : RfZ w W l m g x) (m' : List Value) : RfZ w (W.setRow (w.heap.size + 1) m'.toArray) l m' g x := have h2 := h.n; ⟨h.p.rowOther (by omega) _, h.r.row _, h.x.rowOther (by omega) _, below_row h.b (by omega) _, h.n⟩
end
set_option maxRecDepth 100000 in
set_option maxHeartbeats 8000000 in
theorem rref_no (room : Int) (v : Value) (D : List Th14) (id : Int) (w : World) (hC : IsC xR 10 w v D) (hu : (getX D id).u = 0) :
    Calls Tryd.prog 24 #[p14V true room v, .int .i64 id] w fun e w' => e = .returned (.tuple #[p14V true room v, .int .i64 31]) ∧ Below w.heap.size w w' := by
  obtain ⟨a, cap, rfl⟩ := isc_slice hC
  have hB2 := twoB_new w 32 32 (p14R true room (.slice a D.length cap)) (p14R false 0 (.slice none 0 0))
  have HG := Lib.hid (fun (W : World) (hb : Below w.heap.size w W) => rget14 true room _ D id W (hC.below hb))
  generalize getX D id = x at *
  have hu0 : (x.u == 0) = true := by simpa using hu
  have HB := Lib.hid hB2
  have ez : (#[.bool false, .int .i64 0, .slice none 0 0] : Array Value) = (p14R false 0 (.slice none 0 0)).toArray := rfl
  have ez2 : (#[.int .i64 0, .int .i64 0, .string ⟨#[]⟩, .int .i64 0, .slice none 0 0, .int .i64 0, .int .i64 0, .slice none 0 0, .bool false, .int .i64 0] : Array Value) = (xR th0).toArray := rfl
  have c0 := (hB2.1.cell 0).trans (show _ = some (.bool true) from rfl)
  rw [show p14V true room (.slice a D.length cap) = .agg (p14R true room (.slice a D.length cap)).toArray from rfl]
  clear hC hB2
  go_enter Tryd.func24, Tryd.ntmps24
  go_wp2_with (first
    | (refine plV rfl (p14V true room (.slice a D.length cap)) (exec_load_any _ (.tmp 2) rfl w.heap.size 0 _ _ rfl (rangeAll HB.out.1) Tryd.underlying32 rfl p14_info) ?_)
    | (go_at_call 18; refine (HG.out _ HB.out.2.2).mono ?_; rintro e w1 ⟨rfl, b1⟩; refine Hid.out ?_))
  refine Lib.hid ?_
  have h1 := HB.out.up b1
  have hs1 := HB.out.2.1.lt
  have HZ0 := Lib.hid (show RfZ w _ _ _ w1.heap.size th0 from ⟨h1.1.al (.cells (xR th0).toArray 50), h1.2.1.al _, Bx.new w1 50 (xR th0), h1.2.2.alloc h1.2.2.size _, by have := b1.size; omega⟩)
  have HZ := Lib.hid (HZ0.out.take x)
  have c9 := (HZ.out.x.cell 9).trans (show _ = some (.int .i64 x.u) from rfl)
  clear h1 hs1 b1 HB c0 HG
  go_wp2_with (first
    | (refine wpList_store_bx rfl 50 (.tmp 6) (.tmp 13) rfl w1.heap.size (xR x) _ rfl rfl HZ0.out.x x14_info rfl (x14_one _) ?_)
    | (refine plV rfl (p14V true room (.slice a D.length cap)) (exec_load_any _ (.tmp 2) rfl w.heap.size 0 _ _ rfl (rangeAll HZ.out.p) Tryd.underlying32 rfl p14_info) ?_)
    | (refine wpList_store_bx rfl 32 (.tmp 4) (.tmp 17) rfl (w.heap.size + 1) (p14R true room (.slice a D.length cap)) _ rfl rfl HZ.out.r p14_info rfl (p14_one _ _ _ rfl) ?_; refine Hid.out ?_))
  refine Lib.hid ?_
  go_wp2
  exact bodyPost_ret (results_row2 Tryd.results24 _ _ (w.heap.size + 1) _ rfl (HZ.out.r.row (p14R true room (.slice a D.length cap))) Tryd.underlying32 rfl p14_info) rfl ⟨rfl, (HZ.out.ans (p14R true room (.slice a D.length cap))).b⟩
set_option maxRecDepth 100000 in
set_option maxHeartbeats 8000000 in
theorem rref_any (room : Int) (v : Value) (D : List Th14) (i : Nat) (x : Th14) (w : World) (hC : IsC xR 10 w v D) (hD : D.length ≤ 9000) (hx : D[i]? = some x) (hu : 0 < x.u) (hu2 : x.u ≤ 100000) :
    Calls Tryd.prog 24 #[p14V true room v, .int .i64 (i : Int)] w fun e w' => ∃ v', e = .returned (.tuple #[p14V true room v', .int .i64 0]) ∧ w'.ownsRow w.heap.size 50 10 v' D.length ((D.set i { x with u := x.u + 1 }).flatMap xR) ∧ v'.oneCell' = true ∧ Below w.heap.size w w' := by
  obtain ⟨a, cap, rfl⟩ := isc_slice hC
  have hB2 := twoB_new w 32 32 (p14R true room (.slice a D.length cap)) (p14R false 0 (.slice none 0 0))
  have HG := Lib.hid (fun (W : World) (hb : Below w.heap.size w W) => rget14 true room _ D (i : Int) W (hC.below hb))
  rw [getX_at hx (by omega)] at HG
  have hi := (List.getElem?_eq_some_iff.1 hx).1
  have HAT := Lib.hid (fun (W : World) (hb : Below w.heap.size w W) => rat_set true room _ D i { x with u := x.u + 1 } W (hC.below hb) (by omega) hi)
  have hu0 : (x.u == 0) = false := by simp; omega
  have kk : IntKind.i64.wrap (x.u + 1) = x.u + 1 := by simp [IntKind.wrap, IntKind.bits, IntKind.signed]; omega
  have HB := Lib.hid hB2
  have ez : (#[.bool false, .int .i64 0, .slice none 0 0] : Array Value) = (p14R false 0 (.slice none 0 0)).toArray := rfl
  have ez2 : (#[.int .i64 0, .int .i64 0, .string ⟨#[]⟩, .int .i64 0, .slice none 0 0, .int .i64 0, .int .i64 0, .slice none 0 0, .bool false, .int .i64 0] : Array Value) = (xR th0).toArray := rfl
  have c0 := (hB2.1.cell 0).trans (show _ = some (.bool true) from rfl)
  rw [show p14V true room (.slice a D.length cap) = .agg (p14R true room (.slice a D.length cap)).toArray from rfl]
  clear hC hB2
  go_enter Tryd.func24, Tryd.ntmps24
  go_wp2_with (first
    | (refine plV rfl (p14V true room (.slice a D.length cap)) (exec_load_any _ (.tmp 2) rfl w.heap.size 0 _ _ rfl (rangeAll HB.out.1) Tryd.underlying32 rfl p14_info) ?_)
    | (go_at_call 18; refine (HG.out _ HB.out.2.2).mono ?_; rintro e w1 ⟨rfl, b1⟩; refine Hid.out ?_))
  refine Lib.hid ?_
  have h1 := HB.out.up b1
  have hs1 := HB.out.2.1.lt
  have HZ0 := Lib.hid (show RfZ w _ _ _ w1.heap.size th0 from ⟨h1.1.al (.cells (xR th0).toArray 50), h1.2.1.al _, Bx.new w1 50 (xR th0), h1.2.2.alloc h1.2.2.size _, by have := b1.size; omega⟩)
  have HZ := Lib.hid (HZ0.out.take x)
  have c9 := (HZ.out.x.cell 9).trans (show _ = some (.int .i64 x.u) from rfl)
  have f9 := HZ.out.x.frozen 9
  have HZU := Lib.hid (HZ.out.use (x.u + 1))
  clear h1 hs1 b1 HB c0 HG
  go_wp2_with (first
    | (refine wpList_store_bx rfl 50 (.tmp 6) (.tmp 13) rfl w1.heap.size (xR x) _ rfl rfl HZ0.out.x x14_info rfl (x14_one _) ?_)
    | (refine plV rfl (p14V true room (.slice a D.length cap)) (exec_load_any _ (.tmp 2) rfl w.heap.size 0 _ _ rfl (rangeAll HZU.out.p) Tryd.underlying32 rfl p14_info) ?_)
    | (refine plV rfl (.agg (xR { x with u := x.u + 1 }).toArray) (exec_load_any _ (.tmp 6) rfl w1.heap.size 0 _ _ rfl (rangeAll HZU.out.x) Tryd.underlying50 rfl x14_info) ?_)
    | (go_at_call 33; refine (HAT.out _ HZU.out.b).mono ?_; rintro e w4 ⟨v', rfl, hO, h1, b4⟩; refine Hid.out ?_))
  refine Lib.hid ?_
  obtain ⟨a2, n2, d2, rfl⟩ := slice_ex hO
  have HZ4 := Lib.hid (HZU.out.up b4)
  have HO4 := Lib.hid (own_mono hO HZU.out.low)
  have d9 := (HZ4.out.x.cell 9).trans (show _ = some (.int .i64 (x.u + 1)) from rfl)
  clear hO h1 b4 HZ0 HZ HZU c9 f9 HAT
  go_wp2_with (refine wpList_store_bx rfl 32 (.tmp 4) (.tmp 25) rfl (w.heap.size + 1) (p14R true room (.slice a2 n2 d2)) _ rfl rfl HZ4.out.r p14_info rfl (p14_one _ _ _ rfl) ?_; refine Hid.out ?_)
  refine Lib.hid ?_
  go_wp2
  exact bodyPost_ret (results_row2 Tryd.results24 _ _ (w.heap.size + 1) _ rfl (HZ4.out.r.row (p14R true room (.slice a2 n2 d2))) Tryd.underlying32 rfl p14_info) rfl ⟨_, rfl, own_mono (own_kp HO4.out (kp_row (O := fun k => k = w.heap.size + 1) _ _ _ rfl) (fun k e q => by have := (HO4.out.lt k e).1; omega)) (by omega), rfl, (HZ4.out.ans (p14R true room (.slice a2 n2 d2))).b⟩
set_option maxRecDepth 100000 in
set_option maxHeartbeats 8000000 in
theorem runref_no (room : Int) (v : Value) (D : List Th14) (id : Int) (w : World) (hC : IsC xR 10 w v D) (hu : (getX D id).u = 0) :
    Calls Tryd.prog 25 #[p14V true room v, .int .i64 id] w fun e w' => e = .returned (.tuple #[p14V true room v, .bool false, .int .i64 31]) ∧ Below w.heap.size w w' := by
  obtain ⟨a, cap, rfl⟩ := isc_slice hC
  have hB2 := twoB_new w 32 32 (p14R true room (.slice a D.length cap)) (p14R false 0 (.slice none 0 0))
  have HG := Lib.hid (fun (W : World) (hb : Below w.heap.size w W) => rget14 true room _ D id W (hC.below hb))
  generalize getX D id = x at *
  have hu0 : (x.u == 0) = true := by simpa using hu
  have HB := Lib.hid hB2
  have ez : (#[.bool false, .int .i64 0, .slice none 0 0] : Array Value) = (p14R false 0 (.slice none 0 0)).toArray := rfl
  have ez2 : (#[.int .i64 0, .int .i64 0, .string ⟨#[]⟩, .int .i64 0, .slice none 0 0, .int .i64 0, .int .i64 0, .slice none 0 0, .bool false, .int .i64 0] : Array Value) = (xR th0).toArray := rfl
  have c0 := (hB2.1.cell 0).trans (show _ = some (.bool true) from rfl)
  rw [show p14V true room (.slice a D.length cap) = .agg (p14R true room (.slice a D.length cap)).toArray from rfl]
  clear hC hB2
  go_enter Tryd.func25, Tryd.ntmps25
  go_wp2_with (first
    | (refine plV rfl (p14V true room (.slice a D.length cap)) (exec_load_any _ (.tmp 2) rfl w.heap.size 0 _ _ rfl (rangeAll HB.out.1) Tryd.underlying32 rfl p14_info) ?_)
    | (go_at_call 18; refine (HG.out _ HB.out.2.2).mono ?_; rintro e w1 ⟨rfl, b1⟩; refine Hid.out ?_))
  refine Lib.hid ?_
  have h1 := HB.out.up b1
  have hs1 := HB.out.2.1.lt
  have HZ0 := Lib.hid (show RfZ w _ _ _ w1.heap.size th0 from ⟨h1.1.al (.cells (xR th0).toArray 50), h1.2.1.al _, Bx.new w1 50 (xR th0), h1.2.2.alloc h1.2.2.size _, by have := b1.size; omega⟩)
  have HZ := Lib.hid (HZ0.out.take x)
  have c9 := (HZ.out.x.cell 9).trans (show _ = some (.int .i64 x.u) from rfl)
  clear h1 hs1 b1 HB c0 HG
  go_wp2_with (first
    | (refine wpList_store_bx rfl 50 (.tmp 7) (.tmp 14) rfl w1.heap.size (xR x) _ rfl rfl HZ0.out.x x14_info rfl (x14_one _) ?_)
    | (refine plV rfl (p14V true room (.slice a D.length cap)) (exec_load_any _ (.tmp 2) rfl w.heap.size 0 _ _ rfl (rangeAll HZ.out.p) Tryd.underlying32 rfl p14_info) ?_)
    | (refine wpList_store_bx rfl 32 (.tmp 4) (.tmp 18) rfl (w.heap.size + 1) (p14R true room (.slice a D.length cap)) _ rfl rfl HZ.out.r p14_info rfl (p14_one _ _ _ rfl) ?_; refine Hid.out ?_))
  refine Lib.hid ?_
  go_wp2
  exact bodyPost_ret (results_row3 Tryd.results25 _ _ (w.heap.size + 1) _ rfl (HZ.out.r.row (p14R true room (.slice a D.length cap))) Tryd.underlying32 rfl p14_info) rfl ⟨rfl, (HZ.out.ans (p14R true room (.slice a D.length cap))).b⟩
def UnS (h g : Nat) (room : Int) (v : Value) (y : Th14) (W : World) : Prop := W.rangeAt h 0 (p14R true room v) ∧ W.rangeAt g 0 (xR y) ∧ W.cell? ⟨g, 9, none⟩ = some (.int .i64 y.u)
theorem RfZ.held {w W : World} {room : Int} {v : Value} {m : List Value} {g : Nat} {x : Th14} (h : RfZ w W (p14R true room v) m g x) : UnS w.heap.size g room v x W := ⟨rangeAll h.p, rangeAll h.x, h.x.cell 9⟩
set_option maxRecDepth 100000 in
set_option maxHeartbeats 8000000 in
theorem runref_any (room : Int) (v : Value) (D : List Th14) (i : Nat) (x : Th14) (w : World) (hC : IsC xR 10 w v D) (hD : D.length ≤ 9000) (hx : D[i]? = some x) (hu : 0 < x.u) (hu2 : x.u ≤ 100000) :
    Calls Tryd.prog 25 #[p14V true room v, .int .i64 (i : Int)] w fun e w' => ∃ v', e = .returned (.tuple #[p14V true room v', .bool (decide (x.u - 1 = 0)), .int .i64 0]) ∧ w'.ownsRow w.heap.size 50 10 v' D.length ((D.set i { x with u := x.u - 1 }).flatMap xR) ∧ v'.oneCell' = true ∧ Below w.heap.size w w' := by
  obtain ⟨a, cap, rfl⟩ := isc_slice hC
  have hB2 := twoB_new w 32 32 (p14R true room (.slice a D.length cap)) (p14R false 0 (.slice none 0 0))
  have HG := Lib.hid (fun (W : World) (hb : Below w.heap.size w W) => rget14 true room _ D (i : Int) W (hC.below hb))
  rw [getX_at hx (by omega)] at HG
  have hi := (List.getElem?_eq_some_iff.1 hx).1
  have HAT := Lib.hid (fun (W : World) (hb : Below w.heap.size w W) => rat_set true room _ D i { x with u := x.u - 1 } W (hC.below hb) (by omega) hi)
  have hu0 : (x.u == 0) = false := by simp; omega
  have kk : IntKind.i64.wrap (x.u - 1) = x.u - 1 := by simp [IntKind.wrap, IntKind.bits, IntKind.signed]; omega
  obtain ⟨q, hq⟩ : ∃ q : Bool, q = decide (x.u - 1 = 0) := ⟨_, rfl⟩
  have hq2 : (x.u - 1 == 0) = q := by rw [hq]; exact beq_eq_decide_p14 _
  rw [← hq]
  obtain ⟨y, hy⟩ : ∃ y, y = ({ x with u := x.u - 1 } : Th14) := ⟨_, rfl⟩
  obtain ⟨u', hu'⟩ : ∃ u', u' = x.u - 1 := ⟨_, rfl⟩
  have hyu : y.u = u' := by rw [hy, hu']
  have hyy : ({ x with u := u' } : Th14) = y := by rw [hy, hu']
  rw [← hy] at HAT ⊢
  rw [← hu'] at hq2
  have kk2 : IntKind.i64.wrap (x.u - 1) = u' := by rw [kk, hu']
  clear hy hu' hq kk
  have HB := Lib.hid hB2
  have ez : (#[.bool false, .int .i64 0, .slice none 0 0] : Array Value) = (p14R false 0 (.slice none 0 0)).toArray := rfl
  have ez2 : (#[.int .i64 0, .int .i64 0, .string ⟨#[]⟩, .int .i64 0, .slice none 0 0, .int .i64 0, .int .i64 0, .slice none 0 0, .bool false, .int .i64 0] : Array Value) = (xR th0).toArray := rfl
  have c0 := (hB2.1.cell 0).trans (show _ = some (.bool true) from rfl)
  rw [show p14V true room (.slice a D.length cap) = .agg (p14R true room (.slice a D.length cap)).toArray from rfl]
  clear hC hB2
  go_enter Tryd.func25, Tryd.ntmps25
  go_wp2_with (first
    | (refine plV rfl (p14V true room (.slice a D.length cap)) (exec_load_any _ (.tmp 2) rfl w.heap.size 0 _ _ rfl (rangeAll HB.out.1) Tryd.underlying32 rfl p14_info) ?_)
    | (go_at_call 18; refine (HG.out _ HB.out.2.2).mono ?_; rintro e w1 ⟨rfl, b1⟩; refine Hid.out ?_))
  refine Lib.hid ?_
  have h1 := HB.out.up b1
  have hs1 := HB.out.2.1.lt
  have HZ0 := Lib.hid (show RfZ w _ _ _ w1.heap.size th0 from ⟨h1.1.al (.cells (xR th0).toArray 50), h1.2.1.al _, Bx.new w1 50 (xR th0), h1.2.2.alloc h1.2.2.size _, by have := b1.size; omega⟩)
  have HZ := Lib.hid (HZ0.out.take x)
  have c9 := (HZ.out.x.cell 9).trans (show _ = some (.int .i64 x.u) from rfl)
  have f9 := HZ.out.x.frozen 9
  have HZU2 := Lib.hid (HZ.out.use u')
  rw [hyy] at HZU2
  clear h1 hs1 b1 HB c0 HG
  go_wp2_with (refine wpList_store_bx rfl 50 (.tmp 7) (.tmp 14) rfl w1.heap.size (xR x) _ rfl rfl HZ0.out.x x14_info rfl (x14_one _) ?_)
  have HZ1 := Lib.hid HZU2.out.held
  generalize ((w1.alloc (.cells (xR th0).toArray 50)).setRow w1.heap.size (xR x).toArray).setCell ⟨w1.heap.size, 9, none⟩ (.int .i64 u') = W2 at *
  clear HZ HZ0 c9 f9
  have HZ3 := Lib.hid (HZU2.out.up (Below.refl _ _).drew)
  refine wp_region_noPanic ?_
  refine wp_region_held_drew (S := UnS w.heap.size w1.heap.size room (.slice a D.length cap) y) (by kernel_rfl) HZ3.out.held (fun hHeld => ?_)
  generalize W2.drew = W3 at *
  clear HZU2 HZ1
  refine held_take (v := p14V true room (.slice a D.length cap)) 0 rfl (by kernel_rfl) (by kernel_rfl) (by kernel_rfl) (fun _ _ _ h => h) (by rfl) (fun W hSw => exec_load_any _ (.tmp 2) rfl w.heap.size 0 _ _ rfl hSw.1 Tryd.underlying32 rfl p14_info) (by assumption) ?_
  simp only [List.setIfInBounds_toArray, List.set_cons_zero, List.set_cons_succ]
  refine held_take (v := ?v195) 1 rfl (by kernel_rfl) (by kernel_rfl) (by kernel_rfl) (fun _ _ _ h => h) (by rfl) ?y195 (by assumption) ?_
  case y195 => (intro w hSw; unfold UnS at hSw; go_simp; (try with_reducible rfl); (try omega))
  simp only [List.setIfInBounds_toArray, List.set_cons_zero, List.set_cons_succ]
  refine held_take (v := .agg (xR y).toArray) 2 rfl (by kernel_rfl) (by kernel_rfl) (by kernel_rfl) (fun _ _ _ h => h) (by rfl) (fun W hSw => exec_load_any _ (.tmp 7) rfl w1.heap.size 0 _ _ rfl hSw.2.1 Tryd.underlying50 rfl x14_info) (by assumption) ?_
  simp only [List.setIfInBounds_toArray, List.set_cons_zero, List.set_cons_succ]
  refine held_take (v := ?v200) 4 rfl (by kernel_rfl) (by kernel_rfl) (by kernel_rfl) (fun _ _ _ h => h) (by rfl) ?y200 (by assumption) ?_
  case y200 => (intro w hSw; unfold UnS at hSw; go_simp; (try with_reducible rfl); (try omega))
  simp only [List.setIfInBounds_toArray, List.set_cons_zero, List.set_cons_succ]
  refine held_take (v := ?v203) 5 rfl (by kernel_rfl) (by kernel_rfl) (by kernel_rfl) (fun _ _ _ h => h) (by rfl) ?y203 (by assumption) ?_
  case y203 => (intro w hSw; unfold UnS at hSw; go_simp; (try with_reducible rfl); (try omega))
  simp only [List.setIfInBounds_toArray, List.set_cons_zero, List.set_cons_succ]
  refine held_take (v := ?v206) 6 rfl (by kernel_rfl) (by kernel_rfl) (by kernel_rfl) (fun _ _ _ h => h) (by rfl) ?y206 (by assumption) ?_
  case y206 => (intro w hSw; unfold UnS at hSw; go_simp; (try with_reducible rfl); (try omega))
  simp only [List.setIfInBounds_toArray, List.set_cons_zero, List.set_cons_succ]
  refine held_one 3 rfl (by kernel_rfl) (by rfl) (fun K hK => ?_)
  go_simp
  refine (HAT.out _ HZ3.out.b).mono ?_
  rintro e w4 ⟨v', rfl, hO, h1, b4⟩
  obtain ⟨a2, n2, d2, rfl⟩ := slice_ex hO
  have HZ4 := Lib.hid (HZ3.out.up b4)
  have HO4 := Lib.hid (own_mono hO HZ3.out.low)
  refine hK.out _ _ HZ4.out.held (fun hHeld => ?_)
  clear hK K hO h1 b4 HAT HZ3
  refine held_none 7 rfl (by kernel_rfl) (by rfl) (fun K hK => ?_)
  refine wp_of_skip (exec_store_bx14 _ (.tmp 4) (.tmp 26) rfl (w.heap.size + 1) (p14R true room (.slice a2 n2 d2)) _ rfl rfl HZ4.out.r p14_info rfl (p14_one _ _ _ rfl)) ?_
  have HZ5 := Lib.hid (HZ4.out.ans (p14R true room (.slice a2 n2 d2)))
  have HO5 := Lib.hid (own_mono (own_kp HO4.out (kp_row (O := fun k => k = w.heap.size + 1) _ _ (p14R true room (.slice a2 n2 d2)).toArray rfl) (fun k e q => by have := (HO4.out.lt k e).1; omega)) (show w.heap.size ≤ _ by omega))
  refine hK.out _ _ HZ5.out.held (fun hHeld => ?_)
  clear hK K HZ4 HO4
  generalize w4.setRow (w.heap.size + 1) (p14R true room (.slice a2 n2 d2)).toArray = w5 at *
  refine held_take (v := ?v225) 8 rfl (by kernel_rfl) (by kernel_rfl) (by kernel_rfl) (fun _ _ _ h => h) (by rfl) ?y225 (by assumption) ?_
  case y225 => (intro w hSw; unfold UnS at hSw; go_simp; (try with_reducible rfl); (try omega))
  simp only [List.setIfInBounds_toArray, List.set_cons_zero, List.set_cons_succ]
  refine held_take (v := ?v228) 9 rfl (by kernel_rfl) (by kernel_rfl) (by kernel_rfl) (fun _ _ _ h => h) (by rfl) ?y228 (by assumption) ?_
  case y228 => (intro w hSw; unfold UnS at hSw; go_simp; (try with_reducible rfl); (try omega))
  simp only [List.setIfInBounds_toArray, List.set_cons_zero, List.set_cons_succ]
  refine wpAnyH_done (by kernel_rfl) ?_ _
  refine NoPanic.normal ?_
  go_wp2
  exact bodyPost_ret (results_row3 Tryd.results25 _ _ (w.heap.size + 1) _ rfl HZ5.out.r Tryd.underlying32 rfl p14_info) rfl ⟨_, rfl, HO5.out, rfl, HZ5.out.b⟩
end Go.Proofs.YtoliijajhikhgaaDoor
