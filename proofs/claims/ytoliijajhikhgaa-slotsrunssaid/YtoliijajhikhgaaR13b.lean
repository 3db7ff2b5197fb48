/- The document's table of stage 13: New, Get, Put, Delete. -/
import Derived.Test.YtoliijajhikhgaaR13a
namespace Go.Proofs.Ytoliijajhikhgaa
open Go Go.RowKit

/-- A table by value. -/
def t3R (is : Bool) (room : Int) (v : Value) : List Value := [.bool is, .int .i64 room, v]
def t3V (is : Bool) (room : Int) (v : Value) : Value := .agg (t3R is room v).toArray
theorem t3_info : (Try.prog.info? 28).map (·.size) = some 3 := by kernel_rfl
theorem t3_one (is : Bool) (room : Int) (v : Value) (hv : v.oneCell' = true) : ∀ u ∈ t3R is room v, u.oneCell' = true := by
  intro u hu
  unfold t3R at hu
  simp only [List.mem_cons] at hu
  rcases hu with rfl | rfl | rfl | hu
  · rfl
  · rfl
  · exact hv
  · cases hu
theorem built_t30 : Try.prog.built 28 [] = some (t3R false 0 (.slice none 0 0)).toArray := by kernel_rfl
theorem built_t32 (room : Int) : Try.prog.built 28 [(0, .bool true), (1, .int .i64 room)] = some (t3R true room (.slice none 0 0)).toArray := by kernel_rfl
set_option maxRecDepth 100000 in
set_option maxHeartbeats 4000000 in
theorem rnew13_no (room : Int) (w : World) (h : ¬ (1 ≤ room ∧ room ≤ 65536)) : Calls Try.prog 8 #[.int .i64 room] w fun e w' => e = .returned (t3V false 0 (.slice none 0 0)) ∧ Below w.heap.size w w' := by
  have ez : (#[.bool false, .int .i64 0, .slice none 0 0] : Array Value) = (t3R false 0 (.slice none 0 0)).toArray := rfl
  have HX := Lib.hid (Bx.new w 28 (t3R false 0 (.slice none 0 0)))
  have HB := Lib.hid ((Below.refl w.heap.size w).alloc (Nat.le_refl _) (.cells (t3R false 0 (.slice none 0 0)).toArray 28))
  by_cases h1 : room < 1
  · clear h
    go_enter Try.func8, Try.ntmps8
    go_wp2_with (refine wpList_store_bx rfl 28 (.tmp 2) (.tmp 9) rfl w.heap.size (t3R false 0 (.slice none 0 0)) (t3R false 0 (.slice none 0 0)) rfl rfl HX.out t3_info rfl (t3_one _ _ _ rfl) ?_; refine Hid.out ?_)
    refine Lib.hid ?_
    go_wp2
    exact bodyPost_ret (results_cell_row Try.results8 _ _ w.heap.size _ _ _ _ rfl (HX.out.row _) Try.underlying28 rfl t3_info) rfl ⟨rfl, below_row HB.out (Nat.le_refl _) _⟩
  · have h2 : room > 65536 := by omega
    clear h
    go_enter Try.func8, Try.ntmps8
    go_wp2_with (refine wpList_store_bx rfl 28 (.tmp 2) (.tmp 9) rfl w.heap.size (t3R false 0 (.slice none 0 0)) (t3R false 0 (.slice none 0 0)) rfl rfl HX.out t3_info rfl (t3_one _ _ _ rfl) ?_; refine Hid.out ?_)
    refine Lib.hid ?_
    go_wp2
    exact bodyPost_ret (results_cell_row Try.results8 _ _ w.heap.size _ _ _ _ rfl (HX.out.row _) Try.underlying28 rfl t3_info) rfl ⟨rfl, below_row HB.out (Nat.le_refl _) _⟩
set_option maxRecDepth 100000 in
set_option maxHeartbeats 4000000 in
theorem rnew13_yes (room : Int) (w : World) (h1 : 1 ≤ room) (h2 : room ≤ 65536) : Calls Try.prog 8 #[.int .i64 room] w fun e w' => e = .returned (t3V true room (.slice none 0 0)) ∧ Below w.heap.size w w' := by
  have ez : (#[.bool false, .int .i64 0, .slice none 0 0] : Array Value) = (t3R false 0 (.slice none 0 0)).toArray := rfl
  have HX := Lib.hid (Bx.new w 28 (t3R false 0 (.slice none 0 0)))
  have HB := Lib.hid ((Below.refl w.heap.size w).alloc (Nat.le_refl _) (.cells (t3R false 0 (.slice none 0 0)).toArray 28))
  go_enter Try.func8, Try.ntmps8
  go_wp2_with (first
    | (refine plV rfl (t3V true room (.slice none 0 0)) (exec_build2 _ 0 1 _ (.tmp 10) rfl (.bool true) (.int .i64 room) (t3R true room (.slice none 0 0)) rfl rfl (built_t32 room)) ?_)
    | (refine wpList_store_bx rfl 28 (.tmp 2) (.tmp 11) rfl w.heap.size (t3R true room (.slice none 0 0)) (t3R false 0 (.slice none 0 0)) rfl rfl HX.out t3_info rfl (t3_one _ _ _ rfl) ?_; refine Hid.out ?_))
  refine Lib.hid ?_
  go_wp2
  exact bodyPost_ret (results_cell_row Try.results8 _ _ w.heap.size _ _ _ _ rfl (HX.out.row _) Try.underlying28 rfl t3_info) rfl ⟨rfl, below_row HB.out (Nat.le_refl _) _⟩
set_option maxRecDepth 100000 in
set_option maxHeartbeats 4000000 in
theorem rget13 (is : Bool) (room : Int) (a : Option Addr) (n cap : Nat) (L : List (Int × Int)) (x : Int) (w : World) (hC : IsI13 w (.slice a n cap) L) (hl : L.length ≤ 1000000) :
    Calls Try.prog 14 #[t3V is room (.slice a n cap), .int .i64 x] w fun e w' => e = .returned (.tuple #[.int .i64 (get13 x L).1, .bool (get13 x L).2]) ∧ Below w.heap.size w w' := by
  have HX := Lib.hid (Bx.new w 28 (t3R is room (.slice a n cap)))
  have hB := (Below.refl w.heap.size w).alloc (Nat.le_refl _) (.cells (t3R is room (.slice a n cap)).toArray 28)
  have HB := Lib.hid hB
  have HF := Lib.hid (rfind13 a n cap L x _ (hC.below hB) hl)
  have c0 : (w.alloc (.cells (t3R is room (.slice a n cap)).toArray 28)).cell? ⟨w.heap.size, 2, none⟩ = some (.slice a n cap) := by rw [HX.out.cell]; rfl
  have HC := Lib.hid hC
  have HI := Lib.hid (show is13 x L = (get13 x L).2 from by
    cases h : is13 x L with
    | false => rw [is13_none h]
    | true => obtain ⟨v, _, _, h3⟩ := is13_parts h; rw [h3])
  obtain ⟨j, hjj⟩ : ∃ j, j = idx13 x L := ⟨_, rfl⟩
  obtain ⟨q, hq⟩ : ∃ q, q = get13 x L := ⟨_, rfl⟩
  rw [show t3V is room (.slice a n cap) = .agg (t3R is room (.slice a n cap)).toArray from rfl, ← hq]
  rw [← hjj, HI.out, ← hq] at HF
  have HJ := Lib.hid hjj
  have HQ := Lib.hid hq
  clear hC hB hjj hq HI
  obtain ⟨qv, qb⟩ := q
  dsimp only at HF ⊢
  go_enter Try.func14, Try.ntmps14
  go_wp2_with (go_at_call 20; refine HF.out.mono ?_; rintro e w1 ⟨rfl, b1⟩; refine Hid.out ?_)
  refine Lib.hid ?_
  have hb1 := below_up HB.out b1 HB.out.size
  have hx1 := HX.out.up b1
  cases qb with
  | false =>
    have hz : qv = 0 := by
      rcases get13_two x L with h | ⟨v, h⟩
      · rw [← HQ.out] at h; exact (Prod.mk.inj h).1
      · rw [← HQ.out] at h; cases h
    subst hz
    have HB1 := Lib.hid hb1
    clear hb1 hx1 b1
    go_wp2
    go_ret2
    exact ⟨rfl, HB1.out⟩
  | true =>
    have hy : L[j]? = some (x, qv) := by
      cases h : is13 x L with
      | false => rw [is13_none h] at HQ; cases HQ.out
      | true =>
        obtain ⟨v, h1, _, h3⟩ := is13_parts h
        have h4 := HQ.out
        rw [h3] at h4
        cases h4
        rw [HJ.out]; exact h1
    obtain ⟨b, k, rfl, hbw, hr⟩ := isI_at (HC.out.below hb1) j _ hy
    obtain ⟨rfl, _, hcm, _⟩ := HC.out.shape
    unfold maxLen at hcm
    have hjl := (List.getElem?_eq_some_iff.1 hy).1
    have cv : w1.cell? ⟨b, k + j * 2 + 1, none⟩ = some (.int .i64 qv) := hr 1 _ rfl
    have c3 : w1.cell? ⟨w.heap.size, 2, none⟩ = some (.slice (some ⟨b, k, none⟩) L.length cap) := by rw [hx1.cell]; rfl
    have hji : (j : Int) < (L.length : Int) := by omega
    have hj0 : ¬ (j : Int) < 0 := by omega
    have HB1 := Lib.hid hb1
    clear hb1 hx1 b1 hy hr HC HF HQ HJ c0
    go_wp2
    go_ret2
    exact ⟨rfl, HB1.out⟩
theorem size_I13 (W : World) : (sizeOf 46).run Try.prog W = .ok 2 W := by
  have h : (Try.prog.info? 46).map (·.size) = some 2 := by kernel_rfl
  cases hq : Try.prog.info? 46 with
  | none => rw [hq] at h; cases h
  | some i =>
    rw [hq] at h
    have : i.size = 2 := by simpa using h
    simp [sizeOf, typeInfo, hq, this]
theorem slice_to13 {ρ : Operand → Value} {o : Oper} {W : World} (x y : Operand) (ho : o.op = .slice 26 x none (some y) none) (a : Option Addr) (n cap k : Nat) (hx : ρ x = .slice a n cap) (hy : ρ y = .int .i64 (k : Int)) (hk : k ≤ cap) :
    (execOp ρ o).run Try.prog W = .ok (.value (.slice a k cap)) W := by
  have h1 : (k : Int) ≤ (cap : Int) := by omega
  have h2 : (0 : Int) ≤ (k : Int) := by omega
  have h3 : a.map (fun x => x.add 0) = a := by cases a <;> simp [Addr.add]
  unfold execOp
  simp [ho, hx, hy, Instr.sliceAt, Instr.slice, run_underlying Try.underlying26, Instr.sliceBounds, run_sliceBound, h1, h3]
theorem slice_from13 {ρ : Operand → Value} {o : Oper} {W : World} (x y : Operand) (ho : o.op = .slice 26 x (some y) none none) (a : Option Addr) (n cap k : Nat) (hx : ρ x = .slice a n cap) (hy : ρ y = .int .i64 (k : Int)) (hk : k ≤ n) (hn : n ≤ cap) :
    (execOp ρ o).run Try.prog W = .ok (.value (.slice (if cap = k then a else a.map (fun x => x.add (k * 2))) (n - k) (cap - k))) W := by
  have h1 : (k : Int) ≤ (n : Int) := by omega
  have h2 : (0 : Int) ≤ (k : Int) := by omega
  have h4 : (n : Int) ≤ (cap : Int) := by omega
  unfold execOp
  simp [ho, hx, hy, Instr.sliceAt, Instr.slice, run_underlying Try.underlying26, Instr.sliceBounds, run_sliceBound, h1]
theorem isI_from {W : World} {a : Option Addr} {n cap : Nat} {L : List (Int × Int)} (h : IsI13 W (.slice a n cap) L) (k : Nat) (hk : k ≤ n) : IsI13 W (.slice (if cap = k then a else a.map (fun x => x.add (k * 2))) (n - k) (cap - k)) (L.drop k) := by
  obtain ⟨rfl, h1, h2, h3⟩ := h.shape
  by_cases hp : 0 < L.length - k
  · obtain ⟨b, o, rfl, hb, hr⟩ := h3 (by omega)
    have := h.drop k hk
    rw [if_neg (by omega)]
    have e : Option.map (fun x : Addr => x.add (k * 2)) (some ⟨b, o, none⟩) = some ⟨b, o + k * 2, none⟩ := by
      simp only [Option.map_some, Addr.add]
      split <;> simp_all
    rw [e]
    exact this
  · have e : L.drop k = [] := List.drop_of_length_le (by omega)
    rw [e]
    refine ⟨(fun _ h => by cases h), (if cap = k then a else a.map (fun x => x.add (k * 2))), cap - k, ?_, by simp, by omega, fun h => by simp at h⟩
    rw [show L.length - k = 0 by omega]
    rfl
theorem i13_infoF : (Try.prog.info? 46).map (fun i => (i.zero, i.size, i.bytes)) = some (some (iV (0, 0)), 2, 16) := by kernel_rfl
theorem built_i13 (p v : Int) : Try.prog.built 46 [(0, .int .i64 p), (1, .int .i64 v)] = some (iR (p, v)).toArray := by kernel_rfl
theorem exec_one_i13 {ρ : Operand → Value} {o : Oper} {w : World} (x : Operand) (ho : o.op = .buildSlice 26 1 #[(0, x)]) (s : Int × Int) (hx : ρ x = iV s) (b : Nat) (hb : w.heap.size = b) :
    (execOp ρ o).run Try.prog w = .ok (.value (.slice (some ⟨b, 0, none⟩) 1 1)) (w.alloc (.cells (iR s).toArray 46)) := by
  subst hb
  obtain ⟨i, hi, hz, hs, _⟩ := info_parts i13_infoF
  have := run_buildSlice (P := Try.prog) w 26 46 1 #[(0, iV s)] (iR s).toArray i (iV (0, 0)) Try.underlying26 hi hz (by rw [hs]; decide) (by rw [hs]; decide) (by rw [hs]; exact fill_it1 s _ (by simp))
  unfold execOp
  simp only [ho, List.map_toArray, List.map_cons, List.map_nil, hx, Sem.run_bind, this, Result.andThen_ok, Sem.run_pure]
theorem results_t3 {fn : Func} {u v : Tmp} (h : fn.results = #[.cell u 28, .tmp v]) (tmps : Array Value) (w : World) (g : Nat) (l : List Value) (hl : l.length = 3) (hp : tmps.getD u undef = .pointer (some ⟨g, 0, none⟩))
    (hg : Bx w g 28 l) : (results fn tmps).run Try.prog w = .ok (.tuple #[.agg l.toArray, tmps.getD v undef]) w := by
  rw [results_cell_tmp h, hp]
  have := run_loadVar_row (P := Try.prog) w g _ _ l.toArray (0, 0) _ hg Try.underlying28 rfl (by rw [t3_info]; simp [hl])
  simp only [asAddr, Sem.run_pure, Result.andThen_ok, this]
/-- The two boxes of Put and Delete: the table, the answer. -/
def PutB13 (w : World) (l : List Value) (W : World) : Prop := Bx W w.heap.size 28 l ∧ Bx W (w.heap.size + 1) 28 (t3R false 0 (.slice none 0 0)) ∧ Below w.heap.size w W
theorem PutB13.up {w : World} {l : List Value} {W W' : World} (h : PutB13 w l W) (hb : Below W.heap.size W W') : PutB13 w l W' := ⟨h.1.up hb, h.2.1.up hb, below_up h.2.2 hb h.2.2.size⟩
theorem putB13_new (w : World) (l : List Value) : PutB13 w l ((w.alloc (.cells l.toArray 28)).alloc (.cells (t3R false 0 (.slice none 0 0)).toArray 28)) := by
  have h := twoB_new w 28 28 l (t3R false 0 (.slice none 0 0))
  exact ⟨h.1, h.2.1, h.2.2⟩
theorem PutB13.grown {w : World} {l : List Value} {W W' : World} {row : Option Nat} (h : PutB13 w l W) (hg : W.grownBy W' row) (hr : ∀ k, row = some k → w.heap.size ≤ k ∧ k ≠ w.heap.size ∧ k ≠ w.heap.size + 1) : PutB13 w l W' :=
  ⟨(hg.block _ h.1.lt (fun e => (hr _ e.symm).2.1 rfl)).trans h.1, (hg.block _ h.2.1.lt (fun e => (hr _ e.symm).2.2 rfl)).trans h.2.1, h.2.2.grown hg h.2.2.size (fun k e => (hr k e).1)⟩
/-- What is answered: a table by value, and an error. -/
def RefT13 (w : World) (a0 : Option Addr) (L0 : List (Int × Int)) (is : Bool) (room : Int) (L : List (Int × Int)) (c : Int) (e : Ending) (w' : World) : Prop := (∃ a n cap, e = .returned (.tuple #[t3V is room (.slice a n cap), .int .i64 c]) ∧ IsI13 w' (.slice a n cap) L ∧ ((a = a0 ∧ L = L0) ∨ ∀ x, a = some x → w.heap.size ≤ x.block)) ∧ Below w.heap.size w w'
theorem isI_one {W : World} {b : Nat} {t : TypeId} {x : Int × Int} (h : Bx W b t (iR x)) : IsI13 W (.slice (some ⟨b, 0, none⟩) 1 1) [x] := by
  refine ⟨fun y hy => rfl, _, 1, rfl, by simp, by simp [maxLen], fun _ => ⟨b, 0, rfl, h.lt, ?_⟩⟩
  have := rangeAll h
  simpa using this
theorem iR_ones (L : List (Int × Int)) : ∀ y ∈ L, ∀ u ∈ iR y, u.oneCell' = true := fun y _ => iR_one y
/-- The call's own row lies apart from its boxes. -/
theorem own_apart13 {w W : World} {l : List Value} {v : Value} {n : Nat} {xs : List Value} (z : PutB13 w l W) (h : W.ownsRow w.heap.size 46 2 v n xs) : ∀ k, v.ownBlock = some k → w.heap.size ≤ k ∧ k ≠ w.heap.size ∧ k ≠ w.heap.size + 1 := by
  intro k hk
  obtain ⟨cur, hc⟩ := own_type h k hk
  refine ⟨(own_low13 h k hk).1, fun e => ?_, fun e => ?_⟩
  · rw [e, show W.heap[w.heap.size]? = _ from z.1] at hc; cases hc
  · rw [e, show W.heap[w.heap.size + 1]? = _ from z.2.1] at hc; cases hc
theorem own_slice13 {w : World} {base : Nat} {e : TypeId} {size : Nat} {v : Value} {n : Nat} {xs : List Value} (h : w.ownsRow base e size v n xs) : ∃ a c, v = .slice a n c := by
  rcases h.2 with ⟨rfl, rfl⟩ | ⟨g, cap, cur, rfl, _⟩
  · exact ⟨none, 0, rfl⟩
  · exact ⟨_, _, rfl⟩
set_option maxRecDepth 100000 in
set_option maxHeartbeats 8000000 in
theorem rput13_nil (room : Int) (a : Option Addr) (n cap : Nat) (L : List (Int × Int)) (x v : Int) (w : World) (hC : IsI13 w (.slice a n cap) L) :
    Calls Try.prog 10 #[t3V false room (.slice a n cap), .int .i64 x, .int .i64 v] w (RefT13 w a L false room L 1) := by
  have HZ := Lib.hid (putB13_new w (t3R false room (.slice a n cap)))
  have ez : (#[.bool false, .int .i64 0, .slice none 0 0] : Array Value) = (t3R false 0 (.slice none 0 0)).toArray := rfl
  have HC := Lib.hid hC
  have R1 := Lib.hid (rangeAll HZ.out.1)
  have c0 : ((w.alloc (.cells (t3R false room (.slice a n cap)).toArray 28)).alloc (.cells (t3R false 0 (.slice none 0 0)).toArray 28)).cell? ⟨w.heap.size, 0, none⟩ = some (.bool false) := by rw [HZ.out.1.cell]; rfl
  have c2 : ((w.alloc (.cells (t3R false room (.slice a n cap)).toArray 28)).alloc (.cells (t3R false 0 (.slice none 0 0)).toArray 28)).cell? ⟨w.heap.size, 2, none⟩ = some (.slice a n cap) := by rw [HZ.out.1.cell]; rfl
  unfold RefT13
  rw [show t3V false room (.slice a n cap) = .agg (t3R false room (.slice a n cap)).toArray from rfl]
  clear hC
  go_enter Try.func10, Try.ntmps10
  go_wp2_with (first
    | (refine plV rfl (t3V false room (.slice a n cap)) (exec_load_any _ (.tmp 3) rfl w.heap.size 0 (t3R false room (.slice a n cap)) _ rfl R1.out Try.underlying28 rfl t3_info) ?_)
    | (refine wpList_store_bx rfl 28 (.tmp 6) (.tmp 14) rfl (w.heap.size + 1) (t3R false room (.slice a n cap)) (t3R false 0 (.slice none 0 0)) rfl rfl HZ.out.2.1 t3_info rfl (t3_one _ _ _ rfl) ?_; refine Hid.out ?_))
  refine Lib.hid ?_
  go_wp2
  have hb := below_row HZ.out.2.2 (show w.heap.size ≤ w.heap.size + 1 by omega) (t3R false room (.slice a n cap)).toArray
  exact bodyPost_ret (results_t3 Try.results10 _ _ (w.heap.size + 1) (t3R false room (.slice a n cap)) rfl rfl (HZ.out.2.1.row _)) rfl ⟨⟨a, n, cap, rfl, HC.out.below hb, .inl ⟨rfl, by trivial⟩⟩, hb⟩
set_option maxRecDepth 100000 in
set_option maxHeartbeats 8000000 in
theorem rput13_low (room : Int) (a : Option Addr) (n cap : Nat) (L : List (Int × Int)) (x v : Int) (w : World) (hC : IsI13 w (.slice a n cap) L) (h1 : x < 0) :
    Calls Try.prog 10 #[t3V true room (.slice a n cap), .int .i64 x, .int .i64 v] w (RefT13 w a L true room L 40) := by
  have HZ := Lib.hid (putB13_new w (t3R true room (.slice a n cap)))
  have ez : (#[.bool false, .int .i64 0, .slice none 0 0] : Array Value) = (t3R false 0 (.slice none 0 0)).toArray := rfl
  have HC := Lib.hid hC
  have R1 := Lib.hid (rangeAll HZ.out.1)
  have c0 : ((w.alloc (.cells (t3R true room (.slice a n cap)).toArray 28)).alloc (.cells (t3R false 0 (.slice none 0 0)).toArray 28)).cell? ⟨w.heap.size, 0, none⟩ = some (.bool true) := by rw [HZ.out.1.cell]; rfl
  have c2 : ((w.alloc (.cells (t3R true room (.slice a n cap)).toArray 28)).alloc (.cells (t3R false 0 (.slice none 0 0)).toArray 28)).cell? ⟨w.heap.size, 2, none⟩ = some (.slice a n cap) := by rw [HZ.out.1.cell]; rfl
  unfold RefT13
  rw [show t3V true room (.slice a n cap) = .agg (t3R true room (.slice a n cap)).toArray from rfl]
  clear hC
  go_enter Try.func10, Try.ntmps10
  go_wp2_with (first
    | (refine plV rfl (t3V true room (.slice a n cap)) (exec_load_any _ (.tmp 3) rfl w.heap.size 0 (t3R true room (.slice a n cap)) _ rfl R1.out Try.underlying28 rfl t3_info) ?_)
    | (refine wpList_store_bx rfl 28 (.tmp 6) (.tmp 21) rfl (w.heap.size + 1) (t3R true room (.slice a n cap)) (t3R false 0 (.slice none 0 0)) rfl rfl HZ.out.2.1 t3_info rfl (t3_one _ _ _ rfl) ?_; refine Hid.out ?_))
  refine Lib.hid ?_
  go_wp2
  have hb := below_row HZ.out.2.2 (show w.heap.size ≤ w.heap.size + 1 by omega) (t3R true room (.slice a n cap)).toArray
  exact bodyPost_ret (results_t3 Try.results10 _ _ (w.heap.size + 1) (t3R true room (.slice a n cap)) rfl rfl (HZ.out.2.1.row _)) rfl ⟨⟨a, n, cap, rfl, HC.out.below hb, .inl ⟨rfl, by trivial⟩⟩, hb⟩
set_option maxRecDepth 100000 in
set_option maxHeartbeats 8000000 in
theorem rput13_high (room : Int) (a : Option Addr) (n cap : Nat) (L : List (Int × Int)) (x v : Int) (w : World) (hC : IsI13 w (.slice a n cap) L) (h0 : ¬ x < 0) (h1 : x > 1048575) :
    Calls Try.prog 10 #[t3V true room (.slice a n cap), .int .i64 x, .int .i64 v] w (RefT13 w a L true room L 40) := by
  have HZ := Lib.hid (putB13_new w (t3R true room (.slice a n cap)))
  have ez : (#[.bool false, .int .i64 0, .slice none 0 0] : Array Value) = (t3R false 0 (.slice none 0 0)).toArray := rfl
  have HC := Lib.hid hC
  have R1 := Lib.hid (rangeAll HZ.out.1)
  have c0 : ((w.alloc (.cells (t3R true room (.slice a n cap)).toArray 28)).alloc (.cells (t3R false 0 (.slice none 0 0)).toArray 28)).cell? ⟨w.heap.size, 0, none⟩ = some (.bool true) := by rw [HZ.out.1.cell]; rfl
  have c2 : ((w.alloc (.cells (t3R true room (.slice a n cap)).toArray 28)).alloc (.cells (t3R false 0 (.slice none 0 0)).toArray 28)).cell? ⟨w.heap.size, 2, none⟩ = some (.slice a n cap) := by rw [HZ.out.1.cell]; rfl
  unfold RefT13
  rw [show t3V true room (.slice a n cap) = .agg (t3R true room (.slice a n cap)).toArray from rfl]
  clear hC
  go_enter Try.func10, Try.ntmps10
  go_wp2_with (first
    | (refine plV rfl (t3V true room (.slice a n cap)) (exec_load_any _ (.tmp 3) rfl w.heap.size 0 (t3R true room (.slice a n cap)) _ rfl R1.out Try.underlying28 rfl t3_info) ?_)
    | (refine wpList_store_bx rfl 28 (.tmp 6) (.tmp 21) rfl (w.heap.size + 1) (t3R true room (.slice a n cap)) (t3R false 0 (.slice none 0 0)) rfl rfl HZ.out.2.1 t3_info rfl (t3_one _ _ _ rfl) ?_; refine Hid.out ?_))
  refine Lib.hid ?_
  go_wp2
  have hb := below_row HZ.out.2.2 (show w.heap.size ≤ w.heap.size + 1 by omega) (t3R true room (.slice a n cap)).toArray
  exact bodyPost_ret (results_t3 Try.results10 _ _ (w.heap.size + 1) (t3R true room (.slice a n cap)) rfl rfl (HZ.out.2.1.row _)) rfl ⟨⟨a, n, cap, rfl, HC.out.below hb, .inl ⟨rfl, by trivial⟩⟩, hb⟩
set_option maxRecDepth 100000 in
set_option maxHeartbeats 8000000 in
theorem rput13_full (room : Int) (a : Option Addr) (n cap : Nat) (L : List (Int × Int)) (x v : Int) (w : World) (hC : IsI13 w (.slice a n cap) L) (h0 : ¬ x < 0) (h1 : ¬ x > 1048575) (hl : L.length ≤ 900000) (hi : is13 x L = false) (hf : (L.length : Int) = room) :
    Calls Try.prog 10 #[t3V true room (.slice a n cap), .int .i64 x, .int .i64 v] w (RefT13 w a L true room L 30) := by
  obtain ⟨rfl, hcap, hcm, _⟩ := hC.shape
  have HZ := Lib.hid (putB13_new w (t3R true room (.slice a L.length cap)))
  have ez : (#[.bool false, .int .i64 0, .slice none 0 0] : Array Value) = (t3R false 0 (.slice none 0 0)).toArray := rfl
  have HC := Lib.hid hC
  have R1 := Lib.hid (rangeAll HZ.out.1)
  have c0 : ((w.alloc (.cells (t3R true room (.slice a L.length cap)).toArray 28)).alloc (.cells (t3R false 0 (.slice none 0 0)).toArray 28)).cell? ⟨w.heap.size, 0, none⟩ = some (.bool true) := by rw [HZ.out.1.cell]; rfl
  have c2 : ((w.alloc (.cells (t3R true room (.slice a L.length cap)).toArray 28)).alloc (.cells (t3R false 0 (.slice none 0 0)).toArray 28)).cell? ⟨w.heap.size, 2, none⟩ = some (.slice a L.length cap) := by rw [HZ.out.1.cell]; rfl
  have HF := Lib.hid (rfind13 a L.length cap L x _ (hC.below HZ.out.2.2) (by omega))
  rw [hi] at HF
  unfold maxLen at hcm
  have hqq : ((L.length : Int) == room) = true := by simpa using hf
  unfold RefT13
  rw [show t3V true room (.slice a L.length cap) = .agg (t3R true room (.slice a L.length cap)).toArray from rfl]
  clear hC
  go_enter Try.func10, Try.ntmps10
  go_wp2_with (go_at_call 20; refine HF.out.mono ?_; rintro e w1 ⟨rfl, b1⟩; refine Hid.out ?_)
  refine Lib.hid ?_
  have HZ1 := Lib.hid (HZ.out.up b1)
  have R2 := Lib.hid (rangeAll HZ1.out.1)
  have d1 : w1.cell? ⟨w.heap.size, 1, none⟩ = some (.int .i64 room) := by rw [HZ1.out.1.cell]; rfl
  have d2 : w1.cell? ⟨w.heap.size, 2, none⟩ = some (.slice a L.length cap) := by rw [HZ1.out.1.cell]; rfl
  clear HZ R1 c0 c2 b1 HF
  go_wp2_with (first
    | (refine plV rfl (t3V true room (.slice a L.length cap)) (exec_load_any _ (.tmp 3) rfl w.heap.size 0 (t3R true room (.slice a L.length cap)) _ rfl R2.out Try.underlying28 rfl t3_info) ?_)
    | (refine wpList_store_bx rfl 28 (.tmp 6) (.tmp 39) rfl (w.heap.size + 1) (t3R true room (.slice a L.length cap)) (t3R false 0 (.slice none 0 0)) rfl rfl HZ1.out.2.1 t3_info rfl (t3_one _ _ _ rfl) ?_; refine Hid.out ?_))
  refine Lib.hid ?_
  go_wp2
  have hb := below_row HZ1.out.2.2 (show w.heap.size ≤ w.heap.size + 1 by omega) (t3R true room (.slice a L.length cap)).toArray
  exact bodyPost_ret (results_t3 Try.results10 _ _ (w.heap.size + 1) (t3R true room (.slice a L.length cap)) rfl rfl (HZ1.out.2.1.row _)) rfl ⟨⟨a, L.length, cap, rfl, HC.out.below hb, .inl ⟨rfl, by trivial⟩⟩, hb⟩
set_option maxRecDepth 100000 in
set_option maxHeartbeats 8000000 in
theorem rdel13_nil (room : Int) (a : Option Addr) (n cap : Nat) (L : List (Int × Int)) (x : Int) (w : World) (hC : IsI13 w (.slice a n cap) L) :
    Calls Try.prog 12 #[t3V false room (.slice a n cap), .int .i64 x] w (RefT13 w a L false room L 1) := by
  have HZ := Lib.hid (putB13_new w (t3R false room (.slice a n cap)))
  have ez : (#[.bool false, .int .i64 0, .slice none 0 0] : Array Value) = (t3R false 0 (.slice none 0 0)).toArray := rfl
  have HC := Lib.hid hC
  have R1 := Lib.hid (rangeAll HZ.out.1)
  have c0 : ((w.alloc (.cells (t3R false room (.slice a n cap)).toArray 28)).alloc (.cells (t3R false 0 (.slice none 0 0)).toArray 28)).cell? ⟨w.heap.size, 0, none⟩ = some (.bool false) := by rw [HZ.out.1.cell]; rfl
  have c2 : ((w.alloc (.cells (t3R false room (.slice a n cap)).toArray 28)).alloc (.cells (t3R false 0 (.slice none 0 0)).toArray 28)).cell? ⟨w.heap.size, 2, none⟩ = some (.slice a n cap) := by rw [HZ.out.1.cell]; rfl
  unfold RefT13
  rw [show t3V false room (.slice a n cap) = .agg (t3R false room (.slice a n cap)).toArray from rfl]
  clear hC
  go_enter Try.func12, Try.ntmps12
  go_wp2_with (first
    | (refine plV rfl (t3V false room (.slice a n cap)) (exec_load_any _ (.tmp 2) rfl w.heap.size 0 (t3R false room (.slice a n cap)) _ rfl R1.out Try.underlying28 rfl t3_info) ?_)
    | (refine wpList_store_bx rfl 28 (.tmp 4) (.tmp 12) rfl (w.heap.size + 1) (t3R false room (.slice a n cap)) (t3R false 0 (.slice none 0 0)) rfl rfl HZ.out.2.1 t3_info rfl (t3_one _ _ _ rfl) ?_; refine Hid.out ?_))
  refine Lib.hid ?_
  go_wp2
  have hb := below_row HZ.out.2.2 (show w.heap.size ≤ w.heap.size + 1 by omega) (t3R false room (.slice a n cap)).toArray
  exact bodyPost_ret (results_t3 Try.results12 _ _ (w.heap.size + 1) (t3R false room (.slice a n cap)) rfl rfl (HZ.out.2.1.row _)) rfl ⟨⟨a, n, cap, rfl, HC.out.below hb, .inl ⟨rfl, by trivial⟩⟩, hb⟩
set_option maxRecDepth 100000 in
set_option maxHeartbeats 8000000 in
theorem rdel13_low (room : Int) (a : Option Addr) (n cap : Nat) (L : List (Int × Int)) (x : Int) (w : World) (hC : IsI13 w (.slice a n cap) L) (h1 : x < 0) :
    Calls Try.prog 12 #[t3V true room (.slice a n cap), .int .i64 x] w (RefT13 w a L true room L 40) := by
  have HZ := Lib.hid (putB13_new w (t3R true room (.slice a n cap)))
  have ez : (#[.bool false, .int .i64 0, .slice none 0 0] : Array Value) = (t3R false 0 (.slice none 0 0)).toArray := rfl
  have HC := Lib.hid hC
  have R1 := Lib.hid (rangeAll HZ.out.1)
  have c0 : ((w.alloc (.cells (t3R true room (.slice a n cap)).toArray 28)).alloc (.cells (t3R false 0 (.slice none 0 0)).toArray 28)).cell? ⟨w.heap.size, 0, none⟩ = some (.bool true) := by rw [HZ.out.1.cell]; rfl
  have c2 : ((w.alloc (.cells (t3R true room (.slice a n cap)).toArray 28)).alloc (.cells (t3R false 0 (.slice none 0 0)).toArray 28)).cell? ⟨w.heap.size, 2, none⟩ = some (.slice a n cap) := by rw [HZ.out.1.cell]; rfl
  unfold RefT13
  rw [show t3V true room (.slice a n cap) = .agg (t3R true room (.slice a n cap)).toArray from rfl]
  clear hC
  go_enter Try.func12, Try.ntmps12
  go_wp2_with (first
    | (refine plV rfl (t3V true room (.slice a n cap)) (exec_load_any _ (.tmp 2) rfl w.heap.size 0 (t3R true room (.slice a n cap)) _ rfl R1.out Try.underlying28 rfl t3_info) ?_)
    | (refine wpList_store_bx rfl 28 (.tmp 4) (.tmp 19) rfl (w.heap.size + 1) (t3R true room (.slice a n cap)) (t3R false 0 (.slice none 0 0)) rfl rfl HZ.out.2.1 t3_info rfl (t3_one _ _ _ rfl) ?_; refine Hid.out ?_))
  refine Lib.hid ?_
  go_wp2
  have hb := below_row HZ.out.2.2 (show w.heap.size ≤ w.heap.size + 1 by omega) (t3R true room (.slice a n cap)).toArray
  exact bodyPost_ret (results_t3 Try.results12 _ _ (w.heap.size + 1) (t3R true room (.slice a n cap)) rfl rfl (HZ.out.2.1.row _)) rfl ⟨⟨a, n, cap, rfl, HC.out.below hb, .inl ⟨rfl, by trivial⟩⟩, hb⟩
set_option maxRecDepth 100000 in
set_option maxHeartbeats 8000000 in
theorem rdel13_high (room : Int) (a : Option Addr) (n cap : Nat) (L : List (Int × Int)) (x : Int) (w : World) (hC : IsI13 w (.slice a n cap) L) (h0 : ¬ x < 0) (h1 : x > 1048575) :
    Calls Try.prog 12 #[t3V true room (.slice a n cap), .int .i64 x] w (RefT13 w a L true room L 40) := by
  have HZ := Lib.hid (putB13_new w (t3R true room (.slice a n cap)))
  have ez : (#[.bool false, .int .i64 0, .slice none 0 0] : Array Value) = (t3R false 0 (.slice none 0 0)).toArray := rfl
  have HC := Lib.hid hC
  have R1 := Lib.hid (rangeAll HZ.out.1)
  have c0 : ((w.alloc (.cells (t3R true room (.slice a n cap)).toArray 28)).alloc (.cells (t3R false 0 (.slice none 0 0)).toArray 28)).cell? ⟨w.heap.size, 0, none⟩ = some (.bool true) := by rw [HZ.out.1.cell]; rfl
  have c2 : ((w.alloc (.cells (t3R true room (.slice a n cap)).toArray 28)).alloc (.cells (t3R false 0 (.slice none 0 0)).toArray 28)).cell? ⟨w.heap.size, 2, none⟩ = some (.slice a n cap) := by rw [HZ.out.1.cell]; rfl
  unfold RefT13
  rw [show t3V true room (.slice a n cap) = .agg (t3R true room (.slice a n cap)).toArray from rfl]
  clear hC
  go_enter Try.func12, Try.ntmps12
  go_wp2_with (first
    | (refine plV rfl (t3V true room (.slice a n cap)) (exec_load_any _ (.tmp 2) rfl w.heap.size 0 (t3R true room (.slice a n cap)) _ rfl R1.out Try.underlying28 rfl t3_info) ?_)
    | (refine wpList_store_bx rfl 28 (.tmp 4) (.tmp 19) rfl (w.heap.size + 1) (t3R true room (.slice a n cap)) (t3R false 0 (.slice none 0 0)) rfl rfl HZ.out.2.1 t3_info rfl (t3_one _ _ _ rfl) ?_; refine Hid.out ?_))
  refine Lib.hid ?_
  go_wp2
  have hb := below_row HZ.out.2.2 (show w.heap.size ≤ w.heap.size + 1 by omega) (t3R true room (.slice a n cap)).toArray
  exact bodyPost_ret (results_t3 Try.results12 _ _ (w.heap.size + 1) (t3R true room (.slice a n cap)) rfl rfl (HZ.out.2.1.row _)) rfl ⟨⟨a, n, cap, rfl, HC.out.below hb, .inl ⟨rfl, by trivial⟩⟩, hb⟩
set_option maxRecDepth 100000 in
set_option maxHeartbeats 8000000 in
theorem rdel13_none (room : Int) (a : Option Addr) (n cap : Nat) (L : List (Int × Int)) (x : Int) (w : World) (hC : IsI13 w (.slice a n cap) L) (h0 : ¬ x < 0) (h1 : ¬ x > 1048575) (hl : L.length ≤ 900000) (hi : is13 x L = false) :
    Calls Try.prog 12 #[t3V true room (.slice a n cap), .int .i64 x] w (RefT13 w a L true room L 31) := by
  have HZ := Lib.hid (putB13_new w (t3R true room (.slice a n cap)))
  have ez : (#[.bool false, .int .i64 0, .slice none 0 0] : Array Value) = (t3R false 0 (.slice none 0 0)).toArray := rfl
  have HC := Lib.hid hC
  have R1 := Lib.hid (rangeAll HZ.out.1)
  have c0 : ((w.alloc (.cells (t3R true room (.slice a n cap)).toArray 28)).alloc (.cells (t3R false 0 (.slice none 0 0)).toArray 28)).cell? ⟨w.heap.size, 0, none⟩ = some (.bool true) := by rw [HZ.out.1.cell]; rfl
  have c2 : ((w.alloc (.cells (t3R true room (.slice a n cap)).toArray 28)).alloc (.cells (t3R false 0 (.slice none 0 0)).toArray 28)).cell? ⟨w.heap.size, 2, none⟩ = some (.slice a n cap) := by rw [HZ.out.1.cell]; rfl
  have HF := Lib.hid (rfind13 a n cap L x _ (hC.below HZ.out.2.2) (by omega))
  rw [hi] at HF
  unfold RefT13
  rw [show t3V true room (.slice a n cap) = .agg (t3R true room (.slice a n cap)).toArray from rfl]
  clear hC
  go_enter Try.func12, Try.ntmps12
  go_wp2_with (go_at_call 20; refine HF.out.mono ?_; rintro e w1 ⟨rfl, b1⟩; refine Hid.out ?_)
  refine Lib.hid ?_
  have HZ1 := Lib.hid (HZ.out.up b1)
  have R2 := Lib.hid (rangeAll HZ1.out.1)
  have d1 : w1.cell? ⟨w.heap.size, 1, none⟩ = some (.int .i64 room) := by rw [HZ1.out.1.cell]; rfl
  have d2 : w1.cell? ⟨w.heap.size, 2, none⟩ = some (.slice a n cap) := by rw [HZ1.out.1.cell]; rfl
  clear HZ R1 c0 c2 b1 HF
  go_wp2_with (first
    | (refine plV rfl (t3V true room (.slice a n cap)) (exec_load_any _ (.tmp 2) rfl w.heap.size 0 (t3R true room (.slice a n cap)) _ rfl R2.out Try.underlying28 rfl t3_info) ?_)
    | (refine wpList_store_bx rfl 28 (.tmp 4) (.tmp 29) rfl (w.heap.size + 1) (t3R true room (.slice a n cap)) (t3R false 0 (.slice none 0 0)) rfl rfl HZ1.out.2.1 t3_info rfl (t3_one _ _ _ rfl) ?_; refine Hid.out ?_))
  refine Lib.hid ?_
  go_wp2
  have hb := below_row HZ1.out.2.2 (show w.heap.size ≤ w.heap.size + 1 by omega) (t3R true room (.slice a n cap)).toArray
  exact bodyPost_ret (results_t3 Try.results12 _ _ (w.heap.size + 1) (t3R true room (.slice a n cap)) rfl rfl (HZ1.out.2.1.row _)) rfl ⟨⟨a, n, cap, rfl, HC.out.below hb, .inl ⟨rfl, by trivial⟩⟩, hb⟩
end Go.Proofs.Ytoliijajhikhgaa
