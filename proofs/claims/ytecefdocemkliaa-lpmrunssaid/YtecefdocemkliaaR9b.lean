/- The document's table of stage 9: New, right, Get. The document's table of stage 9: Put and Delete. -/
import Derived.Test.YtecefdocemkliaaR9a
namespace Go.Proofs.Ytecefdocemkliaa
open Go Go.RowKit

/-- A table by value. -/
def tR (is six : Bool) (room : Int) (v : Value) : List Value := [.bool is, .bool six, .int .i64 room, v]
def tV (is six : Bool) (room : Int) (v : Value) : Value := .agg (tR is six room v).toArray
theorem t_info : (Try.prog.info? 28).map (·.size) = some 4 := by kernel_rfl
theorem t_one (is six : Bool) (room : Int) (v : Value) (hv : v.oneCell' = true) : ∀ u ∈ tR is six room v, u.oneCell' = true := by
  intro u hu
  unfold tR at hu
  simp only [List.mem_cons] at hu
  rcases hu with rfl | rfl | rfl | rfl | hu
  · rfl
  · rfl
  · rfl
  · exact hv
  · cases hu
theorem built_t0 : Try.prog.built 28 [] = some (tR false false 0 (.slice none 0 0)).toArray := by kernel_rfl
theorem built_t3 (six : Bool) (room : Int) : Try.prog.built 28 [(0, .bool true), (1, .bool six), (2, .int .i64 room)] = some (tR true six room (.slice none 0 0)).toArray := by kernel_rfl
theorem qnew_none (six : Bool) (room : Int) (w : World) (h : room < 1 ∨ 65536 < room) : Calls Try.prog 7 #[.bool six, .int .i64 room] w fun e w' => e = .returned (tV false false 0 (.slice none 0 0)) ∧ Below w.heap.size w w' := by
  have ez : (#[.bool false, .bool false, .int .i64 0, .slice none 0 0] : Array Value) = (tR false false 0 (.slice none 0 0)).toArray := rfl
  have HX := Lib.hid (Bx.new w 28 (tR false false 0 (.slice none 0 0)))
  have HB := Lib.hid ((Below.refl w.heap.size w).alloc (Nat.le_refl _) (.cells (tR false false 0 (.slice none 0 0)).toArray 28))
  rcases h with h | h
  · go_enter Try.func7, Try.ntmps7
    go_wp2_with (first
      | (refine wpList_build0 rfl 28 rfl (tR false false 0 (.slice none 0 0)) built_t0 ?_)
      | (refine wpList_store_bx rfl 28 (.tmp 4) (.tmp 11) rfl w.heap.size (tR false false 0 (.slice none 0 0)) (tR false false 0 (.slice none 0 0)) rfl rfl HX.out t_info rfl (t_one _ _ _ _ rfl) ?_; refine Hid.out ?_))
    refine Lib.hid ?_
    go_wp2
    exact bodyPost_ret (results_cell_row Try.results7 _ _ w.heap.size _ _ _ _ rfl (HX.out.row _) Try.underlying28 rfl t_info) rfl ⟨rfl, below_row HB.out (Nat.le_refl _) _⟩
  · have h1 : ¬ room < 1 := by omega
    go_enter Try.func7, Try.ntmps7
    go_wp2_with (first
      | (refine wpList_build0 rfl 28 rfl (tR false false 0 (.slice none 0 0)) built_t0 ?_)
      | (refine wpList_store_bx rfl 28 (.tmp 4) (.tmp 11) rfl w.heap.size (tR false false 0 (.slice none 0 0)) (tR false false 0 (.slice none 0 0)) rfl rfl HX.out t_info rfl (t_one _ _ _ _ rfl) ?_; refine Hid.out ?_))
    refine Lib.hid ?_
    go_wp2
    exact bodyPost_ret (results_cell_row Try.results7 _ _ w.heap.size _ _ _ _ rfl (HX.out.row _) Try.underlying28 rfl t_info) rfl ⟨rfl, below_row HB.out (Nat.le_refl _) _⟩
theorem qnew_some (six : Bool) (room : Int) (w : World) (h1 : 1 ≤ room) (h2 : room ≤ 65536) : Calls Try.prog 7 #[.bool six, .int .i64 room] w fun e w' => e = .returned (tV true six room (.slice none 0 0)) ∧ Below w.heap.size w w' := by
  have ez : (#[.bool false, .bool false, .int .i64 0, .slice none 0 0] : Array Value) = (tR false false 0 (.slice none 0 0)).toArray := rfl
  have HX := Lib.hid (Bx.new w 28 (tR false false 0 (.slice none 0 0)))
  have HB := Lib.hid ((Below.refl w.heap.size w).alloc (Nat.le_refl _) (.cells (tR false false 0 (.slice none 0 0)).toArray 28))
  go_enter Try.func7, Try.ntmps7
  go_wp2_with (first
    | (refine plV rfl (tV true six room (.slice none 0 0)) (exec_build3 _ 0 1 2 _ (.tmp 12) (.tmp 13) rfl (.bool true) (.bool six) (.int .i64 room) (tR true six room (.slice none 0 0)) rfl rfl rfl (built_t3 six room)) ?_)
    | (refine wpList_store_bx rfl 28 (.tmp 4) (.tmp 14) rfl w.heap.size (tR true six room (.slice none 0 0)) (tR false false 0 (.slice none 0 0)) rfl rfl HX.out t_info rfl (t_one _ _ _ _ rfl) ?_; refine Hid.out ?_))
  refine Lib.hid ?_
  go_wp2
  exact bodyPost_ret (results_cell_row Try.results7 _ _ w.heap.size _ _ _ _ rfl (HX.out.row _) Try.underlying28 rfl t_info) rfl ⟨rfl, below_row HB.out (Nat.le_refl _) _⟩
set_option maxRecDepth 100000 in
set_option maxHeartbeats 4000000 in
theorem qright (is six : Bool) (room : Int) (v : Value) (p : Pfx) (w : World) (hp : p.addr.length = 16) : Calls Try.prog 28 #[tV is six room v, p.val] w fun e w' => e = .returned (.bool (is && (chkP p && (p.six == six)))) ∧ Below w.heap.size w w' := by
  have HC := Lib.hid (fun W => qcheck_any p W hp)
  have HZ := Lib.hid (twoB_new w 28 32 (tR is six room v) p.row)
  have HP := Lib.hid hp
  have c0 : ((w.alloc (.cells (tR is six room v).toArray 28)).alloc (.cells p.row.toArray 32)).cell? ⟨w.heap.size, 0, none⟩ = some (.bool is) := by rw [HZ.out.1.cell]; rfl
  have R1 := Lib.hid (rangeAll HZ.out.2.1)
  rw [show tV is six room v = .agg (tR is six room v).toArray from rfl, show p.val = .agg p.row.toArray from rfl]
  clear hp
  cases is
  · go_enter Try.func28, Try.ntmps28
    go_wp2
    go_ret
    exact ⟨rfl, HZ.out.2.2⟩
  · have hrow : p.row[0]? = some (.bool p.six) := rfl
    generalize p.six = s6 at *
    cases hck : chkP p
    · rw [hck] at HC
      simp only [Bool.false_eq_true, if_false] at HC
      go_enter Try.func28, Try.ntmps28
      go_wp2_with (first
        | (refine plV rfl p.val (exec_load_any _ (.tmp 3) rfl (w.heap.size + 1) 0 p.row _ rfl R1.out Try.underlying32 rfl (pf_infoC HP.out)) ?_)
        | (go_at_call 18; refine (HC.out _).mono ?_; rintro e w1 ⟨rfl, b1⟩; refine Hid.out ?_))
      refine Lib.hid ?_
      have z1 := HZ.out.up b1
      have c1 : w1.cell? ⟨w.heap.size, 1, none⟩ = some (.bool six) := by rw [z1.1.cell]; rfl
      have c2 : w1.cell? ⟨w.heap.size + 1, 0, none⟩ = some (.bool s6) := by rw [z1.2.1.cell]; exact hrow
      have HZ1 := Lib.hid z1
      clear z1 HZ R1 c0 b1
      go_wp2
      go_ret
      exact ⟨rfl, HZ1.out.2.2⟩
    · rw [hck] at HC
      simp only [if_true] at HC
      go_enter Try.func28, Try.ntmps28
      go_wp2_with (first
        | (refine plV rfl p.val (exec_load_any _ (.tmp 3) rfl (w.heap.size + 1) 0 p.row _ rfl R1.out Try.underlying32 rfl (pf_infoC HP.out)) ?_)
        | (go_at_call 18; refine (HC.out _).mono ?_; rintro e w1 ⟨rfl, b1⟩; refine Hid.out ?_))
      refine Lib.hid ?_
      have z1 := HZ.out.up b1
      have c1 : w1.cell? ⟨w.heap.size, 1, none⟩ = some (.bool six) := by rw [z1.1.cell]; rfl
      have c2 : w1.cell? ⟨w.heap.size + 1, 0, none⟩ = some (.bool s6) := by rw [z1.2.1.cell]; exact hrow
      have HZ1 := Lib.hid z1
      clear z1 HZ R1 c0 b1
      cases s6 <;> cases six <;> (go_wp2; go_ret; exact ⟨rfl, HZ1.out.2.2⟩)
set_option maxRecDepth 100000 in
set_option maxHeartbeats 4000000 in
theorem qget (is six : Bool) (room : Int) (a : Option Addr) (n cap : Nat) (L : List (Pfx × Int)) (p : Pfx) (w : World) (hC : IsC itF 19 w (.slice a n cap) L) (hp : p.addr.length = 16) (hl : L.length ≤ 1000000) :
    Calls Try.prog 12 #[tV is six room (.slice a n cap), p.val] w fun e w' => e = .returned (.tuple #[.int .i64 ((getT cmpP p L).getD 0), .bool (getT cmpP p L).isSome]) ∧ Below w.heap.size w w' := by
  have HZ := Lib.hid (twoB_new w 28 32 (tR is six room (.slice a n cap)) p.row)
  have HF := Lib.hid (qfind a n cap L p _ (hC.below HZ.out.2.2) hp hl)
  have HP := Lib.hid hp
  have c0 : ((w.alloc (.cells (tR is six room (.slice a n cap)).toArray 28)).alloc (.cells p.row.toArray 32)).cell? ⟨w.heap.size, 3, none⟩ = some (.slice a n cap) := by rw [HZ.out.1.cell]; rfl
  have R1 := Lib.hid (rangeAll HZ.out.2.1)
  have hgf := getT_form (c := cmpP) p L
  have HGF := Lib.hid hgf
  have HC := Lib.hid hC
  rw [show tV is six room (.slice a n cap) = .agg (tR is six room (.slice a n cap)).toArray from rfl, show p.val = .agg p.row.toArray from rfl]
  clear hp hgf
  generalize hjj : idxT cmpP p L = j at *
  generalize hbb : isT cmpP p L = ib at *
  go_enter Try.func12, Try.ntmps12
  go_wp2_with (first
    | (refine plV rfl p.val (exec_load_any _ (.tmp 3) rfl (w.heap.size + 1) 0 p.row _ rfl R1.out Try.underlying32 rfl (pf_infoC HP.out)) ?_)
    | (go_at_call 25; refine HF.out.mono ?_; rintro e w1 ⟨rfl, b1⟩; refine Hid.out ?_))
  refine Lib.hid ?_
  have z1 := HZ.out.up b1
  cases ib
  · have hg := HGF.out
    simp only [Bool.false_eq_true, if_false] at hg
    go_wp2
    go_ret2
    exact ⟨by rw [hg]; rfl, z1.2.2⟩
  · have hg := HGF.out
    simp only [if_true] at hg
    have hlt : j < L.length := by
      have h1 := isT_get (c := cmpP) p L
      rw [hbb, hg] at h1
      rcases Nat.lt_or_ge j L.length with h | h
      · exact h
      · rw [List.getElem?_eq_none h] at h1; cases h1
    obtain ⟨x, hx⟩ : ∃ x, L[j]? = some x := ⟨_, List.getElem?_eq_getElem hlt⟩
    rw [hx] at hg
    obtain ⟨rfl, _, hcm, _⟩ := HC.out.shape
    unfold maxLen at hcm
    have hC1 := hC.below z1.2.2
    obtain ⟨b, k, rfl, hbw, hr⟩ := isC_at hC1 j x hx
    have hx16 := itF_addr (hC.1 x (List.mem_of_getElem? hx))
    have cv : w1.cell? ⟨b, k + j * 19 + 18, none⟩ = some (.int .i64 x.2) := hr 18 _ (it_v hx16)
    have c3 : w1.cell? ⟨w.heap.size, 3, none⟩ = some (.slice (some ⟨b, k, none⟩) L.length cap) := by rw [z1.1.cell]; rfl
    have HZ1 := Lib.hid z1
    have HG := Lib.hid hg
    have hji : (j : Int) < (L.length : Int) := by omega
    clear z1 HZ R1 c0 b1 hC hC1 hr hg HC HGF HF
    go_wp2
    go_ret2
    exact ⟨by rw [HG.out]; rfl, HZ1.out.2.2⟩
end Go.Proofs.Ytecefdocemkliaa
namespace Go.Proofs.Ytecefdocemkliaa
open Go Go.RowKit

theorem size_I (W : World) : (sizeOf 47).run Try.prog W = .ok 19 W := by
  have h : (Try.prog.info? 47).map (·.size) = some 19 := by kernel_rfl
  cases hq : Try.prog.info? 47 with
  | none => rw [hq] at h; cases h
  | some i =>
    rw [hq] at h
    have : i.size = 19 := by simpa using h
    simp [sizeOf, typeInfo, hq, this]
theorem exec_slice_to {ρ : Operand → Value} {o : Oper} {W : World} (x y : Operand) (ho : o.op = .slice 26 x none (some y) none) (a : Option Addr) (n cap k : Nat) (hx : ρ x = .slice a n cap) (hy : ρ y = .int .i64 (k : Int)) (hk : k ≤ cap) :
    (execOp ρ o).run Try.prog W = .ok (.value (.slice a k cap)) W := by
  have h1 : (k : Int) ≤ (cap : Int) := by omega
  have h2 : (0 : Int) ≤ (k : Int) := by omega
  have h3 : a.map (fun x => x.add 0) = a := by cases a <;> simp [Addr.add]
  unfold execOp
  simp [ho, hx, hy, Instr.sliceAt, Instr.slice, run_underlying Try.underlying26, Instr.sliceBounds, run_sliceBound, h1, h3]
theorem exec_slice_from {ρ : Operand → Value} {o : Oper} {W : World} (x y : Operand) (ho : o.op = .slice 26 x (some y) none none) (a : Option Addr) (n cap k : Nat) (hx : ρ x = .slice a n cap) (hy : ρ y = .int .i64 (k : Int)) (hk : k ≤ n) (hn : n ≤ cap) :
    (execOp ρ o).run Try.prog W = .ok (.value (.slice (if cap = k then a else a.map (fun x => x.add (k * 19))) (n - k) (cap - k))) W := by
  have h1 : (k : Int) ≤ (n : Int) := by omega
  have h2 : (0 : Int) ≤ (k : Int) := by omega
  have h4 : (n : Int) ≤ (cap : Int) := by omega
  unfold execOp
  simp [ho, hx, hy, Instr.sliceAt, Instr.slice, run_underlying Try.underlying26, Instr.sliceBounds, run_sliceBound, h1]
theorem isC_from {W : World} {a : Option Addr} {n cap : Nat} {L : List (Pfx × Int)} (h : IsC itF 19 W (.slice a n cap) L) (k : Nat) (hk : k ≤ n) : IsC itF 19 W (.slice (if cap = k then a else a.map (fun x => x.add (k * 19))) (n - k) (cap - k)) (L.drop k) := by
  obtain ⟨rfl, h1, h2, h3⟩ := h.shape
  by_cases hp : 0 < L.length - k
  · obtain ⟨b, o, rfl, hb, hr⟩ := h3 (by omega)
    have := h.drop k hk
    rw [if_neg (by omega)]
    have e : Option.map (fun x : Addr => x.add (k * 19)) (some ⟨b, o, none⟩) = some ⟨b, o + k * 19, none⟩ := by
      simp only [Option.map_some, Addr.add]
      split <;> simp_all
    rw [e]
    exact this
  · have e : L.drop k = [] := List.drop_of_length_le (by omega)
    rw [e]
    refine ⟨(fun _ h => by cases h), (if cap = k then a else a.map (fun x => x.add (k * 19))), cap - k, ?_, by simp, by omega, fun h => by simp at h⟩
    rw [show L.length - k = 0 by omega]
    rfl
theorem i_infoF : (Try.prog.info? 47).map (fun i => (i.zero, i.size, i.bytes)) = some (some (itV zeroP 0), 19, 40) := by kernel_rfl
theorem i_infoC {p : Pfx} (f : p.addr.length = 16) (v : Int) : (Try.prog.info? 47).map (·.size) = some (itR p v).length := by rw [it_len f]; kernel_rfl
theorem built_i2 (p : Pfx) (f : p.addr.length = 16) (v : Int) : Try.prog.built 47 [(0, p.val), (1, .int .i64 v)] = some (itR p v).toArray := by
  obtain ⟨s, l, n⟩ := p
  obtain ⟨x0, x1, x2, x3, x4, x5, x6, x7, x8, x9, x10, x11, x12, x13, x14, x15, rfl⟩ := list16P f
  clear f
  kernel_rfl
theorem exec_one_i {ρ : Operand → Value} {o : Oper} {w : World} (x : Operand) (ho : o.op = .buildSlice 26 1 #[(0, x)]) (p : Pfx) (v : Int) (f : p.addr.length = 16) (hx : ρ x = itV p v) :
    (execOp ρ o).run Try.prog w = .ok (.value (.slice (some ⟨w.heap.size, 0, none⟩) 1 1)) (w.alloc (.cells (itR p v).toArray 47)) := by
  obtain ⟨i, hi, hz, hs, _⟩ := info_parts i_infoF
  have := run_buildSlice (P := Try.prog) w 26 47 1 #[(0, itV p v)] (itR p v).toArray i (itV zeroP 0) Try.underlying26 hi hz (by rw [hs]; decide) (by rw [hs]; decide) (by rw [hs]; exact fill_it p v f _ (by simp))
  unfold execOp
  simp only [ho, List.map_toArray, List.map_cons, List.map_nil, hx, Sem.run_bind, this, Result.andThen_ok, Sem.run_pure]
theorem results_t2 {fn : Func} {u v : Tmp} (h : fn.results = #[.cell u 28, .tmp v]) (tmps : Array Value) (w : World) (g : Nat) (l : List Value) (hl : l.length = 4) (hp : tmps.getD u undef = .pointer (some ⟨g, 0, none⟩))
    (hg : Bx w g 28 l) : (results fn tmps).run Try.prog w = .ok (.tuple #[.agg l.toArray, tmps.getD v undef]) w := by
  rw [results_cell_tmp h, hp]
  have := run_loadVar_row (P := Try.prog) w g _ _ l.toArray (0, 0) _ hg Try.underlying28 rfl (by rw [t_info]; simp [hl])
  simp only [asAddr, Sem.run_pure, Result.andThen_ok, this]
/-- The three boxes of Put and Delete: the table, the prefix, the answer. -/
def PutB (w : World) (l : List Value) (p : Pfx) (W : World) : Prop := Bx W w.heap.size 28 l ∧ Bx W (w.heap.size + 1) 32 p.row ∧ Bx W (w.heap.size + 1 + 1) 28 (tR false false 0 (.slice none 0 0)) ∧ Below w.heap.size w W
theorem PutB.up {w : World} {l : List Value} {p : Pfx} {W W' : World} (h : PutB w l p W) (hb : Below W.heap.size W W') : PutB w l p W' := ⟨h.1.up hb, h.2.1.up hb, h.2.2.1.up hb, below_up h.2.2.2 hb h.2.2.2.size⟩
theorem putB_new (w : World) (l : List Value) (p : Pfx) : PutB w l p (((w.alloc (.cells l.toArray 28)).alloc (.cells p.row.toArray 32)).alloc (.cells (tR false false 0 (.slice none 0 0)).toArray 28)) := by
  have h := twoB_new w 28 32 l p.row
  refine ⟨h.1.al _, h.2.1.al _, ?_, h.2.2.alloc (by simp; omega) _⟩
  have := Bx.new ((w.alloc (.cells l.toArray 28)).alloc (.cells p.row.toArray 32)) 28 (tR false false 0 (.slice none 0 0))
  rwa [World.size_alloc, World.size_alloc] at this
theorem PutB.grown {w : World} {l : List Value} {p : Pfx} {W W' : World} {row : Option Nat} (h : PutB w l p W) (hg : W.grownBy W' row) (hr : ∀ k, row = some k → w.heap.size ≤ k ∧ k ≠ w.heap.size ∧ k ≠ w.heap.size + 1 ∧ k ≠ w.heap.size + 1 + 1) : PutB w l p W' :=
  ⟨(hg.block _ h.1.lt (fun e => (hr _ e.symm).2.1 rfl)).trans h.1, (hg.block _ h.2.1.lt (fun e => (hr _ e.symm).2.2.1 rfl)).trans h.2.1, (hg.block _ h.2.2.1.lt (fun e => (hr _ e.symm).2.2.2 rfl)).trans h.2.2.1, h.2.2.2.grown hg h.2.2.2.size (fun k e => (hr k e).1)⟩
def rputE (is six : Bool) (room : Int) (L : List (Pfx × Int)) (p : Pfx) : Int := if (is && (chkP p && (p.six == six))) = true then (if isT cmpP p L = false ∧ (L.length : Int) = room then 30 else 0) else 1
def rputL (is six : Bool) (room : Int) (L : List (Pfx × Int)) (p : Pfx) (x : Int) : List (Pfx × Int) := if rputE is six room L p = 0 then putT cmpP p x L else L
/-- What is answered: a table by value, and an error. -/
def RefT (w : World) (a0 : Option Addr) (L0 : List (Pfx × Int)) (is six : Bool) (room : Int) (L : List (Pfx × Int)) (c : Int) (e : Ending) (w' : World) : Prop := (∃ a n cap, e = .returned (.tuple #[tV is six room (.slice a n cap), .int .i64 c]) ∧ IsC itF 19 w' (.slice a n cap) L ∧ ((a = a0 ∧ L = L0) ∨ ∀ x, a = some x → w.heap.size ≤ x.block)) ∧ Below w.heap.size w w'
set_option maxRecDepth 100000 in
set_option maxHeartbeats 8000000 in
theorem qput_no (is six : Bool) (room : Int) (a : Option Addr) (n cap : Nat) (L : List (Pfx × Int)) (p : Pfx) (x : Int) (w : World) (hC : IsC itF 19 w (.slice a n cap) L) (hp : p.addr.length = 16) (hr : (is && (chkP p && (p.six == six))) = false) :
    Calls Try.prog 17 #[tV is six room (.slice a n cap), p.val, .int .i64 x] w (RefT w a L is six room L 1) := by
  have HZ := Lib.hid (putB_new w (tR is six room (.slice a n cap)) p)
  have HR := Lib.hid (fun W => qright is six room (.slice a n cap) p W hp)
  rw [hr] at HR
  have ez : (#[.bool false, .bool false, .int .i64 0, .slice none 0 0] : Array Value) = (tR false false 0 (.slice none 0 0)).toArray := rfl
  have HP := Lib.hid hp
  have HC := Lib.hid hC
  have R1 := Lib.hid (rangeAll HZ.out.1)
  have R2 := Lib.hid (rangeAll HZ.out.2.1)
  unfold RefT
  rw [show tV is six room (.slice a n cap) = .agg (tR is six room (.slice a n cap)).toArray from rfl, show p.val = .agg p.row.toArray from rfl]
  clear hp hC
  go_enter Try.func17, Try.ntmps17
  go_wp2_with (first
    | (refine plV rfl (tV is six room (.slice a n cap)) (exec_load_any _ (.tmp 3) rfl w.heap.size 0 (tR is six room (.slice a n cap)) _ rfl R1.out Try.underlying28 rfl t_info) ?_)
    | (refine plV rfl p.val (exec_load_any _ (.tmp 4) rfl (w.heap.size + 1) 0 p.row _ rfl R2.out Try.underlying32 rfl (pf_infoC HP.out)) ?_)
    | (go_at_call 28; refine (HR.out _).mono ?_; rintro e w1 ⟨rfl, b1⟩; refine Hid.out ?_))
  refine Lib.hid ?_
  have z1 := HZ.out.up b1
  have R3 := Lib.hid (rangeAll z1.1)
  have HZ1 := Lib.hid z1
  clear z1 HZ R1 R2 b1
  go_wp2_with (first
    | (refine plV rfl (tV is six room (.slice a n cap)) (exec_load_any _ (.tmp 3) rfl w.heap.size 0 (tR is six room (.slice a n cap)) _ rfl R3.out Try.underlying28 rfl t_info) ?_)
    | (refine wpList_store_bx rfl 28 (.tmp 6) (.tmp 17) rfl (w.heap.size + 1 + 1) (tR is six room (.slice a n cap)) (tR false false 0 (.slice none 0 0)) rfl rfl HZ1.out.2.2.1 t_info rfl (t_one _ _ _ _ rfl) ?_; refine Hid.out ?_))
  refine Lib.hid ?_
  go_wp2
  have hb := below_row HZ1.out.2.2.2 (show w.heap.size ≤ w.heap.size + 1 + 1 by omega) (tR is six room (.slice a n cap)).toArray
  exact bodyPost_ret (results_t2 Try.results17 _ _ (w.heap.size + 1 + 1) (tR is six room (.slice a n cap)) rfl rfl (HZ1.out.2.2.1.row _)) rfl ⟨⟨a, n, cap, rfl, HC.out.below hb, .inl ⟨rfl, by trivial⟩⟩, hb⟩
end Go.Proofs.Ytecefdocemkliaa
