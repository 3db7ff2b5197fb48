/- The document's tables of both kinds (footplateref10): New, Put, Delete, Get, Look. -/
import Derived.Test.YtgimcapcnidjjaaFib3
namespace Go.Proofs.Ytgimcapcnidjjaa
open Go Go.RowKit

structure Sl where
  a : Option Addr
  n : Nat
  c : Nat
def Sl.v (s : Sl) : Value := .slice s.a s.n s.c
def nilS : Sl := ⟨none, 0, 0⟩
def fR (is : Bool) (room : Int) (D : Bool → Sl) : List Value := tR is false room (D false).v ++ tR is is room (D true).v
def fV (is : Bool) (room : Int) (D : Bool → Sl) : Value := .agg (fR is room D).toArray
def upS (D : Bool → Sl) (s : Bool) (d : Sl) : Bool → Sl := fun t => if t = s then d else D t
theorem f_info : (Try.prog.info? 33).map (·.size) = some 8 := by kernel_rfl
theorem f_one (is : Bool) (room : Int) (D : Bool → Sl) : ∀ v ∈ fR is room D, v.oneCell' = true := by
  intro v hv
  rcases List.mem_append.1 hv with h | h
  · exact t_one _ _ _ _ rfl v h
  · exact t_one _ _ _ _ rfl v h
theorem built_f2 (is i2 : Bool) (room : Int) (a4 a6 : Option Addr) (n4 c4 n6 c6 : Nat) : Try.prog.built 33 [(0, tV is false room (.slice a4 n4 c4)), (1, tV is i2 room (.slice a6 n6 c6))] = some (tR is false room (.slice a4 n4 c4) ++ tR is i2 room (.slice a6 n6 c6)).toArray := by kernel_rfl
theorem results_f {fn : Func} {u : Tmp} (h : fn.results = #[.cell u 33]) (tmps : Array Value) (w : World) (g : Nat) (l : List Value) (hl : l.length = 8) (hp : tmps.getD u undef = .pointer (some ⟨g, 0, none⟩))
    (hg : Bx w g 33 l) : (results fn tmps).run Try.prog w = .ok (.agg l.toArray) w :=
  results_cell_row h tmps w g _ _ _ _ hp hg Try.underlying33 rfl (by rw [f_info]; simp [hl])
theorem results_f2 {fn : Func} {u v : Tmp} (h : fn.results = #[.cell u 33, .tmp v]) (tmps : Array Value) (w : World) (g : Nat) (l : List Value) (hl : l.length = 8) (hp : tmps.getD u undef = .pointer (some ⟨g, 0, none⟩))
    (hg : Bx w g 33 l) : (results fn tmps).run Try.prog w = .ok (.tuple #[.agg l.toArray, tmps.getD v undef]) w := by
  rw [results_cell_tmp h, hp]
  have := run_loadVar_row (P := Try.prog) w g _ _ l.toArray (0, 0) _ hg Try.underlying33 rfl (by rw [f_info]; simp [hl])
  simp only [asAddr, Sem.run_pure, Result.andThen_ok, this]
/-! Cells in the middle of a box. -/
theorem bx_there {W : World} {g : Nat} {t : TypeId} {l : List Value} (h : Bx W g t l) (k m : Nat) (hk : k + m ≤ l.length) : W.there g k m := fun j hj =>
  ⟨by rw [h.cell, List.getElem?_eq_getElem (by omega)]; rfl, h.frozen _⟩
theorem bx_setCells {g : Nat} {t : TypeId} {C : List Value} : ∀ (N M A : List Value) (W : World), N.length = M.length → Bx W g t (A ++ M ++ C) → Bx (W.setCells g A.length N) g t (A ++ N ++ C)
  | [], M, A, W, hl, h => by
    obtain rfl : M = [] := List.eq_nil_of_length_eq_zero hl.symm
    exact h
  | v :: vs, [], A, W, hl, h => by cases hl
  | v :: vs, m :: ms, A, W, hl, h => by
    have h1 := h.set A.length v
    have e : (A ++ (m :: ms) ++ C).set A.length v = (A ++ [v]) ++ ms ++ C := by
      rw [List.append_assoc, List.set_append_right _ _ (Nat.le_refl _), Nat.sub_self]
      simp
    rw [e] at h1
    have h2 := bx_setCells vs ms (A ++ [v]) _ (by simpa using hl) h1
    rw [List.length_append] at h2
    have e2 : A ++ [v] ++ vs ++ C = A ++ (v :: vs) ++ C := by simp
    rw [e2] at h2
    exact h2
theorem bx_mid {W : World} {g k : Nat} {t : TypeId} {l l' N : List Value} (h : Bx W g t l) (hk : k + N.length ≤ l.length) (e : l' = l.take k ++ N ++ l.drop (k + N.length)) : Bx (W.setCells g k N) g t l' := by
  have hl : l = l.take k ++ (l.drop k).take N.length ++ l.drop (k + N.length) := by
    rw [List.append_assoc, ← List.drop_drop, List.take_append_drop, List.take_append_drop]
  rw [hl] at h
  have := bx_setCells N _ _ W (by rw [List.length_take, List.length_drop]; omega) h
  rw [List.length_take, Nat.min_eq_left (by omega)] at this
  rw [e]
  exact this
/-- The boxes of Put and Delete: the tables, the prefix, what is answered. -/
structure GpZ (w : World) (l : List Value) (p : Pfx) (m : List Value) (W : World) : Prop where
  f : Bx W w.heap.size 33 l
  p : Bx W (w.heap.size + 1) 25 p.row
  r : Bx W (w.heap.size + 1 + 1) 33 m
  below : Below w.heap.size w W
theorem GpZ.up {w : World} {l : List Value} {p : Pfx} {m : List Value} {W W' : World} (h : GpZ w l p m W) (hb : Below W.heap.size W W') : GpZ w l p m W' := ⟨h.f.up hb, h.p.up hb, h.r.up hb, below_up h.below hb h.below.size⟩
def zF : List Value := fR false 0 (fun _ => nilS)
theorem gpZ_new (w : World) (l : List Value) (p : Pfx) : GpZ w l p zF (((w.alloc (.cells l.toArray 33)).alloc (.cells p.row.toArray 25)).alloc (.cells zF.toArray 33)) := by
  have h := twoB_new w 33 25 l p.row
  refine ⟨h.1.al _, h.2.1.al _, ?_, h.2.2.alloc (by simp; omega) _⟩
  have := Bx.new ((w.alloc (.cells l.toArray 33)).alloc (.cells p.row.toArray 25)) 33 zF
  rwa [World.size_alloc, World.size_alloc] at this
/-- What is answered: both tables by value, one of them another one, and an error. -/
def RefF (w : World) (D : Bool → Sl) (L0 : Bool → List (Pfx × Int)) (is : Bool) (room : Int) (s : Bool) (L' : List (Pfx × Int)) (c : Int) (e : Ending) (w' : World) : Prop := (∃ d : Sl, e = .returned (.tuple #[fV is room (upS D s d), .int .i64 c]) ∧ IsC itF 19 w' d.v L' ∧ ((d.a = (D s).a ∧ L' = L0 s) ∨ ∀ x, d.a = some x → w.heap.size ≤ x.block)) ∧ Below w.heap.size w w'
/-- What is answered lies apart from the boxes. -/
theorem Upd.all {w w' : World} {X Y : Nat → Prop} (h : Upd w X w' X) (hX : ∀ k, X k → Y k) : Upd w Y w' Y := ⟨h.os, h.tape, h.output, h.size, fun k hk hy => h.block k hk (fun hx => hy (hX k hx)), fun _ h => .inl h⟩
theorem gend {w W3 W4 : World} {a a0 : Option Addr} {n c n0 c0 : Nat} {L' L0 : List (Pfx × Int)} (hC : IsC itF 19 W4 (.slice a n c) L') (h0 : IsC itF 19 w (.slice a0 n0 c0) L0) (hs : w.heap.size + 1 + 1 < W3.heap.size) (hd : (a = a0 ∧ L' = L0) ∨ ∀ x, a = some x → W3.heap.size ≤ x.block)
    (cs : List Value) (k : Nat) (t : TypeId) (ds rs : List Value) (hB : Below w.heap.size w W4) :
    IsC itF 19 (((W4.alloc (.cells cs.toArray t)).setCells w.heap.size k ds).setRow (w.heap.size + 1 + 1) rs.toArray) (.slice a n c) L' ∧ ((a = a0 ∧ L' = L0) ∨ ∀ x, a = some x → w.heap.size ≤ x.block) ∧ Below w.heap.size w (((W4.alloc (.cells cs.toArray t)).setCells w.heap.size k ds).setRow (w.heap.size + 1 + 1) rs.toArray) := by
  have hal : Below W4.heap.size W4 (W4.alloc (.cells cs.toArray t)) := (Below.refl _ _).alloc (Nat.le_refl _) _
  have u1 : Upd W4 (fun k => k = w.heap.size ∨ k = w.heap.size + 1 + 1) (W4.alloc (.cells cs.toArray t)) (fun k => k = w.heap.size ∨ k = w.heap.size + 1 + 1) := Upd.of_below _ hal
  have u2 := u1.trans (Upd.setCells (X := fun k => k = w.heap.size ∨ k = w.heap.size + 1 + 1) w.heap.size (.inl rfl) ds _ k)
  have u3 := u2.trans ((Upd.setRow ((W4.alloc (.cells cs.toArray t)).setCells w.heap.size k ds) (w.heap.size + 1 + 1) rs.toArray).all (Y := fun k => k = w.heap.size ∨ k = w.heap.size + 1 + 1) (fun k hk => .inr hk))
  refine ⟨isC_upd hC u3 (fun h0' x e => ?_), ?_, hB.trans (u3.below w.heap.size hB.size (fun k hk => by omega))⟩
  · rcases hd with ⟨rfl, rfl⟩ | hd
    · obtain ⟨_, _, _, h4⟩ := h0.shape
      obtain ⟨b, k, e2, hb, _⟩ := h4 h0'
      rw [e2] at e
      cases e
      simp only
      omega
    · have := hd x e
      omega
  · rcases hd with hd | hd
    · exact .inl hd
    · exact .inr (fun y e => by have := hd y e; omega)
set_option maxRecDepth 100000 in
set_option maxHeartbeats 8000000 in
theorem gput_six (is : Bool) (room : Int) (D : Bool → Sl) (L : Bool → List (Pfx × Int)) (p : Pfx) (x : Int) (w : World) (hC : IsC itF 19 w (D true).v (L true)) (hp : p.addr.length = 16) (hl : (L true).length ≤ 900000) (hs : p.six = true) :
    Calls Try.prog 10 #[fV is room D, p.val, .int .i64 x] w (RefF w D L is room true (rputL is is room (L true) p x) (rputE is is room (L true) p)) := by
  have HZ := Lib.hid (gpZ_new w (fR is room D) p)
  have ez : (#[.bool false, .bool false, .int .i64 0, .slice none 0 0, .bool false, .bool false, .int .i64 0, .slice none 0 0] : Array Value) = zF.toArray := rfl
  have HP := Lib.hid hp
  have HC := Lib.hid hC
  have HQ := Lib.hid (fun W (hW : Below w.heap.size w W) => qput_any is is room (D true).a (D true).n (D true).c (L true) p x W (hC.below hW) hp hl)
  have c0 := HZ.out.p.cell 0
  rw [show p.row[0]? = some (.bool p.six) from rfl, hs] at c0
  have R1 := Lib.hid (HZ.out.f.range 4 (tR is is room (D true).v) rfl)
  have R2 := Lib.hid (rangeAll HZ.out.p)
  have HS := Lib.hid HZ.out.r.lt
  unfold RefF
  rw [show fV is room D = .agg (fR is room D).toArray from rfl, show p.val = .agg p.row.toArray from rfl]
  clear hp hC hl hs
  generalize rputL is is room (L true) p x = L1 at *
  generalize rputE is is room (L true) p = c1 at *
  go_enter Try.func10, Try.ntmps10
  go_wp2_with (first
    | (refine plV rfl (tV is is room (D true).v) (exec_load_any _ (.tmp 15) rfl w.heap.size 4 (tR is is room (D true).v) _ rfl R1.out Try.underlying31 rfl t_info) ?_)
    | (refine plV rfl p.val (exec_load_any _ (.tmp 4) rfl (w.heap.size + 1) 0 p.row _ rfl R2.out Try.underlying25 rfl (pf_infoC HP.out)) ?_)
    | (go_at_call 33; refine (HQ.out _ HZ.out.below).mono ?_; rintro e w3 ⟨⟨a1, n1, k1, rfl, l3, d3⟩, b3⟩; refine Hid.out ?_))
  refine Lib.hid ?_
  have hbA : Below w3.heap.size w3 (w3.alloc (.cells (tR is is room (.slice a1 n1 k1)).toArray 31)) := (Below.refl _ _).alloc (Nat.le_refl _) _
  have HZ4 := Lib.hid ((HZ.out.up b3).up hbA)
  have HG := Lib.hid (gend (w := w) l3 HC.out HS.out d3 (tR is is room (.slice a1 n1 k1)) 4 31 (tR is is room (.slice a1 n1 k1)) (fR is room (upS D true ⟨a1, n1, k1⟩)) (HZ.out.up b3).below)
  have HT := Lib.hid (rangeAll (Bx.new w3 31 (tR is is room (.slice a1 n1 k1))))
  have hmid := bx_mid (l' := fR is room (upS D true ⟨a1, n1, k1⟩)) (N := tR is is room (.slice a1 n1 k1)) (k := 4) HZ4.out.f (Nat.le_of_ble_eq_true rfl) rfl
  have hth := bx_there HZ4.out.f 4 4 (Nat.le_of_ble_eq_true rfl)
  have HM := Lib.hid hmid
  have HTH := Lib.hid hth
  have HR := Lib.hid ((HZ4.out.r.upd (Upd.setCells (X := fun k => k = w.heap.size) w.heap.size rfl (tR is is room (.slice a1 n1 k1)) _ 4) (by omega)))
  clear l3 d3 b3 hbA hmid hth HZ HQ R1 R2 c0 HC HS
  rw [show tV is is room (.slice a1 n1 k1) = .agg (tR is is room (.slice a1 n1 k1)).toArray from rfl]
  go_wp2_with (first
    | (refine wpList_store_fresh rfl 31 (.tmp 8) (.tmp 20) rfl (tR is is room (.slice a1 n1 k1)) _ w3.heap.size rfl rfl rfl t_info rfl (t_one _ _ _ _ rfl) ?_)
    | (refine plV rfl (tV is is room (.slice a1 n1 k1)) (exec_load_any _ (.tmp 8) rfl w3.heap.size 0 (tR is is room (.slice a1 n1 k1)) _ rfl HT.out Try.underlying31 rfl t_info) ?_)
    | (refine plS rfl (exec_store_mid _ (.tmp 23) (.tmp 22) rfl w.heap.size 4 (tR is is room (.slice a1 n1 k1)) rfl rfl HTH.out t_info (t_one _ _ _ _ rfl)) ?_; refine Hid.out ?_))
  refine Lib.hid ?_
  have RF := Lib.hid (rangeAll HM.out)
  clear HTH HT
  generalize (w3.alloc (.cells (tR is is room (.slice a1 n1 k1)).toArray 31)).setCells w.heap.size 4 (tR is is room (.slice a1 n1 k1)) = W6 at *
  go_wp2_with (first
    | (refine plV rfl (fV is room (upS D true ⟨a1, n1, k1⟩)) (exec_load_any _ (.tmp 3) rfl w.heap.size 0 (fR is room (upS D true ⟨a1, n1, k1⟩)) _ rfl RF.out Try.underlying33 rfl f_info) ?_)
    | (refine wpList_store_bx rfl 33 (.tmp 6) (.tmp 24) rfl (w.heap.size + 1 + 1) (fR is room (upS D true ⟨a1, n1, k1⟩)) zF rfl rfl HR.out f_info rfl (f_one _ _ _) ?_; refine Hid.out ?_))
  refine Lib.hid ?_
  go_wp2
  obtain ⟨h1, h2, h3⟩ := HG.out
  exact bodyPost_ret (results_f2 Try.results10 _ _ (w.heap.size + 1 + 1) (fR is room (upS D true ⟨a1, n1, k1⟩)) rfl rfl (HR.out.row _)) rfl ⟨⟨⟨a1, n1, k1⟩, rfl, h1, h2⟩, h3⟩
set_option maxRecDepth 100000 in
set_option maxHeartbeats 8000000 in
theorem gput_four (is : Bool) (room : Int) (D : Bool → Sl) (L : Bool → List (Pfx × Int)) (p : Pfx) (x : Int) (w : World) (hC : IsC itF 19 w (D false).v (L false)) (hp : p.addr.length = 16) (hl : (L false).length ≤ 900000) (hs : p.six = false) :
    Calls Try.prog 10 #[fV is room D, p.val, .int .i64 x] w (RefF w D L is room false (rputL is false room (L false) p x) (rputE is false room (L false) p)) := by
  have HZ := Lib.hid (gpZ_new w (fR is room D) p)
  have ez : (#[.bool false, .bool false, .int .i64 0, .slice none 0 0, .bool false, .bool false, .int .i64 0, .slice none 0 0] : Array Value) = zF.toArray := rfl
  have HP := Lib.hid hp
  have HC := Lib.hid hC
  have HQ := Lib.hid (fun W (hW : Below w.heap.size w W) => qput_any is false room (D false).a (D false).n (D false).c (L false) p x W (hC.below hW) hp hl)
  have c0 := HZ.out.p.cell 0
  rw [show p.row[0]? = some (.bool p.six) from rfl, hs] at c0
  have R1 := Lib.hid (HZ.out.f.range 0 (tR is false room (D false).v) rfl)
  have R2 := Lib.hid (rangeAll HZ.out.p)
  have HS := Lib.hid HZ.out.r.lt
  unfold RefF
  rw [show fV is room D = .agg (fR is room D).toArray from rfl, show p.val = .agg p.row.toArray from rfl]
  clear hp hC hl hs
  generalize rputL is false room (L false) p x = L1 at *
  generalize rputE is false room (L false) p = c1 at *
  go_enter Try.func10, Try.ntmps10
  go_wp2_with (first
    | (refine plV rfl (tV is false room (D false).v) (exec_load_any _ (.tmp 27) rfl w.heap.size 0 (tR is false room (D false).v) _ rfl R1.out Try.underlying31 rfl t_info) ?_)
    | (refine plV rfl p.val (exec_load_any _ (.tmp 4) rfl (w.heap.size + 1) 0 p.row _ rfl R2.out Try.underlying25 rfl (pf_infoC HP.out)) ?_)
    | (go_at_call 33; refine (HQ.out _ HZ.out.below).mono ?_; rintro e w3 ⟨⟨a1, n1, k1, rfl, l3, d3⟩, b3⟩; refine Hid.out ?_))
  refine Lib.hid ?_
  have hbA : Below w3.heap.size w3 (w3.alloc (.cells (tR is false room (.slice a1 n1 k1)).toArray 31)) := (Below.refl _ _).alloc (Nat.le_refl _) _
  have HZ4 := Lib.hid ((HZ.out.up b3).up hbA)
  have HG := Lib.hid (gend (w := w) l3 HC.out HS.out d3 (tR is false room (.slice a1 n1 k1)) 0 31 (tR is false room (.slice a1 n1 k1)) (fR is room (upS D false ⟨a1, n1, k1⟩)) (HZ.out.up b3).below)
  have HT := Lib.hid (rangeAll (Bx.new w3 31 (tR is false room (.slice a1 n1 k1))))
  have hmid := bx_mid (l' := fR is room (upS D false ⟨a1, n1, k1⟩)) (N := tR is false room (.slice a1 n1 k1)) (k := 0) HZ4.out.f (Nat.le_of_ble_eq_true rfl) rfl
  have hth := bx_there HZ4.out.f 0 4 (Nat.le_of_ble_eq_true rfl)
  have HM := Lib.hid hmid
  have HTH := Lib.hid hth
  have HR := Lib.hid ((HZ4.out.r.upd (Upd.setCells (X := fun k => k = w.heap.size) w.heap.size rfl (tR is false room (.slice a1 n1 k1)) _ 0) (by omega)))
  clear l3 d3 b3 hbA hmid hth HZ HQ R1 R2 c0 HC HS
  rw [show tV is false room (.slice a1 n1 k1) = .agg (tR is false room (.slice a1 n1 k1)).toArray from rfl]
  go_wp2_with (first
    | (refine wpList_store_fresh rfl 31 (.tmp 10) (.tmp 32) rfl (tR is false room (.slice a1 n1 k1)) _ w3.heap.size rfl rfl rfl t_info rfl (t_one _ _ _ _ rfl) ?_)
    | (refine plV rfl (tV is false room (.slice a1 n1 k1)) (exec_load_any _ (.tmp 10) rfl w3.heap.size 0 (tR is false room (.slice a1 n1 k1)) _ rfl HT.out Try.underlying31 rfl t_info) ?_)
    | (refine plS rfl (exec_store_mid _ (.tmp 35) (.tmp 34) rfl w.heap.size 0 (tR is false room (.slice a1 n1 k1)) rfl rfl HTH.out t_info (t_one _ _ _ _ rfl)) ?_; refine Hid.out ?_))
  refine Lib.hid ?_
  have RF := Lib.hid (rangeAll HM.out)
  clear HTH HT
  generalize (w3.alloc (.cells (tR is false room (.slice a1 n1 k1)).toArray 31)).setCells w.heap.size 0 (tR is false room (.slice a1 n1 k1)) = W6 at *
  go_wp2_with (first
    | (refine plV rfl (fV is room (upS D false ⟨a1, n1, k1⟩)) (exec_load_any _ (.tmp 3) rfl w.heap.size 0 (fR is room (upS D false ⟨a1, n1, k1⟩)) _ rfl RF.out Try.underlying33 rfl f_info) ?_)
    | (refine wpList_store_bx rfl 33 (.tmp 6) (.tmp 36) rfl (w.heap.size + 1 + 1) (fR is room (upS D false ⟨a1, n1, k1⟩)) zF rfl rfl HR.out f_info rfl (f_one _ _ _) ?_; refine Hid.out ?_))
  refine Lib.hid ?_
  go_wp2
  obtain ⟨h1, h2, h3⟩ := HG.out
  exact bodyPost_ret (results_f2 Try.results10 _ _ (w.heap.size + 1 + 1) (fR is room (upS D false ⟨a1, n1, k1⟩)) rfl rfl (HR.out.row _)) rfl ⟨⟨⟨a1, n1, k1⟩, rfl, h1, h2⟩, h3⟩
end Go.Proofs.Ytgimcapcnidjjaa
