/- The document's space: an area that goes. The document's space: Close, whole. -/
import Derived.Test.YtgelbeglffjdaaaRq6
namespace Go.Proofs.Ytgelbeglffjdaaa
open Go Go.RowKit Go.Shelf
attribute [local go_sem] Oper.semAt_some

theorem below_setCells {n b : Nat} {w : World} (hb : n ≤ b) : ∀ (N : List Value) (k : Nat) (W : World), Below n w W → Below n w (W.setCells b k N)
  | [], _, _, h => h
  | v :: vs, k, _, h => below_setCells hb vs (k + 1) _ (h.setCell (p := ⟨b, k, none⟩) hb v)
theorem bx_farCells {g b : Nat} {t : TypeId} {l : List Value} (hb : g ≠ b) : ∀ (N : List Value) (k : Nat) (W : World), Bx W g t l → Bx (W.setCells b k N) g t l
  | [], _, _, h => h
  | v :: vs, k, W, h => bx_farCells hb vs (k + 1) _ (h.kp (KpO.set (O := fun x => x = b) W b k v rfl) hb)
/-- the space's box and the result's, both new -/
structure CloQ (w : World) (t : SpS) (vl : Value) (W : World) : Prop where
  s : Bx W w.heap.size 31 (rqR t vl)
  r : Bx W (w.heap.size + 1) 31 (rqR ⟨⟨0, 0⟩, ⟨0, 0⟩, []⟩ (.slice none 0 0))
  below : Below w.heap.size w W
theorem CloQ.up {w : World} {t : SpS} {vl : Value} {W W' : World} (h : CloQ w t vl W) (hb : Below W.heap.size W W') : CloQ w t vl W' := ⟨h.s.up hb, h.r.up hb, below_up h.below hb h.below.size⟩
theorem cloQ_new (w : World) (t : SpS) (vl : Value) : CloQ w t vl ((w.alloc (.cells (rqR t vl).toArray 31)).alloc (.cells (rqR ⟨⟨0, 0⟩, ⟨0, 0⟩, []⟩ (.slice none 0 0)).toArray 31)) := by
  have al : ∀ (W : World) (o : Obj), Below W.heap.size W (W.alloc o) := fun W o => (Below.refl _ _).alloc (Nat.le_refl _) _
  have h1 := Bx.new w 31 (rqR t vl)
  have h2 := Bx.new (w.alloc (.cells (rqR t vl).toArray 31)) 31 (rqR ⟨⟨0, 0⟩, ⟨0, 0⟩, []⟩ (.slice none 0 0))
  have s1 : (w.alloc (.cells (rqR t vl).toArray 31)).heap.size = w.heap.size + 1 := by simp
  rw [s1] at h2
  have b1 := al w (.cells (rqR t vl).toArray 31)
  have b2 := al (w.alloc (.cells (rqR t vl).toArray 31)) (.cells (rqR ⟨⟨0, 0⟩, ⟨0, 0⟩, []⟩ (.slice none 0 0)).toArray 31)
  exact ⟨h1.up b2, h2, below_up b1 b2 b1.size⟩
/-- a row put into the result's box is the result -/
theorem cloQ_end {w W : World} {t T : SpS} {vl vT : Value} (h : CloQ w t vl W) : ∃ WZ, W.setRow (w.heap.size + 1) (rqR T vT).toArray = WZ ∧ Below w.heap.size w WZ ∧ Bx WZ (w.heap.size + 1) 31 (rqR T vT) :=
  ⟨_, rfl, below_row h.below (Nat.le_succ _) (rqR T vT).toArray, h.r.row (rqR T vT)⟩
theorem exec_store_midR {ρ : Operand → Value} {o : Oper} {w : World} (ty : TypeId) (x y : Operand) (ho : o.op = .store ty x y) (b k : Nat) (l : List Value) (hx : ρ x = .pointer (some ⟨b, k, none⟩)) (hy : ρ y = .agg l.toArray)
    (ht : w.there b k l.length) (hi : (Try.prog.info? ty).map (·.size) = some l.length) (h1 : ∀ v ∈ l, v.oneCell' = true) :
    (execOp ρ o).run Try.prog w = .ok .skip (w.setCells b k l) := by
  unfold execOp
  have := run_storeVar_mid (P := Try.prog) w b k ty l.toArray (by simpa using ht) (by simpa using hi) (all_oneCell_toArray h1)
  simp only [ho, hx, hy, Instr.storeAt, Instr.sureAddr, Sem.run_bind, Sem.run_pure, Result.andThen_ok, this]
theorem bx_there {W : World} {g : Nat} {t : TypeId} {l : List Value} (h : Bx W g t l) (k m : Nat) (hk : k + m ≤ l.length) : W.there g k m := fun j hj =>
  ⟨by rw [h.cell, List.getElem?_eq_getElem (by omega)]; rfl, h.frozen _⟩
theorem bx_setCells {g : Nat} {t : TypeId} {C : List Value} : ∀ (N M A : List Value) (W : World), N.length = M.length → Bx W g t (A ++ M ++ C) → Bx (W.setCells g A.length N) g t (A ++ N ++ C)
  | [], M, A, W, hl, h => by
    obtain rfl : M = [] := List.eq_nil_of_length_eq_zero hl.symm
    exact h
  | v :: vs, [], A, W, hl, h => by cases hl
  | v :: vs, m :: ms, A, W, hl, h => by
    have h1 := h.set A.length v
    have e : (A ++ (m :: ms) ++ C).set A.length v = (A ++ [v]) ++ ms ++ C := by
      rw [List.append_assoc, List.set_append_right _ _ (Nat.le_refl _), Nat.sub_self]
      simp
    rw [e] at h1
    have h2 := bx_setCells vs ms (A ++ [v]) _ (by simpa using hl) h1
    rw [List.length_append] at h2
    have e2 : A ++ [v] ++ vs ++ C = A ++ (v :: vs) ++ C := by simp
    rw [e2] at h2
    exact h2
theorem bx_mid {W : World} {g k : Nat} {t : TypeId} {l l' N : List Value} (h : Bx W g t l) (hk : k + N.length ≤ l.length) (e : l' = l.take k ++ N ++ l.drop (k + N.length)) : Bx (W.setCells g k N) g t l' := by
  have hl : l = l.take k ++ (l.drop k).take N.length ++ l.drop (k + N.length) := by
    rw [List.append_assoc, ← List.drop_drop, List.take_append_drop, List.take_append_drop]
  rw [hl] at h
  have := bx_setCells N _ _ W (by rw [List.length_take, List.length_drop]; omega) h
  rw [List.length_take, Nat.min_eq_left (by omega)] at this
  rw [e]
  exact this
set_option maxRecDepth 100000 in
set_option maxHeartbeats 2000000 in
theorem rclose_out (t : SpS) (vl : Value) (k : Int) (w : World) (hkl : IsK w vl t.l) (hk : k < 1 ∨ 2 < k) :
    Calls Try.prog 42 #[rqV t vl, .int .i64 k] w fun e w' => e = .returned (.tuple #[rqV t vl, .int .i64 1]) ∧ Below w.heap.size w w' := by
  obtain ⟨ab, cb, hvb, hcb⟩ := hkl.form
  subst hvb
  have HQ := Lib.hid (cloQ_new w t (.slice ab t.l.length cb))
  rw [show rqV t (.slice ab t.l.length cb) = .agg (rqR t (.slice ab t.l.length cb)).toArray from rfl]
  rw [show (rqR ⟨⟨0, 0⟩, ⟨0, 0⟩, []⟩ (.slice none 0 0)).toArray = #[.int .i64 0, .int .i64 0, .int .i64 0, .int .i64 0, .int .i64 0, .int .i64 0, .slice none 0 0] from rfl] at HQ
  by_cases h1 : k < 1
  · go_enter Try.func42, Try.ntmps42
    have hsr := rangeAll HQ.out.s
    go_wp2_with (first
      | (refine plV rfl (rqV t (.slice ab t.l.length cb)) (exec_load_any 31 (.tmp 2) rfl w.heap.size 0 (rqR t (.slice ab t.l.length cb)) _ rfl hsr Try.underlying31 rfl refs_info) ?_)
      | (refine plS rfl (exec_store_bxK _ (.tmp 4) (.tmp 13) rfl (w.heap.size + 1) (rqR t (.slice ab t.l.length cb)) _ rfl rfl HQ.out.r refs_info rfl (rqR_one _ _ rfl)) ?_))
    obtain ⟨WZ, hwz, hbz, hxz⟩ := cloQ_end (T := t) (vT := (.slice ab t.l.length cb)) HQ.out
    rw [hwz]
    have u0 : WZ.cell? ⟨w.heap.size + 1, 0, none⟩ = some (.int .i64 0) := by rw [hxz.cell]; rfl
    have u1 : WZ.cell? ⟨w.heap.size + 1, 1, none⟩ = some (.int .i64 0) := by rw [hxz.cell]; rfl
    have u2 : WZ.cell? ⟨w.heap.size + 1, 2, none⟩ = some (.int .i64 t.a1.f) := by rw [hxz.cell]; rfl
    have u3 : WZ.cell? ⟨w.heap.size + 1, 3, none⟩ = some (.int .i64 t.a1.l) := by rw [hxz.cell]; rfl
    have u4 : WZ.cell? ⟨w.heap.size + 1, 4, none⟩ = some (.int .i64 t.a2.f) := by rw [hxz.cell]; rfl
    have u5 : WZ.cell? ⟨w.heap.size + 1, 5, none⟩ = some (.int .i64 t.a2.l) := by rw [hxz.cell]; rfl
    have u6 : WZ.cell? ⟨w.heap.size + 1, 6, none⟩ = some ((.slice ab t.l.length cb)) := by rw [hxz.cell]; rfl
    exact bodyPost_ret (v := .tuple #[rqV t (.slice ab t.l.length cb), .int .i64 1]) (by simp [results, Try.results42, go_sem, rqV, rqR, u0, u1, u2, u3, u4, u5, u6]) rfl ⟨rfl, hbz⟩
  · have h2 : 2 < k := by omega
    go_enter Try.func42, Try.ntmps42
    have hsr := rangeAll HQ.out.s
    go_wp2_with (first
      | (refine plV rfl (rqV t (.slice ab t.l.length cb)) (exec_load_any 31 (.tmp 2) rfl w.heap.size 0 (rqR t (.slice ab t.l.length cb)) _ rfl hsr Try.underlying31 rfl refs_info) ?_)
      | (refine plS rfl (exec_store_bxK _ (.tmp 4) (.tmp 13) rfl (w.heap.size + 1) (rqR t (.slice ab t.l.length cb)) _ rfl rfl HQ.out.r refs_info rfl (rqR_one _ _ rfl)) ?_))
    obtain ⟨WZ, hwz, hbz, hxz⟩ := cloQ_end (T := t) (vT := (.slice ab t.l.length cb)) HQ.out
    rw [hwz]
    have u0 : WZ.cell? ⟨w.heap.size + 1, 0, none⟩ = some (.int .i64 0) := by rw [hxz.cell]; rfl
    have u1 : WZ.cell? ⟨w.heap.size + 1, 1, none⟩ = some (.int .i64 0) := by rw [hxz.cell]; rfl
    have u2 : WZ.cell? ⟨w.heap.size + 1, 2, none⟩ = some (.int .i64 t.a1.f) := by rw [hxz.cell]; rfl
    have u3 : WZ.cell? ⟨w.heap.size + 1, 3, none⟩ = some (.int .i64 t.a1.l) := by rw [hxz.cell]; rfl
    have u4 : WZ.cell? ⟨w.heap.size + 1, 4, none⟩ = some (.int .i64 t.a2.f) := by rw [hxz.cell]; rfl
    have u5 : WZ.cell? ⟨w.heap.size + 1, 5, none⟩ = some (.int .i64 t.a2.l) := by rw [hxz.cell]; rfl
    have u6 : WZ.cell? ⟨w.heap.size + 1, 6, none⟩ = some ((.slice ab t.l.length cb)) := by rw [hxz.cell]; rfl
    exact bodyPost_ret (v := .tuple #[rqV t (.slice ab t.l.length cb), .int .i64 1]) (by simp [results, Try.results42, go_sem, rqV, rqR, u0, u1, u2, u3, u4, u5, u6]) rfl ⟨rfl, hbz⟩
set_option maxRecDepth 100000 in
set_option maxHeartbeats 2000000 in
theorem rclose_none1 (t : SpS) (vl : Value) (w : World) (hkl : IsK w vl t.l) (hf : t.a1.f = 0) :
    Calls Try.prog 42 #[rqV t vl, .int .i64 (1 : Int)] w fun e w' => e = .returned (.tuple #[rqV t vl, .int .i64 31]) ∧ Below w.heap.size w w' := by
  obtain ⟨ab, cb, hvb, hcb⟩ := hkl.form
  subst hvb
  have HQ := Lib.hid (cloQ_new w t (.slice ab t.l.length cb))
  rw [show rqV t (.slice ab t.l.length cb) = .agg (rqR t (.slice ab t.l.length cb)).toArray from rfl]
  have x1 := rng0 (rq_ar HQ.out.s).1
  rw [hf] at x1
  rw [show (rqR ⟨⟨0, 0⟩, ⟨0, 0⟩, []⟩ (.slice none 0 0)).toArray = #[.int .i64 0, .int .i64 0, .int .i64 0, .int .i64 0, .int .i64 0, .int .i64 0, .slice none 0 0] from rfl] at HQ
  rw [show (rqR ⟨⟨0, 0⟩, ⟨0, 0⟩, []⟩ (.slice none 0 0)).toArray = #[.int .i64 0, .int .i64 0, .int .i64 0, .int .i64 0, .int .i64 0, .int .i64 0, .slice none 0 0] from rfl] at x1
  go_enter Try.func42, Try.ntmps42
  have hsr := rangeAll HQ.out.s
  go_wp2_with (first
    | (refine plV rfl (rqV t (.slice ab t.l.length cb)) (exec_load_any 31 (.tmp 2) rfl w.heap.size 0 (rqR t (.slice ab t.l.length cb)) _ rfl hsr Try.underlying31 rfl refs_info) ?_)
    | (refine plS rfl (exec_store_bxK _ (.tmp 4) (.tmp 20) rfl (w.heap.size + 1) (rqR t (.slice ab t.l.length cb)) _ rfl rfl HQ.out.r refs_info rfl (rqR_one _ _ rfl)) ?_))
  obtain ⟨WZ, hwz, hbz, hxz⟩ := cloQ_end (T := t) (vT := (.slice ab t.l.length cb)) HQ.out
  rw [hwz]
  have u0 : WZ.cell? ⟨w.heap.size + 1, 0, none⟩ = some (.int .i64 0) := by rw [hxz.cell]; rfl
  have u1 : WZ.cell? ⟨w.heap.size + 1, 1, none⟩ = some (.int .i64 0) := by rw [hxz.cell]; rfl
  have u2 : WZ.cell? ⟨w.heap.size + 1, 2, none⟩ = some (.int .i64 t.a1.f) := by rw [hxz.cell]; rfl
  have u3 : WZ.cell? ⟨w.heap.size + 1, 3, none⟩ = some (.int .i64 t.a1.l) := by rw [hxz.cell]; rfl
  have u4 : WZ.cell? ⟨w.heap.size + 1, 4, none⟩ = some (.int .i64 t.a2.f) := by rw [hxz.cell]; rfl
  have u5 : WZ.cell? ⟨w.heap.size + 1, 5, none⟩ = some (.int .i64 t.a2.l) := by rw [hxz.cell]; rfl
  have u6 : WZ.cell? ⟨w.heap.size + 1, 6, none⟩ = some ((.slice ab t.l.length cb)) := by rw [hxz.cell]; rfl
  exact bodyPost_ret (v := .tuple #[rqV t (.slice ab t.l.length cb), .int .i64 31]) (by simp [results, Try.results42, go_sem, rqV, rqR, u0, u1, u2, u3, u4, u5, u6]) rfl ⟨rfl, hbz⟩
set_option maxRecDepth 100000 in
set_option maxHeartbeats 2000000 in
theorem rclose_none2 (t : SpS) (vl : Value) (w : World) (hkl : IsK w vl t.l) (hf : t.a2.f = 0) :
    Calls Try.prog 42 #[rqV t vl, .int .i64 (2 : Int)] w fun e w' => e = .returned (.tuple #[rqV t vl, .int .i64 31]) ∧ Below w.heap.size w w' := by
  obtain ⟨ab, cb, hvb, hcb⟩ := hkl.form
  subst hvb
  have HQ := Lib.hid (cloQ_new w t (.slice ab t.l.length cb))
  rw [show rqV t (.slice ab t.l.length cb) = .agg (rqR t (.slice ab t.l.length cb)).toArray from rfl]
  have x2 := rng0 (rq_ar HQ.out.s).2.1
  rw [hf] at x2
  rw [show (rqR ⟨⟨0, 0⟩, ⟨0, 0⟩, []⟩ (.slice none 0 0)).toArray = #[.int .i64 0, .int .i64 0, .int .i64 0, .int .i64 0, .int .i64 0, .int .i64 0, .slice none 0 0] from rfl] at HQ
  rw [show (rqR ⟨⟨0, 0⟩, ⟨0, 0⟩, []⟩ (.slice none 0 0)).toArray = #[.int .i64 0, .int .i64 0, .int .i64 0, .int .i64 0, .int .i64 0, .int .i64 0, .slice none 0 0] from rfl] at x2
  go_enter Try.func42, Try.ntmps42
  have hsr := rangeAll HQ.out.s
  go_wp2_with (first
    | (refine plV rfl (rqV t (.slice ab t.l.length cb)) (exec_load_any 31 (.tmp 2) rfl w.heap.size 0 (rqR t (.slice ab t.l.length cb)) _ rfl hsr Try.underlying31 rfl refs_info) ?_)
    | (refine plS rfl (exec_store_bxK _ (.tmp 4) (.tmp 20) rfl (w.heap.size + 1) (rqR t (.slice ab t.l.length cb)) _ rfl rfl HQ.out.r refs_info rfl (rqR_one _ _ rfl)) ?_))
  obtain ⟨WZ, hwz, hbz, hxz⟩ := cloQ_end (T := t) (vT := (.slice ab t.l.length cb)) HQ.out
  rw [hwz]
  have u0 : WZ.cell? ⟨w.heap.size + 1, 0, none⟩ = some (.int .i64 0) := by rw [hxz.cell]; rfl
  have u1 : WZ.cell? ⟨w.heap.size + 1, 1, none⟩ = some (.int .i64 0) := by rw [hxz.cell]; rfl
  have u2 : WZ.cell? ⟨w.heap.size + 1, 2, none⟩ = some (.int .i64 t.a1.f) := by rw [hxz.cell]; rfl
  have u3 : WZ.cell? ⟨w.heap.size + 1, 3, none⟩ = some (.int .i64 t.a1.l) := by rw [hxz.cell]; rfl
  have u4 : WZ.cell? ⟨w.heap.size + 1, 4, none⟩ = some (.int .i64 t.a2.f) := by rw [hxz.cell]; rfl
  have u5 : WZ.cell? ⟨w.heap.size + 1, 5, none⟩ = some (.int .i64 t.a2.l) := by rw [hxz.cell]; rfl
  have u6 : WZ.cell? ⟨w.heap.size + 1, 6, none⟩ = some ((.slice ab t.l.length cb)) := by rw [hxz.cell]; rfl
  exact bodyPost_ret (v := .tuple #[rqV t (.slice ab t.l.length cb), .int .i64 31]) (by simp [results, Try.results42, go_sem, rqV, rqR, u0, u1, u2, u3, u4, u5, u6]) rfl ⟨rfl, hbz⟩
set_option maxRecDepth 100000 in
set_option maxHeartbeats 4000000 in
theorem rclose_run1 (t : SpS) (vl : Value) (w : World) (hln1 : t.l.length ≤ 1000) (hkl : IsK w vl t.l) (hf : t.a1.f ≠ 0) :
    Calls Try.prog 42 #[rqV t vl, .int .i64 (1 : Int)] w fun e w' => e = .returned (.tuple #[rqV (if (t.l.any fun b => decide (b.a = 1)) = true then t else (⟨⟨0, 0⟩, t.a2, t.l⟩ : SpS)) vl, .int .i64 (if (t.l.any fun b => decide (b.a = 1)) = true then 33 else 0)]) ∧ Below w.heap.size w w' := by
  have mixed : Try.prog.follows .mixedOrders = true := by kernel_rfl
  have HK := Lib.hid hkl
  obtain ⟨ab, cb, hvb, hcb⟩ := hkl.form
  subst hvb
  have HQ := Lib.hid (cloQ_new w t (.slice ab t.l.length cb))
  rw [show rqV t (.slice ab t.l.length cb) = .agg (rqR t (.slice ab t.l.length cb)).toArray from rfl]
  have x1 := rng0 (rq_ar HQ.out.s).1
  have hf0 : (t.a1.f == 0) = false := by simpa using hf
  obtain ⟨R, hR⟩ : ∃ R, (t.l.any fun b => decide (b.a = 1)) = R := ⟨_, rfl⟩
  rw [hR]
  have HR0 := Lib.hid (show ((t.l.drop 0).any fun b => decide (b.a = 1)) = R from hR)
  clear hkl hR
  rw [show (rqR ⟨⟨0, 0⟩, ⟨0, 0⟩, []⟩ (.slice none 0 0)).toArray = #[.int .i64 0, .int .i64 0, .int .i64 0, .int .i64 0, .int .i64 0, .int .i64 0, .slice none 0 0] from rfl] at HQ
  rw [show (rqR ⟨⟨0, 0⟩, ⟨0, 0⟩, []⟩ (.slice none 0 0)).toArray = #[.int .i64 0, .int .i64 0, .int .i64 0, .int .i64 0, .int .i64 0, .int .i64 0, .slice none 0 0] from rfl] at x1
  go_enter Try.func42, Try.ntmps42
  go_wp2
  clear x1
  generalize ((w.alloc (.cells (rqR t (.slice ab t.l.length cb)).toArray 31)).alloc (.cells #[.int .i64 0, .int .i64 0, .int .i64 0, .int .i64 0, .int .i64 0, .int .i64 0, .slice none 0 0] 31)) = w1 at *
  go_loopw [6] (fun i wr => ∃ j : Nat, j ≤ t.l.length ∧ i = .int .i64 (j : Int) ∧ Hid (((t.l.drop j).any fun b => decide (b.a = 1)) = R) ∧ Hid (Below w1.heap.size w1 wr)) (fun i _ => t.l.length - (intOf i).toNat)
  case atStart => exact ⟨0, Nat.zero_le _, rfl, HR0, Lib.hid (Below.refl _ _)⟩
  case round =>
    obtain ⟨j, hj, rfl, HRJ, HBW⟩ := hrel
    have HQJ := Lib.hid (HQ.out.up HBW.out)
    have c6 : wr.cell? ⟨w.heap.size, 6, none⟩ = some (.slice ab t.l.length cb) := by rw [HQJ.out.s.cell]; rfl
    by_cases hlt : j < t.l.length
    · have hlti : (j : Int) < (t.l.length : Int) := by omega
      have h0k : (0 : Int) ≤ (j : Int) := by omega
      obtain ⟨x, hx⟩ : ∃ x, t.l[j]? = some x := ⟨t.l[j], List.getElem?_eq_getElem hlt⟩
      obtain ⟨bb, bo, rfl, hbb⟩ : ∃ bb bo, ab = some ⟨bb, bo, none⟩ ∧ bb < w.heap.size := by
        obtain ⟨_, _, _, h4⟩ := HK.out.shape
        obtain ⟨b, o, e1, e2, _⟩ := h4 (by omega)
        exact ⟨b, o, e1, e2⟩
      have y3 : wr.cell? ⟨bb, bo + j * 4 + 3, none⟩ = some (.int .i64 x.a) := IsK.range (HK.out.below HQJ.out.below) j x hx 3 _ rfl
      have hdrop : t.l.drop j = x :: t.l.drop (j + 1) := by
        rw [List.drop_eq_getElem_cons hlt]
        congr 1
        rw [List.getElem?_eq_getElem hlt] at hx
        exact Option.some.inj hx
      have HST := Lib.hid (show (decide (x.a = 1) || ((t.l.drop (j + 1)).any fun b => decide (b.a = 1))) = R by
        rw [← HRJ.out, hdrop]; rfl)
      clear hx hdrop
      by_cases q1 : x.a = 1
      · have HE := Lib.hid (show R = true by rw [← HST.out, q1]; rfl)
        rw [q1] at y3
        obtain rfl := HE.out
        have hsr := rangeAll HQJ.out.s
        go_wp2_with (first
          | (refine plV rfl (rqV t (.slice (some ⟨bb, bo, none⟩) t.l.length cb)) (exec_load_any 31 (.tmp 2) rfl w.heap.size 0 (rqR t (.slice (some ⟨bb, bo, none⟩) t.l.length cb)) _ rfl hsr Try.underlying31 rfl refs_info) ?_)
          | (refine plS rfl (exec_store_bxK _ (.tmp 4) (.tmp 36) rfl (w.heap.size + 1) (rqR t (.slice (some ⟨bb, bo, none⟩) t.l.length cb)) _ rfl rfl HQJ.out.r refs_info rfl (rqR_one _ _ rfl)) ?_))
        obtain ⟨WZ, hwz, hbz, hxz⟩ := cloQ_end (T := t) (vT := (.slice (some ⟨bb, bo, none⟩) t.l.length cb)) HQJ.out
        rw [hwz]
        have u0 : WZ.cell? ⟨w.heap.size + 1, 0, none⟩ = some (.int .i64 0) := by rw [hxz.cell]; rfl
        have u1 : WZ.cell? ⟨w.heap.size + 1, 1, none⟩ = some (.int .i64 0) := by rw [hxz.cell]; rfl
        have u2 : WZ.cell? ⟨w.heap.size + 1, 2, none⟩ = some (.int .i64 t.a1.f) := by rw [hxz.cell]; rfl
        have u3 : WZ.cell? ⟨w.heap.size + 1, 3, none⟩ = some (.int .i64 t.a1.l) := by rw [hxz.cell]; rfl
        have u4 : WZ.cell? ⟨w.heap.size + 1, 4, none⟩ = some (.int .i64 t.a2.f) := by rw [hxz.cell]; rfl
        have u5 : WZ.cell? ⟨w.heap.size + 1, 5, none⟩ = some (.int .i64 t.a2.l) := by rw [hxz.cell]; rfl
        have u6 : WZ.cell? ⟨w.heap.size + 1, 6, none⟩ = some ((.slice (some ⟨bb, bo, none⟩) t.l.length cb)) := by rw [hxz.cell]; rfl
        exact bodyPost_ret (v := .tuple #[rqV t (.slice (some ⟨bb, bo, none⟩) t.l.length cb), .int .i64 33]) (by simp [results, Try.results42, go_sem, rqV, rqR, u0, u1, u2, u3, u4, u5, u6]) rfl ⟨rfl, hbz⟩
      · have HE := Lib.hid (show ((t.l.drop (j + 1)).any fun b => decide (b.a = 1)) = R by rw [← HST.out, decide_eq_false q1]; rfl)
        have q1b : (x.a == 1) = false := by simpa using q1
        go_wp2
        go_roundw
        case rel => exact ⟨j + 1, by omega, rfl, HE, HBW⟩
        case measure => simp only [intOf]; omega
    · have HE := Lib.hid (show R = false by rw [← HRJ.out, List.drop_eq_nil_of_le (by omega)]; rfl)
      obtain rfl := HE.out
      have hlti : ¬ ((j : Int) < (t.l.length : Int)) := by omega
      have HS2 := Lib.hid (bx_mid (k := 2) (N := sR ⟨0, 0⟩) (l' := rqR (⟨⟨0, 0⟩, t.a2, t.l⟩ : SpS) (.slice ab t.l.length cb)) HQJ.out.s (Nat.le_of_ble_eq_true rfl) rfl)
      have HTH := Lib.hid (bx_there HQJ.out.s 2 2 (Nat.le_of_ble_eq_true rfl))
      have HQ2 := Lib.hid (show CloQ w (⟨⟨0, 0⟩, t.a2, t.l⟩ : SpS) (.slice ab t.l.length cb) (wr.setCells w.heap.size 2 (sR ⟨0, 0⟩)) from ⟨HS2.out, bx_farCells (by omega) (sR ⟨0, 0⟩) 2 _ HQJ.out.r, below_setCells (Nat.le_refl _) (sR ⟨0, 0⟩) 2 _ HQJ.out.below⟩)
      go_wp2_with (refine plS rfl (exec_store_midR _ (.tmp 40) (.tmp 38) rfl w.heap.size 2 (sR ⟨0, 0⟩) rfl rfl HTH.out sp_info (sR_one _)) ?_; refine Hid.out ?_)
      refine Lib.hid ?_
      generalize wr.setCells w.heap.size 2 (sR ⟨0, 0⟩) = w2 at *
      have hsr := rangeAll HQ2.out.s
      go_wp2_with (first
        | (refine plV rfl (rqV (⟨⟨0, 0⟩, t.a2, t.l⟩ : SpS) (.slice ab t.l.length cb)) (exec_load_any 31 (.tmp 2) rfl w.heap.size 0 (rqR (⟨⟨0, 0⟩, t.a2, t.l⟩ : SpS) (.slice ab t.l.length cb)) _ rfl hsr Try.underlying31 rfl refs_info) ?_)
        | (refine plS rfl (exec_store_bxK _ (.tmp 4) (.tmp 41) rfl (w.heap.size + 1) (rqR (⟨⟨0, 0⟩, t.a2, t.l⟩ : SpS) (.slice ab t.l.length cb)) _ rfl rfl HQ2.out.r refs_info rfl (rqR_one _ _ rfl)) ?_))
      obtain ⟨WZ, hwz, hbz, hxz⟩ := cloQ_end (T := (⟨⟨0, 0⟩, t.a2, t.l⟩ : SpS)) (vT := (.slice ab t.l.length cb)) HQ2.out
      rw [hwz]
      have u0 : WZ.cell? ⟨w.heap.size + 1, 0, none⟩ = some (.int .i64 0) := by rw [hxz.cell]; rfl
      have u1 : WZ.cell? ⟨w.heap.size + 1, 1, none⟩ = some (.int .i64 0) := by rw [hxz.cell]; rfl
      have u2 : WZ.cell? ⟨w.heap.size + 1, 2, none⟩ = some (.int .i64 (⟨⟨0, 0⟩, t.a2, t.l⟩ : SpS).a1.f) := by rw [hxz.cell]; rfl
      have u3 : WZ.cell? ⟨w.heap.size + 1, 3, none⟩ = some (.int .i64 (⟨⟨0, 0⟩, t.a2, t.l⟩ : SpS).a1.l) := by rw [hxz.cell]; rfl
      have u4 : WZ.cell? ⟨w.heap.size + 1, 4, none⟩ = some (.int .i64 (⟨⟨0, 0⟩, t.a2, t.l⟩ : SpS).a2.f) := by rw [hxz.cell]; rfl
      have u5 : WZ.cell? ⟨w.heap.size + 1, 5, none⟩ = some (.int .i64 (⟨⟨0, 0⟩, t.a2, t.l⟩ : SpS).a2.l) := by rw [hxz.cell]; rfl
      have u6 : WZ.cell? ⟨w.heap.size + 1, 6, none⟩ = some ((.slice ab t.l.length cb)) := by rw [hxz.cell]; rfl
      exact bodyPost_ret (v := .tuple #[rqV (⟨⟨0, 0⟩, t.a2, t.l⟩ : SpS) (.slice ab t.l.length cb), .int .i64 0]) (by simp [results, Try.results42, go_sem, rqV, rqR, u0, u1, u2, u3, u4, u5, u6]) rfl ⟨rfl, hbz⟩
set_option maxRecDepth 100000 in
set_option maxHeartbeats 4000000 in
theorem rclose_run2 (t : SpS) (vl : Value) (w : World) (hln1 : t.l.length ≤ 1000) (hkl : IsK w vl t.l) (hf : t.a2.f ≠ 0) :
    Calls Try.prog 42 #[rqV t vl, .int .i64 (2 : Int)] w fun e w' => e = .returned (.tuple #[rqV (if (t.l.any fun b => decide (b.a = 2)) = true then t else (⟨t.a1, ⟨0, 0⟩, t.l⟩ : SpS)) vl, .int .i64 (if (t.l.any fun b => decide (b.a = 2)) = true then 33 else 0)]) ∧ Below w.heap.size w w' := by
  have mixed : Try.prog.follows .mixedOrders = true := by kernel_rfl
  have HK := Lib.hid hkl
  obtain ⟨ab, cb, hvb, hcb⟩ := hkl.form
  subst hvb
  have HQ := Lib.hid (cloQ_new w t (.slice ab t.l.length cb))
  rw [show rqV t (.slice ab t.l.length cb) = .agg (rqR t (.slice ab t.l.length cb)).toArray from rfl]
  have x2 := rng0 (rq_ar HQ.out.s).2.1
  have hf0 : (t.a2.f == 0) = false := by simpa using hf
  obtain ⟨R, hR⟩ : ∃ R, (t.l.any fun b => decide (b.a = 2)) = R := ⟨_, rfl⟩
  rw [hR]
  have HR0 := Lib.hid (show ((t.l.drop 0).any fun b => decide (b.a = 2)) = R from hR)
  clear hkl hR
  rw [show (rqR ⟨⟨0, 0⟩, ⟨0, 0⟩, []⟩ (.slice none 0 0)).toArray = #[.int .i64 0, .int .i64 0, .int .i64 0, .int .i64 0, .int .i64 0, .int .i64 0, .slice none 0 0] from rfl] at HQ
  rw [show (rqR ⟨⟨0, 0⟩, ⟨0, 0⟩, []⟩ (.slice none 0 0)).toArray = #[.int .i64 0, .int .i64 0, .int .i64 0, .int .i64 0, .int .i64 0, .int .i64 0, .slice none 0 0] from rfl] at x2
  go_enter Try.func42, Try.ntmps42
  go_wp2
  clear x2
  generalize ((w.alloc (.cells (rqR t (.slice ab t.l.length cb)).toArray 31)).alloc (.cells #[.int .i64 0, .int .i64 0, .int .i64 0, .int .i64 0, .int .i64 0, .int .i64 0, .slice none 0 0] 31)) = w1 at *
  go_loopw [6] (fun i wr => ∃ j : Nat, j ≤ t.l.length ∧ i = .int .i64 (j : Int) ∧ Hid (((t.l.drop j).any fun b => decide (b.a = 2)) = R) ∧ Hid (Below w1.heap.size w1 wr)) (fun i _ => t.l.length - (intOf i).toNat)
  case atStart => exact ⟨0, Nat.zero_le _, rfl, HR0, Lib.hid (Below.refl _ _)⟩
  case round =>
    obtain ⟨j, hj, rfl, HRJ, HBW⟩ := hrel
    have HQJ := Lib.hid (HQ.out.up HBW.out)
    have c6 : wr.cell? ⟨w.heap.size, 6, none⟩ = some (.slice ab t.l.length cb) := by rw [HQJ.out.s.cell]; rfl
    by_cases hlt : j < t.l.length
    · have hlti : (j : Int) < (t.l.length : Int) := by omega
      have h0k : (0 : Int) ≤ (j : Int) := by omega
      obtain ⟨x, hx⟩ : ∃ x, t.l[j]? = some x := ⟨t.l[j], List.getElem?_eq_getElem hlt⟩
      obtain ⟨bb, bo, rfl, hbb⟩ : ∃ bb bo, ab = some ⟨bb, bo, none⟩ ∧ bb < w.heap.size := by
        obtain ⟨_, _, _, h4⟩ := HK.out.shape
        obtain ⟨b, o, e1, e2, _⟩ := h4 (by omega)
        exact ⟨b, o, e1, e2⟩
      have y3 : wr.cell? ⟨bb, bo + j * 4 + 3, none⟩ = some (.int .i64 x.a) := IsK.range (HK.out.below HQJ.out.below) j x hx 3 _ rfl
      have hdrop : t.l.drop j = x :: t.l.drop (j + 1) := by
        rw [List.drop_eq_getElem_cons hlt]
        congr 1
        rw [List.getElem?_eq_getElem hlt] at hx
        exact Option.some.inj hx
      have HST := Lib.hid (show (decide (x.a = 2) || ((t.l.drop (j + 1)).any fun b => decide (b.a = 2))) = R by
        rw [← HRJ.out, hdrop]; rfl)
      clear hx hdrop
      by_cases q1 : x.a = 2
      · have HE := Lib.hid (show R = true by rw [← HST.out, q1]; rfl)
        rw [q1] at y3
        obtain rfl := HE.out
        have hsr := rangeAll HQJ.out.s
        go_wp2_with (first
          | (refine plV rfl (rqV t (.slice (some ⟨bb, bo, none⟩) t.l.length cb)) (exec_load_any 31 (.tmp 2) rfl w.heap.size 0 (rqR t (.slice (some ⟨bb, bo, none⟩) t.l.length cb)) _ rfl hsr Try.underlying31 rfl refs_info) ?_)
          | (refine plS rfl (exec_store_bxK _ (.tmp 4) (.tmp 36) rfl (w.heap.size + 1) (rqR t (.slice (some ⟨bb, bo, none⟩) t.l.length cb)) _ rfl rfl HQJ.out.r refs_info rfl (rqR_one _ _ rfl)) ?_))
        obtain ⟨WZ, hwz, hbz, hxz⟩ := cloQ_end (T := t) (vT := (.slice (some ⟨bb, bo, none⟩) t.l.length cb)) HQJ.out
        rw [hwz]
        have u0 : WZ.cell? ⟨w.heap.size + 1, 0, none⟩ = some (.int .i64 0) := by rw [hxz.cell]; rfl
        have u1 : WZ.cell? ⟨w.heap.size + 1, 1, none⟩ = some (.int .i64 0) := by rw [hxz.cell]; rfl
        have u2 : WZ.cell? ⟨w.heap.size + 1, 2, none⟩ = some (.int .i64 t.a1.f) := by rw [hxz.cell]; rfl
        have u3 : WZ.cell? ⟨w.heap.size + 1, 3, none⟩ = some (.int .i64 t.a1.l) := by rw [hxz.cell]; rfl
        have u4 : WZ.cell? ⟨w.heap.size + 1, 4, none⟩ = some (.int .i64 t.a2.f) := by rw [hxz.cell]; rfl
        have u5 : WZ.cell? ⟨w.heap.size + 1, 5, none⟩ = some (.int .i64 t.a2.l) := by rw [hxz.cell]; rfl
        have u6 : WZ.cell? ⟨w.heap.size + 1, 6, none⟩ = some ((.slice (some ⟨bb, bo, none⟩) t.l.length cb)) := by rw [hxz.cell]; rfl
        exact bodyPost_ret (v := .tuple #[rqV t (.slice (some ⟨bb, bo, none⟩) t.l.length cb), .int .i64 33]) (by simp [results, Try.results42, go_sem, rqV, rqR, u0, u1, u2, u3, u4, u5, u6]) rfl ⟨rfl, hbz⟩
      · have HE := Lib.hid (show ((t.l.drop (j + 1)).any fun b => decide (b.a = 2)) = R by rw [← HST.out, decide_eq_false q1]; rfl)
        have q1b : (x.a == 2) = false := by simpa using q1
        go_wp2
        go_roundw
        case rel => exact ⟨j + 1, by omega, rfl, HE, HBW⟩
        case measure => simp only [intOf]; omega
    · have HE := Lib.hid (show R = false by rw [← HRJ.out, List.drop_eq_nil_of_le (by omega)]; rfl)
      obtain rfl := HE.out
      have hlti : ¬ ((j : Int) < (t.l.length : Int)) := by omega
      have HS2 := Lib.hid (bx_mid (k := 4) (N := sR ⟨0, 0⟩) (l' := rqR (⟨t.a1, ⟨0, 0⟩, t.l⟩ : SpS) (.slice ab t.l.length cb)) HQJ.out.s (Nat.le_of_ble_eq_true rfl) rfl)
      have HTH := Lib.hid (bx_there HQJ.out.s 4 2 (Nat.le_of_ble_eq_true rfl))
      have HQ2 := Lib.hid (show CloQ w (⟨t.a1, ⟨0, 0⟩, t.l⟩ : SpS) (.slice ab t.l.length cb) (wr.setCells w.heap.size 4 (sR ⟨0, 0⟩)) from ⟨HS2.out, bx_farCells (by omega) (sR ⟨0, 0⟩) 4 _ HQJ.out.r, below_setCells (Nat.le_refl _) (sR ⟨0, 0⟩) 4 _ HQJ.out.below⟩)
      go_wp2_with (refine plS rfl (exec_store_midR _ (.tmp 40) (.tmp 38) rfl w.heap.size 4 (sR ⟨0, 0⟩) rfl rfl HTH.out sp_info (sR_one _)) ?_; refine Hid.out ?_)
      refine Lib.hid ?_
      generalize wr.setCells w.heap.size 4 (sR ⟨0, 0⟩) = w2 at *
      have hsr := rangeAll HQ2.out.s
      go_wp2_with (first
        | (refine plV rfl (rqV (⟨t.a1, ⟨0, 0⟩, t.l⟩ : SpS) (.slice ab t.l.length cb)) (exec_load_any 31 (.tmp 2) rfl w.heap.size 0 (rqR (⟨t.a1, ⟨0, 0⟩, t.l⟩ : SpS) (.slice ab t.l.length cb)) _ rfl hsr Try.underlying31 rfl refs_info) ?_)
        | (refine plS rfl (exec_store_bxK _ (.tmp 4) (.tmp 41) rfl (w.heap.size + 1) (rqR (⟨t.a1, ⟨0, 0⟩, t.l⟩ : SpS) (.slice ab t.l.length cb)) _ rfl rfl HQ2.out.r refs_info rfl (rqR_one _ _ rfl)) ?_))
      obtain ⟨WZ, hwz, hbz, hxz⟩ := cloQ_end (T := (⟨t.a1, ⟨0, 0⟩, t.l⟩ : SpS)) (vT := (.slice ab t.l.length cb)) HQ2.out
      rw [hwz]
      have u0 : WZ.cell? ⟨w.heap.size + 1, 0, none⟩ = some (.int .i64 0) := by rw [hxz.cell]; rfl
      have u1 : WZ.cell? ⟨w.heap.size + 1, 1, none⟩ = some (.int .i64 0) := by rw [hxz.cell]; rfl
      have u2 : WZ.cell? ⟨w.heap.size + 1, 2, none⟩ = some (.int .i64 (⟨t.a1, ⟨0, 0⟩, t.l⟩ : SpS).a1.f) := by rw [hxz.cell]; rfl
      have u3 : WZ.cell? ⟨w.heap.size + 1, 3, none⟩ = some (.int .i64 (⟨t.a1, ⟨0, 0⟩, t.l⟩ : SpS).a1.l) := by rw [hxz.cell]; rfl
      have u4 : WZ.cell? ⟨w.heap.size + 1, 4, none⟩ = some (.int .i64 (⟨t.a1, ⟨0, 0⟩, t.l⟩ : SpS).a2.f) := by rw [hxz.cell]; rfl
      have u5 : WZ.cell? ⟨w.heap.size + 1, 5, none⟩ = some (.int .i64 (⟨t.a1, ⟨0, 0⟩, t.l⟩ : SpS).a2.l) := by rw [hxz.cell]; rfl
      have u6 : WZ.cell? ⟨w.heap.size + 1, 6, none⟩ = some ((.slice ab t.l.length cb)) := by rw [hxz.cell]; rfl
      exact bodyPost_ret (v := .tuple #[rqV (⟨t.a1, ⟨0, 0⟩, t.l⟩ : SpS) (.slice ab t.l.length cb), .int .i64 0]) (by simp [results, Try.results42, go_sem, rqV, rqR, u0, u1, u2, u3, u4, u5, u6]) rfl ⟨rfl, hbz⟩
end Go.Proofs.Ytgelbeglffjdaaa
namespace Go.Proofs.Ytgelbeglffjdaaa
open Go Go.RowKit Go.Shelf

theorem rclose_any (t : SpS) (vl : Value) (k : Int) (w : World) (hln1 : t.l.length ≤ 1000) (hkl : IsK w vl t.l) :
    Calls Try.prog 42 #[rqV t vl, .int .i64 k] w fun e w' => e = .returned (.tuple #[rqV (t.close k).1 vl, .int .i64 (t.close k).2]) ∧ Below w.heap.size w w' := by
  unfold SpS.close
  by_cases h0 : k < 1 ∨ 2 < k
  · rw [if_pos h0]
    exact rclose_out t vl k w hkl h0
  · rw [if_neg h0]
    rcases (show k = 1 ∨ k = 2 by omega) with rfl | rfl
    · rw [show t.ar 1 = t.a1 from rfl]
      by_cases hf : t.a1.f = 0
      · rw [if_pos hf]
        exact rclose_none1 t vl w hkl hf
      · rw [if_neg hf]
        have h := rclose_run1 t vl w hln1 hkl hf
        cases hb : (t.l.any fun b => decide (b.a = 1)) with
        | true => rw [hb] at h; exact h
        | false => rw [hb] at h; exact h
    · rw [show t.ar 2 = t.a2 from rfl]
      by_cases hf : t.a2.f = 0
      · rw [if_pos hf]
        exact rclose_none2 t vl w hkl hf
      · rw [if_neg hf]
        have h := rclose_run2 t vl w hln1 hkl hf
        cases hb : (t.l.any fun b => decide (b.a = 2)) with
        | true => rw [hb] at h; exact h
        | false => rw [hb] at h; exact h
end Go.Proofs.Ytgelbeglffjdaaa
