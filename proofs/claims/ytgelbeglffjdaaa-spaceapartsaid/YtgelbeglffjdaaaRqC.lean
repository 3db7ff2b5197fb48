/- The document's space: a span that is drawn. -/
import Derived.Test.YtgelbeglffjdaaaRqB
import Derived.Test.YtgelbeglffjdaaaRsB
namespace Go.Proofs.Ytgelbeglffjdaaa
open Go Go.RowKit Go.Shelf
attribute [local go_sem] Oper.semAt_some

/-- the space's box, the result's and its span's, all new -/
structure DraQ (w : World) (t : SpS) (vl : Value) (W : World) : Prop where
  s : Bx W w.heap.size 31 (rqR t vl)
  r : Bx W (w.heap.size + 1) 31 (rqR ⟨⟨0, 0⟩, ⟨0, 0⟩, []⟩ (.slice none 0 0))
  p : Bx W (w.heap.size + 1 + 1) 27 (sR ⟨0, 0⟩)
  below : Below w.heap.size w W
theorem DraQ.up {w : World} {t : SpS} {vl : Value} {W W' : World} (h : DraQ w t vl W) (hb : Below W.heap.size W W') : DraQ w t vl W' := ⟨h.s.up hb, h.r.up hb, h.p.up hb, below_up h.below hb h.below.size⟩
theorem draQ_new (w : World) (t : SpS) (vl : Value) : DraQ w t vl (((w.alloc (.cells (rqR t vl).toArray 31)).alloc (.cells (rqR ⟨⟨0, 0⟩, ⟨0, 0⟩, []⟩ (.slice none 0 0)).toArray 31)).alloc (.cells (sR ⟨0, 0⟩).toArray 27)) := by
  have al : ∀ (W : World) (o : Obj), Below W.heap.size W (W.alloc o) := fun W o => (Below.refl _ _).alloc (Nat.le_refl _) _
  have h1 := Bx.new w 31 (rqR t vl)
  have h2 := Bx.new (w.alloc (.cells (rqR t vl).toArray 31)) 31 (rqR ⟨⟨0, 0⟩, ⟨0, 0⟩, []⟩ (.slice none 0 0))
  have h3 := Bx.new ((w.alloc (.cells (rqR t vl).toArray 31)).alloc (.cells (rqR ⟨⟨0, 0⟩, ⟨0, 0⟩, []⟩ (.slice none 0 0)).toArray 31)) 27 (sR ⟨0, 0⟩)
  have s1 : (w.alloc (.cells (rqR t vl).toArray 31)).heap.size = w.heap.size + 1 := by simp
  have s2 : ((w.alloc (.cells (rqR t vl).toArray 31)).alloc (.cells (rqR ⟨⟨0, 0⟩, ⟨0, 0⟩, []⟩ (.slice none 0 0)).toArray 31)).heap.size = w.heap.size + 1 + 1 := by simp
  rw [s1] at h2
  rw [s2] at h3
  have b1 := al w (.cells (rqR t vl).toArray 31)
  have b2 := al (w.alloc (.cells (rqR t vl).toArray 31)) (.cells (rqR ⟨⟨0, 0⟩, ⟨0, 0⟩, []⟩ (.slice none 0 0)).toArray 31)
  have b3 := al ((w.alloc (.cells (rqR t vl).toArray 31)).alloc (.cells (rqR ⟨⟨0, 0⟩, ⟨0, 0⟩, []⟩ (.slice none 0 0)).toArray 31)) (.cells (sR ⟨0, 0⟩).toArray 27)
  exact ⟨(h1.up b2).up b3, h2.up b3, h3, below_up (below_up b1 b2 b1.size) b3 (Nat.le_trans b1.size b2.size)⟩
theorem draQ_end {w W : World} {t T : SpS} {vl vT : Value} {x : Spn} (h : DraQ w t vl W) : ∃ WZ, (W.setRow (w.heap.size + 1) (rqR T vT).toArray).setRow (w.heap.size + 1 + 1) (sR x).toArray = WZ ∧ Below w.heap.size w WZ ∧ Bx WZ (w.heap.size + 1) 31 (rqR T vT) ∧ Bx WZ (w.heap.size + 1 + 1) 27 (sR x) ∧ KpO (fun k => k = w.heap.size + 1 ∨ k = w.heap.size + 1 + 1) W WZ :=
  ⟨_, rfl, below_row (below_row h.below (show w.heap.size ≤ w.heap.size + 1 by omega) _) (show w.heap.size ≤ w.heap.size + 1 + 1 by omega) _, (h.r.row _).rowOther (by omega) _, (h.p.rowOther (by omega) _).row _,
    (kp_row _ _ _ (.inl rfl)).trans (kp_row _ _ _ (.inr rfl))⟩
def drawR (t : SpS) (o k : Int) : Option Spn → SpS × Spn × Int
  | none => (t, ⟨0, 0⟩, 43)
  | some x => (t.put ⟨x, o, k⟩, x, 0)
theorem draw_run {t : SpS} {o k n : Int} (h1 : ¬ (o < 1 ∨ k < 0 ∨ 2 < k ∨ n < 1)) (h2 : ¬ (0 < k ∧ (t.ar k).f = 0)) : t.draw o k n = drawR t o k (firstS n (normS (t.left k))) := by
  unfold SpS.draw
  rw [if_neg h1, if_neg h2]
  rfl
def HeldD (g gx : Nat) (t : SpS) (vl : Value) (x : Spn) (W : World) : Prop := W.rangeAt g 0 (rqR t vl) ∧ W.rangeAt gx 0 (sR x)
set_option maxRecDepth 100000 in
set_option maxHeartbeats 4000000 in
theorem rdraw_bad (t : SpS) (vl : Value) (o k n : Int) (w : World) (hwf : WF t) (hkl : IsK w vl t.l) (hbad : o < 1 ∨ k < 0 ∨ 2 < k ∨ n < 1) :
    Calls Try.prog 43 #[rqV t vl, .int .i64 o, .int .i64 k, .int .i64 n] w fun e w' => ∃ v', e = .returned (.tuple #[rqV (t.draw o k n).1 v', sV (t.draw o k n).2.1, .int .i64 (t.draw o k n).2.2]) ∧ IsK w' v' (t.draw o k n).1.l ∧ NewK w w' vl v' ∧ Below w.heap.size w w' := by
  have mixed : Try.prog.follows .mixedOrders = true := by kernel_rfl
  have HK := Lib.hid hkl
  have HWF := Lib.hid hwf
  obtain ⟨ab, cb, hvb, hcb⟩ := hkl.form
  subst hvb
  have HQ := Lib.hid (draQ_new w t (.slice ab t.l.length cb))
  rw [show rqV t (.slice ab t.l.length cb) = .agg (rqR t (.slice ab t.l.length cb)).toArray from rfl]
  rw [show (rqR ⟨⟨0, 0⟩, ⟨0, 0⟩, []⟩ (.slice none 0 0)).toArray = #[.int .i64 0, .int .i64 0, .int .i64 0, .int .i64 0, .int .i64 0, .int .i64 0, .slice none 0 0] from rfl, show (sR ⟨0, 0⟩).toArray = #[.int .i64 0, .int .i64 0] from rfl] at HQ
  obtain ⟨R, hR⟩ : ∃ R, t.draw o k n = R := ⟨_, rfl⟩
  rw [hR]
  clear hkl hwf
  have HE := Lib.hid (show R = (t, ⟨0, 0⟩, 1) by rw [← hR]; unfold SpS.draw; rw [if_pos hbad])
  clear hR
  have HFIN := Lib.hid (fun W (hb : Below w.heap.size w W) => show (∃ v', Ending.returned (.tuple #[rqV t (.slice ab t.l.length cb), sV ⟨0, 0⟩, .int .i64 1]) = .returned (.tuple #[rqV R.1 v', sV R.2.1, .int .i64 R.2.2]) ∧ IsK W v' R.1.l ∧ NewK w W (.slice ab t.l.length cb) v' ∧ Below w.heap.size w W) by
    rw [HE.out]
    exact ⟨_, rfl, HK.out.below hb, .inl rfl, hb⟩)
  by_cases h1 : o < 1
  · go_enter Try.func43, Try.ntmps43
    have hsr := rangeAll HQ.out.s
    have hp9 := HQ.out.p.rowOther (k := w.heap.size + 1) (by omega) (rqR t (.slice ab t.l.length cb)).toArray
    go_wp2_with (first
      | (refine plV rfl (rqV t (.slice ab t.l.length cb)) (exec_load_any 31 (.tmp 4) rfl w.heap.size 0 (rqR t (.slice ab t.l.length cb)) _ rfl hsr Try.underlying31 rfl refs_info) ?_)
      | (refine plS rfl (exec_store_bxK _ (.tmp 8) (.tmp 27) rfl (w.heap.size + 1) (rqR t (.slice ab t.l.length cb)) _ rfl rfl HQ.out.r refs_info rfl (rqR_one _ _ rfl)) ?_)
      | (refine plS rfl (exec_store_bxK _ (.tmp 9) (.tmp 28) rfl (w.heap.size + 1 + 1) (sR ⟨0, 0⟩) _ rfl rfl hp9 sp_info rfl (sR_one _)) ?_))
    obtain ⟨WZ, hwz, hbz, hxz, hpz, hkz⟩ := draQ_end (T := t) (vT := (.slice ab t.l.length cb)) (x := ⟨0, 0⟩) HQ.out
    rw [hwz]
    have u0 : WZ.cell? ⟨w.heap.size + 1, 0, none⟩ = some (.int .i64 0) := by rw [hxz.cell]; rfl
    have u1 : WZ.cell? ⟨w.heap.size + 1, 1, none⟩ = some (.int .i64 0) := by rw [hxz.cell]; rfl
    have u2 : WZ.cell? ⟨w.heap.size + 1, 2, none⟩ = some (.int .i64 t.a1.f) := by rw [hxz.cell]; rfl
    have u3 : WZ.cell? ⟨w.heap.size + 1, 3, none⟩ = some (.int .i64 t.a1.l) := by rw [hxz.cell]; rfl
    have u4 : WZ.cell? ⟨w.heap.size + 1, 4, none⟩ = some (.int .i64 t.a2.f) := by rw [hxz.cell]; rfl
    have u5 : WZ.cell? ⟨w.heap.size + 1, 5, none⟩ = some (.int .i64 t.a2.l) := by rw [hxz.cell]; rfl
    have u6 : WZ.cell? ⟨w.heap.size + 1, 6, none⟩ = some ((.slice ab t.l.length cb)) := by rw [hxz.cell]; rfl
    have z0 : WZ.cell? ⟨w.heap.size + 1 + 1, 0, none⟩ = some (.int .i64 (⟨0, 0⟩ : Spn).f) := by rw [hpz.cell]; rfl
    have z1 : WZ.cell? ⟨w.heap.size + 1 + 1, 1, none⟩ = some (.int .i64 (⟨0, 0⟩ : Spn).l) := by rw [hpz.cell]; rfl
    (try simp only at z0 z1)
    exact bodyPost_ret (v := .tuple #[rqV t (.slice ab t.l.length cb), sV ⟨0, 0⟩, .int .i64 1]) (by simp [results, Try.results43, go_sem, rqV, rqR, sV, sR, u0, u1, u2, u3, u4, u5, u6, z0, z1]) rfl (HFIN.out _ hbz)
  · by_cases h2 : k < 0
    · go_enter Try.func43, Try.ntmps43
      have hsr := rangeAll HQ.out.s
      have hp9 := HQ.out.p.rowOther (k := w.heap.size + 1) (by omega) (rqR t (.slice ab t.l.length cb)).toArray
      go_wp2_with (first
        | (refine plV rfl (rqV t (.slice ab t.l.length cb)) (exec_load_any 31 (.tmp 4) rfl w.heap.size 0 (rqR t (.slice ab t.l.length cb)) _ rfl hsr Try.underlying31 rfl refs_info) ?_)
        | (refine plS rfl (exec_store_bxK _ (.tmp 8) (.tmp 27) rfl (w.heap.size + 1) (rqR t (.slice ab t.l.length cb)) _ rfl rfl HQ.out.r refs_info rfl (rqR_one _ _ rfl)) ?_)
        | (refine plS rfl (exec_store_bxK _ (.tmp 9) (.tmp 28) rfl (w.heap.size + 1 + 1) (sR ⟨0, 0⟩) _ rfl rfl hp9 sp_info rfl (sR_one _)) ?_))
      obtain ⟨WZ, hwz, hbz, hxz, hpz, hkz⟩ := draQ_end (T := t) (vT := (.slice ab t.l.length cb)) (x := ⟨0, 0⟩) HQ.out
      rw [hwz]
      have u0 : WZ.cell? ⟨w.heap.size + 1, 0, none⟩ = some (.int .i64 0) := by rw [hxz.cell]; rfl
      have u1 : WZ.cell? ⟨w.heap.size + 1, 1, none⟩ = some (.int .i64 0) := by rw [hxz.cell]; rfl
      have u2 : WZ.cell? ⟨w.heap.size + 1, 2, none⟩ = some (.int .i64 t.a1.f) := by rw [hxz.cell]; rfl
      have u3 : WZ.cell? ⟨w.heap.size + 1, 3, none⟩ = some (.int .i64 t.a1.l) := by rw [hxz.cell]; rfl
      have u4 : WZ.cell? ⟨w.heap.size + 1, 4, none⟩ = some (.int .i64 t.a2.f) := by rw [hxz.cell]; rfl
      have u5 : WZ.cell? ⟨w.heap.size + 1, 5, none⟩ = some (.int .i64 t.a2.l) := by rw [hxz.cell]; rfl
      have u6 : WZ.cell? ⟨w.heap.size + 1, 6, none⟩ = some ((.slice ab t.l.length cb)) := by rw [hxz.cell]; rfl
      have z0 : WZ.cell? ⟨w.heap.size + 1 + 1, 0, none⟩ = some (.int .i64 (⟨0, 0⟩ : Spn).f) := by rw [hpz.cell]; rfl
      have z1 : WZ.cell? ⟨w.heap.size + 1 + 1, 1, none⟩ = some (.int .i64 (⟨0, 0⟩ : Spn).l) := by rw [hpz.cell]; rfl
      (try simp only at z0 z1)
      exact bodyPost_ret (v := .tuple #[rqV t (.slice ab t.l.length cb), sV ⟨0, 0⟩, .int .i64 1]) (by simp [results, Try.results43, go_sem, rqV, rqR, sV, sR, u0, u1, u2, u3, u4, u5, u6, z0, z1]) rfl (HFIN.out _ hbz)
    · by_cases h3 : 2 < k
      · go_enter Try.func43, Try.ntmps43
        have hsr := rangeAll HQ.out.s
        have hp9 := HQ.out.p.rowOther (k := w.heap.size + 1) (by omega) (rqR t (.slice ab t.l.length cb)).toArray
        go_wp2_with (first
          | (refine plV rfl (rqV t (.slice ab t.l.length cb)) (exec_load_any 31 (.tmp 4) rfl w.heap.size 0 (rqR t (.slice ab t.l.length cb)) _ rfl hsr Try.underlying31 rfl refs_info) ?_)
          | (refine plS rfl (exec_store_bxK _ (.tmp 8) (.tmp 27) rfl (w.heap.size + 1) (rqR t (.slice ab t.l.length cb)) _ rfl rfl HQ.out.r refs_info rfl (rqR_one _ _ rfl)) ?_)
          | (refine plS rfl (exec_store_bxK _ (.tmp 9) (.tmp 28) rfl (w.heap.size + 1 + 1) (sR ⟨0, 0⟩) _ rfl rfl hp9 sp_info rfl (sR_one _)) ?_))
        obtain ⟨WZ, hwz, hbz, hxz, hpz, hkz⟩ := draQ_end (T := t) (vT := (.slice ab t.l.length cb)) (x := ⟨0, 0⟩) HQ.out
        rw [hwz]
        have u0 : WZ.cell? ⟨w.heap.size + 1, 0, none⟩ = some (.int .i64 0) := by rw [hxz.cell]; rfl
        have u1 : WZ.cell? ⟨w.heap.size + 1, 1, none⟩ = some (.int .i64 0) := by rw [hxz.cell]; rfl
        have u2 : WZ.cell? ⟨w.heap.size + 1, 2, none⟩ = some (.int .i64 t.a1.f) := by rw [hxz.cell]; rfl
        have u3 : WZ.cell? ⟨w.heap.size + 1, 3, none⟩ = some (.int .i64 t.a1.l) := by rw [hxz.cell]; rfl
        have u4 : WZ.cell? ⟨w.heap.size + 1, 4, none⟩ = some (.int .i64 t.a2.f) := by rw [hxz.cell]; rfl
        have u5 : WZ.cell? ⟨w.heap.size + 1, 5, none⟩ = some (.int .i64 t.a2.l) := by rw [hxz.cell]; rfl
        have u6 : WZ.cell? ⟨w.heap.size + 1, 6, none⟩ = some ((.slice ab t.l.length cb)) := by rw [hxz.cell]; rfl
        have z0 : WZ.cell? ⟨w.heap.size + 1 + 1, 0, none⟩ = some (.int .i64 (⟨0, 0⟩ : Spn).f) := by rw [hpz.cell]; rfl
        have z1 : WZ.cell? ⟨w.heap.size + 1 + 1, 1, none⟩ = some (.int .i64 (⟨0, 0⟩ : Spn).l) := by rw [hpz.cell]; rfl
        (try simp only at z0 z1)
        exact bodyPost_ret (v := .tuple #[rqV t (.slice ab t.l.length cb), sV ⟨0, 0⟩, .int .i64 1]) (by simp [results, Try.results43, go_sem, rqV, rqR, sV, sR, u0, u1, u2, u3, u4, u5, u6, z0, z1]) rfl (HFIN.out _ hbz)
      · have h4 : n < 1 := by omega
        clear hbad
        go_enter Try.func43, Try.ntmps43
        have hsr := rangeAll HQ.out.s
        have hp9 := HQ.out.p.rowOther (k := w.heap.size + 1) (by omega) (rqR t (.slice ab t.l.length cb)).toArray
        go_wp2_with (first
          | (refine plV rfl (rqV t (.slice ab t.l.length cb)) (exec_load_any 31 (.tmp 4) rfl w.heap.size 0 (rqR t (.slice ab t.l.length cb)) _ rfl hsr Try.underlying31 rfl refs_info) ?_)
          | (refine plS rfl (exec_store_bxK _ (.tmp 8) (.tmp 27) rfl (w.heap.size + 1) (rqR t (.slice ab t.l.length cb)) _ rfl rfl HQ.out.r refs_info rfl (rqR_one _ _ rfl)) ?_)
          | (refine plS rfl (exec_store_bxK _ (.tmp 9) (.tmp 28) rfl (w.heap.size + 1 + 1) (sR ⟨0, 0⟩) _ rfl rfl hp9 sp_info rfl (sR_one _)) ?_))
        obtain ⟨WZ, hwz, hbz, hxz, hpz, hkz⟩ := draQ_end (T := t) (vT := (.slice ab t.l.length cb)) (x := ⟨0, 0⟩) HQ.out
        rw [hwz]
        have u0 : WZ.cell? ⟨w.heap.size + 1, 0, none⟩ = some (.int .i64 0) := by rw [hxz.cell]; rfl
        have u1 : WZ.cell? ⟨w.heap.size + 1, 1, none⟩ = some (.int .i64 0) := by rw [hxz.cell]; rfl
        have u2 : WZ.cell? ⟨w.heap.size + 1, 2, none⟩ = some (.int .i64 t.a1.f) := by rw [hxz.cell]; rfl
        have u3 : WZ.cell? ⟨w.heap.size + 1, 3, none⟩ = some (.int .i64 t.a1.l) := by rw [hxz.cell]; rfl
        have u4 : WZ.cell? ⟨w.heap.size + 1, 4, none⟩ = some (.int .i64 t.a2.f) := by rw [hxz.cell]; rfl
        have u5 : WZ.cell? ⟨w.heap.size + 1, 5, none⟩ = some (.int .i64 t.a2.l) := by rw [hxz.cell]; rfl
        have u6 : WZ.cell? ⟨w.heap.size + 1, 6, none⟩ = some ((.slice ab t.l.length cb)) := by rw [hxz.cell]; rfl
        have z0 : WZ.cell? ⟨w.heap.size + 1 + 1, 0, none⟩ = some (.int .i64 (⟨0, 0⟩ : Spn).f) := by rw [hpz.cell]; rfl
        have z1 : WZ.cell? ⟨w.heap.size + 1 + 1, 1, none⟩ = some (.int .i64 (⟨0, 0⟩ : Spn).l) := by rw [hpz.cell]; rfl
        (try simp only at z0 z1)
        exact bodyPost_ret (v := .tuple #[rqV t (.slice ab t.l.length cb), sV ⟨0, 0⟩, .int .i64 1]) (by simp [results, Try.results43, go_sem, rqV, rqR, sV, sR, u0, u1, u2, u3, u4, u5, u6, z0, z1]) rfl (HFIN.out _ hbz)
set_option maxRecDepth 100000 in
set_option maxHeartbeats 4000000 in
theorem rdraw_none1 (t : SpS) (vl : Value) (o n : Int) (w : World) (hwf : WF t) (hkl : IsK w vl t.l) (ho : ¬ o < 1) (hn : ¬ n < 1) (hf : t.a1.f = 0) :
    Calls Try.prog 43 #[rqV t vl, .int .i64 o, .int .i64 (1 : Int), .int .i64 n] w fun e w' => ∃ v', e = .returned (.tuple #[rqV (t.draw o (1 : Int) n).1 v', sV (t.draw o (1 : Int) n).2.1, .int .i64 (t.draw o (1 : Int) n).2.2]) ∧ IsK w' v' (t.draw o (1 : Int) n).1.l ∧ NewK w w' vl v' ∧ Below w.heap.size w w' := by
  have mixed : Try.prog.follows .mixedOrders = true := by kernel_rfl
  have HK := Lib.hid hkl
  have HWF := Lib.hid hwf
  obtain ⟨ab, cb, hvb, hcb⟩ := hkl.form
  subst hvb
  have HQ := Lib.hid (draQ_new w t (.slice ab t.l.length cb))
  rw [show rqV t (.slice ab t.l.length cb) = .agg (rqR t (.slice ab t.l.length cb)).toArray from rfl]
  rw [show (rqR ⟨⟨0, 0⟩, ⟨0, 0⟩, []⟩ (.slice none 0 0)).toArray = #[.int .i64 0, .int .i64 0, .int .i64 0, .int .i64 0, .int .i64 0, .int .i64 0, .slice none 0 0] from rfl, show (sR ⟨0, 0⟩).toArray = #[.int .i64 0, .int .i64 0] from rfl] at HQ
  obtain ⟨R, hR⟩ : ∃ R, t.draw o (1 : Int) n = R := ⟨_, rfl⟩
  rw [hR]
  clear hkl hwf
  have HE := Lib.hid (show R = (t, ⟨0, 0⟩, 31) by rw [← hR]; unfold SpS.draw; rw [if_neg (by omega), if_pos ⟨by omega, hf⟩])
  clear hR
  have x1 := rng0 (rq_ar HQ.out.s).1
  rw [hf] at x1
  have HFIN := Lib.hid (fun W (hb : Below w.heap.size w W) => show (∃ v', Ending.returned (.tuple #[rqV t (.slice ab t.l.length cb), sV ⟨0, 0⟩, .int .i64 31]) = .returned (.tuple #[rqV R.1 v', sV R.2.1, .int .i64 R.2.2]) ∧ IsK W v' R.1.l ∧ NewK w W (.slice ab t.l.length cb) v' ∧ Below w.heap.size w W) by
    rw [HE.out]
    exact ⟨_, rfl, HK.out.below hb, .inl rfl, hb⟩)
  go_enter Try.func43, Try.ntmps43
  have hsr := rangeAll HQ.out.s
  have hp9 := HQ.out.p.rowOther (k := w.heap.size + 1) (by omega) (rqR t (.slice ab t.l.length cb)).toArray
  go_wp2_with (first
    | (refine plV rfl (rqV t (.slice ab t.l.length cb)) (exec_load_any 31 (.tmp 4) rfl w.heap.size 0 (rqR t (.slice ab t.l.length cb)) _ rfl hsr Try.underlying31 rfl refs_info) ?_)
    | (refine plS rfl (exec_store_bxK _ (.tmp 8) (.tmp 39) rfl (w.heap.size + 1) (rqR t (.slice ab t.l.length cb)) _ rfl rfl HQ.out.r refs_info rfl (rqR_one _ _ rfl)) ?_)
    | (refine plS rfl (exec_store_bxK _ (.tmp 9) (.tmp 40) rfl (w.heap.size + 1 + 1) (sR ⟨0, 0⟩) _ rfl rfl hp9 sp_info rfl (sR_one _)) ?_))
  obtain ⟨WZ, hwz, hbz, hxz, hpz, hkz⟩ := draQ_end (T := t) (vT := (.slice ab t.l.length cb)) (x := ⟨0, 0⟩) HQ.out
  rw [hwz]
  have u0 : WZ.cell? ⟨w.heap.size + 1, 0, none⟩ = some (.int .i64 0) := by rw [hxz.cell]; rfl
  have u1 : WZ.cell? ⟨w.heap.size + 1, 1, none⟩ = some (.int .i64 0) := by rw [hxz.cell]; rfl
  have u2 : WZ.cell? ⟨w.heap.size + 1, 2, none⟩ = some (.int .i64 t.a1.f) := by rw [hxz.cell]; rfl
  have u3 : WZ.cell? ⟨w.heap.size + 1, 3, none⟩ = some (.int .i64 t.a1.l) := by rw [hxz.cell]; rfl
  have u4 : WZ.cell? ⟨w.heap.size + 1, 4, none⟩ = some (.int .i64 t.a2.f) := by rw [hxz.cell]; rfl
  have u5 : WZ.cell? ⟨w.heap.size + 1, 5, none⟩ = some (.int .i64 t.a2.l) := by rw [hxz.cell]; rfl
  have u6 : WZ.cell? ⟨w.heap.size + 1, 6, none⟩ = some ((.slice ab t.l.length cb)) := by rw [hxz.cell]; rfl
  have z0 : WZ.cell? ⟨w.heap.size + 1 + 1, 0, none⟩ = some (.int .i64 (⟨0, 0⟩ : Spn).f) := by rw [hpz.cell]; rfl
  have z1 : WZ.cell? ⟨w.heap.size + 1 + 1, 1, none⟩ = some (.int .i64 (⟨0, 0⟩ : Spn).l) := by rw [hpz.cell]; rfl
  (try simp only at z0 z1)
  exact bodyPost_ret (v := .tuple #[rqV t (.slice ab t.l.length cb), sV ⟨0, 0⟩, .int .i64 31]) (by simp [results, Try.results43, go_sem, rqV, rqR, sV, sR, u0, u1, u2, u3, u4, u5, u6, z0, z1]) rfl (HFIN.out _ hbz)
set_option maxRecDepth 100000 in
set_option maxHeartbeats 4000000 in
theorem rdraw_none2 (t : SpS) (vl : Value) (o n : Int) (w : World) (hwf : WF t) (hkl : IsK w vl t.l) (ho : ¬ o < 1) (hn : ¬ n < 1) (hf : t.a2.f = 0) :
    Calls Try.prog 43 #[rqV t vl, .int .i64 o, .int .i64 (2 : Int), .int .i64 n] w fun e w' => ∃ v', e = .returned (.tuple #[rqV (t.draw o (2 : Int) n).1 v', sV (t.draw o (2 : Int) n).2.1, .int .i64 (t.draw o (2 : Int) n).2.2]) ∧ IsK w' v' (t.draw o (2 : Int) n).1.l ∧ NewK w w' vl v' ∧ Below w.heap.size w w' := by
  have mixed : Try.prog.follows .mixedOrders = true := by kernel_rfl
  have HK := Lib.hid hkl
  have HWF := Lib.hid hwf
  obtain ⟨ab, cb, hvb, hcb⟩ := hkl.form
  subst hvb
  have HQ := Lib.hid (draQ_new w t (.slice ab t.l.length cb))
  rw [show rqV t (.slice ab t.l.length cb) = .agg (rqR t (.slice ab t.l.length cb)).toArray from rfl]
  rw [show (rqR ⟨⟨0, 0⟩, ⟨0, 0⟩, []⟩ (.slice none 0 0)).toArray = #[.int .i64 0, .int .i64 0, .int .i64 0, .int .i64 0, .int .i64 0, .int .i64 0, .slice none 0 0] from rfl, show (sR ⟨0, 0⟩).toArray = #[.int .i64 0, .int .i64 0] from rfl] at HQ
  obtain ⟨R, hR⟩ : ∃ R, t.draw o (2 : Int) n = R := ⟨_, rfl⟩
  rw [hR]
  clear hkl hwf
  have HE := Lib.hid (show R = (t, ⟨0, 0⟩, 31) by rw [← hR]; unfold SpS.draw; rw [if_neg (by omega), if_pos ⟨by omega, hf⟩])
  clear hR
  have x2 := rng0 (rq_ar HQ.out.s).2.1
  rw [hf] at x2
  have HFIN := Lib.hid (fun W (hb : Below w.heap.size w W) => show (∃ v', Ending.returned (.tuple #[rqV t (.slice ab t.l.length cb), sV ⟨0, 0⟩, .int .i64 31]) = .returned (.tuple #[rqV R.1 v', sV R.2.1, .int .i64 R.2.2]) ∧ IsK W v' R.1.l ∧ NewK w W (.slice ab t.l.length cb) v' ∧ Below w.heap.size w W) by
    rw [HE.out]
    exact ⟨_, rfl, HK.out.below hb, .inl rfl, hb⟩)
  go_enter Try.func43, Try.ntmps43
  have hsr := rangeAll HQ.out.s
  have hp9 := HQ.out.p.rowOther (k := w.heap.size + 1) (by omega) (rqR t (.slice ab t.l.length cb)).toArray
  go_wp2_with (first
    | (refine plV rfl (rqV t (.slice ab t.l.length cb)) (exec_load_any 31 (.tmp 4) rfl w.heap.size 0 (rqR t (.slice ab t.l.length cb)) _ rfl hsr Try.underlying31 rfl refs_info) ?_)
    | (refine plS rfl (exec_store_bxK _ (.tmp 8) (.tmp 39) rfl (w.heap.size + 1) (rqR t (.slice ab t.l.length cb)) _ rfl rfl HQ.out.r refs_info rfl (rqR_one _ _ rfl)) ?_)
    | (refine plS rfl (exec_store_bxK _ (.tmp 9) (.tmp 40) rfl (w.heap.size + 1 + 1) (sR ⟨0, 0⟩) _ rfl rfl hp9 sp_info rfl (sR_one _)) ?_))
  obtain ⟨WZ, hwz, hbz, hxz, hpz, hkz⟩ := draQ_end (T := t) (vT := (.slice ab t.l.length cb)) (x := ⟨0, 0⟩) HQ.out
  rw [hwz]
  have u0 : WZ.cell? ⟨w.heap.size + 1, 0, none⟩ = some (.int .i64 0) := by rw [hxz.cell]; rfl
  have u1 : WZ.cell? ⟨w.heap.size + 1, 1, none⟩ = some (.int .i64 0) := by rw [hxz.cell]; rfl
  have u2 : WZ.cell? ⟨w.heap.size + 1, 2, none⟩ = some (.int .i64 t.a1.f) := by rw [hxz.cell]; rfl
  have u3 : WZ.cell? ⟨w.heap.size + 1, 3, none⟩ = some (.int .i64 t.a1.l) := by rw [hxz.cell]; rfl
  have u4 : WZ.cell? ⟨w.heap.size + 1, 4, none⟩ = some (.int .i64 t.a2.f) := by rw [hxz.cell]; rfl
  have u5 : WZ.cell? ⟨w.heap.size + 1, 5, none⟩ = some (.int .i64 t.a2.l) := by rw [hxz.cell]; rfl
  have u6 : WZ.cell? ⟨w.heap.size + 1, 6, none⟩ = some ((.slice ab t.l.length cb)) := by rw [hxz.cell]; rfl
  have z0 : WZ.cell? ⟨w.heap.size + 1 + 1, 0, none⟩ = some (.int .i64 (⟨0, 0⟩ : Spn).f) := by rw [hpz.cell]; rfl
  have z1 : WZ.cell? ⟨w.heap.size + 1 + 1, 1, none⟩ = some (.int .i64 (⟨0, 0⟩ : Spn).l) := by rw [hpz.cell]; rfl
  (try simp only at z0 z1)
  exact bodyPost_ret (v := .tuple #[rqV t (.slice ab t.l.length cb), sV ⟨0, 0⟩, .int .i64 31]) (by simp [results, Try.results43, go_sem, rqV, rqR, sV, sR, u0, u1, u2, u3, u4, u5, u6, z0, z1]) rfl (HFIN.out _ hbz)
set_option maxRecDepth 100000 in
set_option maxHeartbeats 4000000 in
theorem rdraw_run0 (t : SpS) (vl : Value) (o n : Int) (w : World) (hwf : WF t) (hln1 : t.l.length ≤ 1000) (hkl : IsK w vl t.l) (ho : ¬ o < 1) (hn : ¬ n < 1) :
    Calls Try.prog 43 #[rqV t vl, .int .i64 o, .int .i64 (0 : Int), .int .i64 n] w fun e w' => ∃ v', e = .returned (.tuple #[rqV (t.draw o (0 : Int) n).1 v', sV (t.draw o (0 : Int) n).2.1, .int .i64 (t.draw o (0 : Int) n).2.2]) ∧ IsK w' v' (t.draw o (0 : Int) n).1.l ∧ NewK w w' vl v' ∧ Below w.heap.size w w' := by
  have mixed : Try.prog.follows .mixedOrders = true := by kernel_rfl
  have HK := Lib.hid hkl
  have HWF := Lib.hid hwf
  obtain ⟨ab, cb, hvb, hcb⟩ := hkl.form
  subst hvb
  have HQ := Lib.hid (draQ_new w t (.slice ab t.l.length cb))
  rw [show rqV t (.slice ab t.l.length cb) = .agg (rqR t (.slice ab t.l.length cb)).toArray from rfl]
  rw [show (rqR ⟨⟨0, 0⟩, ⟨0, 0⟩, []⟩ (.slice none 0 0)).toArray = #[.int .i64 0, .int .i64 0, .int .i64 0, .int .i64 0, .int .i64 0, .int .i64 0, .slice none 0 0] from rfl, show (sR ⟨0, 0⟩).toArray = #[.int .i64 0, .int .i64 0] from rfl] at HQ
  obtain ⟨R, hR⟩ : ∃ R, t.draw o (0 : Int) n = R := ⟨_, rfl⟩
  rw [hR]
  clear hkl hwf
  have HLN := Lib.hid hln1
  obtain ⟨fo, hfo⟩ : ∃ fo, firstS n (normS (t.left 0)) = fo := ⟨_, rfl⟩
  have hRE : R = drawR t o 0 fo := by rw [← hR, ← hfo]; exact draw_run (by omega) (by omega)
  have hll : (t.left 0).length ≤ 200000 := by have := left_length HWF.out 0; omega
  have hfa := fun v W (hW : IsS W v (t.left 0)) => rfirst_any v (t.left 0) n W hW hll
  rw [hfo] at hfa
  have HFA := Lib.hid hfa
  have HFO := Lib.hid hfo
  have HRE := Lib.hid hRE
  have hrs := rangeAll HQ.out.s
  clear hR hfo hfa hRE hll hln1
  go_enter Try.func43, Try.ntmps43
  go_wp2_with (first
    | (refine plV rfl (rqV t (.slice ab t.l.length cb)) (exec_load_any 31 (.tmp 4) rfl w.heap.size 0 (rqR t (.slice ab t.l.length cb)) _ rfl hrs Try.underlying31 rfl refs_info) ?_)
    | (go_at_call 49; refine (rleft_any t (.slice ab t.l.length cb) 0 _ HWF.out HLN.out (HK.out.below HQ.out.below)).mono ?_; rintro e w3 ⟨v3, rfl, i3, b3⟩; refine Hid.out ?_))
  refine Lib.hid ?_
  have HQ3 := Lib.hid (HQ.out.up b3)
  have HC3 := Lib.hid (HFA.out v3 w3 i3)
  obtain ⟨a3, c3, rfl, hc3⟩ := i3.form
  clear i3 b3 hrs hc3 HQ
  generalize (t.left 0).length = ll at *
  cases fo with
  | none =>
    have HRN := Lib.hid (show R = (t, ⟨0, 0⟩, 43) from HRE.out)
    have hfr : fRes none = .tuple #[.agg (sR ⟨0, 0⟩).toArray, .bool false] := rfl
    rw [hfr] at HC3
    clear hfr
    have HFIN := Lib.hid (fun W (hb : Below w.heap.size w W) => show (∃ v', Ending.returned (.tuple #[rqV t (.slice ab t.l.length cb), sV ⟨0, 0⟩, .int .i64 43]) = .returned (.tuple #[rqV R.1 v', sV R.2.1, .int .i64 R.2.2]) ∧ IsK W v' R.1.l ∧ NewK w W (.slice ab t.l.length cb) v' ∧ Below w.heap.size w W) by
      rw [HRN.out]
      exact ⟨_, rfl, HK.out.below hb, .inl rfl, hb⟩)
    go_wp2_with (go_at_call 26; refine HC3.out.mono ?_; rintro e w4 ⟨rfl, b4⟩; refine Hid.out ?_)
    refine Lib.hid ?_
    have hba : Below w4.heap.size w4 (w4.alloc (.cells (sR ⟨0, 0⟩).toArray 27)) := (Below.refl _ _).alloc (Nat.le_refl _) _
    have HQ5 := Lib.hid ((HQ3.out.up b4).up hba)
    clear b4 hba
    go_wp2_with (refine plS rfl (exec_store_fresh _ (.tmp 11) (.tmp 47) rfl (sR ⟨0, 0⟩) _ w4.heap.size rfl rfl rfl sp_info rfl (sR_one _)) ?_; refine Hid.out ?_)
    refine Lib.hid ?_
    generalize w4.alloc (.cells (sR ⟨0, 0⟩).toArray 27) = w5 at *
    have hsr := rangeAll HQ5.out.s
    have hp9 := HQ5.out.p.rowOther (k := w.heap.size + 1) (by omega) (rqR t (.slice ab t.l.length cb)).toArray
    go_wp2_with (first
      | (refine plV rfl (rqV t (.slice ab t.l.length cb)) (exec_load_any 31 (.tmp 4) rfl w.heap.size 0 (rqR t (.slice ab t.l.length cb)) _ rfl hsr Try.underlying31 rfl refs_info) ?_)
      | (refine plS rfl (exec_store_bxK _ (.tmp 8) (.tmp 51) rfl (w.heap.size + 1) (rqR t (.slice ab t.l.length cb)) _ rfl rfl HQ5.out.r refs_info rfl (rqR_one _ _ rfl)) ?_)
      | (refine plS rfl (exec_store_bxK _ (.tmp 9) (.tmp 52) rfl (w.heap.size + 1 + 1) (sR ⟨0, 0⟩) _ rfl rfl hp9 sp_info rfl (sR_one _)) ?_))
    obtain ⟨WZ, hwz, hbz, hxz, hpz, hkz⟩ := draQ_end (T := t) (vT := (.slice ab t.l.length cb)) (x := ⟨0, 0⟩) HQ5.out
    rw [hwz]
    have u0 : WZ.cell? ⟨w.heap.size + 1, 0, none⟩ = some (.int .i64 0) := by rw [hxz.cell]; rfl
    have u1 : WZ.cell? ⟨w.heap.size + 1, 1, none⟩ = some (.int .i64 0) := by rw [hxz.cell]; rfl
    have u2 : WZ.cell? ⟨w.heap.size + 1, 2, none⟩ = some (.int .i64 t.a1.f) := by rw [hxz.cell]; rfl
    have u3 : WZ.cell? ⟨w.heap.size + 1, 3, none⟩ = some (.int .i64 t.a1.l) := by rw [hxz.cell]; rfl
    have u4 : WZ.cell? ⟨w.heap.size + 1, 4, none⟩ = some (.int .i64 t.a2.f) := by rw [hxz.cell]; rfl
    have u5 : WZ.cell? ⟨w.heap.size + 1, 5, none⟩ = some (.int .i64 t.a2.l) := by rw [hxz.cell]; rfl
    have u6 : WZ.cell? ⟨w.heap.size + 1, 6, none⟩ = some ((.slice ab t.l.length cb)) := by rw [hxz.cell]; rfl
    have z0 : WZ.cell? ⟨w.heap.size + 1 + 1, 0, none⟩ = some (.int .i64 (⟨0, 0⟩ : Spn).f) := by rw [hpz.cell]; rfl
    have z1 : WZ.cell? ⟨w.heap.size + 1 + 1, 1, none⟩ = some (.int .i64 (⟨0, 0⟩ : Spn).l) := by rw [hpz.cell]; rfl
    (try simp only at z0 z1)
    exact bodyPost_ret (v := .tuple #[rqV t (.slice ab t.l.length cb), sV ⟨0, 0⟩, .int .i64 43]) (by simp [results, Try.results43, go_sem, rqV, rqR, sV, sR, u0, u1, u2, u3, u4, u5, u6, z0, z1]) rfl (HFIN.out _ hbz)
  | some x =>
    have HRN := Lib.hid (show R = (t.put ⟨x, o, 0⟩, x, 0) from HRE.out)
    have hfr : fRes (some x) = .tuple #[.agg (sR x).toArray, .bool true] := rfl
    rw [hfr] at HC3
    clear hfr
    go_wp2_with (go_at_call 26; refine HC3.out.mono ?_; rintro e w4 ⟨rfl, b4⟩; refine Hid.out ?_)
    refine Lib.hid ?_
    have hba : Below w4.heap.size w4 (w4.alloc (.cells (sR x).toArray 27)) := (Below.refl _ _).alloc (Nat.le_refl _) _
    have HQ5 := Lib.hid ((HQ3.out.up b4).up hba)
    have HY5 := Lib.hid (Bx.new w4 27 (sR x))
    obtain ⟨gx, hgx⟩ : ∃ gx, gx = w4.heap.size := ⟨_, rfl⟩
    have hgl : w.heap.size + 1 + 1 < gx := by rw [hgx]; exact (HQ3.out.up b4).p.lt
    clear b4 hba
    go_wp2_with (refine plS rfl (exec_store_fresh _ (.tmp 11) (.tmp 47) rfl (sR x) _ w4.heap.size rfl rfl rfl sp_info rfl (sR_one _)) ?_; refine Hid.out ?_)
    refine Lib.hid ?_
    generalize w4.alloc (.cells (sR x).toArray 27) = w5 at *
    rw [← hgx] at HY5 ⊢
    clear hgx
    go_wp2
    have HQD := Lib.hid (HQ5.out.up (Below.refl _ _).drew)
    have HYD := Lib.hid (HY5.out.up (Below.refl _ _).drew)
    refine wp_region_noPanic ?_
    refine wp_region_held_drew (S := HeldD w.heap.size gx t (.slice ab t.l.length cb) x) (by kernel_rfl) ⟨rangeAll HQD.out.s, rangeAll HYD.out⟩ (fun hHeld => ?_)
    generalize w5.drew = wd at *
    clear HQ5 HY5
    refine held_take (v := rqV t (.slice ab t.l.length cb)) 0 rfl (by kernel_rfl) (by kernel_rfl) (by kernel_rfl) (fun _ _ _ h => h) (by rfl) (fun W hSw => exec_load_any _ (.tmp 4) rfl w.heap.size 0 (rqR t (.slice ab t.l.length cb)) _ rfl hSw.1 Try.underlying31 rfl refs_info) (by assumption) ?_
    simp only [List.setIfInBounds_toArray, List.set_cons_zero, List.set_cons_succ]
    refine held_take (v := sV x) 1 rfl (by kernel_rfl) (by kernel_rfl) (by kernel_rfl) (fun _ _ _ h => h) (by rfl) (fun W hSw => exec_load_any _ (.tmp 11) rfl gx 0 (sR x) _ rfl hSw.2 Try.underlying27 rfl sp_info) (by assumption) ?_
    simp only [List.setIfInBounds_toArray, List.set_cons_zero, List.set_cons_succ]
    refine held_take (v := ?v328) 2 rfl (by kernel_rfl) (by kernel_rfl) (by kernel_rfl) (fun _ _ _ h => h) (by rfl) ?y328 (by assumption) ?_
    case y328 => (intro w hSw; unfold HeldD at hSw; go_simp; (try with_reducible rfl); (try omega))
    simp only [List.setIfInBounds_toArray, List.set_cons_zero, List.set_cons_succ]
    refine held_take (v := ?v331) 3 rfl (by kernel_rfl) (by kernel_rfl) (by kernel_rfl) (fun _ _ _ h => h) (by rfl) ?y331 (by assumption) ?_
    case y331 => (intro w hSw; unfold HeldD at hSw; go_simp; (try with_reducible rfl); (try omega))
    simp only [List.setIfInBounds_toArray, List.set_cons_zero, List.set_cons_succ]
    refine held_take (v := bV ⟨x, o, 0⟩) 4 rfl (by kernel_rfl) (by kernel_rfl) (by kernel_rfl) (fun _ _ _ h => h) (by rfl) (fun W hSw => exec_build3 _ 0 1 2 (.tmp 54) (.tmp 55) (.tmp 56) rfl _ _ _ (bR ⟨x, o, 0⟩) rfl rfl rfl (built_rb3 x o 0)) (by assumption) ?_
    simp only [List.setIfInBounds_toArray, List.set_cons_zero, List.set_cons_succ]
    refine held_take (v := sV x) 6 rfl (by kernel_rfl) (by kernel_rfl) (by kernel_rfl) (fun _ _ _ h => h) (by rfl) (fun W hSw => exec_load_any _ (.tmp 11) rfl gx 0 (sR x) _ rfl hSw.2 Try.underlying27 rfl sp_info) (by assumption) ?_
    simp only [List.setIfInBounds_toArray, List.set_cons_zero, List.set_cons_succ]
    refine held_one 5 rfl (by kernel_rfl) (by rfl) (fun K hK => ?_)
    go_simp
    refine (rput_any t (.slice ab t.l.length cb) ⟨x, o, 0⟩ wd HLN.out (HK.out.below HQD.out.below)).mono ?_
    rintro e w6 ⟨v6, rfl, o6, b6⟩
    have HQ6 := Lib.hid (HQD.out.up b6)
    have HY6 := Lib.hid (HYD.out.up b6)
    have hwd := HQD.out.p.lt
    have HIK := Lib.hid (show IsK w6 v6 (t.put ⟨x, o, 0⟩).l from IsC.of_owned (bR_all _) o6)
    have HNK := Lib.hid (fun k (e : v6.ownBlock = some k) => (⟨owned_low o6 k e, owned_lt o6 k e⟩ : wd.heap.size ≤ k ∧ k < w6.heap.size))
    refine hK.out _ _ ⟨rangeAll HQ6.out.s, rangeAll HY6.out⟩ (fun _ => ?_)
    (try simp only [Act.put, List.setIfInBounds_toArray, List.set_cons_zero, List.set_cons_succ])
    obtain ⟨a6, c6, hv6, hc6⟩ := HIK.out.form
    subst hv6
    obtain ⟨T, hT⟩ : ∃ T, t.put ⟨x, o, 0⟩ = T := ⟨_, rfl⟩
    rw [hT] at HIK HNK HRN ⊢
    clear hK K b6 o6 hc6 hT HQD HYD
    have hp9 := HQ6.out.p.rowOther (k := w.heap.size + 1) (by omega) (rqR T (.slice a6 T.l.length c6)).toArray
    obtain ⟨WZ, hwz, hbz, hxz, hpz, hkz⟩ := draQ_end (T := T) (vT := .slice a6 T.l.length c6) (x := x) HQ6.out
    refine held_none 7 rfl (by kernel_rfl) (by rfl) (fun K hK => ?_)
    refine wp_of_skip (exec_store_bxK _ (.tmp 8) (.tmp 58) rfl (w.heap.size + 1) (rqR T (.slice a6 T.l.length c6)) _ rfl rfl HQ6.out.r refs_info rfl (rqR_one _ _ rfl)) ?_
    refine hK.out _ _ ⟨rangeAll (HQ6.out.s.rowOther (by omega) _), rangeAll (HY6.out.rowOther (by omega) _)⟩ (fun _ => ?_)
    clear hK K
    refine held_none 8 rfl (by kernel_rfl) (by rfl) (fun K hK => ?_)
    refine wp_of_skip (exec_store_bxK _ (.tmp 9) (.tmp 59) rfl (w.heap.size + 1 + 1) (sR x) _ rfl rfl hp9 sp_info rfl (sR_one _)) ?_
    rw [hwz]
    refine hK.out _ _ ⟨rangeAll (HQ6.out.s.kp hkz (by omega)), rangeAll (HY6.out.kp hkz (by omega))⟩ (fun _ => ?_)
    clear hK K
    refine held_take (v := ?v365) 9 rfl (by kernel_rfl) (by kernel_rfl) (by kernel_rfl) (fun _ _ _ h => h) (by rfl) ?y365 (by assumption) ?_
    case y365 => (intro w hSw; unfold HeldD at hSw; go_simp; (try with_reducible rfl); (try omega))
    simp only [List.setIfInBounds_toArray, List.set_cons_zero, List.set_cons_succ]
    refine wpAnyH_done (by kernel_rfl) ?_ _
    refine NoPanic.normal ?_
    have u0 : WZ.cell? ⟨w.heap.size + 1, 0, none⟩ = some (.int .i64 0) := by rw [hxz.cell]; rfl
    have u1 : WZ.cell? ⟨w.heap.size + 1, 1, none⟩ = some (.int .i64 0) := by rw [hxz.cell]; rfl
    have u2 : WZ.cell? ⟨w.heap.size + 1, 2, none⟩ = some (.int .i64 T.a1.f) := by rw [hxz.cell]; rfl
    have u3 : WZ.cell? ⟨w.heap.size + 1, 3, none⟩ = some (.int .i64 T.a1.l) := by rw [hxz.cell]; rfl
    have u4 : WZ.cell? ⟨w.heap.size + 1, 4, none⟩ = some (.int .i64 T.a2.f) := by rw [hxz.cell]; rfl
    have u5 : WZ.cell? ⟨w.heap.size + 1, 5, none⟩ = some (.int .i64 T.a2.l) := by rw [hxz.cell]; rfl
    have u6 : WZ.cell? ⟨w.heap.size + 1, 6, none⟩ = some (.slice a6 T.l.length c6) := by rw [hxz.cell]; rfl
    have z0 : WZ.cell? ⟨w.heap.size + 1 + 1, 0, none⟩ = some (.int .i64 x.f) := by rw [hpz.cell]; rfl
    have z1 : WZ.cell? ⟨w.heap.size + 1 + 1, 1, none⟩ = some (.int .i64 x.l) := by rw [hpz.cell]; rfl
    have hik : IsK WZ (.slice a6 T.l.length c6) T.l := IsC.kpO HIK.out hkz (fun k e (e2 : k = w.heap.size + 1 ∨ k = w.heap.size + 1 + 1) => by have := HNK.out k e; omega)
    have hnk : NewK w WZ (.slice ab t.l.length cb) (.slice a6 T.l.length c6) := .inr (fun k e => by have := HNK.out k e; have := hkz.size; omega)
    clear hwz hkz hp9
    go_wp2
    exact bodyPost_ret (v := .tuple #[rqV T (.slice a6 T.l.length c6), sV x, .int .i64 0]) (by simp [results, Try.results43, go_sem, rqV, rqR, sV, sR, u0, u1, u2, u3, u4, u5, u6, z0, z1]) rfl ⟨.slice a6 T.l.length c6, by rw [HRN.out], by rw [HRN.out]; exact hik, hnk, hbz⟩
set_option maxRecDepth 100000 in
set_option maxHeartbeats 4000000 in
theorem rdraw_run1 (t : SpS) (vl : Value) (o n : Int) (w : World) (hwf : WF t) (hln1 : t.l.length ≤ 1000) (hkl : IsK w vl t.l) (ho : ¬ o < 1) (hn : ¬ n < 1) (hf : t.a1.f ≠ 0) :
    Calls Try.prog 43 #[rqV t vl, .int .i64 o, .int .i64 (1 : Int), .int .i64 n] w fun e w' => ∃ v', e = .returned (.tuple #[rqV (t.draw o (1 : Int) n).1 v', sV (t.draw o (1 : Int) n).2.1, .int .i64 (t.draw o (1 : Int) n).2.2]) ∧ IsK w' v' (t.draw o (1 : Int) n).1.l ∧ NewK w w' vl v' ∧ Below w.heap.size w w' := by
  have mixed : Try.prog.follows .mixedOrders = true := by kernel_rfl
  have HK := Lib.hid hkl
  have HWF := Lib.hid hwf
  obtain ⟨ab, cb, hvb, hcb⟩ := hkl.form
  subst hvb
  have HQ := Lib.hid (draQ_new w t (.slice ab t.l.length cb))
  rw [show rqV t (.slice ab t.l.length cb) = .agg (rqR t (.slice ab t.l.length cb)).toArray from rfl]
  rw [show (rqR ⟨⟨0, 0⟩, ⟨0, 0⟩, []⟩ (.slice none 0 0)).toArray = #[.int .i64 0, .int .i64 0, .int .i64 0, .int .i64 0, .int .i64 0, .int .i64 0, .slice none 0 0] from rfl, show (sR ⟨0, 0⟩).toArray = #[.int .i64 0, .int .i64 0] from rfl] at HQ
  obtain ⟨R, hR⟩ : ∃ R, t.draw o (1 : Int) n = R := ⟨_, rfl⟩
  rw [hR]
  clear hkl hwf
  have HLN := Lib.hid hln1
  obtain ⟨fo, hfo⟩ : ∃ fo, firstS n (normS (t.left 1)) = fo := ⟨_, rfl⟩
  have hRE : R = drawR t o 1 fo := by rw [← hR, ← hfo]; exact draw_run (by omega) (fun h => hf h.2)
  have hll : (t.left 1).length ≤ 200000 := by have := left_length HWF.out 1; omega
  have hfa := fun v W (hW : IsS W v (t.left 1)) => rfirst_any v (t.left 1) n W hW hll
  rw [hfo] at hfa
  have HFA := Lib.hid hfa
  have HFO := Lib.hid hfo
  have HRE := Lib.hid hRE
  have x1 := rng0 (rq_ar HQ.out.s).1
  have hf0 : (t.a1.f == 0) = false := by simpa using hf
  have hrs := rangeAll HQ.out.s
  clear hR hfo hfa hRE hll hln1
  go_enter Try.func43, Try.ntmps43
  go_wp2_with (first
    | (refine plV rfl (rqV t (.slice ab t.l.length cb)) (exec_load_any 31 (.tmp 4) rfl w.heap.size 0 (rqR t (.slice ab t.l.length cb)) _ rfl hrs Try.underlying31 rfl refs_info) ?_)
    | (go_at_call 49; refine (rleft_any t (.slice ab t.l.length cb) 1 _ HWF.out HLN.out (HK.out.below HQ.out.below)).mono ?_; rintro e w3 ⟨v3, rfl, i3, b3⟩; refine Hid.out ?_))
  refine Lib.hid ?_
  have HQ3 := Lib.hid (HQ.out.up b3)
  have HC3 := Lib.hid (HFA.out v3 w3 i3)
  obtain ⟨a3, c3, rfl, hc3⟩ := i3.form
  clear i3 b3 hrs hc3 HQ x1 hf0
  generalize (t.left 1).length = ll at *
  cases fo with
  | none =>
    have HRN := Lib.hid (show R = (t, ⟨0, 0⟩, 43) from HRE.out)
    have hfr : fRes none = .tuple #[.agg (sR ⟨0, 0⟩).toArray, .bool false] := rfl
    rw [hfr] at HC3
    clear hfr
    have HFIN := Lib.hid (fun W (hb : Below w.heap.size w W) => show (∃ v', Ending.returned (.tuple #[rqV t (.slice ab t.l.length cb), sV ⟨0, 0⟩, .int .i64 43]) = .returned (.tuple #[rqV R.1 v', sV R.2.1, .int .i64 R.2.2]) ∧ IsK W v' R.1.l ∧ NewK w W (.slice ab t.l.length cb) v' ∧ Below w.heap.size w W) by
      rw [HRN.out]
      exact ⟨_, rfl, HK.out.below hb, .inl rfl, hb⟩)
    go_wp2_with (go_at_call 26; refine HC3.out.mono ?_; rintro e w4 ⟨rfl, b4⟩; refine Hid.out ?_)
    refine Lib.hid ?_
    have hba : Below w4.heap.size w4 (w4.alloc (.cells (sR ⟨0, 0⟩).toArray 27)) := (Below.refl _ _).alloc (Nat.le_refl _) _
    have HQ5 := Lib.hid ((HQ3.out.up b4).up hba)
    clear b4 hba
    go_wp2_with (refine plS rfl (exec_store_fresh _ (.tmp 11) (.tmp 47) rfl (sR ⟨0, 0⟩) _ w4.heap.size rfl rfl rfl sp_info rfl (sR_one _)) ?_; refine Hid.out ?_)
    refine Lib.hid ?_
    generalize w4.alloc (.cells (sR ⟨0, 0⟩).toArray 27) = w5 at *
    have hsr := rangeAll HQ5.out.s
    have hp9 := HQ5.out.p.rowOther (k := w.heap.size + 1) (by omega) (rqR t (.slice ab t.l.length cb)).toArray
    go_wp2_with (first
      | (refine plV rfl (rqV t (.slice ab t.l.length cb)) (exec_load_any 31 (.tmp 4) rfl w.heap.size 0 (rqR t (.slice ab t.l.length cb)) _ rfl hsr Try.underlying31 rfl refs_info) ?_)
      | (refine plS rfl (exec_store_bxK _ (.tmp 8) (.tmp 51) rfl (w.heap.size + 1) (rqR t (.slice ab t.l.length cb)) _ rfl rfl HQ5.out.r refs_info rfl (rqR_one _ _ rfl)) ?_)
      | (refine plS rfl (exec_store_bxK _ (.tmp 9) (.tmp 52) rfl (w.heap.size + 1 + 1) (sR ⟨0, 0⟩) _ rfl rfl hp9 sp_info rfl (sR_one _)) ?_))
    obtain ⟨WZ, hwz, hbz, hxz, hpz, hkz⟩ := draQ_end (T := t) (vT := (.slice ab t.l.length cb)) (x := ⟨0, 0⟩) HQ5.out
    rw [hwz]
    have u0 : WZ.cell? ⟨w.heap.size + 1, 0, none⟩ = some (.int .i64 0) := by rw [hxz.cell]; rfl
    have u1 : WZ.cell? ⟨w.heap.size + 1, 1, none⟩ = some (.int .i64 0) := by rw [hxz.cell]; rfl
    have u2 : WZ.cell? ⟨w.heap.size + 1, 2, none⟩ = some (.int .i64 t.a1.f) := by rw [hxz.cell]; rfl
    have u3 : WZ.cell? ⟨w.heap.size + 1, 3, none⟩ = some (.int .i64 t.a1.l) := by rw [hxz.cell]; rfl
    have u4 : WZ.cell? ⟨w.heap.size + 1, 4, none⟩ = some (.int .i64 t.a2.f) := by rw [hxz.cell]; rfl
    have u5 : WZ.cell? ⟨w.heap.size + 1, 5, none⟩ = some (.int .i64 t.a2.l) := by rw [hxz.cell]; rfl
    have u6 : WZ.cell? ⟨w.heap.size + 1, 6, none⟩ = some ((.slice ab t.l.length cb)) := by rw [hxz.cell]; rfl
    have z0 : WZ.cell? ⟨w.heap.size + 1 + 1, 0, none⟩ = some (.int .i64 (⟨0, 0⟩ : Spn).f) := by rw [hpz.cell]; rfl
    have z1 : WZ.cell? ⟨w.heap.size + 1 + 1, 1, none⟩ = some (.int .i64 (⟨0, 0⟩ : Spn).l) := by rw [hpz.cell]; rfl
    (try simp only at z0 z1)
    exact bodyPost_ret (v := .tuple #[rqV t (.slice ab t.l.length cb), sV ⟨0, 0⟩, .int .i64 43]) (by simp [results, Try.results43, go_sem, rqV, rqR, sV, sR, u0, u1, u2, u3, u4, u5, u6, z0, z1]) rfl (HFIN.out _ hbz)
  | some x =>
    have HRN := Lib.hid (show R = (t.put ⟨x, o, 1⟩, x, 0) from HRE.out)
    have hfr : fRes (some x) = .tuple #[.agg (sR x).toArray, .bool true] := rfl
    rw [hfr] at HC3
    clear hfr
    go_wp2_with (go_at_call 26; refine HC3.out.mono ?_; rintro e w4 ⟨rfl, b4⟩; refine Hid.out ?_)
    refine Lib.hid ?_
    have hba : Below w4.heap.size w4 (w4.alloc (.cells (sR x).toArray 27)) := (Below.refl _ _).alloc (Nat.le_refl _) _
    have HQ5 := Lib.hid ((HQ3.out.up b4).up hba)
    have HY5 := Lib.hid (Bx.new w4 27 (sR x))
    obtain ⟨gx, hgx⟩ : ∃ gx, gx = w4.heap.size := ⟨_, rfl⟩
    have hgl : w.heap.size + 1 + 1 < gx := by rw [hgx]; exact (HQ3.out.up b4).p.lt
    clear b4 hba
    go_wp2_with (refine plS rfl (exec_store_fresh _ (.tmp 11) (.tmp 47) rfl (sR x) _ w4.heap.size rfl rfl rfl sp_info rfl (sR_one _)) ?_; refine Hid.out ?_)
    refine Lib.hid ?_
    generalize w4.alloc (.cells (sR x).toArray 27) = w5 at *
    rw [← hgx] at HY5 ⊢
    clear hgx
    go_wp2
    have HQD := Lib.hid (HQ5.out.up (Below.refl _ _).drew)
    have HYD := Lib.hid (HY5.out.up (Below.refl _ _).drew)
    refine wp_region_noPanic ?_
    refine wp_region_held_drew (S := HeldD w.heap.size gx t (.slice ab t.l.length cb) x) (by kernel_rfl) ⟨rangeAll HQD.out.s, rangeAll HYD.out⟩ (fun hHeld => ?_)
    generalize w5.drew = wd at *
    clear HQ5 HY5
    refine held_take (v := rqV t (.slice ab t.l.length cb)) 0 rfl (by kernel_rfl) (by kernel_rfl) (by kernel_rfl) (fun _ _ _ h => h) (by rfl) (fun W hSw => exec_load_any _ (.tmp 4) rfl w.heap.size 0 (rqR t (.slice ab t.l.length cb)) _ rfl hSw.1 Try.underlying31 rfl refs_info) (by assumption) ?_
    simp only [List.setIfInBounds_toArray, List.set_cons_zero, List.set_cons_succ]
    refine held_take (v := sV x) 1 rfl (by kernel_rfl) (by kernel_rfl) (by kernel_rfl) (fun _ _ _ h => h) (by rfl) (fun W hSw => exec_load_any _ (.tmp 11) rfl gx 0 (sR x) _ rfl hSw.2 Try.underlying27 rfl sp_info) (by assumption) ?_
    simp only [List.setIfInBounds_toArray, List.set_cons_zero, List.set_cons_succ]
    refine held_take (v := ?v487) 2 rfl (by kernel_rfl) (by kernel_rfl) (by kernel_rfl) (fun _ _ _ h => h) (by rfl) ?y487 (by assumption) ?_
    case y487 => (intro w hSw; unfold HeldD at hSw; go_simp; (try with_reducible rfl); (try omega))
    simp only [List.setIfInBounds_toArray, List.set_cons_zero, List.set_cons_succ]
    refine held_take (v := ?v490) 3 rfl (by kernel_rfl) (by kernel_rfl) (by kernel_rfl) (fun _ _ _ h => h) (by rfl) ?y490 (by assumption) ?_
    case y490 => (intro w hSw; unfold HeldD at hSw; go_simp; (try with_reducible rfl); (try omega))
    simp only [List.setIfInBounds_toArray, List.set_cons_zero, List.set_cons_succ]
    refine held_take (v := bV ⟨x, o, 1⟩) 4 rfl (by kernel_rfl) (by kernel_rfl) (by kernel_rfl) (fun _ _ _ h => h) (by rfl) (fun W hSw => exec_build3 _ 0 1 2 (.tmp 54) (.tmp 55) (.tmp 56) rfl _ _ _ (bR ⟨x, o, 1⟩) rfl rfl rfl (built_rb3 x o 1)) (by assumption) ?_
    simp only [List.setIfInBounds_toArray, List.set_cons_zero, List.set_cons_succ]
    refine held_take (v := sV x) 6 rfl (by kernel_rfl) (by kernel_rfl) (by kernel_rfl) (fun _ _ _ h => h) (by rfl) (fun W hSw => exec_load_any _ (.tmp 11) rfl gx 0 (sR x) _ rfl hSw.2 Try.underlying27 rfl sp_info) (by assumption) ?_
    simp only [List.setIfInBounds_toArray, List.set_cons_zero, List.set_cons_succ]
    refine held_one 5 rfl (by kernel_rfl) (by rfl) (fun K hK => ?_)
    go_simp
    refine (rput_any t (.slice ab t.l.length cb) ⟨x, o, 1⟩ wd HLN.out (HK.out.below HQD.out.below)).mono ?_
    rintro e w6 ⟨v6, rfl, o6, b6⟩
    have HQ6 := Lib.hid (HQD.out.up b6)
    have HY6 := Lib.hid (HYD.out.up b6)
    have hwd := HQD.out.p.lt
    have HIK := Lib.hid (show IsK w6 v6 (t.put ⟨x, o, 1⟩).l from IsC.of_owned (bR_all _) o6)
    have HNK := Lib.hid (fun k (e : v6.ownBlock = some k) => (⟨owned_low o6 k e, owned_lt o6 k e⟩ : wd.heap.size ≤ k ∧ k < w6.heap.size))
    refine hK.out _ _ ⟨rangeAll HQ6.out.s, rangeAll HY6.out⟩ (fun _ => ?_)
    (try simp only [Act.put, List.setIfInBounds_toArray, List.set_cons_zero, List.set_cons_succ])
    obtain ⟨a6, c6, hv6, hc6⟩ := HIK.out.form
    subst hv6
    obtain ⟨T, hT⟩ : ∃ T, t.put ⟨x, o, 1⟩ = T := ⟨_, rfl⟩
    rw [hT] at HIK HNK HRN ⊢
    clear hK K b6 o6 hc6 hT HQD HYD
    have hp9 := HQ6.out.p.rowOther (k := w.heap.size + 1) (by omega) (rqR T (.slice a6 T.l.length c6)).toArray
    obtain ⟨WZ, hwz, hbz, hxz, hpz, hkz⟩ := draQ_end (T := T) (vT := .slice a6 T.l.length c6) (x := x) HQ6.out
    refine held_none 7 rfl (by kernel_rfl) (by rfl) (fun K hK => ?_)
    refine wp_of_skip (exec_store_bxK _ (.tmp 8) (.tmp 58) rfl (w.heap.size + 1) (rqR T (.slice a6 T.l.length c6)) _ rfl rfl HQ6.out.r refs_info rfl (rqR_one _ _ rfl)) ?_
    refine hK.out _ _ ⟨rangeAll (HQ6.out.s.rowOther (by omega) _), rangeAll (HY6.out.rowOther (by omega) _)⟩ (fun _ => ?_)
    clear hK K
    refine held_none 8 rfl (by kernel_rfl) (by rfl) (fun K hK => ?_)
    refine wp_of_skip (exec_store_bxK _ (.tmp 9) (.tmp 59) rfl (w.heap.size + 1 + 1) (sR x) _ rfl rfl hp9 sp_info rfl (sR_one _)) ?_
    rw [hwz]
    refine hK.out _ _ ⟨rangeAll (HQ6.out.s.kp hkz (by omega)), rangeAll (HY6.out.kp hkz (by omega))⟩ (fun _ => ?_)
    clear hK K
    refine held_take (v := ?v524) 9 rfl (by kernel_rfl) (by kernel_rfl) (by kernel_rfl) (fun _ _ _ h => h) (by rfl) ?y524 (by assumption) ?_
    case y524 => (intro w hSw; unfold HeldD at hSw; go_simp; (try with_reducible rfl); (try omega))
    simp only [List.setIfInBounds_toArray, List.set_cons_zero, List.set_cons_succ]
    refine wpAnyH_done (by kernel_rfl) ?_ _
    refine NoPanic.normal ?_
    have u0 : WZ.cell? ⟨w.heap.size + 1, 0, none⟩ = some (.int .i64 0) := by rw [hxz.cell]; rfl
    have u1 : WZ.cell? ⟨w.heap.size + 1, 1, none⟩ = some (.int .i64 0) := by rw [hxz.cell]; rfl
    have u2 : WZ.cell? ⟨w.heap.size + 1, 2, none⟩ = some (.int .i64 T.a1.f) := by rw [hxz.cell]; rfl
    have u3 : WZ.cell? ⟨w.heap.size + 1, 3, none⟩ = some (.int .i64 T.a1.l) := by rw [hxz.cell]; rfl
    have u4 : WZ.cell? ⟨w.heap.size + 1, 4, none⟩ = some (.int .i64 T.a2.f) := by rw [hxz.cell]; rfl
    have u5 : WZ.cell? ⟨w.heap.size + 1, 5, none⟩ = some (.int .i64 T.a2.l) := by rw [hxz.cell]; rfl
    have u6 : WZ.cell? ⟨w.heap.size + 1, 6, none⟩ = some (.slice a6 T.l.length c6) := by rw [hxz.cell]; rfl
    have z0 : WZ.cell? ⟨w.heap.size + 1 + 1, 0, none⟩ = some (.int .i64 x.f) := by rw [hpz.cell]; rfl
    have z1 : WZ.cell? ⟨w.heap.size + 1 + 1, 1, none⟩ = some (.int .i64 x.l) := by rw [hpz.cell]; rfl
    have hik : IsK WZ (.slice a6 T.l.length c6) T.l := IsC.kpO HIK.out hkz (fun k e (e2 : k = w.heap.size + 1 ∨ k = w.heap.size + 1 + 1) => by have := HNK.out k e; omega)
    have hnk : NewK w WZ (.slice ab t.l.length cb) (.slice a6 T.l.length c6) := .inr (fun k e => by have := HNK.out k e; have := hkz.size; omega)
    clear hwz hkz hp9
    go_wp2
    exact bodyPost_ret (v := .tuple #[rqV T (.slice a6 T.l.length c6), sV x, .int .i64 0]) (by simp [results, Try.results43, go_sem, rqV, rqR, sV, sR, u0, u1, u2, u3, u4, u5, u6, z0, z1]) rfl ⟨.slice a6 T.l.length c6, by rw [HRN.out], by rw [HRN.out]; exact hik, hnk, hbz⟩
set_option maxRecDepth 100000 in
set_option maxHeartbeats 4000000 in
theorem rdraw_run2 (t : SpS) (vl : Value) (o n : Int) (w : World) (hwf : WF t) (hln1 : t.l.length ≤ 1000) (hkl : IsK w vl t.l) (ho : ¬ o < 1) (hn : ¬ n < 1) (hf : t.a2.f ≠ 0) :
    Calls Try.prog 43 #[rqV t vl, .int .i64 o, .int .i64 (2 : Int), .int .i64 n] w fun e w' => ∃ v', e = .returned (.tuple #[rqV (t.draw o (2 : Int) n).1 v', sV (t.draw o (2 : Int) n).2.1, .int .i64 (t.draw o (2 : Int) n).2.2]) ∧ IsK w' v' (t.draw o (2 : Int) n).1.l ∧ NewK w w' vl v' ∧ Below w.heap.size w w' := by
  have mixed : Try.prog.follows .mixedOrders = true := by kernel_rfl
  have HK := Lib.hid hkl
  have HWF := Lib.hid hwf
  obtain ⟨ab, cb, hvb, hcb⟩ := hkl.form
  subst hvb
  have HQ := Lib.hid (draQ_new w t (.slice ab t.l.length cb))
  rw [show rqV t (.slice ab t.l.length cb) = .agg (rqR t (.slice ab t.l.length cb)).toArray from rfl]
  rw [show (rqR ⟨⟨0, 0⟩, ⟨0, 0⟩, []⟩ (.slice none 0 0)).toArray = #[.int .i64 0, .int .i64 0, .int .i64 0, .int .i64 0, .int .i64 0, .int .i64 0, .slice none 0 0] from rfl, show (sR ⟨0, 0⟩).toArray = #[.int .i64 0, .int .i64 0] from rfl] at HQ
  obtain ⟨R, hR⟩ : ∃ R, t.draw o (2 : Int) n = R := ⟨_, rfl⟩
  rw [hR]
  clear hkl hwf
  have HLN := Lib.hid hln1
  obtain ⟨fo, hfo⟩ : ∃ fo, firstS n (normS (t.left 2)) = fo := ⟨_, rfl⟩
  have hRE : R = drawR t o 2 fo := by rw [← hR, ← hfo]; exact draw_run (by omega) (fun h => hf h.2)
  have hll : (t.left 2).length ≤ 200000 := by have := left_length HWF.out 2; omega
  have hfa := fun v W (hW : IsS W v (t.left 2)) => rfirst_any v (t.left 2) n W hW hll
  rw [hfo] at hfa
  have HFA := Lib.hid hfa
  have HFO := Lib.hid hfo
  have HRE := Lib.hid hRE
  have x2 := rng0 (rq_ar HQ.out.s).2.1
  have hf0 : (t.a2.f == 0) = false := by simpa using hf
  have hrs := rangeAll HQ.out.s
  clear hR hfo hfa hRE hll hln1
  go_enter Try.func43, Try.ntmps43
  go_wp2_with (first
    | (refine plV rfl (rqV t (.slice ab t.l.length cb)) (exec_load_any 31 (.tmp 4) rfl w.heap.size 0 (rqR t (.slice ab t.l.length cb)) _ rfl hrs Try.underlying31 rfl refs_info) ?_)
    | (go_at_call 49; refine (rleft_any t (.slice ab t.l.length cb) 2 _ HWF.out HLN.out (HK.out.below HQ.out.below)).mono ?_; rintro e w3 ⟨v3, rfl, i3, b3⟩; refine Hid.out ?_))
  refine Lib.hid ?_
  have HQ3 := Lib.hid (HQ.out.up b3)
  have HC3 := Lib.hid (HFA.out v3 w3 i3)
  obtain ⟨a3, c3, rfl, hc3⟩ := i3.form
  clear i3 b3 hrs hc3 HQ x2 hf0
  generalize (t.left 2).length = ll at *
  cases fo with
  | none =>
    have HRN := Lib.hid (show R = (t, ⟨0, 0⟩, 43) from HRE.out)
    have hfr : fRes none = .tuple #[.agg (sR ⟨0, 0⟩).toArray, .bool false] := rfl
    rw [hfr] at HC3
    clear hfr
    have HFIN := Lib.hid (fun W (hb : Below w.heap.size w W) => show (∃ v', Ending.returned (.tuple #[rqV t (.slice ab t.l.length cb), sV ⟨0, 0⟩, .int .i64 43]) = .returned (.tuple #[rqV R.1 v', sV R.2.1, .int .i64 R.2.2]) ∧ IsK W v' R.1.l ∧ NewK w W (.slice ab t.l.length cb) v' ∧ Below w.heap.size w W) by
      rw [HRN.out]
      exact ⟨_, rfl, HK.out.below hb, .inl rfl, hb⟩)
    go_wp2_with (go_at_call 26; refine HC3.out.mono ?_; rintro e w4 ⟨rfl, b4⟩; refine Hid.out ?_)
    refine Lib.hid ?_
    have hba : Below w4.heap.size w4 (w4.alloc (.cells (sR ⟨0, 0⟩).toArray 27)) := (Below.refl _ _).alloc (Nat.le_refl _) _
    have HQ5 := Lib.hid ((HQ3.out.up b4).up hba)
    clear b4 hba
    go_wp2_with (refine plS rfl (exec_store_fresh _ (.tmp 11) (.tmp 47) rfl (sR ⟨0, 0⟩) _ w4.heap.size rfl rfl rfl sp_info rfl (sR_one _)) ?_; refine Hid.out ?_)
    refine Lib.hid ?_
    generalize w4.alloc (.cells (sR ⟨0, 0⟩).toArray 27) = w5 at *
    have hsr := rangeAll HQ5.out.s
    have hp9 := HQ5.out.p.rowOther (k := w.heap.size + 1) (by omega) (rqR t (.slice ab t.l.length cb)).toArray
    go_wp2_with (first
      | (refine plV rfl (rqV t (.slice ab t.l.length cb)) (exec_load_any 31 (.tmp 4) rfl w.heap.size 0 (rqR t (.slice ab t.l.length cb)) _ rfl hsr Try.underlying31 rfl refs_info) ?_)
      | (refine plS rfl (exec_store_bxK _ (.tmp 8) (.tmp 51) rfl (w.heap.size + 1) (rqR t (.slice ab t.l.length cb)) _ rfl rfl HQ5.out.r refs_info rfl (rqR_one _ _ rfl)) ?_)
      | (refine plS rfl (exec_store_bxK _ (.tmp 9) (.tmp 52) rfl (w.heap.size + 1 + 1) (sR ⟨0, 0⟩) _ rfl rfl hp9 sp_info rfl (sR_one _)) ?_))
    obtain ⟨WZ, hwz, hbz, hxz, hpz, hkz⟩ := draQ_end (T := t) (vT := (.slice ab t.l.length cb)) (x := ⟨0, 0⟩) HQ5.out
    rw [hwz]
    have u0 : WZ.cell? ⟨w.heap.size + 1, 0, none⟩ = some (.int .i64 0) := by rw [hxz.cell]; rfl
    have u1 : WZ.cell? ⟨w.heap.size + 1, 1, none⟩ = some (.int .i64 0) := by rw [hxz.cell]; rfl
    have u2 : WZ.cell? ⟨w.heap.size + 1, 2, none⟩ = some (.int .i64 t.a1.f) := by rw [hxz.cell]; rfl
    have u3 : WZ.cell? ⟨w.heap.size + 1, 3, none⟩ = some (.int .i64 t.a1.l) := by rw [hxz.cell]; rfl
    have u4 : WZ.cell? ⟨w.heap.size + 1, 4, none⟩ = some (.int .i64 t.a2.f) := by rw [hxz.cell]; rfl
    have u5 : WZ.cell? ⟨w.heap.size + 1, 5, none⟩ = some (.int .i64 t.a2.l) := by rw [hxz.cell]; rfl
    have u6 : WZ.cell? ⟨w.heap.size + 1, 6, none⟩ = some ((.slice ab t.l.length cb)) := by rw [hxz.cell]; rfl
    have z0 : WZ.cell? ⟨w.heap.size + 1 + 1, 0, none⟩ = some (.int .i64 (⟨0, 0⟩ : Spn).f) := by rw [hpz.cell]; rfl
    have z1 : WZ.cell? ⟨w.heap.size + 1 + 1, 1, none⟩ = some (.int .i64 (⟨0, 0⟩ : Spn).l) := by rw [hpz.cell]; rfl
    (try simp only at z0 z1)
    exact bodyPost_ret (v := .tuple #[rqV t (.slice ab t.l.length cb), sV ⟨0, 0⟩, .int .i64 43]) (by simp [results, Try.results43, go_sem, rqV, rqR, sV, sR, u0, u1, u2, u3, u4, u5, u6, z0, z1]) rfl (HFIN.out _ hbz)
  | some x =>
    have HRN := Lib.hid (show R = (t.put ⟨x, o, 2⟩, x, 0) from HRE.out)
    have hfr : fRes (some x) = .tuple #[.agg (sR x).toArray, .bool true] := rfl
    rw [hfr] at HC3
    clear hfr
    go_wp2_with (go_at_call 26; refine HC3.out.mono ?_; rintro e w4 ⟨rfl, b4⟩; refine Hid.out ?_)
    refine Lib.hid ?_
    have hba : Below w4.heap.size w4 (w4.alloc (.cells (sR x).toArray 27)) := (Below.refl _ _).alloc (Nat.le_refl _) _
    have HQ5 := Lib.hid ((HQ3.out.up b4).up hba)
    have HY5 := Lib.hid (Bx.new w4 27 (sR x))
    obtain ⟨gx, hgx⟩ : ∃ gx, gx = w4.heap.size := ⟨_, rfl⟩
    have hgl : w.heap.size + 1 + 1 < gx := by rw [hgx]; exact (HQ3.out.up b4).p.lt
    clear b4 hba
    go_wp2_with (refine plS rfl (exec_store_fresh _ (.tmp 11) (.tmp 47) rfl (sR x) _ w4.heap.size rfl rfl rfl sp_info rfl (sR_one _)) ?_; refine Hid.out ?_)
    refine Lib.hid ?_
    generalize w4.alloc (.cells (sR x).toArray 27) = w5 at *
    rw [← hgx] at HY5 ⊢
    clear hgx
    go_wp2
    have HQD := Lib.hid (HQ5.out.up (Below.refl _ _).drew)
    have HYD := Lib.hid (HY5.out.up (Below.refl _ _).drew)
    refine wp_region_noPanic ?_
    refine wp_region_held_drew (S := HeldD w.heap.size gx t (.slice ab t.l.length cb) x) (by kernel_rfl) ⟨rangeAll HQD.out.s, rangeAll HYD.out⟩ (fun hHeld => ?_)
    generalize w5.drew = wd at *
    clear HQ5 HY5
    refine held_take (v := rqV t (.slice ab t.l.length cb)) 0 rfl (by kernel_rfl) (by kernel_rfl) (by kernel_rfl) (fun _ _ _ h => h) (by rfl) (fun W hSw => exec_load_any _ (.tmp 4) rfl w.heap.size 0 (rqR t (.slice ab t.l.length cb)) _ rfl hSw.1 Try.underlying31 rfl refs_info) (by assumption) ?_
    simp only [List.setIfInBounds_toArray, List.set_cons_zero, List.set_cons_succ]
    refine held_take (v := sV x) 1 rfl (by kernel_rfl) (by kernel_rfl) (by kernel_rfl) (fun _ _ _ h => h) (by rfl) (fun W hSw => exec_load_any _ (.tmp 11) rfl gx 0 (sR x) _ rfl hSw.2 Try.underlying27 rfl sp_info) (by assumption) ?_
    simp only [List.setIfInBounds_toArray, List.set_cons_zero, List.set_cons_succ]
    refine held_take (v := ?v646) 2 rfl (by kernel_rfl) (by kernel_rfl) (by kernel_rfl) (fun _ _ _ h => h) (by rfl) ?y646 (by assumption) ?_
    case y646 => (intro w hSw; unfold HeldD at hSw; go_simp; (try with_reducible rfl); (try omega))
    simp only [List.setIfInBounds_toArray, List.set_cons_zero, List.set_cons_succ]
    refine held_take (v := ?v649) 3 rfl (by kernel_rfl) (by kernel_rfl) (by kernel_rfl) (fun _ _ _ h => h) (by rfl) ?y649 (by assumption) ?_
    case y649 => (intro w hSw; unfold HeldD at hSw; go_simp; (try with_reducible rfl); (try omega))
    simp only [List.setIfInBounds_toArray, List.set_cons_zero, List.set_cons_succ]
    refine held_take (v := bV ⟨x, o, 2⟩) 4 rfl (by kernel_rfl) (by kernel_rfl) (by kernel_rfl) (fun _ _ _ h => h) (by rfl) (fun W hSw => exec_build3 _ 0 1 2 (.tmp 54) (.tmp 55) (.tmp 56) rfl _ _ _ (bR ⟨x, o, 2⟩) rfl rfl rfl (built_rb3 x o 2)) (by assumption) ?_
    simp only [List.setIfInBounds_toArray, List.set_cons_zero, List.set_cons_succ]
    refine held_take (v := sV x) 6 rfl (by kernel_rfl) (by kernel_rfl) (by kernel_rfl) (fun _ _ _ h => h) (by rfl) (fun W hSw => exec_load_any _ (.tmp 11) rfl gx 0 (sR x) _ rfl hSw.2 Try.underlying27 rfl sp_info) (by assumption) ?_
    simp only [List.setIfInBounds_toArray, List.set_cons_zero, List.set_cons_succ]
    refine held_one 5 rfl (by kernel_rfl) (by rfl) (fun K hK => ?_)
    go_simp
    refine (rput_any t (.slice ab t.l.length cb) ⟨x, o, 2⟩ wd HLN.out (HK.out.below HQD.out.below)).mono ?_
    rintro e w6 ⟨v6, rfl, o6, b6⟩
    have HQ6 := Lib.hid (HQD.out.up b6)
    have HY6 := Lib.hid (HYD.out.up b6)
    have hwd := HQD.out.p.lt
    have HIK := Lib.hid (show IsK w6 v6 (t.put ⟨x, o, 2⟩).l from IsC.of_owned (bR_all _) o6)
    have HNK := Lib.hid (fun k (e : v6.ownBlock = some k) => (⟨owned_low o6 k e, owned_lt o6 k e⟩ : wd.heap.size ≤ k ∧ k < w6.heap.size))
    refine hK.out _ _ ⟨rangeAll HQ6.out.s, rangeAll HY6.out⟩ (fun _ => ?_)
    (try simp only [Act.put, List.setIfInBounds_toArray, List.set_cons_zero, List.set_cons_succ])
    obtain ⟨a6, c6, hv6, hc6⟩ := HIK.out.form
    subst hv6
    obtain ⟨T, hT⟩ : ∃ T, t.put ⟨x, o, 2⟩ = T := ⟨_, rfl⟩
    rw [hT] at HIK HNK HRN ⊢
    clear hK K b6 o6 hc6 hT HQD HYD
    have hp9 := HQ6.out.p.rowOther (k := w.heap.size + 1) (by omega) (rqR T (.slice a6 T.l.length c6)).toArray
    obtain ⟨WZ, hwz, hbz, hxz, hpz, hkz⟩ := draQ_end (T := T) (vT := .slice a6 T.l.length c6) (x := x) HQ6.out
    refine held_none 7 rfl (by kernel_rfl) (by rfl) (fun K hK => ?_)
    refine wp_of_skip (exec_store_bxK _ (.tmp 8) (.tmp 58) rfl (w.heap.size + 1) (rqR T (.slice a6 T.l.length c6)) _ rfl rfl HQ6.out.r refs_info rfl (rqR_one _ _ rfl)) ?_
    refine hK.out _ _ ⟨rangeAll (HQ6.out.s.rowOther (by omega) _), rangeAll (HY6.out.rowOther (by omega) _)⟩ (fun _ => ?_)
    clear hK K
    refine held_none 8 rfl (by kernel_rfl) (by rfl) (fun K hK => ?_)
    refine wp_of_skip (exec_store_bxK _ (.tmp 9) (.tmp 59) rfl (w.heap.size + 1 + 1) (sR x) _ rfl rfl hp9 sp_info rfl (sR_one _)) ?_
    rw [hwz]
    refine hK.out _ _ ⟨rangeAll (HQ6.out.s.kp hkz (by omega)), rangeAll (HY6.out.kp hkz (by omega))⟩ (fun _ => ?_)
    clear hK K
    refine held_take (v := ?v683) 9 rfl (by kernel_rfl) (by kernel_rfl) (by kernel_rfl) (fun _ _ _ h => h) (by rfl) ?y683 (by assumption) ?_
    case y683 => (intro w hSw; unfold HeldD at hSw; go_simp; (try with_reducible rfl); (try omega))
    simp only [List.setIfInBounds_toArray, List.set_cons_zero, List.set_cons_succ]
    refine wpAnyH_done (by kernel_rfl) ?_ _
    refine NoPanic.normal ?_
    have u0 : WZ.cell? ⟨w.heap.size + 1, 0, none⟩ = some (.int .i64 0) := by rw [hxz.cell]; rfl
    have u1 : WZ.cell? ⟨w.heap.size + 1, 1, none⟩ = some (.int .i64 0) := by rw [hxz.cell]; rfl
    have u2 : WZ.cell? ⟨w.heap.size + 1, 2, none⟩ = some (.int .i64 T.a1.f) := by rw [hxz.cell]; rfl
    have u3 : WZ.cell? ⟨w.heap.size + 1, 3, none⟩ = some (.int .i64 T.a1.l) := by rw [hxz.cell]; rfl
    have u4 : WZ.cell? ⟨w.heap.size + 1, 4, none⟩ = some (.int .i64 T.a2.f) := by rw [hxz.cell]; rfl
    have u5 : WZ.cell? ⟨w.heap.size + 1, 5, none⟩ = some (.int .i64 T.a2.l) := by rw [hxz.cell]; rfl
    have u6 : WZ.cell? ⟨w.heap.size + 1, 6, none⟩ = some (.slice a6 T.l.length c6) := by rw [hxz.cell]; rfl
    have z0 : WZ.cell? ⟨w.heap.size + 1 + 1, 0, none⟩ = some (.int .i64 x.f) := by rw [hpz.cell]; rfl
    have z1 : WZ.cell? ⟨w.heap.size + 1 + 1, 1, none⟩ = some (.int .i64 x.l) := by rw [hpz.cell]; rfl
    have hik : IsK WZ (.slice a6 T.l.length c6) T.l := IsC.kpO HIK.out hkz (fun k e (e2 : k = w.heap.size + 1 ∨ k = w.heap.size + 1 + 1) => by have := HNK.out k e; omega)
    have hnk : NewK w WZ (.slice ab t.l.length cb) (.slice a6 T.l.length c6) := .inr (fun k e => by have := HNK.out k e; have := hkz.size; omega)
    clear hwz hkz hp9
    go_wp2
    exact bodyPost_ret (v := .tuple #[rqV T (.slice a6 T.l.length c6), sV x, .int .i64 0]) (by simp [results, Try.results43, go_sem, rqV, rqR, sV, sR, u0, u1, u2, u3, u4, u5, u6, z0, z1]) rfl ⟨.slice a6 T.l.length c6, by rw [HRN.out], by rw [HRN.out]; exact hik, hnk, hbz⟩
theorem rdraw_any (t : SpS) (vl : Value) (o k n : Int) (w : World) (hwf : WF t) (hln1 : t.l.length ≤ 1000) (hkl : IsK w vl t.l) :
    Calls Try.prog 43 #[rqV t vl, .int .i64 o, .int .i64 k, .int .i64 n] w fun e w' => ∃ v', e = .returned (.tuple #[rqV (t.draw o k n).1 v', sV (t.draw o k n).2.1, .int .i64 (t.draw o k n).2.2]) ∧ IsK w' v' (t.draw o k n).1.l ∧ NewK w w' vl v' ∧ Below w.heap.size w w' := by
  by_cases hbad : o < 1 ∨ k < 0 ∨ 2 < k ∨ n < 1
  · exact rdraw_bad t vl o k n w hwf hkl hbad
  · have ho : ¬ o < 1 := by omega
    have hn : ¬ n < 1 := by omega
    rcases (show k = 0 ∨ k = 1 ∨ k = 2 by omega) with rfl | rfl | rfl
    · exact rdraw_run0 t vl o n w hwf hln1 hkl ho hn
    · by_cases hf : t.a1.f = 0
      · exact rdraw_none1 t vl o n w hwf hkl ho hn hf
      · exact rdraw_run1 t vl o n w hwf hln1 hkl ho hn hf
    · by_cases hf : t.a2.f = 0
      · exact rdraw_none2 t vl o n w hwf hkl ho hn hf
      · exact rdraw_run2 t vl o n w hwf hln1 hkl ho hn hf
end Go.Proofs.Ytgelbeglffjdaaa
