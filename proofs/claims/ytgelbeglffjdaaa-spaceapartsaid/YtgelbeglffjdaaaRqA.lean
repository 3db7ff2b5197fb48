/- The document's space: an area that is laid out. -/
import Derived.Test.YtgelbeglffjdaaaRq9
import Derived.Test.YtgelbeglffjdaaaRq3
namespace Go.Proofs.Ytgelbeglffjdaaa
open Go Go.RowKit Go.Shelf
attribute [local go_sem] Oper.semAt_some

def HeldF (g : Nat) (t : SpS) (vl : Value) (s : Spn) (W : World) : Prop := W.rangeAt g 0 (rqR t vl) ∧ W.rangeAt (g + 1) 0 (sR s)
theorem FreQ.held {w : World} {t : SpS} {vl : Value} {s : Spn} {W : World} (h : FreQ w t vl s W) : HeldF w.heap.size t vl s W := ⟨rangeAll h.s, rangeAll h.p⟩
set_option maxRecDepth 100000 in
set_option maxHeartbeats 2000000 in
theorem rcarve_out (t : SpS) (vl : Value) (k : Int) (s : Spn) (w : World) (hwf : WF t) (hkl : IsK w vl t.l) (hk : k < 1 ∨ 2 < k) :
    Calls Try.prog 41 #[rqV t vl, .int .i64 k, sV s] w fun e w' => ∃ v', e = .returned (.tuple #[rqV (t.carve k s).1 v', .int .i64 (t.carve k s).2]) ∧ IsK w' v' (t.carve k s).1.l ∧ NewK w w' vl v' ∧ Below w.heap.size w w' := by
  have mixed : Try.prog.follows .mixedOrders = true := by kernel_rfl
  have HK := Lib.hid hkl
  have HWF := Lib.hid hwf
  obtain ⟨ab, cb, hvb, hcb⟩ := hkl.form
  subst hvb
  have HQ := Lib.hid (freQ_new w t (.slice ab t.l.length cb) s)
  rw [show rqV t (.slice ab t.l.length cb) = .agg (rqR t (.slice ab t.l.length cb)).toArray from rfl, show sV s = .agg (sR s).toArray from rfl]
  rw [show (rqR ⟨⟨0, 0⟩, ⟨0, 0⟩, []⟩ (.slice none 0 0)).toArray = #[.int .i64 0, .int .i64 0, .int .i64 0, .int .i64 0, .int .i64 0, .int .i64 0, .slice none 0 0] from rfl] at HQ
  have HB := Lib.hid (fun W => rmay12_any s W)
  clear hkl hwf
  have HE := Lib.hid (show t.carve k s = (t, 1) by unfold SpS.carve; rw [if_pos hk])
  clear HB
  have HFIN := Lib.hid (fun W (hb : Below w.heap.size w W) => show (∃ v', Ending.returned (.tuple #[rqV t (.slice ab t.l.length cb), .int .i64 1]) = .returned (.tuple #[rqV (t.carve k s).1 v', .int .i64 (t.carve k s).2]) ∧ IsK W v' (t.carve k s).1.l ∧ NewK w W (.slice ab t.l.length cb) v' ∧ Below w.heap.size w W) by
    rw [HE.out]
    exact ⟨_, rfl, HK.out.below hb, .inl rfl, hb⟩)
  by_cases h1 : k < 1
  · go_enter Try.func41, Try.ntmps41
    have hsr := rangeAll HQ.out.s
    go_wp2_with (first
      | (refine plV rfl (rqV t (.slice ab t.l.length cb)) (exec_load_any 31 (.tmp 3) rfl w.heap.size 0 (rqR t (.slice ab t.l.length cb)) _ rfl hsr Try.underlying31 rfl refs_info) ?_)
      | (refine plS rfl (exec_store_bxK _ (.tmp 6) (.tmp 15) rfl (w.heap.size + 1 + 1) (rqR t (.slice ab t.l.length cb)) _ rfl rfl HQ.out.r refs_info rfl (rqR_one _ _ rfl)) ?_))
    obtain ⟨WZ, hwz, hbz, hxz, hkz⟩ := freQ_end (T := t) (vT := (.slice ab t.l.length cb)) HQ.out
    rw [hwz]
    have u0 : WZ.cell? ⟨w.heap.size + 1 + 1, 0, none⟩ = some (.int .i64 0) := by rw [hxz.cell]; rfl
    have u1 : WZ.cell? ⟨w.heap.size + 1 + 1, 1, none⟩ = some (.int .i64 0) := by rw [hxz.cell]; rfl
    have u2 : WZ.cell? ⟨w.heap.size + 1 + 1, 2, none⟩ = some (.int .i64 t.a1.f) := by rw [hxz.cell]; rfl
    have u3 : WZ.cell? ⟨w.heap.size + 1 + 1, 3, none⟩ = some (.int .i64 t.a1.l) := by rw [hxz.cell]; rfl
    have u4 : WZ.cell? ⟨w.heap.size + 1 + 1, 4, none⟩ = some (.int .i64 t.a2.f) := by rw [hxz.cell]; rfl
    have u5 : WZ.cell? ⟨w.heap.size + 1 + 1, 5, none⟩ = some (.int .i64 t.a2.l) := by rw [hxz.cell]; rfl
    have u6 : WZ.cell? ⟨w.heap.size + 1 + 1, 6, none⟩ = some ((.slice ab t.l.length cb)) := by rw [hxz.cell]; rfl
    exact bodyPost_ret (v := .tuple #[rqV t (.slice ab t.l.length cb), .int .i64 1]) (by simp [results, Try.results41, go_sem, rqV, rqR, u0, u1, u2, u3, u4, u5, u6]) rfl (HFIN.out _ hbz)
  · have h2 : 2 < k := by omega
    go_enter Try.func41, Try.ntmps41
    have hsr := rangeAll HQ.out.s
    go_wp2_with (first
      | (refine plV rfl (rqV t (.slice ab t.l.length cb)) (exec_load_any 31 (.tmp 3) rfl w.heap.size 0 (rqR t (.slice ab t.l.length cb)) _ rfl hsr Try.underlying31 rfl refs_info) ?_)
      | (refine plS rfl (exec_store_bxK _ (.tmp 6) (.tmp 15) rfl (w.heap.size + 1 + 1) (rqR t (.slice ab t.l.length cb)) _ rfl rfl HQ.out.r refs_info rfl (rqR_one _ _ rfl)) ?_))
    obtain ⟨WZ, hwz, hbz, hxz, hkz⟩ := freQ_end (T := t) (vT := (.slice ab t.l.length cb)) HQ.out
    rw [hwz]
    have u0 : WZ.cell? ⟨w.heap.size + 1 + 1, 0, none⟩ = some (.int .i64 0) := by rw [hxz.cell]; rfl
    have u1 : WZ.cell? ⟨w.heap.size + 1 + 1, 1, none⟩ = some (.int .i64 0) := by rw [hxz.cell]; rfl
    have u2 : WZ.cell? ⟨w.heap.size + 1 + 1, 2, none⟩ = some (.int .i64 t.a1.f) := by rw [hxz.cell]; rfl
    have u3 : WZ.cell? ⟨w.heap.size + 1 + 1, 3, none⟩ = some (.int .i64 t.a1.l) := by rw [hxz.cell]; rfl
    have u4 : WZ.cell? ⟨w.heap.size + 1 + 1, 4, none⟩ = some (.int .i64 t.a2.f) := by rw [hxz.cell]; rfl
    have u5 : WZ.cell? ⟨w.heap.size + 1 + 1, 5, none⟩ = some (.int .i64 t.a2.l) := by rw [hxz.cell]; rfl
    have u6 : WZ.cell? ⟨w.heap.size + 1 + 1, 6, none⟩ = some ((.slice ab t.l.length cb)) := by rw [hxz.cell]; rfl
    exact bodyPost_ret (v := .tuple #[rqV t (.slice ab t.l.length cb), .int .i64 1]) (by simp [results, Try.results41, go_sem, rqV, rqR, u0, u1, u2, u3, u4, u5, u6]) rfl (HFIN.out _ hbz)
set_option maxRecDepth 100000 in
set_option maxHeartbeats 4000000 in
theorem rcarve_1 (t : SpS) (vl : Value) (s : Spn) (w : World) (hwf : WF t) (hln1 : t.l.length ≤ 1000) (hkl : IsK w vl t.l) :
    Calls Try.prog 41 #[rqV t vl, .int .i64 (1 : Int), sV s] w fun e w' => ∃ v', e = .returned (.tuple #[rqV (t.carve 1 s).1 v', .int .i64 (t.carve 1 s).2]) ∧ IsK w' v' (t.carve 1 s).1.l ∧ NewK w w' vl v' ∧ Below w.heap.size w w' := by
  have mixed : Try.prog.follows .mixedOrders = true := by kernel_rfl
  have HK := Lib.hid hkl
  have HWF := Lib.hid hwf
  obtain ⟨ab, cb, hvb, hcb⟩ := hkl.form
  subst hvb
  have HQ := Lib.hid (freQ_new w t (.slice ab t.l.length cb) s)
  rw [show rqV t (.slice ab t.l.length cb) = .agg (rqR t (.slice ab t.l.length cb)).toArray from rfl, show sV s = .agg (sR s).toArray from rfl]
  rw [show (rqR ⟨⟨0, 0⟩, ⟨0, 0⟩, []⟩ (.slice none 0 0)).toArray = #[.int .i64 0, .int .i64 0, .int .i64 0, .int .i64 0, .int .i64 0, .int .i64 0, .slice none 0 0] from rfl] at HQ
  have HB := Lib.hid (fun W => rmay12_any s W)
  clear hkl hwf
  cases hm : mayOB s with
  | false =>
    have HE := Lib.hid (show t.carve 1 s = (t, 40) by unfold SpS.carve; rw [if_neg (by omega), if_pos hm])
    rw [hm] at HB
    clear hm
    have HFIN := Lib.hid (fun W (hb : Below w.heap.size w W) => show (∃ v', Ending.returned (.tuple #[rqV t (.slice ab t.l.length cb), .int .i64 40]) = .returned (.tuple #[rqV (t.carve 1 s).1 v', .int .i64 (t.carve 1 s).2]) ∧ IsK W v' (t.carve 1 s).1.l ∧ NewK w W (.slice ab t.l.length cb) v' ∧ Below w.heap.size w W) by
      rw [HE.out]
      exact ⟨_, rfl, HK.out.below hb, .inl rfl, hb⟩)
    go_enter Try.func41, Try.ntmps41
    go_wp2_with (first
      | (refine plV rfl (sV s) (exec_load_any 27 (.tmp 5) rfl (w.heap.size + 1) 0 (sR s) _ rfl (rangeAll HQ.out.p) Try.underlying27 rfl sp_info) ?_)
      | (go_at_call 72; refine (HB.out _).mono ?_; rintro e w2 ⟨rfl, b2⟩; refine Hid.out ?_))
    refine Lib.hid ?_
    have HQ2 := Lib.hid (HQ.out.up b2)
    clear b2 HB HQ
    have hsr := rangeAll HQ2.out.s
    go_wp2_with (first
      | (refine plV rfl (rqV t (.slice ab t.l.length cb)) (exec_load_any 31 (.tmp 3) rfl w.heap.size 0 (rqR t (.slice ab t.l.length cb)) _ rfl hsr Try.underlying31 rfl refs_info) ?_)
      | (refine plS rfl (exec_store_bxK _ (.tmp 6) (.tmp 20) rfl (w.heap.size + 1 + 1) (rqR t (.slice ab t.l.length cb)) _ rfl rfl HQ2.out.r refs_info rfl (rqR_one _ _ rfl)) ?_))
    obtain ⟨WZ, hwz, hbz, hxz, hkz⟩ := freQ_end (T := t) (vT := (.slice ab t.l.length cb)) HQ2.out
    rw [hwz]
    have u0 : WZ.cell? ⟨w.heap.size + 1 + 1, 0, none⟩ = some (.int .i64 0) := by rw [hxz.cell]; rfl
    have u1 : WZ.cell? ⟨w.heap.size + 1 + 1, 1, none⟩ = some (.int .i64 0) := by rw [hxz.cell]; rfl
    have u2 : WZ.cell? ⟨w.heap.size + 1 + 1, 2, none⟩ = some (.int .i64 t.a1.f) := by rw [hxz.cell]; rfl
    have u3 : WZ.cell? ⟨w.heap.size + 1 + 1, 3, none⟩ = some (.int .i64 t.a1.l) := by rw [hxz.cell]; rfl
    have u4 : WZ.cell? ⟨w.heap.size + 1 + 1, 4, none⟩ = some (.int .i64 t.a2.f) := by rw [hxz.cell]; rfl
    have u5 : WZ.cell? ⟨w.heap.size + 1 + 1, 5, none⟩ = some (.int .i64 t.a2.l) := by rw [hxz.cell]; rfl
    have u6 : WZ.cell? ⟨w.heap.size + 1 + 1, 6, none⟩ = some ((.slice ab t.l.length cb)) := by rw [hxz.cell]; rfl
    exact bodyPost_ret (v := .tuple #[rqV t (.slice ab t.l.length cb), .int .i64 40]) (by simp [results, Try.results41, go_sem, rqV, rqR, u0, u1, u2, u3, u4, u5, u6]) rfl (HFIN.out _ hbz)
  | true =>
    rw [hm] at HB
    by_cases hf : 0 < t.a1.f
    · have HE := Lib.hid (show t.carve 1 s = (t, 32) by unfold SpS.carve; rw [if_neg (by omega), hm, if_neg (by simp), show t.ar 1 = t.a1 from rfl, if_pos hf])
      clear hm
      have HFIN := Lib.hid (fun W (hb : Below w.heap.size w W) => show (∃ v', Ending.returned (.tuple #[rqV t (.slice ab t.l.length cb), .int .i64 32]) = .returned (.tuple #[rqV (t.carve 1 s).1 v', .int .i64 (t.carve 1 s).2]) ∧ IsK W v' (t.carve 1 s).1.l ∧ NewK w W (.slice ab t.l.length cb) v' ∧ Below w.heap.size w W) by
        rw [HE.out]
        exact ⟨_, rfl, HK.out.below hb, .inl rfl, hb⟩)
      go_enter Try.func41, Try.ntmps41
      go_wp2_with (first
        | (refine plV rfl (sV s) (exec_load_any 27 (.tmp 5) rfl (w.heap.size + 1) 0 (sR s) _ rfl (rangeAll HQ.out.p) Try.underlying27 rfl sp_info) ?_)
        | (go_at_call 72; refine (HB.out _).mono ?_; rintro e w2 ⟨rfl, b2⟩; refine Hid.out ?_))
      refine Lib.hid ?_
      have HQ2 := Lib.hid (HQ.out.up b2)
      clear b2 HB HQ
      have x1 := rng0 (rq_ar HQ2.out.s).1
      have hsr := rangeAll HQ2.out.s
      go_wp2_with (first
        | (refine plV rfl (rqV t (.slice ab t.l.length cb)) (exec_load_any 31 (.tmp 3) rfl w.heap.size 0 (rqR t (.slice ab t.l.length cb)) _ rfl hsr Try.underlying31 rfl refs_info) ?_)
        | (refine plS rfl (exec_store_bxK _ (.tmp 6) (.tmp 27) rfl (w.heap.size + 1 + 1) (rqR t (.slice ab t.l.length cb)) _ rfl rfl HQ2.out.r refs_info rfl (rqR_one _ _ rfl)) ?_))
      obtain ⟨WZ, hwz, hbz, hxz, hkz⟩ := freQ_end (T := t) (vT := (.slice ab t.l.length cb)) HQ2.out
      rw [hwz]
      have u0 : WZ.cell? ⟨w.heap.size + 1 + 1, 0, none⟩ = some (.int .i64 0) := by rw [hxz.cell]; rfl
      have u1 : WZ.cell? ⟨w.heap.size + 1 + 1, 1, none⟩ = some (.int .i64 0) := by rw [hxz.cell]; rfl
      have u2 : WZ.cell? ⟨w.heap.size + 1 + 1, 2, none⟩ = some (.int .i64 t.a1.f) := by rw [hxz.cell]; rfl
      have u3 : WZ.cell? ⟨w.heap.size + 1 + 1, 3, none⟩ = some (.int .i64 t.a1.l) := by rw [hxz.cell]; rfl
      have u4 : WZ.cell? ⟨w.heap.size + 1 + 1, 4, none⟩ = some (.int .i64 t.a2.f) := by rw [hxz.cell]; rfl
      have u5 : WZ.cell? ⟨w.heap.size + 1 + 1, 5, none⟩ = some (.int .i64 t.a2.l) := by rw [hxz.cell]; rfl
      have u6 : WZ.cell? ⟨w.heap.size + 1 + 1, 6, none⟩ = some ((.slice ab t.l.length cb)) := by rw [hxz.cell]; rfl
      exact bodyPost_ret (v := .tuple #[rqV t (.slice ab t.l.length cb), .int .i64 32]) (by simp [results, Try.results41, go_sem, rqV, rqR, u0, u1, u2, u3, u4, u5, u6]) rfl (HFIN.out _ hbz)
    · cases hh : hasS (t.left 0) s with
      | false =>
        have HE := Lib.hid (show t.carve 1 s = (t, 42) by unfold SpS.carve; rw [if_neg (by omega), hm, if_neg (by simp), show t.ar 1 = t.a1 from rfl, if_neg hf, if_pos hh])
        have HH := Lib.hid hh
        clear hm hh
        have HFIN := Lib.hid (fun W (hb : Below w.heap.size w W) => show (∃ v', Ending.returned (.tuple #[rqV t (.slice ab t.l.length cb), .int .i64 42]) = .returned (.tuple #[rqV (t.carve 1 s).1 v', .int .i64 (t.carve 1 s).2]) ∧ IsK W v' (t.carve 1 s).1.l ∧ NewK w W (.slice ab t.l.length cb) v' ∧ Below w.heap.size w W) by
          rw [HE.out]
          exact ⟨_, rfl, HK.out.below hb, .inl rfl, hb⟩)
        go_enter Try.func41, Try.ntmps41
        go_wp2_with (first
          | (refine plV rfl (sV s) (exec_load_any 27 (.tmp 5) rfl (w.heap.size + 1) 0 (sR s) _ rfl (rangeAll HQ.out.p) Try.underlying27 rfl sp_info) ?_)
          | (go_at_call 72; refine (HB.out _).mono ?_; rintro e w2 ⟨rfl, b2⟩; refine Hid.out ?_))
        refine Lib.hid ?_
        have HQ2 := Lib.hid (HQ.out.up b2)
        clear b2 HB HQ
        have x1 := rng0 (rq_ar HQ2.out.s).1
        have HLN := Lib.hid hln1
        go_wp2
        clear x1 hln1
        have HQD := Lib.hid (HQ2.out.up (Below.refl _ _).drew)
        refine wp_region_noPanic ?_
        refine wp_region_held_drew (S := HeldF w.heap.size t (.slice ab t.l.length cb) s) (by kernel_rfl) HQD.out.held (fun hHeld => ?_)
        generalize w2.drew = wd at *
        clear HQ2
        refine held_take (v := rqV t (.slice ab t.l.length cb)) 0 rfl (by kernel_rfl) (by kernel_rfl) (by kernel_rfl) (fun _ _ _ h => h) (by rfl) (fun W hSw => exec_load_any _ (.tmp 3) rfl w.heap.size 0 (rqR t (.slice ab t.l.length cb)) _ rfl hSw.1 Try.underlying31 rfl refs_info) (by assumption) ?_
        simp only [List.setIfInBounds_toArray, List.set_cons_zero, List.set_cons_succ]
        refine held_take (v := sV s) 2 rfl (by kernel_rfl) (by kernel_rfl) (by kernel_rfl) (fun _ _ _ h => h) (by rfl) (fun W hSw => exec_load_any _ (.tmp 5) rfl (w.heap.size + 1) 0 (sR s) _ rfl hSw.2 Try.underlying27 rfl sp_info) (by assumption) ?_
        simp only [List.setIfInBounds_toArray, List.set_cons_zero, List.set_cons_succ]
        refine held_one 1 rfl (by kernel_rfl) (by rfl) (fun K hK => ?_)
        go_simp
        refine (rleft_any t (.slice ab t.l.length cb) 0 wd HWF.out HLN.out (HK.out.below HQD.out.below)).mono ?_
        rintro e w4 ⟨v4, rfl, i4, b4⟩
        have HQ4 := Lib.hid (HQD.out.up b4)
        refine hK.out _ _ HQ4.out.held (fun _ => ?_)
        (try simp only [Act.put, List.setIfInBounds_toArray, List.set_cons_zero, List.set_cons_succ])
        clear hK K b4 HQD
        have hc5 := rhas_any v4 _ s w4 i4 (by have := left_length HWF.out 0; have := HLN.out; omega)
        rw [HH.out] at hc5
        refine held_one 3 rfl (by kernel_rfl) (by rfl) (fun K hK => ?_)
        go_simp
        refine hc5.mono ?_
        rintro e w5 ⟨rfl, b5⟩
        have HQ5 := Lib.hid (HQ4.out.up b5)
        refine hK.out _ _ HQ5.out.held (fun _ => ?_)
        (try simp only [Act.put, List.setIfInBounds_toArray, List.set_cons_zero, List.set_cons_succ])
        clear hK K b5 HQ4 hc5
        refine held_take (v := ?v179) 4 rfl (by kernel_rfl) (by kernel_rfl) (by kernel_rfl) (fun _ _ _ h => h) (by rfl) ?y179 (by assumption) ?_
        case y179 => (intro w hSw; unfold HeldF at hSw; go_simp; (try with_reducible rfl); (try omega))
        simp only [List.setIfInBounds_toArray, List.set_cons_zero, List.set_cons_succ]
        refine wpAnyH_done (by kernel_rfl) ?_ _
        refine NoPanic.normal ?_
        have hsr := rangeAll HQ5.out.s
        go_wp2_with (first
          | (refine plV rfl (rqV t (.slice ab t.l.length cb)) (exec_load_any 31 (.tmp 3) rfl w.heap.size 0 (rqR t (.slice ab t.l.length cb)) _ rfl hsr Try.underlying31 rfl refs_info) ?_)
          | (refine plS rfl (exec_store_bxK _ (.tmp 6) (.tmp 33) rfl (w.heap.size + 1 + 1) (rqR t (.slice ab t.l.length cb)) _ rfl rfl HQ5.out.r refs_info rfl (rqR_one _ _ rfl)) ?_))
        obtain ⟨WZ, hwz, hbz, hxz, hkz⟩ := freQ_end (T := t) (vT := (.slice ab t.l.length cb)) HQ5.out
        rw [hwz]
        have u0 : WZ.cell? ⟨w.heap.size + 1 + 1, 0, none⟩ = some (.int .i64 0) := by rw [hxz.cell]; rfl
        have u1 : WZ.cell? ⟨w.heap.size + 1 + 1, 1, none⟩ = some (.int .i64 0) := by rw [hxz.cell]; rfl
        have u2 : WZ.cell? ⟨w.heap.size + 1 + 1, 2, none⟩ = some (.int .i64 t.a1.f) := by rw [hxz.cell]; rfl
        have u3 : WZ.cell? ⟨w.heap.size + 1 + 1, 3, none⟩ = some (.int .i64 t.a1.l) := by rw [hxz.cell]; rfl
        have u4 : WZ.cell? ⟨w.heap.size + 1 + 1, 4, none⟩ = some (.int .i64 t.a2.f) := by rw [hxz.cell]; rfl
        have u5 : WZ.cell? ⟨w.heap.size + 1 + 1, 5, none⟩ = some (.int .i64 t.a2.l) := by rw [hxz.cell]; rfl
        have u6 : WZ.cell? ⟨w.heap.size + 1 + 1, 6, none⟩ = some ((.slice ab t.l.length cb)) := by rw [hxz.cell]; rfl
        exact bodyPost_ret (v := .tuple #[rqV t (.slice ab t.l.length cb), .int .i64 42]) (by simp [results, Try.results41, go_sem, rqV, rqR, u0, u1, u2, u3, u4, u5, u6]) rfl (HFIN.out _ hbz)
      | true =>
        have HE := Lib.hid (show t.carve 1 s = ((⟨s, t.a2, t.l⟩ : SpS), 0) by unfold SpS.carve; rw [if_neg (by omega), hm, if_neg (by simp), show t.ar 1 = t.a1 from rfl, if_neg hf, hh, if_neg (by simp)]; rfl)
        have HH := Lib.hid hh
        clear hm hh
        have HFIN := Lib.hid (fun W (hb : Below w.heap.size w W) => show (∃ v', Ending.returned (.tuple #[rqV (⟨s, t.a2, t.l⟩ : SpS) (.slice ab t.l.length cb), .int .i64 0]) = .returned (.tuple #[rqV (t.carve 1 s).1 v', .int .i64 (t.carve 1 s).2]) ∧ IsK W v' (t.carve 1 s).1.l ∧ NewK w W (.slice ab t.l.length cb) v' ∧ Below w.heap.size w W) by
          rw [HE.out]
          exact ⟨_, rfl, HK.out.below hb, .inl rfl, hb⟩)
        go_enter Try.func41, Try.ntmps41
        go_wp2_with (first
          | (refine plV rfl (sV s) (exec_load_any 27 (.tmp 5) rfl (w.heap.size + 1) 0 (sR s) _ rfl (rangeAll HQ.out.p) Try.underlying27 rfl sp_info) ?_)
          | (go_at_call 72; refine (HB.out _).mono ?_; rintro e w2 ⟨rfl, b2⟩; refine Hid.out ?_))
        refine Lib.hid ?_
        have HQ2 := Lib.hid (HQ.out.up b2)
        clear b2 HB HQ
        have x1 := rng0 (rq_ar HQ2.out.s).1
        have HLN := Lib.hid hln1
        go_wp2
        clear x1 hln1
        have HQD := Lib.hid (HQ2.out.up (Below.refl _ _).drew)
        refine wp_region_noPanic ?_
        refine wp_region_held_drew (S := HeldF w.heap.size t (.slice ab t.l.length cb) s) (by kernel_rfl) HQD.out.held (fun hHeld => ?_)
        generalize w2.drew = wd at *
        clear HQ2
        refine held_take (v := rqV t (.slice ab t.l.length cb)) 0 rfl (by kernel_rfl) (by kernel_rfl) (by kernel_rfl) (fun _ _ _ h => h) (by rfl) (fun W hSw => exec_load_any _ (.tmp 3) rfl w.heap.size 0 (rqR t (.slice ab t.l.length cb)) _ rfl hSw.1 Try.underlying31 rfl refs_info) (by assumption) ?_
        simp only [List.setIfInBounds_toArray, List.set_cons_zero, List.set_cons_succ]
        refine held_take (v := sV s) 2 rfl (by kernel_rfl) (by kernel_rfl) (by kernel_rfl) (fun _ _ _ h => h) (by rfl) (fun W hSw => exec_load_any _ (.tmp 5) rfl (w.heap.size + 1) 0 (sR s) _ rfl hSw.2 Try.underlying27 rfl sp_info) (by assumption) ?_
        simp only [List.setIfInBounds_toArray, List.set_cons_zero, List.set_cons_succ]
        refine held_one 1 rfl (by kernel_rfl) (by rfl) (fun K hK => ?_)
        go_simp
        refine (rleft_any t (.slice ab t.l.length cb) 0 wd HWF.out HLN.out (HK.out.below HQD.out.below)).mono ?_
        rintro e w4 ⟨v4, rfl, i4, b4⟩
        have HQ4 := Lib.hid (HQD.out.up b4)
        refine hK.out _ _ HQ4.out.held (fun _ => ?_)
        (try simp only [Act.put, List.setIfInBounds_toArray, List.set_cons_zero, List.set_cons_succ])
        clear hK K b4 HQD
        have hc5 := rhas_any v4 _ s w4 i4 (by have := left_length HWF.out 0; have := HLN.out; omega)
        rw [HH.out] at hc5
        refine held_one 3 rfl (by kernel_rfl) (by rfl) (fun K hK => ?_)
        go_simp
        refine hc5.mono ?_
        rintro e w5 ⟨rfl, b5⟩
        have HQ5 := Lib.hid (HQ4.out.up b5)
        refine hK.out _ _ HQ5.out.held (fun _ => ?_)
        (try simp only [Act.put, List.setIfInBounds_toArray, List.set_cons_zero, List.set_cons_succ])
        clear hK K b5 HQ4 hc5
        refine held_take (v := ?v243) 4 rfl (by kernel_rfl) (by kernel_rfl) (by kernel_rfl) (fun _ _ _ h => h) (by rfl) ?y243 (by assumption) ?_
        case y243 => (intro w hSw; unfold HeldF at hSw; go_simp; (try with_reducible rfl); (try omega))
        simp only [List.setIfInBounds_toArray, List.set_cons_zero, List.set_cons_succ]
        refine wpAnyH_done (by kernel_rfl) ?_ _
        refine NoPanic.normal ?_
        have HS6 := Lib.hid (bx_mid (k := 2) (N := sR s) (l' := rqR (⟨s, t.a2, t.l⟩ : SpS) (.slice ab t.l.length cb)) HQ5.out.s (Nat.le_of_ble_eq_true rfl) rfl)
        have HTH := Lib.hid (bx_there HQ5.out.s 2 2 (Nat.le_of_ble_eq_true rfl))
        have HQ6 := Lib.hid (show FreQ w (⟨s, t.a2, t.l⟩ : SpS) (.slice ab t.l.length cb) s (w5.setCells w.heap.size 2 (sR s)) from ⟨HS6.out, bx_farCells (by omega) (sR s) 2 _ HQ5.out.p, bx_farCells (by omega) (sR s) 2 _ HQ5.out.r, below_setCells (Nat.le_refl _) (sR s) 2 _ HQ5.out.below⟩)
        have hrp := rangeAll HQ5.out.p
        go_wp2_with (first
          | (refine plV rfl (sV s) (exec_load_any 27 (.tmp 5) rfl (w.heap.size + 1) 0 (sR s) _ rfl hrp Try.underlying27 rfl sp_info) ?_)
          | (refine plS rfl (exec_store_midR _ (.tmp 37) (.tmp 35) rfl w.heap.size 2 (sR s) rfl rfl HTH.out sp_info (sR_one _)) ?_; refine Hid.out ?_))
        refine Lib.hid ?_
        clear hrp
        generalize w5.setCells w.heap.size 2 (sR s) = w6 at *
        have hsr := rangeAll HQ6.out.s
        go_wp2_with (first
          | (refine plV rfl (rqV (⟨s, t.a2, t.l⟩ : SpS) (.slice ab t.l.length cb)) (exec_load_any 31 (.tmp 3) rfl w.heap.size 0 (rqR (⟨s, t.a2, t.l⟩ : SpS) (.slice ab t.l.length cb)) _ rfl hsr Try.underlying31 rfl refs_info) ?_)
          | (refine plS rfl (exec_store_bxK _ (.tmp 6) (.tmp 38) rfl (w.heap.size + 1 + 1) (rqR (⟨s, t.a2, t.l⟩ : SpS) (.slice ab t.l.length cb)) _ rfl rfl HQ6.out.r refs_info rfl (rqR_one _ _ rfl)) ?_))
        obtain ⟨WZ, hwz, hbz, hxz, hkz⟩ := freQ_end (T := (⟨s, t.a2, t.l⟩ : SpS)) (vT := (.slice ab t.l.length cb)) HQ6.out
        rw [hwz]
        have u0 : WZ.cell? ⟨w.heap.size + 1 + 1, 0, none⟩ = some (.int .i64 0) := by rw [hxz.cell]; rfl
        have u1 : WZ.cell? ⟨w.heap.size + 1 + 1, 1, none⟩ = some (.int .i64 0) := by rw [hxz.cell]; rfl
        have u2 : WZ.cell? ⟨w.heap.size + 1 + 1, 2, none⟩ = some (.int .i64 (⟨s, t.a2, t.l⟩ : SpS).a1.f) := by rw [hxz.cell]; rfl
        have u3 : WZ.cell? ⟨w.heap.size + 1 + 1, 3, none⟩ = some (.int .i64 (⟨s, t.a2, t.l⟩ : SpS).a1.l) := by rw [hxz.cell]; rfl
        have u4 : WZ.cell? ⟨w.heap.size + 1 + 1, 4, none⟩ = some (.int .i64 (⟨s, t.a2, t.l⟩ : SpS).a2.f) := by rw [hxz.cell]; rfl
        have u5 : WZ.cell? ⟨w.heap.size + 1 + 1, 5, none⟩ = some (.int .i64 (⟨s, t.a2, t.l⟩ : SpS).a2.l) := by rw [hxz.cell]; rfl
        have u6 : WZ.cell? ⟨w.heap.size + 1 + 1, 6, none⟩ = some ((.slice ab t.l.length cb)) := by rw [hxz.cell]; rfl
        exact bodyPost_ret (v := .tuple #[rqV (⟨s, t.a2, t.l⟩ : SpS) (.slice ab t.l.length cb), .int .i64 0]) (by simp [results, Try.results41, go_sem, rqV, rqR, u0, u1, u2, u3, u4, u5, u6]) rfl (HFIN.out _ hbz)
set_option maxRecDepth 100000 in
set_option maxHeartbeats 4000000 in
theorem rcarve_2 (t : SpS) (vl : Value) (s : Spn) (w : World) (hwf : WF t) (hln1 : t.l.length ≤ 1000) (hkl : IsK w vl t.l) :
    Calls Try.prog 41 #[rqV t vl, .int .i64 (2 : Int), sV s] w fun e w' => ∃ v', e = .returned (.tuple #[rqV (t.carve 2 s).1 v', .int .i64 (t.carve 2 s).2]) ∧ IsK w' v' (t.carve 2 s).1.l ∧ NewK w w' vl v' ∧ Below w.heap.size w w' := by
  have mixed : Try.prog.follows .mixedOrders = true := by kernel_rfl
  have HK := Lib.hid hkl
  have HWF := Lib.hid hwf
  obtain ⟨ab, cb, hvb, hcb⟩ := hkl.form
  subst hvb
  have HQ := Lib.hid (freQ_new w t (.slice ab t.l.length cb) s)
  rw [show rqV t (.slice ab t.l.length cb) = .agg (rqR t (.slice ab t.l.length cb)).toArray from rfl, show sV s = .agg (sR s).toArray from rfl]
  rw [show (rqR ⟨⟨0, 0⟩, ⟨0, 0⟩, []⟩ (.slice none 0 0)).toArray = #[.int .i64 0, .int .i64 0, .int .i64 0, .int .i64 0, .int .i64 0, .int .i64 0, .slice none 0 0] from rfl] at HQ
  have HB := Lib.hid (fun W => rmay12_any s W)
  clear hkl hwf
  cases hm : mayOB s with
  | false =>
    have HE := Lib.hid (show t.carve 2 s = (t, 40) by unfold SpS.carve; rw [if_neg (by omega), if_pos hm])
    rw [hm] at HB
    clear hm
    have HFIN := Lib.hid (fun W (hb : Below w.heap.size w W) => show (∃ v', Ending.returned (.tuple #[rqV t (.slice ab t.l.length cb), .int .i64 40]) = .returned (.tuple #[rqV (t.carve 2 s).1 v', .int .i64 (t.carve 2 s).2]) ∧ IsK W v' (t.carve 2 s).1.l ∧ NewK w W (.slice ab t.l.length cb) v' ∧ Below w.heap.size w W) by
      rw [HE.out]
      exact ⟨_, rfl, HK.out.below hb, .inl rfl, hb⟩)
    go_enter Try.func41, Try.ntmps41
    go_wp2_with (first
      | (refine plV rfl (sV s) (exec_load_any 27 (.tmp 5) rfl (w.heap.size + 1) 0 (sR s) _ rfl (rangeAll HQ.out.p) Try.underlying27 rfl sp_info) ?_)
      | (go_at_call 72; refine (HB.out _).mono ?_; rintro e w2 ⟨rfl, b2⟩; refine Hid.out ?_))
    refine Lib.hid ?_
    have HQ2 := Lib.hid (HQ.out.up b2)
    clear b2 HB HQ
    have hsr := rangeAll HQ2.out.s
    go_wp2_with (first
      | (refine plV rfl (rqV t (.slice ab t.l.length cb)) (exec_load_any 31 (.tmp 3) rfl w.heap.size 0 (rqR t (.slice ab t.l.length cb)) _ rfl hsr Try.underlying31 rfl refs_info) ?_)
      | (refine plS rfl (exec_store_bxK _ (.tmp 6) (.tmp 20) rfl (w.heap.size + 1 + 1) (rqR t (.slice ab t.l.length cb)) _ rfl rfl HQ2.out.r refs_info rfl (rqR_one _ _ rfl)) ?_))
    obtain ⟨WZ, hwz, hbz, hxz, hkz⟩ := freQ_end (T := t) (vT := (.slice ab t.l.length cb)) HQ2.out
    rw [hwz]
    have u0 : WZ.cell? ⟨w.heap.size + 1 + 1, 0, none⟩ = some (.int .i64 0) := by rw [hxz.cell]; rfl
    have u1 : WZ.cell? ⟨w.heap.size + 1 + 1, 1, none⟩ = some (.int .i64 0) := by rw [hxz.cell]; rfl
    have u2 : WZ.cell? ⟨w.heap.size + 1 + 1, 2, none⟩ = some (.int .i64 t.a1.f) := by rw [hxz.cell]; rfl
    have u3 : WZ.cell? ⟨w.heap.size + 1 + 1, 3, none⟩ = some (.int .i64 t.a1.l) := by rw [hxz.cell]; rfl
    have u4 : WZ.cell? ⟨w.heap.size + 1 + 1, 4, none⟩ = some (.int .i64 t.a2.f) := by rw [hxz.cell]; rfl
    have u5 : WZ.cell? ⟨w.heap.size + 1 + 1, 5, none⟩ = some (.int .i64 t.a2.l) := by rw [hxz.cell]; rfl
    have u6 : WZ.cell? ⟨w.heap.size + 1 + 1, 6, none⟩ = some ((.slice ab t.l.length cb)) := by rw [hxz.cell]; rfl
    exact bodyPost_ret (v := .tuple #[rqV t (.slice ab t.l.length cb), .int .i64 40]) (by simp [results, Try.results41, go_sem, rqV, rqR, u0, u1, u2, u3, u4, u5, u6]) rfl (HFIN.out _ hbz)
  | true =>
    rw [hm] at HB
    by_cases hf : 0 < t.a2.f
    · have HE := Lib.hid (show t.carve 2 s = (t, 32) by unfold SpS.carve; rw [if_neg (by omega), hm, if_neg (by simp), show t.ar 2 = t.a2 from rfl, if_pos hf])
      clear hm
      have HFIN := Lib.hid (fun W (hb : Below w.heap.size w W) => show (∃ v', Ending.returned (.tuple #[rqV t (.slice ab t.l.length cb), .int .i64 32]) = .returned (.tuple #[rqV (t.carve 2 s).1 v', .int .i64 (t.carve 2 s).2]) ∧ IsK W v' (t.carve 2 s).1.l ∧ NewK w W (.slice ab t.l.length cb) v' ∧ Below w.heap.size w W) by
        rw [HE.out]
        exact ⟨_, rfl, HK.out.below hb, .inl rfl, hb⟩)
      go_enter Try.func41, Try.ntmps41
      go_wp2_with (first
        | (refine plV rfl (sV s) (exec_load_any 27 (.tmp 5) rfl (w.heap.size + 1) 0 (sR s) _ rfl (rangeAll HQ.out.p) Try.underlying27 rfl sp_info) ?_)
        | (go_at_call 72; refine (HB.out _).mono ?_; rintro e w2 ⟨rfl, b2⟩; refine Hid.out ?_))
      refine Lib.hid ?_
      have HQ2 := Lib.hid (HQ.out.up b2)
      clear b2 HB HQ
      have x2 := rng0 (rq_ar HQ2.out.s).2.1
      have hsr := rangeAll HQ2.out.s
      go_wp2_with (first
        | (refine plV rfl (rqV t (.slice ab t.l.length cb)) (exec_load_any 31 (.tmp 3) rfl w.heap.size 0 (rqR t (.slice ab t.l.length cb)) _ rfl hsr Try.underlying31 rfl refs_info) ?_)
        | (refine plS rfl (exec_store_bxK _ (.tmp 6) (.tmp 27) rfl (w.heap.size + 1 + 1) (rqR t (.slice ab t.l.length cb)) _ rfl rfl HQ2.out.r refs_info rfl (rqR_one _ _ rfl)) ?_))
      obtain ⟨WZ, hwz, hbz, hxz, hkz⟩ := freQ_end (T := t) (vT := (.slice ab t.l.length cb)) HQ2.out
      rw [hwz]
      have u0 : WZ.cell? ⟨w.heap.size + 1 + 1, 0, none⟩ = some (.int .i64 0) := by rw [hxz.cell]; rfl
      have u1 : WZ.cell? ⟨w.heap.size + 1 + 1, 1, none⟩ = some (.int .i64 0) := by rw [hxz.cell]; rfl
      have u2 : WZ.cell? ⟨w.heap.size + 1 + 1, 2, none⟩ = some (.int .i64 t.a1.f) := by rw [hxz.cell]; rfl
      have u3 : WZ.cell? ⟨w.heap.size + 1 + 1, 3, none⟩ = some (.int .i64 t.a1.l) := by rw [hxz.cell]; rfl
      have u4 : WZ.cell? ⟨w.heap.size + 1 + 1, 4, none⟩ = some (.int .i64 t.a2.f) := by rw [hxz.cell]; rfl
      have u5 : WZ.cell? ⟨w.heap.size + 1 + 1, 5, none⟩ = some (.int .i64 t.a2.l) := by rw [hxz.cell]; rfl
      have u6 : WZ.cell? ⟨w.heap.size + 1 + 1, 6, none⟩ = some ((.slice ab t.l.length cb)) := by rw [hxz.cell]; rfl
      exact bodyPost_ret (v := .tuple #[rqV t (.slice ab t.l.length cb), .int .i64 32]) (by simp [results, Try.results41, go_sem, rqV, rqR, u0, u1, u2, u3, u4, u5, u6]) rfl (HFIN.out _ hbz)
    · cases hh : hasS (t.left 0) s with
      | false =>
        have HE := Lib.hid (show t.carve 2 s = (t, 42) by unfold SpS.carve; rw [if_neg (by omega), hm, if_neg (by simp), show t.ar 2 = t.a2 from rfl, if_neg hf, if_pos hh])
        have HH := Lib.hid hh
        clear hm hh
        have HFIN := Lib.hid (fun W (hb : Below w.heap.size w W) => show (∃ v', Ending.returned (.tuple #[rqV t (.slice ab t.l.length cb), .int .i64 42]) = .returned (.tuple #[rqV (t.carve 2 s).1 v', .int .i64 (t.carve 2 s).2]) ∧ IsK W v' (t.carve 2 s).1.l ∧ NewK w W (.slice ab t.l.length cb) v' ∧ Below w.heap.size w W) by
          rw [HE.out]
          exact ⟨_, rfl, HK.out.below hb, .inl rfl, hb⟩)
        go_enter Try.func41, Try.ntmps41
        go_wp2_with (first
          | (refine plV rfl (sV s) (exec_load_any 27 (.tmp 5) rfl (w.heap.size + 1) 0 (sR s) _ rfl (rangeAll HQ.out.p) Try.underlying27 rfl sp_info) ?_)
          | (go_at_call 72; refine (HB.out _).mono ?_; rintro e w2 ⟨rfl, b2⟩; refine Hid.out ?_))
        refine Lib.hid ?_
        have HQ2 := Lib.hid (HQ.out.up b2)
        clear b2 HB HQ
        have x2 := rng0 (rq_ar HQ2.out.s).2.1
        have HLN := Lib.hid hln1
        go_wp2
        clear x2 hln1
        have HQD := Lib.hid (HQ2.out.up (Below.refl _ _).drew)
        refine wp_region_noPanic ?_
        refine wp_region_held_drew (S := HeldF w.heap.size t (.slice ab t.l.length cb) s) (by kernel_rfl) HQD.out.held (fun hHeld => ?_)
        generalize w2.drew = wd at *
        clear HQ2
        refine held_take (v := rqV t (.slice ab t.l.length cb)) 0 rfl (by kernel_rfl) (by kernel_rfl) (by kernel_rfl) (fun _ _ _ h => h) (by rfl) (fun W hSw => exec_load_any _ (.tmp 3) rfl w.heap.size 0 (rqR t (.slice ab t.l.length cb)) _ rfl hSw.1 Try.underlying31 rfl refs_info) (by assumption) ?_
        simp only [List.setIfInBounds_toArray, List.set_cons_zero, List.set_cons_succ]
        refine held_take (v := sV s) 2 rfl (by kernel_rfl) (by kernel_rfl) (by kernel_rfl) (fun _ _ _ h => h) (by rfl) (fun W hSw => exec_load_any _ (.tmp 5) rfl (w.heap.size + 1) 0 (sR s) _ rfl hSw.2 Try.underlying27 rfl sp_info) (by assumption) ?_
        simp only [List.setIfInBounds_toArray, List.set_cons_zero, List.set_cons_succ]
        refine held_one 1 rfl (by kernel_rfl) (by rfl) (fun K hK => ?_)
        go_simp
        refine (rleft_any t (.slice ab t.l.length cb) 0 wd HWF.out HLN.out (HK.out.below HQD.out.below)).mono ?_
        rintro e w4 ⟨v4, rfl, i4, b4⟩
        have HQ4 := Lib.hid (HQD.out.up b4)
        refine hK.out _ _ HQ4.out.held (fun _ => ?_)
        (try simp only [Act.put, List.setIfInBounds_toArray, List.set_cons_zero, List.set_cons_succ])
        clear hK K b4 HQD
        have hc5 := rhas_any v4 _ s w4 i4 (by have := left_length HWF.out 0; have := HLN.out; omega)
        rw [HH.out] at hc5
        refine held_one 3 rfl (by kernel_rfl) (by rfl) (fun K hK => ?_)
        go_simp
        refine hc5.mono ?_
        rintro e w5 ⟨rfl, b5⟩
        have HQ5 := Lib.hid (HQ4.out.up b5)
        refine hK.out _ _ HQ5.out.held (fun _ => ?_)
        (try simp only [Act.put, List.setIfInBounds_toArray, List.set_cons_zero, List.set_cons_succ])
        clear hK K b5 HQ4 hc5
        refine held_take (v := ?v391) 4 rfl (by kernel_rfl) (by kernel_rfl) (by kernel_rfl) (fun _ _ _ h => h) (by rfl) ?y391 (by assumption) ?_
        case y391 => (intro w hSw; unfold HeldF at hSw; go_simp; (try with_reducible rfl); (try omega))
        simp only [List.setIfInBounds_toArray, List.set_cons_zero, List.set_cons_succ]
        refine wpAnyH_done (by kernel_rfl) ?_ _
        refine NoPanic.normal ?_
        have hsr := rangeAll HQ5.out.s
        go_wp2_with (first
          | (refine plV rfl (rqV t (.slice ab t.l.length cb)) (exec_load_any 31 (.tmp 3) rfl w.heap.size 0 (rqR t (.slice ab t.l.length cb)) _ rfl hsr Try.underlying31 rfl refs_info) ?_)
          | (refine plS rfl (exec_store_bxK _ (.tmp 6) (.tmp 33) rfl (w.heap.size + 1 + 1) (rqR t (.slice ab t.l.length cb)) _ rfl rfl HQ5.out.r refs_info rfl (rqR_one _ _ rfl)) ?_))
        obtain ⟨WZ, hwz, hbz, hxz, hkz⟩ := freQ_end (T := t) (vT := (.slice ab t.l.length cb)) HQ5.out
        rw [hwz]
        have u0 : WZ.cell? ⟨w.heap.size + 1 + 1, 0, none⟩ = some (.int .i64 0) := by rw [hxz.cell]; rfl
        have u1 : WZ.cell? ⟨w.heap.size + 1 + 1, 1, none⟩ = some (.int .i64 0) := by rw [hxz.cell]; rfl
        have u2 : WZ.cell? ⟨w.heap.size + 1 + 1, 2, none⟩ = some (.int .i64 t.a1.f) := by rw [hxz.cell]; rfl
        have u3 : WZ.cell? ⟨w.heap.size + 1 + 1, 3, none⟩ = some (.int .i64 t.a1.l) := by rw [hxz.cell]; rfl
        have u4 : WZ.cell? ⟨w.heap.size + 1 + 1, 4, none⟩ = some (.int .i64 t.a2.f) := by rw [hxz.cell]; rfl
        have u5 : WZ.cell? ⟨w.heap.size + 1 + 1, 5, none⟩ = some (.int .i64 t.a2.l) := by rw [hxz.cell]; rfl
        have u6 : WZ.cell? ⟨w.heap.size + 1 + 1, 6, none⟩ = some ((.slice ab t.l.length cb)) := by rw [hxz.cell]; rfl
        exact bodyPost_ret (v := .tuple #[rqV t (.slice ab t.l.length cb), .int .i64 42]) (by simp [results, Try.results41, go_sem, rqV, rqR, u0, u1, u2, u3, u4, u5, u6]) rfl (HFIN.out _ hbz)
      | true =>
        have HE := Lib.hid (show t.carve 2 s = ((⟨t.a1, s, t.l⟩ : SpS), 0) by unfold SpS.carve; rw [if_neg (by omega), hm, if_neg (by simp), show t.ar 2 = t.a2 from rfl, if_neg hf, hh, if_neg (by simp)]; rfl)
        have HH := Lib.hid hh
        clear hm hh
        have HFIN := Lib.hid (fun W (hb : Below w.heap.size w W) => show (∃ v', Ending.returned (.tuple #[rqV (⟨t.a1, s, t.l⟩ : SpS) (.slice ab t.l.length cb), .int .i64 0]) = .returned (.tuple #[rqV (t.carve 2 s).1 v', .int .i64 (t.carve 2 s).2]) ∧ IsK W v' (t.carve 2 s).1.l ∧ NewK w W (.slice ab t.l.length cb) v' ∧ Below w.heap.size w W) by
          rw [HE.out]
          exact ⟨_, rfl, HK.out.below hb, .inl rfl, hb⟩)
        go_enter Try.func41, Try.ntmps41
        go_wp2_with (first
          | (refine plV rfl (sV s) (exec_load_any 27 (.tmp 5) rfl (w.heap.size + 1) 0 (sR s) _ rfl (rangeAll HQ.out.p) Try.underlying27 rfl sp_info) ?_)
          | (go_at_call 72; refine (HB.out _).mono ?_; rintro e w2 ⟨rfl, b2⟩; refine Hid.out ?_))
        refine Lib.hid ?_
        have HQ2 := Lib.hid (HQ.out.up b2)
        clear b2 HB HQ
        have x2 := rng0 (rq_ar HQ2.out.s).2.1
        have HLN := Lib.hid hln1
        go_wp2
        clear x2 hln1
        have HQD := Lib.hid (HQ2.out.up (Below.refl _ _).drew)
        refine wp_region_noPanic ?_
        refine wp_region_held_drew (S := HeldF w.heap.size t (.slice ab t.l.length cb) s) (by kernel_rfl) HQD.out.held (fun hHeld => ?_)
        generalize w2.drew = wd at *
        clear HQ2
        refine held_take (v := rqV t (.slice ab t.l.length cb)) 0 rfl (by kernel_rfl) (by kernel_rfl) (by kernel_rfl) (fun _ _ _ h => h) (by rfl) (fun W hSw => exec_load_any _ (.tmp 3) rfl w.heap.size 0 (rqR t (.slice ab t.l.length cb)) _ rfl hSw.1 Try.underlying31 rfl refs_info) (by assumption) ?_
        simp only [List.setIfInBounds_toArray, List.set_cons_zero, List.set_cons_succ]
        refine held_take (v := sV s) 2 rfl (by kernel_rfl) (by kernel_rfl) (by kernel_rfl) (fun _ _ _ h => h) (by rfl) (fun W hSw => exec_load_any _ (.tmp 5) rfl (w.heap.size + 1) 0 (sR s) _ rfl hSw.2 Try.underlying27 rfl sp_info) (by assumption) ?_
        simp only [List.setIfInBounds_toArray, List.set_cons_zero, List.set_cons_succ]
        refine held_one 1 rfl (by kernel_rfl) (by rfl) (fun K hK => ?_)
        go_simp
        refine (rleft_any t (.slice ab t.l.length cb) 0 wd HWF.out HLN.out (HK.out.below HQD.out.below)).mono ?_
        rintro e w4 ⟨v4, rfl, i4, b4⟩
        have HQ4 := Lib.hid (HQD.out.up b4)
        refine hK.out _ _ HQ4.out.held (fun _ => ?_)
        (try simp only [Act.put, List.setIfInBounds_toArray, List.set_cons_zero, List.set_cons_succ])
        clear hK K b4 HQD
        have hc5 := rhas_any v4 _ s w4 i4 (by have := left_length HWF.out 0; have := HLN.out; omega)
        rw [HH.out] at hc5
        refine held_one 3 rfl (by kernel_rfl) (by rfl) (fun K hK => ?_)
        go_simp
        refine hc5.mono ?_
        rintro e w5 ⟨rfl, b5⟩
        have HQ5 := Lib.hid (HQ4.out.up b5)
        refine hK.out _ _ HQ5.out.held (fun _ => ?_)
        (try simp only [Act.put, List.setIfInBounds_toArray, List.set_cons_zero, List.set_cons_succ])
        clear hK K b5 HQ4 hc5
        refine held_take (v := ?v455) 4 rfl (by kernel_rfl) (by kernel_rfl) (by kernel_rfl) (fun _ _ _ h => h) (by rfl) ?y455 (by assumption) ?_
        case y455 => (intro w hSw; unfold HeldF at hSw; go_simp; (try with_reducible rfl); (try omega))
        simp only [List.setIfInBounds_toArray, List.set_cons_zero, List.set_cons_succ]
        refine wpAnyH_done (by kernel_rfl) ?_ _
        refine NoPanic.normal ?_
        have HS6 := Lib.hid (bx_mid (k := 4) (N := sR s) (l' := rqR (⟨t.a1, s, t.l⟩ : SpS) (.slice ab t.l.length cb)) HQ5.out.s (Nat.le_of_ble_eq_true rfl) rfl)
        have HTH := Lib.hid (bx_there HQ5.out.s 4 2 (Nat.le_of_ble_eq_true rfl))
        have HQ6 := Lib.hid (show FreQ w (⟨t.a1, s, t.l⟩ : SpS) (.slice ab t.l.length cb) s (w5.setCells w.heap.size 4 (sR s)) from ⟨HS6.out, bx_farCells (by omega) (sR s) 4 _ HQ5.out.p, bx_farCells (by omega) (sR s) 4 _ HQ5.out.r, below_setCells (Nat.le_refl _) (sR s) 4 _ HQ5.out.below⟩)
        have hrp := rangeAll HQ5.out.p
        go_wp2_with (first
          | (refine plV rfl (sV s) (exec_load_any 27 (.tmp 5) rfl (w.heap.size + 1) 0 (sR s) _ rfl hrp Try.underlying27 rfl sp_info) ?_)
          | (refine plS rfl (exec_store_midR _ (.tmp 37) (.tmp 35) rfl w.heap.size 4 (sR s) rfl rfl HTH.out sp_info (sR_one _)) ?_; refine Hid.out ?_))
        refine Lib.hid ?_
        clear hrp
        generalize w5.setCells w.heap.size 4 (sR s) = w6 at *
        have hsr := rangeAll HQ6.out.s
        go_wp2_with (first
          | (refine plV rfl (rqV (⟨t.a1, s, t.l⟩ : SpS) (.slice ab t.l.length cb)) (exec_load_any 31 (.tmp 3) rfl w.heap.size 0 (rqR (⟨t.a1, s, t.l⟩ : SpS) (.slice ab t.l.length cb)) _ rfl hsr Try.underlying31 rfl refs_info) ?_)
          | (refine plS rfl (exec_store_bxK _ (.tmp 6) (.tmp 38) rfl (w.heap.size + 1 + 1) (rqR (⟨t.a1, s, t.l⟩ : SpS) (.slice ab t.l.length cb)) _ rfl rfl HQ6.out.r refs_info rfl (rqR_one _ _ rfl)) ?_))
        obtain ⟨WZ, hwz, hbz, hxz, hkz⟩ := freQ_end (T := (⟨t.a1, s, t.l⟩ : SpS)) (vT := (.slice ab t.l.length cb)) HQ6.out
        rw [hwz]
        have u0 : WZ.cell? ⟨w.heap.size + 1 + 1, 0, none⟩ = some (.int .i64 0) := by rw [hxz.cell]; rfl
        have u1 : WZ.cell? ⟨w.heap.size + 1 + 1, 1, none⟩ = some (.int .i64 0) := by rw [hxz.cell]; rfl
        have u2 : WZ.cell? ⟨w.heap.size + 1 + 1, 2, none⟩ = some (.int .i64 (⟨t.a1, s, t.l⟩ : SpS).a1.f) := by rw [hxz.cell]; rfl
        have u3 : WZ.cell? ⟨w.heap.size + 1 + 1, 3, none⟩ = some (.int .i64 (⟨t.a1, s, t.l⟩ : SpS).a1.l) := by rw [hxz.cell]; rfl
        have u4 : WZ.cell? ⟨w.heap.size + 1 + 1, 4, none⟩ = some (.int .i64 (⟨t.a1, s, t.l⟩ : SpS).a2.f) := by rw [hxz.cell]; rfl
        have u5 : WZ.cell? ⟨w.heap.size + 1 + 1, 5, none⟩ = some (.int .i64 (⟨t.a1, s, t.l⟩ : SpS).a2.l) := by rw [hxz.cell]; rfl
        have u6 : WZ.cell? ⟨w.heap.size + 1 + 1, 6, none⟩ = some ((.slice ab t.l.length cb)) := by rw [hxz.cell]; rfl
        exact bodyPost_ret (v := .tuple #[rqV (⟨t.a1, s, t.l⟩ : SpS) (.slice ab t.l.length cb), .int .i64 0]) (by simp [results, Try.results41, go_sem, rqV, rqR, u0, u1, u2, u3, u4, u5, u6]) rfl (HFIN.out _ hbz)
theorem rcarve_any (t : SpS) (vl : Value) (k : Int) (s : Spn) (w : World) (hwf : WF t) (hln1 : t.l.length ≤ 1000) (hkl : IsK w vl t.l) :
    Calls Try.prog 41 #[rqV t vl, .int .i64 k, sV s] w fun e w' => ∃ v', e = .returned (.tuple #[rqV (t.carve k s).1 v', .int .i64 (t.carve k s).2]) ∧ IsK w' v' (t.carve k s).1.l ∧ NewK w w' vl v' ∧ Below w.heap.size w w' := by
  by_cases h0 : k < 1 ∨ 2 < k
  · exact rcarve_out t vl k s w hwf hkl h0
  · rcases (show k = 1 ∨ k = 2 by omega) with rfl | rfl
    · exact rcarve_1 t vl s w hwf hln1 hkl
    · exact rcarve_2 t vl s w hwf hln1 hkl
end Go.Proofs.Ytgelbeglffjdaaa
