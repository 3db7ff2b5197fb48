/- The document's space: a span that is taken. -/
import Derived.Test.YtgelbeglffjdaaaRqA
import Derived.Test.YtgelbeglffjdaaaSqD
namespace Go.Proofs.Ytgelbeglffjdaaa
open Go Go.RowKit Go.Shelf
attribute [local go_sem] Oper.semAt_some

theorem built_rb3 (s : Spn) (o a : Int) : Try.prog.built 100 [(0, sV s), (1, .int .i64 o), (2, .int .i64 a)] = some (bR ⟨s, o, a⟩).toArray := by kernel_rfl
set_option maxRecDepth 100000 in
set_option maxHeartbeats 4000000 in
theorem rtake_any (t : SpS) (vl : Value) (o : Int) (s : Spn) (w : World) (hwf : WF t) (hln1 : t.l.length ≤ 1000) (hkl : IsK w vl t.l) :
    Calls Try.prog 44 #[rqV t vl, .int .i64 o, sV s] w fun e w' => ∃ v', e = .returned (.tuple #[rqV (t.take o s).1 v', .int .i64 (t.take o s).2]) ∧ IsK w' v' (t.take o s).1.l ∧ NewK w w' vl v' ∧ Below w.heap.size w w' := by
  have mixed : Try.prog.follows .mixedOrders = true := by kernel_rfl
  have HK := Lib.hid hkl
  have HWF := Lib.hid hwf
  obtain ⟨ab, cb, hvb, hcb⟩ := hkl.form
  subst hvb
  have HQ := Lib.hid (freQ_new w t (.slice ab t.l.length cb) s)
  rw [show rqV t (.slice ab t.l.length cb) = .agg (rqR t (.slice ab t.l.length cb)).toArray from rfl, show sV s = .agg (sR s).toArray from rfl]
  rw [show (rqR ⟨⟨0, 0⟩, ⟨0, 0⟩, []⟩ (.slice none 0 0)).toArray = #[.int .i64 0, .int .i64 0, .int .i64 0, .int .i64 0, .int .i64 0, .int .i64 0, .slice none 0 0] from rfl] at HQ
  have HB := Lib.hid (fun W => rmay12_any s W)
  clear hkl hwf
  obtain ⟨R, hR⟩ : ∃ R, t.take o s = R := ⟨_, rfl⟩
  rw [hR]
  by_cases ho : o < 1
  · have HE := Lib.hid (show R = (t, 1) by rw [← hR]; unfold SpS.take; rw [if_pos ho])
    clear HB hR
    have HFIN := Lib.hid (fun W (hb : Below w.heap.size w W) => show (∃ v', Ending.returned (.tuple #[rqV t (.slice ab t.l.length cb), .int .i64 1]) = .returned (.tuple #[rqV R.1 v', .int .i64 R.2]) ∧ IsK W v' R.1.l ∧ NewK w W (.slice ab t.l.length cb) v' ∧ Below w.heap.size w W) by
      rw [HE.out]
      exact ⟨_, rfl, HK.out.below hb, .inl rfl, hb⟩)
    go_enter Try.func44, Try.ntmps44
    have hsr := rangeAll HQ.out.s
    go_wp2_with (first
      | (refine plV rfl (rqV t (.slice ab t.l.length cb)) (exec_load_any 31 (.tmp 3) rfl w.heap.size 0 (rqR t (.slice ab t.l.length cb)) _ rfl hsr Try.underlying31 rfl refs_info) ?_)
      | (refine plS rfl (exec_store_bxK _ (.tmp 6) (.tmp 12) rfl (w.heap.size + 1 + 1) (rqR t (.slice ab t.l.length cb)) _ rfl rfl HQ.out.r refs_info rfl (rqR_one _ _ rfl)) ?_))
    obtain ⟨WZ, hwz, hbz, hxz, hkz⟩ := freQ_end (T := t) (vT := (.slice ab t.l.length cb)) HQ.out
    rw [hwz]
    have u0 : WZ.cell? ⟨w.heap.size + 1 + 1, 0, none⟩ = some (.int .i64 0) := by rw [hxz.cell]; rfl
    have u1 : WZ.cell? ⟨w.heap.size + 1 + 1, 1, none⟩ = some (.int .i64 0) := by rw [hxz.cell]; rfl
    have u2 : WZ.cell? ⟨w.heap.size + 1 + 1, 2, none⟩ = some (.int .i64 t.a1.f) := by rw [hxz.cell]; rfl
    have u3 : WZ.cell? ⟨w.heap.size + 1 + 1, 3, none⟩ = some (.int .i64 t.a1.l) := by rw [hxz.cell]; rfl
    have u4 : WZ.cell? ⟨w.heap.size + 1 + 1, 4, none⟩ = some (.int .i64 t.a2.f) := by rw [hxz.cell]; rfl
    have u5 : WZ.cell? ⟨w.heap.size + 1 + 1, 5, none⟩ = some (.int .i64 t.a2.l) := by rw [hxz.cell]; rfl
    have u6 : WZ.cell? ⟨w.heap.size + 1 + 1, 6, none⟩ = some ((.slice ab t.l.length cb)) := by rw [hxz.cell]; rfl
    exact bodyPost_ret (v := .tuple #[rqV t (.slice ab t.l.length cb), .int .i64 1]) (by simp [results, Try.results44, go_sem, rqV, rqR, u0, u1, u2, u3, u4, u5, u6]) rfl (HFIN.out _ hbz)
  · cases hm : mayOB s with
    | false =>
      have HE := Lib.hid (show R = (t, 40) by rw [← hR]; unfold SpS.take; rw [if_neg ho, if_pos hm])
      rw [hm] at HB
      clear hm hR
      have HFIN := Lib.hid (fun W (hb : Below w.heap.size w W) => show (∃ v', Ending.returned (.tuple #[rqV t (.slice ab t.l.length cb), .int .i64 40]) = .returned (.tuple #[rqV R.1 v', .int .i64 R.2]) ∧ IsK W v' R.1.l ∧ NewK w W (.slice ab t.l.length cb) v' ∧ Below w.heap.size w W) by
        rw [HE.out]
        exact ⟨_, rfl, HK.out.below hb, .inl rfl, hb⟩)
      go_enter Try.func44, Try.ntmps44
      go_wp2_with (first
        | (refine plV rfl (sV s) (exec_load_any 27 (.tmp 5) rfl (w.heap.size + 1) 0 (sR s) _ rfl (rangeAll HQ.out.p) Try.underlying27 rfl sp_info) ?_)
        | (go_at_call 72; refine (HB.out _).mono ?_; rintro e w2 ⟨rfl, b2⟩; refine Hid.out ?_))
      refine Lib.hid ?_
      have HQ2 := Lib.hid (HQ.out.up b2)
      clear b2 HB HQ
      have hsr := rangeAll HQ2.out.s
      go_wp2_with (first
        | (refine plV rfl (rqV t (.slice ab t.l.length cb)) (exec_load_any 31 (.tmp 3) rfl w.heap.size 0 (rqR t (.slice ab t.l.length cb)) _ rfl hsr Try.underlying31 rfl refs_info) ?_)
        | (refine plS rfl (exec_store_bxK _ (.tmp 6) (.tmp 17) rfl (w.heap.size + 1 + 1) (rqR t (.slice ab t.l.length cb)) _ rfl rfl HQ2.out.r refs_info rfl (rqR_one _ _ rfl)) ?_))
      obtain ⟨WZ, hwz, hbz, hxz, hkz⟩ := freQ_end (T := t) (vT := (.slice ab t.l.length cb)) HQ2.out
      rw [hwz]
      have u0 : WZ.cell? ⟨w.heap.size + 1 + 1, 0, none⟩ = some (.int .i64 0) := by rw [hxz.cell]; rfl
      have u1 : WZ.cell? ⟨w.heap.size + 1 + 1, 1, none⟩ = some (.int .i64 0) := by rw [hxz.cell]; rfl
      have u2 : WZ.cell? ⟨w.heap.size + 1 + 1, 2, none⟩ = some (.int .i64 t.a1.f) := by rw [hxz.cell]; rfl
      have u3 : WZ.cell? ⟨w.heap.size + 1 + 1, 3, none⟩ = some (.int .i64 t.a1.l) := by rw [hxz.cell]; rfl
      have u4 : WZ.cell? ⟨w.heap.size + 1 + 1, 4, none⟩ = some (.int .i64 t.a2.f) := by rw [hxz.cell]; rfl
      have u5 : WZ.cell? ⟨w.heap.size + 1 + 1, 5, none⟩ = some (.int .i64 t.a2.l) := by rw [hxz.cell]; rfl
      have u6 : WZ.cell? ⟨w.heap.size + 1 + 1, 6, none⟩ = some ((.slice ab t.l.length cb)) := by rw [hxz.cell]; rfl
      exact bodyPost_ret (v := .tuple #[rqV t (.slice ab t.l.length cb), .int .i64 40]) (by simp [results, Try.results44, go_sem, rqV, rqR, u0, u1, u2, u3, u4, u5, u6]) rfl (HFIN.out _ hbz)
    | true =>
      rw [hm] at HB
      have HR0 := Lib.hid (show takeFrom t o s 0 = R by rw [← hR, take_from ho hm])
      have HLN := Lib.hid hln1
      clear hm hR hln1
      go_enter Try.func44, Try.ntmps44
      go_wp2_with (first
        | (refine plV rfl (sV s) (exec_load_any 27 (.tmp 5) rfl (w.heap.size + 1) 0 (sR s) _ rfl (rangeAll HQ.out.p) Try.underlying27 rfl sp_info) ?_)
        | (go_at_call 72; refine (HB.out _).mono ?_; rintro e w2 ⟨rfl, b2⟩; refine Hid.out ?_))
      refine Lib.hid ?_
      have HQ2 := Lib.hid (HQ.out.up b2)
      clear b2 HB HQ
      go_wp2
      go_loopw [9] (fun i wr => ∃ j : Nat, j ≤ 3 ∧ i = .int .i64 (j : Int) ∧ Hid (takeFrom t o s j = R) ∧ Hid (Below w2.heap.size w2 wr)) (fun i _ => 3 - (intOf i).toNat)
      case atStart => exact ⟨0, by omega, rfl, HR0, Lib.hid (Below.refl _ _)⟩
      case round =>
        obtain ⟨j, hj, rfl, HRJ, HBW⟩ := hrel
        have HQ3 := Lib.hid (HQ2.out.up HBW.out)
        by_cases hlt : j < 3
        · have hlti : (j : Int) < 3 := by omega
          obtain ⟨hh, hhh⟩ : ∃ hh, hasS (t.left j) s = hh := ⟨_, rfl⟩
          have HHH := Lib.hid hhh
          have HBD := Lib.hid (below_up HBW.out (Below.refl _ _).drew HBW.out.size)
          have HQD := Lib.hid (HQ3.out.up (Below.refl _ _).drew)
          clear hhh HQ3
          go_wp2
          refine wp_region_noPanic ?_
          refine wp_region_held_drew (S := HeldF w.heap.size t (.slice ab t.l.length cb) s) (by kernel_rfl) HQD.out.held (fun hHeld => ?_)
          generalize wr.drew = wd at *
          refine held_take (v := rqV t (.slice ab t.l.length cb)) 0 rfl (by kernel_rfl) (by kernel_rfl) (by kernel_rfl) (fun _ _ _ h => h) (by rfl) (fun W hSw => exec_load_any _ (.tmp 3) rfl w.heap.size 0 (rqR t (.slice ab t.l.length cb)) _ rfl hSw.1 Try.underlying31 rfl refs_info) (by assumption) ?_
          simp only [List.setIfInBounds_toArray, List.set_cons_zero, List.set_cons_succ]
          refine held_take (v := ?v105) 1 rfl (by kernel_rfl) (by kernel_rfl) (by kernel_rfl) (fun _ _ _ h => h) (by rfl) ?y105 (by assumption) ?_
          case y105 => (intro w hSw; unfold HeldF at hSw; go_simp; (try with_reducible rfl); (try omega))
          simp only [List.setIfInBounds_toArray, List.set_cons_zero, List.set_cons_succ]
          refine held_take (v := sV s) 3 rfl (by kernel_rfl) (by kernel_rfl) (by kernel_rfl) (fun _ _ _ h => h) (by rfl) (fun W hSw => exec_load_any _ (.tmp 5) rfl (w.heap.size + 1) 0 (sR s) _ rfl hSw.2 Try.underlying27 rfl sp_info) (by assumption) ?_
          simp only [List.setIfInBounds_toArray, List.set_cons_zero, List.set_cons_succ]
          refine held_one 2 rfl (by kernel_rfl) (by rfl) (fun K hK => ?_)
          go_simp
          refine (rleft_any t (.slice ab t.l.length cb) (j : Int) wd HWF.out HLN.out (HK.out.below HQD.out.below)).mono ?_
          rintro e w4 ⟨v4, rfl, i4, b4⟩
          have HQ4 := Lib.hid (HQD.out.up b4)
          have HB4 := Lib.hid (below_up HBD.out b4 HBD.out.size)
          refine hK.out _ _ HQ4.out.held (fun _ => ?_)
          (try simp only [Act.put, List.setIfInBounds_toArray, List.set_cons_zero, List.set_cons_succ])
          clear hK K b4 HQD HBD
          have hc5 := rhas_any v4 _ s w4 i4 (by have := left_length HWF.out (j : Int); have := HLN.out; omega)
          rw [HHH.out] at hc5
          refine held_one 4 rfl (by kernel_rfl) (by rfl) (fun K hK => ?_)
          go_simp
          refine hc5.mono ?_
          rintro e w5 ⟨rfl, b5⟩
          have HQ5 := Lib.hid (HQ4.out.up b5)
          have HB5 := Lib.hid (below_up HB4.out b5 HB4.out.size)
          refine hK.out _ _ HQ5.out.held (fun _ => ?_)
          (try simp only [Act.put, List.setIfInBounds_toArray, List.set_cons_zero, List.set_cons_succ])
          clear hK K b5 HQ4 HB4 hc5
          refine wpAnyH_done (by kernel_rfl) ?_ _
          refine NoPanic.normal ?_
          cases hh with
          | false =>
            have HR4 := Lib.hid ((takeFrom_more hlt HHH.out).symm.trans HRJ.out)
            go_wp2
            go_roundw
            case rel => exact ⟨j + 1, by omega, rfl, HR4, HB5⟩
            case measure => simp only [intOf]; omega
          | true =>
            have HR4 := Lib.hid ((takeFrom_here (o := o) hlt HHH.out).symm.trans HRJ.out)
            have HPT := Lib.hid (rput_any t (.slice ab t.l.length cb) ⟨s, o, (j : Int)⟩ w5 HLN.out (HK.out.below HQ5.out.below))
            have hrs := rangeAll HQ5.out.s
            have hrp := rangeAll HQ5.out.p
            go_wp2_with (first
              | (refine plV rfl (rqV t (.slice ab t.l.length cb)) (exec_load_any _ (.tmp 3) rfl w.heap.size 0 (rqR t (.slice ab t.l.length cb)) _ rfl hrs Try.underlying31 rfl refs_info) ?_)
              | (refine plV rfl (sV s) (exec_load_any 27 (.tmp 5) rfl (w.heap.size + 1) 0 (sR s) _ rfl hrp Try.underlying27 rfl sp_info) ?_)
              | (refine plV rfl (bV ⟨s, o, (j : Int)⟩) (exec_build3 _ 0 1 2 (.tmp 28) (.tmp 29) (.tmp 30) rfl _ _ _ (bR ⟨s, o, (j : Int)⟩) rfl rfl rfl (built_rb3 s o j)) ?_)
              | (go_at_call 74; refine HPT.out.mono ?_; rintro e w6 ⟨v6, rfl, o6, b6⟩; refine Hid.out ?_))
            refine Lib.hid ?_
            have HQ6 := Lib.hid (HQ5.out.up b6)
            have hw5 := HQ5.out.below.size
            have HIK := Lib.hid (show IsK w6 v6 (t.put ⟨s, o, (j : Int)⟩).l from IsC.of_owned (bR_all _) o6)
            have HNK := Lib.hid (fun k (e : v6.ownBlock = some k) => (⟨owned_low o6 k e, owned_lt o6 k e⟩ : w5.heap.size ≤ k ∧ k < w6.heap.size))
            obtain ⟨a6, c6, hv6, hc6⟩ := HIK.out.form
            subst hv6
            obtain ⟨T, hT⟩ : ∃ T, t.put ⟨s, o, (j : Int)⟩ = T := ⟨_, rfl⟩
            have HRE := Lib.hid (show R = (T, 0) by rw [← HR4.out, hT])
            rw [hT] at HIK HNK ⊢
            clear b6 o6 HPT hrs hrp hc6 hT
            go_wp2_with (first
              | (refine plS rfl (exec_store_bxK _ (.tmp 6) (.tmp 32) rfl (w.heap.size + 1 + 1) (rqR T (.slice a6 T.l.length c6)) _ rfl rfl HQ6.out.r refs_info rfl (rqR_one _ _ rfl)) ?_))
            obtain ⟨WZ, hwz, hbz, hxz, hkz⟩ := freQ_end (T := T) (vT := .slice a6 T.l.length c6) HQ6.out
            rw [hwz]
            have u0 : WZ.cell? ⟨w.heap.size + 1 + 1, 0, none⟩ = some (.int .i64 0) := by rw [hxz.cell]; rfl
            have u1 : WZ.cell? ⟨w.heap.size + 1 + 1, 1, none⟩ = some (.int .i64 0) := by rw [hxz.cell]; rfl
            have u2 : WZ.cell? ⟨w.heap.size + 1 + 1, 2, none⟩ = some (.int .i64 T.a1.f) := by rw [hxz.cell]; rfl
            have u3 : WZ.cell? ⟨w.heap.size + 1 + 1, 3, none⟩ = some (.int .i64 T.a1.l) := by rw [hxz.cell]; rfl
            have u4 : WZ.cell? ⟨w.heap.size + 1 + 1, 4, none⟩ = some (.int .i64 T.a2.f) := by rw [hxz.cell]; rfl
            have u5 : WZ.cell? ⟨w.heap.size + 1 + 1, 5, none⟩ = some (.int .i64 T.a2.l) := by rw [hxz.cell]; rfl
            have u6 : WZ.cell? ⟨w.heap.size + 1 + 1, 6, none⟩ = some (.slice a6 T.l.length c6) := by rw [hxz.cell]; rfl
            have hik : IsK WZ (.slice a6 T.l.length c6) T.l := IsC.kpO HIK.out hkz (fun k e (e2 : k = w.heap.size + 1 + 1) => by have := HNK.out k e; have := HQ5.out.r.lt; omega)
            exact bodyPost_ret (v := .tuple #[rqV T (.slice a6 T.l.length c6), .int .i64 0]) (by simp [results, Try.results44, go_sem, rqV, rqR, u0, u1, u2, u3, u4, u5, u6]) rfl ⟨.slice a6 T.l.length c6, by rw [HRE.out], by rw [HRE.out]; exact hik, .inr (fun k e => by have := HNK.out k e; have := hkz.size; omega), hbz⟩
        · obtain rfl : j = 3 := by omega
          have HE := Lib.hid (show R = (t, 42) from HRJ.out.symm)
          have HFIN := Lib.hid (fun W (hb : Below w.heap.size w W) => show (∃ v', Ending.returned (.tuple #[rqV t (.slice ab t.l.length cb), .int .i64 42]) = .returned (.tuple #[rqV R.1 v', .int .i64 R.2]) ∧ IsK W v' R.1.l ∧ NewK w W (.slice ab t.l.length cb) v' ∧ Below w.heap.size w W) by
            rw [HE.out]
            exact ⟨_, rfl, HK.out.below hb, .inl rfl, hb⟩)
          have hsr := rangeAll HQ3.out.s
          go_wp2_with (first
            | (refine plV rfl (rqV t (.slice ab t.l.length cb)) (exec_load_any 31 (.tmp 3) rfl w.heap.size 0 (rqR t (.slice ab t.l.length cb)) _ rfl hsr Try.underlying31 rfl refs_info) ?_)
            | (refine plS rfl (exec_store_bxK _ (.tmp 6) (.tmp 33) rfl (w.heap.size + 1 + 1) (rqR t (.slice ab t.l.length cb)) _ rfl rfl HQ3.out.r refs_info rfl (rqR_one _ _ rfl)) ?_))
          obtain ⟨WZ, hwz, hbz, hxz, hkz⟩ := freQ_end (T := t) (vT := (.slice ab t.l.length cb)) HQ3.out
          rw [hwz]
          have u0 : WZ.cell? ⟨w.heap.size + 1 + 1, 0, none⟩ = some (.int .i64 0) := by rw [hxz.cell]; rfl
          have u1 : WZ.cell? ⟨w.heap.size + 1 + 1, 1, none⟩ = some (.int .i64 0) := by rw [hxz.cell]; rfl
          have u2 : WZ.cell? ⟨w.heap.size + 1 + 1, 2, none⟩ = some (.int .i64 t.a1.f) := by rw [hxz.cell]; rfl
          have u3 : WZ.cell? ⟨w.heap.size + 1 + 1, 3, none⟩ = some (.int .i64 t.a1.l) := by rw [hxz.cell]; rfl
          have u4 : WZ.cell? ⟨w.heap.size + 1 + 1, 4, none⟩ = some (.int .i64 t.a2.f) := by rw [hxz.cell]; rfl
          have u5 : WZ.cell? ⟨w.heap.size + 1 + 1, 5, none⟩ = some (.int .i64 t.a2.l) := by rw [hxz.cell]; rfl
          have u6 : WZ.cell? ⟨w.heap.size + 1 + 1, 6, none⟩ = some ((.slice ab t.l.length cb)) := by rw [hxz.cell]; rfl
          exact bodyPost_ret (v := .tuple #[rqV t (.slice ab t.l.length cb), .int .i64 42]) (by simp [results, Try.results44, go_sem, rqV, rqR, u0, u1, u2, u3, u4, u5, u6]) rfl (HFIN.out _ hbz)
end Go.Proofs.Ytgelbeglffjdaaa
