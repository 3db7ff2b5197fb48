/- Package space: labels taken; a block freed. -/
import Derived.Test.YtgelbeglffjdaaaSqC
namespace Go.Proofs.Ytgelbeglffjdaaa
open Go Go.RowKit Go.Shelf
attribute [local go_sem] Oper.semAt_some

/-- Taken in the lowest of the areas j, j + 1, .. 2 of which it is left. -/
def takeFrom (t : SpS) (o : Int) (s : Spn) (j : Nat) : SpS × Int :=
  if 3 ≤ j then (t, 42) else if hasS (t.left j) s = true then (t.put ⟨s, o, j⟩, 0) else if 3 ≤ j + 1 then (t, 42) else if hasS (t.left (j + 1 : Nat)) s = true then (t.put ⟨s, o, (j + 1 : Nat)⟩, 0) else if 3 ≤ j + 2 then (t, 42) else if hasS (t.left (j + 2 : Nat)) s = true then (t.put ⟨s, o, (j + 2 : Nat)⟩, 0) else (t, 42)
theorem take_from {t : SpS} {o : Int} {s : Spn} (ho : ¬ o < 1) (hm : mayOB s = true) : t.take o s = takeFrom t o s 0 := by
  unfold SpS.take takeFrom
  rw [if_neg ho, if_neg (by rw [hm]; simp)]
  rfl
theorem takeFrom_more {t : SpS} {o : Int} {s : Spn} {j : Nat} (hj : j < 3) (h : hasS (t.left j) s = false) : takeFrom t o s j = takeFrom t o s (j + 1) := by
  unfold takeFrom
  rw [if_neg (show ¬ 3 ≤ j by omega), if_neg (by rw [h]; simp)]
  rcases (show j = 0 ∨ j = 1 ∨ j = 2 by omega) with rfl | rfl | rfl
  · rfl
  · rfl
  · rfl
theorem takeFrom_here {t : SpS} {o : Int} {s : Spn} {j : Nat} (hj : j < 3) (h : hasS (t.left j) s = true) : takeFrom t o s j = (t.put ⟨s, o, j⟩, 0) := by
  unfold takeFrom
  rw [if_neg (show ¬ 3 ≤ j by omega), if_pos h]
set_option maxRecDepth 100000 in
set_option maxHeartbeats 2000000 in
theorem take_any {base pt : Nat} {vb vr : Value} {t : SpS} (o : Int) (s : Spn) (w : World) (h : SpM w base pt vb vr t) (hl9 : t.l.length ≤ 900) :
    Calls Try.prog 27 #[.pointer (some ⟨pt, 0, none⟩), .int .i64 o, sV s] w fun e w' => e = .returned (.int .i64 (t.take o s).2) ∧ SpTo w w' base pt vb vr (t.take o s).1 := by
  have mixed : Try.prog.follows .mixedOrders = true := by kernel_rfl
  have hb0 : Below w.heap.size w (w.alloc (.cells (sR s).toArray 27)) := (Below.refl _ _).alloc (Nat.le_refl _) _
  have HX0 := Lib.hid (Bx.new w 27 (sR s))
  have HB0 := Lib.hid hb0
  have HM := Lib.hid h
  have HO := Lib.hid (fun W => ownable_any s W)
  have HS := Lib.hid (fun W (hW : Below w.heap.size w W) => SpTo.same h hW)
  rw [show sV s = .agg (sR s).toArray from rfl]
  by_cases ho : o < 1
  · rw [show t.take o s = (t, 1) by unfold SpS.take; rw [if_pos ho]]
    clear h
    go_enter Try.func27, Try.ntmps27
    go_wp2
    go_ret
    exact ⟨rfl, HS.out _ HB0.out⟩
  · cases hm : mayOB s with
    | false =>
      rw [show t.take o s = (t, 40) by unfold SpS.take; rw [if_neg ho, if_pos hm]]
      rw [hm] at HO
      clear h hb0 hm
      go_enter Try.func27, Try.ntmps27
      go_wp2_with (first
        | (refine plV rfl (sV s) (exec_load_any 27 (.tmp 5) rfl w.heap.size 0 (sR s) _ rfl (rangeAll HX0.out) Try.underlying27 rfl sp_info) ?_)
        | (go_at_call 61; refine (HO.out _).mono ?_; rintro e w2 ⟨rfl, b2⟩; refine Hid.out ?_))
      refine Lib.hid ?_
      have HR := Lib.hid (HS.out _ (below_up HB0.out b2 HB0.out.size))
      clear b2
      go_wp2
      go_ret
      exact ⟨rfl, HR.out⟩
    | true =>
      rw [take_from ho hm]
      have hmo := (mayOB_iff s).1 hm
      have HMO := Lib.hid hmo
      rw [hm] at HO
      have HLE := Lib.hid (fun (k : Nat) W (hW : Below w.heap.size w W) => sleft_any (k : Int) s hmo W (h.up hW))
      clear h hb0 hm hmo
      obtain ⟨R, hR⟩ : ∃ R, takeFrom t o s 0 = R := ⟨_, rfl⟩
      rw [hR]
      have HR0 := Lib.hid hR
      clear hR
      go_enter Try.func27, Try.ntmps27
      go_wp2_with (first
        | (refine plV rfl (sV s) (exec_load_any 27 (.tmp 5) rfl w.heap.size 0 (sR s) _ rfl (rangeAll HX0.out) Try.underlying27 rfl sp_info) ?_)
        | (go_at_call 61; refine (HO.out _).mono ?_; rintro e w2 ⟨rfl, b2⟩; refine Hid.out ?_))
      refine Lib.hid ?_
      have HB2 := Lib.hid (below_up HB0.out b2 HB0.out.size)
      have HX2 := Lib.hid (HX0.out.up b2)
      clear b2
      go_wp2
      go_loopw [19] (fun i wr => ∃ j : Nat, j ≤ 3 ∧ i = .int .i64 (j : Int) ∧ Hid (takeFrom t o s j = R) ∧ Hid (Below w2.heap.size w2 wr)) (fun i _ => 3 - (intOf i).toNat)
      case atStart => exact ⟨0, by omega, rfl, HR0, Lib.hid (Below.refl _ _)⟩
      case round =>
        obtain ⟨j, hj, rfl, HRJ, HBW⟩ := hrel
        by_cases hlt : j < 3
        · have hlti : (j : Int) < 3 := by omega
          have hbw := below_up HB2.out HBW.out HB2.out.size
          have HB3 := Lib.hid hbw
          have HX3 := Lib.hid (HX2.out.up HBW.out)
          clear hbw
          obtain ⟨hh, hhh⟩ : ∃ hh, hasS (t.left j) s = hh := ⟨_, rfl⟩
          have HHH := Lib.hid hhh
          have HLJ := Lib.hid (HLE.out j wr HB3.out)
          rw [hhh] at HLJ
          clear hhh
          cases hh with
          | false =>
            go_wp2_with (first
              | (refine plV rfl (sV s) (exec_load_any 27 (.tmp 5) rfl w.heap.size 0 (sR s) _ rfl (rangeAll HX3.out) Try.underlying27 rfl sp_info) ?_)
              | (go_at_call 62; refine HLJ.out.mono ?_; rintro e w4 ⟨rfl, b4⟩; refine Hid.out ?_))
            refine Lib.hid ?_
            have HB4 := Lib.hid (below_up HBW.out b4 HBW.out.size)
            have HR4 := Lib.hid ((takeFrom_more hlt HHH.out).symm.trans HRJ.out)
            clear b4
            go_wp2
            go_roundw
            case rel => exact ⟨j + 1, by omega, rfl, HR4, HB4⟩
            case measure => simp only [intOf]; omega
          | true =>
            have HR4 := Lib.hid ((takeFrom_here (o := o) hlt HHH.out).symm.trans HRJ.out)
            have hp := HM.out.wf.put (s := s) (o := o) (k := (j : Int)) (by omega) (by omega) HHH.out
            have HP := Lib.hid hp
            clear hp
            go_wp2_with (first
              | (refine plV rfl (sV s) (exec_load_any 27 (.tmp 5) rfl w.heap.size 0 (sR s) _ rfl (rangeAll HX3.out) Try.underlying27 rfl sp_info) ?_)
              | (go_at_call 62; refine HLJ.out.mono ?_; rintro e w4 ⟨rfl, b4⟩; refine Hid.out ?_))
            refine Lib.hid ?_
            have hb4 := below_up HB3.out b4 HB3.out.size
            have HB4 := Lib.hid (below_up hb4 (Below.refl _ _).drew hb4.size)
            have HX4 := Lib.hid ((HX3.out.up b4).up (Below.refl _ _).drew)
            clear b4 hb4
            go_wp2
            refine wp_region_noPanic ?_
            refine wp_region_held_drew (S := HeldPs w.heap.size s) (by kernel_rfl) (rangeAll HX4.out) (fun hHeld => ?_)
            generalize w4.drew = wd at *
            refine held_take (v := ?v122) 0 rfl (by kernel_rfl) (by kernel_rfl) (by kernel_rfl) (fun _ _ _ h => h) (by rfl) ?y122 (by assumption) ?_
            case y122 => (intro w hSw; unfold HeldPs at hSw; go_simp; (try with_reducible rfl); (try omega))
            simp only [List.setIfInBounds_toArray, List.set_cons_zero, List.set_cons_succ]
            refine held_take (v := ?v125) 1 rfl (by kernel_rfl) (by kernel_rfl) (by kernel_rfl) (fun _ _ _ h => h) (by rfl) ?y125 (by assumption) ?_
            case y125 => (intro w hSw; unfold HeldPs at hSw; go_simp; (try with_reducible rfl); (try omega))
            simp only [List.setIfInBounds_toArray, List.set_cons_zero, List.set_cons_succ]
            refine held_take (v := ?v128) 2 rfl (by kernel_rfl) (by kernel_rfl) (by kernel_rfl) (fun _ _ _ h => h) (by rfl) ?y128 (by assumption) ?_
            case y128 => (intro w hSw; unfold HeldPs at hSw; go_simp; (try with_reducible rfl); (try omega))
            simp only [List.setIfInBounds_toArray, List.set_cons_zero, List.set_cons_succ]
            refine held_take (v := sV s) 3 rfl (by kernel_rfl) (by kernel_rfl) (by kernel_rfl) (fun _ _ _ h => h) (by rfl) (fun W hSw => exec_load_any _ (.tmp 5) rfl w.heap.size 0 (sR s) _ rfl hSw Try.underlying27 rfl sp_info) (by assumption) ?_
            simp only [List.setIfInBounds_toArray, List.set_cons_zero, List.set_cons_succ]
            refine held_take (v := ?v133) 4 rfl (by kernel_rfl) (by kernel_rfl) (by kernel_rfl) (fun _ _ _ h => h) (by rfl) ?y133 (by assumption) ?_
            case y133 => (intro w hSw; unfold HeldPs at hSw; go_simp; (try with_reducible rfl); (try omega))
            simp only [List.setIfInBounds_toArray, List.set_cons_zero, List.set_cons_succ]
            refine held_take (v := ?v136) 5 rfl (by kernel_rfl) (by kernel_rfl) (by kernel_rfl) (fun _ _ _ h => h) (by rfl) ?y136 (by assumption) ?_
            case y136 => (intro w hSw; unfold HeldPs at hSw; go_simp; (try with_reducible rfl); (try omega))
            simp only [List.setIfInBounds_toArray, List.set_cons_zero, List.set_cons_succ]
            refine held_take (v := bV ⟨s, o, (j : Int)⟩) 6 rfl (by kernel_rfl) (by kernel_rfl) (by kernel_rfl) (fun _ _ _ h => h) (by rfl) (fun W hSw => exec_build3 _ 0 1 2 (.tmp 29) (.tmp 30) (.tmp 31) rfl _ _ _ (bR ⟨s, o, (j : Int)⟩) rfl rfl rfl (built_bk3 s o j)) (by assumption) ?_
            simp only [List.setIfInBounds_toArray, List.set_cons_zero, List.set_cons_succ]
            refine held_one 7 rfl (by kernel_rfl) (by rfl) (fun K hK => ?_)
            go_simp
            refine (put_any ⟨s, o, (j : Int)⟩ HP.out.2.1 HP.out.2.2 HP.out.1 wd (HM.out.up HB4.out) hl9).mono ?_
            rintro e w6 ⟨rfl, s6⟩
            have hn0 : ¬ OwnK pt vb vr w.heap.size := fun hk => by have := HM.out.low hk; omega
            have HX6 := Lib.hid (HX4.out.kp s6.kp hn0)
            have HRR := Lib.hid (show (.int .i64 0 : Value) = .int .i64 R.2 ∧ SpTo w w6 base pt vb vr R.1 by
              rw [← HR4.out]
              exact ⟨rfl, SpTo.after HB4.out s6⟩)
            refine hK.out _ _ (rangeAll HX6.out) (fun _ => ?_)
            (try simp only [Act.put, List.setIfInBounds_toArray, List.set_cons_zero, List.set_cons_succ])
            clear hK K s6 hn0 hHeld
            refine wpAnyH_done (by kernel_rfl) ?_ _
            refine NoPanic.normal ?_
            go_wp2
            go_ret
            exact ⟨congrArg _ HRR.out.1, HRR.out.2⟩
        · have hj3 : j = 3 := by omega
          subst hj3
          have HRR := Lib.hid (show R = (t, 42) from HRJ.out.symm)
          have HF := Lib.hid (HS.out _ (below_up HB2.out HBW.out HB2.out.size))
          go_wp2
          go_ret
          exact ⟨by rw [HRR.out]; rfl, by rw [HRR.out]; exact HF.out⟩
end Go.Proofs.Ytgelbeglffjdaaa
