/- Show, Multi and Plain of package colon. Proved: what each returns. -/
import Derived.Test.YteomoipbjkafgaaDoorCol3
import Derived.Test.YteomoipbjkafgaaDoorExe
namespace Go.Proofs.YteomoipbjkafgaaDoor
open Go Go.RowKit

/-- The text of an address. -/
def showA (a : List UInt8) : List UInt8 := showC (grpN a)
/-- What is held while a text is shown. -/
def ShowS (w : World) (g : Nat) (L : List Int) (W : World) : Prop := IntT 25 W g L ∧ Env W ∧ Below w.heap.size w W
theorem ShowS.up {w : World} {g : Nat} {L : List Int} {W W' : World} (h : ShowS w g L W) (hb : Below W.heap.size W W') : ShowS w g L W' :=
  ⟨h.1.up hb, h.2.1.up hb, below_up h.2.2 hb h.2.2.size⟩
set_option maxRecDepth 100000 in
set_option maxHeartbeats 4000000 in
theorem show_any (a : List UInt8) (w : World) (hE : Env w) (ha : a.length = 16) :
    Calls Tryd.prog 9 #[arrV a] w fun r w' => r = .returned (.string ⟨(showA a).toArray⟩) ∧ Below w.heap.size w w' := by
  have z0 : ArrT 22 (w.alloc (.cells (byteVals a).toArray 22)) w.heap.size a := arrT_new w a
  have zb : Below w.heap.size w (w.alloc (.cells (byteVals a).toArray 22)) := (Below.refl _ _).alloc (Nat.le_refl _) _
  have Z := Lib.hid (And.intro z0 (And.intro zb (hE.up zb)))
  have HA := Lib.hid ha
  have HG := Lib.hid (fun W => groups_any a W ha)
  have hgl := grpN_length a
  have hgle := grpN_le a
  have HSH := Lib.hid (showC_lg (grpN a) hgl)
  have HSA : Hid (showA a = showC (grpN a)) := rfl
  rw [show arrV a = .agg (byteVals a).toArray from rfl]
  clear z0 zb hE
  have HLG := Lib.hid (fun W => longest_any (grpN a) W hgl)
  have hat := (lgF_le (zOf (grpN a)) 8).1
  generalize lgF (zOf (grpN a)) 8 = S at *
  obtain ⟨T, Z', R⟩ := S
  simp only at hat HLG
  have HSH2 : Hid (showA a = if Z' < 2 then colJ (grpN a) else colJ ((grpN a).take T) ++ 58 :: 58 :: colJ ((grpN a).drop (T + Z'))) := by
    show _ = _
    rw [HSA.out, HSH.out]
  clear HSH HSA
  generalize showA a = V at *
  generalize grpN a = g at *
  have hnl : (natsI g).length = 8 := by rw [natsI_length, hgl]
  have HNL := Lib.hid hnl
  have HGL := Lib.hid hgl
  have HGLE := Lib.hid hgle
  clear hnl hgl hgle
  go_enter Tryd.func9, Tryd.ntmps9
  go_wp2_with (first | (refine wpList_load_arrT rfl (.tmp 1) rfl w.heap.size a (by rw [HA.out]; exact arr16) rfl Z.out.1 ?_) | (go_at_call 11; refine (HG.out _).mono ?_; rintro e w1 ⟨rfl, b1⟩; refine Hid.out ?_))
  refine Lib.hid ?_
  have s1 : ShowS w w1.heap.size (natsI g) (w1.alloc (.cells (intVals (natsI g)).toArray 25)) := by
    have hb1 := below_up Z.out.2.1 b1 Z.out.2.1.size
    exact ⟨intT_new w1 _, (Z.out.2.2.up b1).up ((Below.refl _ _).alloc (Nat.le_refl _) _), hb1.alloc hb1.size _⟩
  have S1 := Lib.hid s1
  clear s1 b1 Z HG
  have HSL := Lib.hid (fun W => slice_all ints8.row size_int W w1.heap.size)
  by_cases hz : Z' < 2
  · have hv := HSH2.out
    rw [if_pos hz] at hv
    have HV := Lib.hid hv
    have hz2 : (Z' : Int) < 2 := by omega
    have hsl := HSL.out
    clear hv HSH2
    go_wp2_with (first | (refine wpList_store_newI rfl (.tmp 3) (.tmp 7) rfl (natsI g) (by rw [HNL.out]; exact ints8.isRow) _ rfl rfl (by rw [HNL.out]; rfl) ?_) | (refine wpList_load_intT rfl (.tmp 3) rfl w1.heap.size (natsI g) (by rw [HNL.out]; exact ints8.isRow) rfl S1.out.1 ?_) | (go_at_call 23; refine (HLG.out _).mono ?_; rintro e w2 ⟨rfl, b2⟩) | (go_at_call 24; refine (join_any _ _ _ g _ (S1.out.up b2).2.1 (by have h := (S1.out.up b2).1.headI (n := 8) (by rw [HNL.out]; exact Nat.le_refl _) 8 (by omega) (by omega); rw [List.take_of_length_le (by rw [HNL.out]; exact Nat.le_refl _)] at h; exact h) (by rw [HGL.out]; exact Nat.le_refl _) HGLE.out).mono ?_; rintro e w3 ⟨rfl, b3⟩))
    go_ret
    exact ⟨by rw [HV.out]; rfl, ((S1.out.up b2).up b3).2.2⟩
  · have hv := HSH2.out
    rw [if_neg hz] at hv
    have HV := Lib.hid hv
    have hz2 : ¬ (Z' : Int) < 2 := by omega
    clear hv HSH2
    go_wp2_with (first | (refine wpList_store_newI rfl (.tmp 3) (.tmp 7) rfl (natsI g) (by rw [HNL.out]; exact ints8.isRow) _ rfl rfl (by rw [HNL.out]; rfl) ?_) | (refine wpList_load_intT rfl (.tmp 3) rfl w1.heap.size (natsI g) (by rw [HNL.out]; exact ints8.isRow) rfl S1.out.1 ?_) | (go_at_call 23; refine (HLG.out _).mono ?_; rintro e w2 ⟨rfl, b2⟩) | fail)
    have S2 := S1.out.up b2
    clear b2 HLG S1
    have hs1 := fun W => slice_to ints8.row size_int W w1.heap.size T (by omega)
    have hw : IntKind.i64.wrap ((T : Int) + (Z' : Int)) = ((T + Z' : Nat) : Int) := by rw [IntKind.wrap_i64]; omega
    have hs2 := fun W => slice_from ints8.row size_int W w1.heap.size (T + Z') hat
    obtain ⟨E, hEE⟩ : ∃ E, T + Z' = E := ⟨_, rfl⟩
    rw [hEE] at hw hs2 HV hat
    obtain ⟨AD, hAD⟩ : ∃ AD : Addr, (if 8 = E then (⟨w1.heap.size, 0, none⟩ : Addr) else ⟨w1.heap.size, E, none⟩) = AD := ⟨_, rfl⟩
    rw [hAD] at hs2
    have HAD := Lib.hid hAD
    clear hAD
    have hadd : (T : Int) + (Z' : Int) = (E : Int) := by omega
    have hwE : IntKind.i64.wrap (E : Int) = (E : Int) := by rw [IntKind.wrap_i64]; omega
    have l1 : (colJ (g.take T)).length ≤ 40 := colJ_len _ (by rw [List.length_take, HGL.out]; omega)
    have l2 : (colJ (g.drop E)).length ≤ 40 := colJ_len _ (by rw [List.length_drop, HGL.out]; omega)
    refine wp_region_noPanic ?_
    refine wp_region_held_drew (S := ShowS w w1.heap.size (natsI g)) (by kernel_rfl) ⟨S2.1, ⟨S2.2.1.max, S2.2.1.maxLt, S2.2.1.tz, S2.2.1.tzLt⟩, S2.2.2.drew⟩ (fun hHeld => ?_)
    refine held_take (v := ?v85) 0 rfl (by kernel_rfl) (by kernel_rfl) (by kernel_rfl) (fun _ _ _ h => h) (by rfl) ?y85 (by assumption) ?_
    case y85 => (intro w hSw; unfold ShowS at hSw; go_simp; (try with_reducible rfl); (try omega))
    simp only [List.setIfInBounds_toArray, List.set_cons_zero, List.set_cons_succ]
    refine held_take (v := ?v88) 1 rfl (by kernel_rfl) (by kernel_rfl) (by kernel_rfl) (fun _ _ _ h => h) (by rfl) ?y88 (by assumption) ?_
    case y88 => (intro w hSw; unfold ShowS at hSw; go_simp; (try with_reducible rfl); (try omega))
    simp only [List.setIfInBounds_toArray, List.set_cons_zero, List.set_cons_succ]
    refine held_take (v := ?v91) 4 rfl (by kernel_rfl) (by kernel_rfl) (by kernel_rfl) (fun _ _ _ h => h) (by rfl) ?y91 (by assumption) ?_
    case y91 => (intro w hSw; unfold ShowS at hSw; go_simp; (try with_reducible rfl); (try omega))
    simp only [List.setIfInBounds_toArray, List.set_cons_zero, List.set_cons_succ]
    refine held_take (v := ?v94) 5 rfl (by kernel_rfl) (by kernel_rfl) (by kernel_rfl) (fun _ _ _ h => h) (by rfl) ?y94 (by assumption) ?_
    case y94 => (intro w hSw; unfold ShowS at hSw; go_simp; (try with_reducible rfl); (try omega))
    simp only [List.setIfInBounds_toArray, List.set_cons_zero, List.set_cons_succ]
    refine held_take (v := ?v97) 6 rfl (by kernel_rfl) (by kernel_rfl) (by kernel_rfl) (fun _ _ _ h => h) (by rfl) ?y97 (by assumption) ?_
    case y97 => (intro w hSw; unfold ShowS at hSw; go_simp; (try with_reducible rfl); (try omega))
    simp only [List.setIfInBounds_toArray, List.set_cons_zero, List.set_cons_succ]
    refine held_take (v := ?v100) 7 rfl (by kernel_rfl) (by kernel_rfl) (by kernel_rfl) (fun _ _ _ h => h) (by rfl) ?y100 (by assumption) ?_
    case y100 => (intro w hSw; unfold ShowS at hSw; go_simp; (try with_reducible rfl); (try omega))
    simp only [List.setIfInBounds_toArray, List.set_cons_zero, List.set_cons_succ]
    refine held_one 2 rfl (by kernel_rfl) (by rfl) (fun K hK => ?_)
    go_simp
    refine (join_any _ _ _ (g.take T) _ hHeld.2.1 (by
      have h := hHeld.1.headI (n := 8) (by rw [HNL.out]; exact Nat.le_refl _) T (by omega) (by omega)
      rw [natsI_take] at h
      exact h) (by rw [List.length_take, HGL.out]; omega) (fun n hn => HGLE.out n (List.mem_of_mem_take hn))).mono ?_
    rintro e w3 ⟨rfl, b3⟩
    refine hK.out _ _ (hHeld.up b3) (fun hHeld3 => ?_)
    clear hK K hHeld b3
    refine held_take (v := .string ⟨(colJ (g.take T) ++ [58, 58]).toArray⟩) 3 rfl (by kernel_rfl) (by kernel_rfl) (by kernel_rfl) (fun _ _ _ h => h) (by rfl) (fun W _ => exec_cat (.tmp 19) (.const (.string ⟨#[58, 58]⟩)) _ rfl (colJ (g.take T)) [58, 58] _ rfl rfl rfl (by simp; omega)) (by assumption) ?_
    simp only [List.setIfInBounds_toArray, List.set_cons_zero, List.set_cons_succ]
    refine held_one 8 rfl (by kernel_rfl) (by rfl) (fun K hK => ?_)
    go_simp
    refine (join_any _ _ _ (g.drop E) _ hHeld3.2.1 (by
      have h := hHeld3.1.tailI HNL.out E (by omega) (by omega)
      rw [natsI_drop, HAD.out] at h
      exact h) (by rw [List.length_drop, HGL.out]; omega) (fun n hn => HGLE.out n (List.mem_of_mem_drop hn))).mono ?_
    rintro e w4 ⟨rfl, b4⟩
    refine hK.out _ _ (hHeld3.up b4) (fun hHeld4 => ?_)
    clear hK K hHeld3 b4
    refine held_take (v := .string ⟨V.toArray⟩) 9 rfl (by kernel_rfl) (by kernel_rfl) (by kernel_rfl) (fun _ _ _ h => h) (by rfl) (fun W _ => exec_cat (.tmp 20) (.tmp 25) _ rfl (colJ (g.take T) ++ [58, 58]) (colJ (g.drop E)) V rfl rfl (by rw [HV.out]; simp) (by rw [HV.out]; simp; omega)) (by assumption) ?_
    simp only [List.setIfInBounds_toArray, List.set_cons_zero, List.set_cons_succ]
    refine held_take (v := ?v125) 10 rfl (by kernel_rfl) (by kernel_rfl) (by kernel_rfl) (fun _ _ _ h => h) (by rfl) ?y125 (by assumption) ?_
    case y125 => (intro w hSw; unfold ShowS at hSw; go_simp; (try with_reducible rfl); (try omega))
    simp only [List.setIfInBounds_toArray, List.set_cons_zero, List.set_cons_succ]
    refine wpAnyH_done (by kernel_rfl) ?_ _
    refine NoPanic.normal ?_
    go_wp2
    go_ret
    exact ⟨rfl, hHeld4.2.2⟩
end Go.Proofs.YteomoipbjkafgaaDoor
