/- The document's space: what is left of Plain, and of any area. -/
import Derived.Test.YtgelbeglffjdaaaRq2
namespace Go.Proofs.Ytgelbeglffjdaaa
open Go Go.RowKit Go.Shelf
attribute [local go_sem] Oper.semAt_some

set_option maxRecDepth 100000 in
set_option maxHeartbeats 4000000 in
theorem rleft0_zz (t : SpS) (vl : Value) (w : World) (hwf : WF t) (hln1 : t.l.length ≤ 1000) (hkl : IsK w vl t.l) (hf1 : t.a1.f = 0) (hf2 : t.a2.f = 0) :
    Calls Try.prog 49 #[rqV t vl, .int .i64 (0 : Int)] w fun e w' => ∃ v', e = .returned v' ∧ IsS w' v' (t.left 0) ∧ Below w.heap.size w w' := by
  have hg : t.gone 0 = false := by unfold SpS.gone; simp
  have HLF := Lib.hid (left_of hg)
  have HBA := Lib.hid (base_len hwf hg)
  have HBS := Lib.hid (show t.base 0 = [allO] by
    unfold SpS.base cutIf
    rw [if_pos rfl, if_pos hf2, if_pos hf1])
  have hlb1 := cutS_length [allO] t.a1
  have hp2 : ¬ 0 < t.a2.f := by
    omega
  have HK := Lib.hid hkl
  obtain ⟨ab, cb, hvb, hcb⟩ := hkl.form
  subst hvb
  have hb0 : Below w.heap.size w (w.alloc (.cells (rqR t (.slice ab t.l.length cb)).toArray 31)) := (Below.refl _ _).alloc (Nat.le_refl _) _
  have HX0 := Lib.hid (Bx.new w 31 (rqR t (.slice ab t.l.length cb)))
  have HB0 := Lib.hid hb0
  obtain ⟨r2, r4, _⟩ := rq_ar HX0.out
  have x2 := rng0 r2
  have x4 := rng0 r4
  rw [show rqV t (.slice ab t.l.length cb) = .agg (rqR t (.slice ab t.l.length cb)).toArray from rfl]
  have r0 : (w.alloc (.cells (rqR t (.slice ab t.l.length cb)).toArray 31)).rangeAt w.heap.size 0 (sR ⟨0, 0⟩) := HX0.out.range 0 (sR ⟨0, 0⟩) rfl
  have hs0 : (w.alloc (.cells (rqR t (.slice ab t.l.length cb)).toArray 31)).heap.size = w.heap.size + 1 := by simp
  have hs1 : ((w.alloc (.cells (rqR t (.slice ab t.l.length cb)).toArray 31)).alloc (.cells (sR ⟨0, 0⟩).toArray 27)).heap.size = w.heap.size + 1 + 1 := by simp
  have hba : Below (w.alloc (.cells (rqR t (.slice ab t.l.length cb)).toArray 31)).heap.size (w.alloc (.cells (rqR t (.slice ab t.l.length cb)).toArray 31)) ((w.alloc (.cells (rqR t (.slice ab t.l.length cb)).toArray 31)).alloc (.cells (sR ⟨0, 0⟩).toArray 27)) := (Below.refl _ _).alloc (Nat.le_refl _) _
  have hbb : Below ((w.alloc (.cells (rqR t (.slice ab t.l.length cb)).toArray 31)).alloc (.cells (sR ⟨0, 0⟩).toArray 27)).heap.size ((w.alloc (.cells (rqR t (.slice ab t.l.length cb)).toArray 31)).alloc (.cells (sR ⟨0, 0⟩).toArray 27)) (((w.alloc (.cells (rqR t (.slice ab t.l.length cb)).toArray 31)).alloc (.cells (sR ⟨0, 0⟩).toArray 27)).alloc (.cells (sR allO).toArray 27)) := (Below.refl _ _).alloc (Nat.le_refl _) _
  have hbab := below_up hba hbb hba.size
  have hIB := isS_new ((w.alloc (.cells (rqR t (.slice ab t.l.length cb)).toArray 31)).alloc (.cells (sR ⟨0, 0⟩).toArray 27)) [allO] (by simp) _ rfl
  rw [hs1] at hIB
  have HXB := Lib.hid (HX0.out.up hbab)
  have HBB := Lib.hid (below_up hb0 hbab hb0.size)
  have HCA := Lib.hid (rcut_any _ [allO] t.a1 (((w.alloc (.cells (rqR t (.slice ab t.l.length cb)).toArray 31)).alloc (.cells (sR ⟨0, 0⟩).toArray 27)).alloc (.cells (sR allO).toArray 27)) hIB (by simp))
  have rb := (rq_ar HXB.out).1
  clear hb0 hba hbb hbab hIB hkl hg
  go_enter Try.func49, Try.ntmps49
  go_wp2_with (first
    | (refine plV rfl (sV ⟨0, 0⟩) (exec_load_any 27 (.tmp 27) rfl w.heap.size 0 (sR ⟨0, 0⟩) _ rfl r0 Try.underlying27 rfl sp_info) ?_)
    | (refine plV rfl (.slice (some ⟨w.heap.size + 1, 0, none⟩) 1 1) (exec_one_spb (.tmp 28) rfl ⟨0, 0⟩ rfl _ hs0) ?_)
    | (refine plV rfl (sV allO) (exec_build2 _ 0 1 _ _ rfl _ _ (sR allO) rfl rfl (built_sp2 _ _)) ?_)
    | (refine plV rfl (.slice (some ⟨w.heap.size + 1 + 1, 0, none⟩) 1 1) (exec_one_spb (.tmp 32) rfl allO rfl _ hs1) ?_)
    | (refine plV rfl (sV t.a1) (exec_load_any 27 (.tmp 35) rfl w.heap.size 2 (sR t.a1) _ rfl rb Try.underlying27 rfl sp_info) ?_)
    | (go_at_call 76; refine HCA.out.mono ?_; rintro e w3 ⟨v3, rfl, i3, b3⟩; refine Hid.out ?_))
  refine Lib.hid ?_
  have HX3 := Lib.hid (HXB.out.up b3)
  have HB3 := Lib.hid (below_up HBB.out b3 HBB.out.size)
  obtain ⟨q2, q4, _⟩ := rq_ar HX3.out
  have y2 := rng0 q2
  have y4 := rng0 q4
  have ha4 : Below w3.heap.size w3 (w3.alloc (.cells (sR allO).toArray 27)) := (Below.refl _ _).alloc (Nat.le_refl _) _
  have HIC := Lib.hid (isS_new w3 [allO] (by simp) _ rfl)
  have HXC := Lib.hid (HX3.out.up ha4)
  have HBC := Lib.hid (below_up HB3.out ha4 HB3.out.size)
  have q4c := (rq_ar HXC.out).2.1
  have y4c := rng0 q4c
  clear r0 r2 r4 rb x2 x4 hs0 hs1 b3 i3 ha4
  go_wp2_with (first
    | (refine plV rfl (sV allO) (exec_build2 _ 0 1 _ _ rfl _ _ (sR allO) rfl rfl (built_sp2 _ _)) ?_)
    | (refine plV rfl (.slice (some ⟨w3.heap.size, 0, none⟩) 1 1) (exec_one_spb (.tmp 43) rfl allO rfl _ rfl) ?_))
  have HI4 := Lib.hid (show IsS (w3.alloc (.cells (sR allO).toArray 27)) (.slice (some ⟨w3.heap.size, 0, none⟩) 1 1) (cutAll (t.base 0) (t.l.take 0)) by rw [HBS.out]; exact HIC.out)
  have HX4 := HXC
  have HB4 := HBC
  generalize w3.alloc (.cells (sR allO).toArray 27) = w4 at *
  go_loopw [5, 6] (fun vo i wr => ∃ j : Nat, j ≤ t.l.length ∧ i = .int .i64 (j : Int) ∧ Hid (IsS wr vo (cutAll (t.base (0 : Int)) (t.l.take j))) ∧ Below w4.heap.size w4 wr) (fun _ i _ => t.l.length - (intOf i).toNat)
  case atStart => exact ⟨0, Nat.zero_le _, rfl, HI4, Below.refl _ _⟩
  case round =>
    obtain ⟨j, hj, rfl, HIJ, hbel⟩ := hrel
    have hX := HX4.out.up hbel
    have c6 : wr.cell? ⟨w.heap.size, 6, none⟩ = some (.slice ab t.l.length cb) := (rq_ar hX).2.2
    have hln := cutAll_len (t.l.take j) HBA.out.2.may HBA.out.2
    have hl2 : (t.l.take j).length ≤ 1000 := by rw [List.length_take]; omega
    have hl3 : (cutAll (t.base (0 : Int)) (t.l.take j)).length ≤ 4 * 1001 := Nat.le_trans hln (Nat.mul_le_mul HBA.out.1 (by omega))
    by_cases hlt : j < t.l.length
    · have hlti : (j : Int) < (t.l.length : Int) := by omega
      have h0k : (0 : Int) ≤ (j : Int) := by omega
      obtain ⟨x, hx⟩ : ∃ x, t.l[j]? = some x := ⟨t.l[j], List.getElem?_eq_getElem hlt⟩
      obtain ⟨bb, bo, rfl, hbb⟩ : ∃ bb bo, ab = some ⟨bb, bo, none⟩ ∧ bb < w.heap.size := by
        obtain ⟨_, _, _, h4⟩ := HK.out.shape
        obtain ⟨b, o, e1, e2, _⟩ := h4 (by omega)
        exact ⟨b, o, e1, e2⟩
      have hr := rq_blk (HK.out.below (below_up HB4.out hbel HB4.out.size)) j x hx
      have HNX := Lib.hid (cutAll_next (l := t.base (0 : Int)) hx)
      have HCU := Lib.hid (fun v (hv : IsS wr v (cutAll (t.base (0 : Int)) (t.l.take j))) => rcut_any v _ x.s wr hv (by omega))
      have HCT := Lib.hid (HCU.out _ HIJ.out)
      have HBW := Lib.hid hbel
      clear hx hX hln hl3 hbel HCU
      go_wp2_with (first
        | (refine plV rfl (sV x.s) (exec_load_any 27 (.tmp 67) rfl bb (bo + j * 4) (sR x.s) _ rfl hr Try.underlying27 rfl sp_info) ?_)
        | (go_at_call 76; refine HCT.out.mono ?_; rintro e w5 ⟨v5, rfl, i5, b5⟩; refine Hid.out ?_))
      refine Lib.hid ?_
      have HI5 := Lib.hid (show IsS w5 v5 (cutAll (t.base (0 : Int)) (t.l.take (j + 1))) by rw [HNX.out]; exact i5)
      have HB5 := Lib.hid (below_up HBW.out b5 HBW.out.size)
      clear i5 b5
      go_wp2
      go_roundw
      case rel => exact ⟨j + 1, by omega, rfl, HI5, HB5.out⟩
      case measure => simp only [intOf]; omega
    · have hke : j = t.l.length := by omega
      subst hke
      rw [List.take_of_length_le (Nat.le_refl _)] at HIJ
      have hlti : ¬ ((t.l.length : Int) < (t.l.length : Int)) := by omega
      have HR := Lib.hid (show ∀ v, IsS wr v (cutAll (t.base (0 : Int)) t.l) → IsS wr v (t.left (0 : Int)) ∧ Below w.heap.size w wr from fun v hv => ⟨by rw [HLF.out]; exact hv, below_up HB4.out hbel HB4.out.size⟩)
      have HF := Lib.hid (HR.out _ HIJ.out)
      obtain ⟨ax, cx, hvx, hcx⟩ := IsS.form HIJ.out
      subst hvx
      clear hX hln hl3 hbel
      go_wp2
      go_ret
      exact ⟨_, rfl, HF.out⟩
set_option maxRecDepth 100000 in
set_option maxHeartbeats 4000000 in
theorem rleft0_zy (t : SpS) (vl : Value) (w : World) (hwf : WF t) (hln1 : t.l.length ≤ 1000) (hkl : IsK w vl t.l) (hf1 : t.a1.f = 0) (hf2 : t.a2.f ≠ 0) :
    Calls Try.prog 49 #[rqV t vl, .int .i64 (0 : Int)] w fun e w' => ∃ v', e = .returned v' ∧ IsS w' v' (t.left 0) ∧ Below w.heap.size w w' := by
  have hg : t.gone 0 = false := by unfold SpS.gone; simp
  have HLF := Lib.hid (left_of hg)
  have HBA := Lib.hid (base_len hwf hg)
  have HBS := Lib.hid (show t.base 0 = cutS ([allO]) t.a2 by
    unfold SpS.base cutIf
    rw [if_pos rfl, if_neg hf2, if_pos hf1])
  have hlb1 := cutS_length [allO] t.a1
  have hp2 : 0 < t.a2.f := by
    rcases hwf.o2 with h9 | h9
    · rw [h9] at hf2; exact absurd rfl hf2
    · unfold mayO at h9; omega
  have HK := Lib.hid hkl
  obtain ⟨ab, cb, hvb, hcb⟩ := hkl.form
  subst hvb
  have hb0 : Below w.heap.size w (w.alloc (.cells (rqR t (.slice ab t.l.length cb)).toArray 31)) := (Below.refl _ _).alloc (Nat.le_refl _) _
  have HX0 := Lib.hid (Bx.new w 31 (rqR t (.slice ab t.l.length cb)))
  have HB0 := Lib.hid hb0
  obtain ⟨r2, r4, _⟩ := rq_ar HX0.out
  have x2 := rng0 r2
  have x4 := rng0 r4
  rw [show rqV t (.slice ab t.l.length cb) = .agg (rqR t (.slice ab t.l.length cb)).toArray from rfl]
  have r0 : (w.alloc (.cells (rqR t (.slice ab t.l.length cb)).toArray 31)).rangeAt w.heap.size 0 (sR ⟨0, 0⟩) := HX0.out.range 0 (sR ⟨0, 0⟩) rfl
  have hs0 : (w.alloc (.cells (rqR t (.slice ab t.l.length cb)).toArray 31)).heap.size = w.heap.size + 1 := by simp
  have hs1 : ((w.alloc (.cells (rqR t (.slice ab t.l.length cb)).toArray 31)).alloc (.cells (sR ⟨0, 0⟩).toArray 27)).heap.size = w.heap.size + 1 + 1 := by simp
  have hba : Below (w.alloc (.cells (rqR t (.slice ab t.l.length cb)).toArray 31)).heap.size (w.alloc (.cells (rqR t (.slice ab t.l.length cb)).toArray 31)) ((w.alloc (.cells (rqR t (.slice ab t.l.length cb)).toArray 31)).alloc (.cells (sR ⟨0, 0⟩).toArray 27)) := (Below.refl _ _).alloc (Nat.le_refl _) _
  have hbb : Below ((w.alloc (.cells (rqR t (.slice ab t.l.length cb)).toArray 31)).alloc (.cells (sR ⟨0, 0⟩).toArray 27)).heap.size ((w.alloc (.cells (rqR t (.slice ab t.l.length cb)).toArray 31)).alloc (.cells (sR ⟨0, 0⟩).toArray 27)) (((w.alloc (.cells (rqR t (.slice ab t.l.length cb)).toArray 31)).alloc (.cells (sR ⟨0, 0⟩).toArray 27)).alloc (.cells (sR allO).toArray 27)) := (Below.refl _ _).alloc (Nat.le_refl _) _
  have hbab := below_up hba hbb hba.size
  have hIB := isS_new ((w.alloc (.cells (rqR t (.slice ab t.l.length cb)).toArray 31)).alloc (.cells (sR ⟨0, 0⟩).toArray 27)) [allO] (by simp) _ rfl
  rw [hs1] at hIB
  have HXB := Lib.hid (HX0.out.up hbab)
  have HBB := Lib.hid (below_up hb0 hbab hb0.size)
  have HCA := Lib.hid (rcut_any _ [allO] t.a1 (((w.alloc (.cells (rqR t (.slice ab t.l.length cb)).toArray 31)).alloc (.cells (sR ⟨0, 0⟩).toArray 27)).alloc (.cells (sR allO).toArray 27)) hIB (by simp))
  have rb := (rq_ar HXB.out).1
  clear hb0 hba hbb hbab hIB hkl hg
  go_enter Try.func49, Try.ntmps49
  go_wp2_with (first
    | (refine plV rfl (sV ⟨0, 0⟩) (exec_load_any 27 (.tmp 27) rfl w.heap.size 0 (sR ⟨0, 0⟩) _ rfl r0 Try.underlying27 rfl sp_info) ?_)
    | (refine plV rfl (.slice (some ⟨w.heap.size + 1, 0, none⟩) 1 1) (exec_one_spb (.tmp 28) rfl ⟨0, 0⟩ rfl _ hs0) ?_)
    | (refine plV rfl (sV allO) (exec_build2 _ 0 1 _ _ rfl _ _ (sR allO) rfl rfl (built_sp2 _ _)) ?_)
    | (refine plV rfl (.slice (some ⟨w.heap.size + 1 + 1, 0, none⟩) 1 1) (exec_one_spb (.tmp 32) rfl allO rfl _ hs1) ?_)
    | (refine plV rfl (sV t.a1) (exec_load_any 27 (.tmp 35) rfl w.heap.size 2 (sR t.a1) _ rfl rb Try.underlying27 rfl sp_info) ?_)
    | (go_at_call 76; refine HCA.out.mono ?_; rintro e w3 ⟨v3, rfl, i3, b3⟩; refine Hid.out ?_))
  refine Lib.hid ?_
  have HX3 := Lib.hid (HXB.out.up b3)
  have HB3 := Lib.hid (below_up HBB.out b3 HBB.out.size)
  obtain ⟨q2, q4, _⟩ := rq_ar HX3.out
  have y2 := rng0 q2
  have y4 := rng0 q4
  have ha4 : Below w3.heap.size w3 (w3.alloc (.cells (sR allO).toArray 27)) := (Below.refl _ _).alloc (Nat.le_refl _) _
  have HIC := Lib.hid (isS_new w3 [allO] (by simp) _ rfl)
  have HXC := Lib.hid (HX3.out.up ha4)
  have HBC := Lib.hid (below_up HB3.out ha4 HB3.out.size)
  have q4c := (rq_ar HXC.out).2.1
  have y4c := rng0 q4c
  clear r0 r2 r4 rb x2 x4 hs0 hs1 b3 i3 ha4
  have HCB := Lib.hid (rcut_any _ ([allO]) t.a2 (w3.alloc (.cells (sR allO).toArray 27)) HIC.out (by simp))
  go_wp2_with (first
    | (refine plV rfl (sV allO) (exec_build2 _ 0 1 _ _ rfl _ _ (sR allO) rfl rfl (built_sp2 _ _)) ?_)
    | (refine plV rfl (.slice (some ⟨w3.heap.size, 0, none⟩) 1 1) (exec_one_spb (.tmp 43) rfl allO rfl _ rfl) ?_)
    | (refine plV rfl (sV t.a2) (exec_load_any 27 (.tmp 52) rfl w.heap.size 4 (sR t.a2) _ rfl q4c Try.underlying27 rfl sp_info) ?_)
    | (go_at_call 76; refine HCB.out.mono ?_; rintro e w4 ⟨v4, rfl, i4, b4⟩; refine Hid.out ?_))
  refine Lib.hid ?_
  have HI4 := Lib.hid (show IsS w4 v4 (cutAll (t.base 0) (t.l.take 0)) by rw [HBS.out]; exact i4)
  have HX4 := Lib.hid (HXC.out.up b4)
  have HB4 := Lib.hid (below_up HBC.out b4 HBC.out.size)
  clear i4 b4
  go_wp2
  go_loopw [5, 6] (fun vo i wr => ∃ j : Nat, j ≤ t.l.length ∧ i = .int .i64 (j : Int) ∧ Hid (IsS wr vo (cutAll (t.base (0 : Int)) (t.l.take j))) ∧ Below w4.heap.size w4 wr) (fun _ i _ => t.l.length - (intOf i).toNat)
  case atStart => exact ⟨0, Nat.zero_le _, rfl, HI4, Below.refl _ _⟩
  case round =>
    obtain ⟨j, hj, rfl, HIJ, hbel⟩ := hrel
    have hX := HX4.out.up hbel
    have c6 : wr.cell? ⟨w.heap.size, 6, none⟩ = some (.slice ab t.l.length cb) := (rq_ar hX).2.2
    have hln := cutAll_len (t.l.take j) HBA.out.2.may HBA.out.2
    have hl2 : (t.l.take j).length ≤ 1000 := by rw [List.length_take]; omega
    have hl3 : (cutAll (t.base (0 : Int)) (t.l.take j)).length ≤ 4 * 1001 := Nat.le_trans hln (Nat.mul_le_mul HBA.out.1 (by omega))
    by_cases hlt : j < t.l.length
    · have hlti : (j : Int) < (t.l.length : Int) := by omega
      have h0k : (0 : Int) ≤ (j : Int) := by omega
      obtain ⟨x, hx⟩ : ∃ x, t.l[j]? = some x := ⟨t.l[j], List.getElem?_eq_getElem hlt⟩
      obtain ⟨bb, bo, rfl, hbb⟩ : ∃ bb bo, ab = some ⟨bb, bo, none⟩ ∧ bb < w.heap.size := by
        obtain ⟨_, _, _, h4⟩ := HK.out.shape
        obtain ⟨b, o, e1, e2, _⟩ := h4 (by omega)
        exact ⟨b, o, e1, e2⟩
      have hr := rq_blk (HK.out.below (below_up HB4.out hbel HB4.out.size)) j x hx
      have HNX := Lib.hid (cutAll_next (l := t.base (0 : Int)) hx)
      have HCU := Lib.hid (fun v (hv : IsS wr v (cutAll (t.base (0 : Int)) (t.l.take j))) => rcut_any v _ x.s wr hv (by omega))
      have HCT := Lib.hid (HCU.out _ HIJ.out)
      have HBW := Lib.hid hbel
      clear hx hX hln hl3 hbel HCU
      go_wp2_with (first
        | (refine plV rfl (sV x.s) (exec_load_any 27 (.tmp 67) rfl bb (bo + j * 4) (sR x.s) _ rfl hr Try.underlying27 rfl sp_info) ?_)
        | (go_at_call 76; refine HCT.out.mono ?_; rintro e w5 ⟨v5, rfl, i5, b5⟩; refine Hid.out ?_))
      refine Lib.hid ?_
      have HI5 := Lib.hid (show IsS w5 v5 (cutAll (t.base (0 : Int)) (t.l.take (j + 1))) by rw [HNX.out]; exact i5)
      have HB5 := Lib.hid (below_up HBW.out b5 HBW.out.size)
      clear i5 b5
      go_wp2
      go_roundw
      case rel => exact ⟨j + 1, by omega, rfl, HI5, HB5.out⟩
      case measure => simp only [intOf]; omega
    · have hke : j = t.l.length := by omega
      subst hke
      rw [List.take_of_length_le (Nat.le_refl _)] at HIJ
      have hlti : ¬ ((t.l.length : Int) < (t.l.length : Int)) := by omega
      have HR := Lib.hid (show ∀ v, IsS wr v (cutAll (t.base (0 : Int)) t.l) → IsS wr v (t.left (0 : Int)) ∧ Below w.heap.size w wr from fun v hv => ⟨by rw [HLF.out]; exact hv, below_up HB4.out hbel HB4.out.size⟩)
      have HF := Lib.hid (HR.out _ HIJ.out)
      obtain ⟨ax, cx, hvx, hcx⟩ := IsS.form HIJ.out
      subst hvx
      clear hX hln hl3 hbel
      go_wp2
      go_ret
      exact ⟨_, rfl, HF.out⟩
set_option maxRecDepth 100000 in
set_option maxHeartbeats 4000000 in
theorem rleft0_yz (t : SpS) (vl : Value) (w : World) (hwf : WF t) (hln1 : t.l.length ≤ 1000) (hkl : IsK w vl t.l) (hf1 : t.a1.f ≠ 0) (hf2 : t.a2.f = 0) :
    Calls Try.prog 49 #[rqV t vl, .int .i64 (0 : Int)] w fun e w' => ∃ v', e = .returned v' ∧ IsS w' v' (t.left 0) ∧ Below w.heap.size w w' := by
  have hg : t.gone 0 = false := by unfold SpS.gone; simp
  have HLF := Lib.hid (left_of hg)
  have HBA := Lib.hid (base_len hwf hg)
  have HBS := Lib.hid (show t.base 0 = cutS [allO] t.a1 by
    unfold SpS.base cutIf
    rw [if_pos rfl, if_pos hf2, if_neg hf1])
  have hlb1 := cutS_length [allO] t.a1
  have hp2 : ¬ 0 < t.a2.f := by
    omega
  have HK := Lib.hid hkl
  obtain ⟨ab, cb, hvb, hcb⟩ := hkl.form
  subst hvb
  have hb0 : Below w.heap.size w (w.alloc (.cells (rqR t (.slice ab t.l.length cb)).toArray 31)) := (Below.refl _ _).alloc (Nat.le_refl _) _
  have HX0 := Lib.hid (Bx.new w 31 (rqR t (.slice ab t.l.length cb)))
  have HB0 := Lib.hid hb0
  obtain ⟨r2, r4, _⟩ := rq_ar HX0.out
  have x2 := rng0 r2
  have x4 := rng0 r4
  rw [show rqV t (.slice ab t.l.length cb) = .agg (rqR t (.slice ab t.l.length cb)).toArray from rfl]
  have r0 : (w.alloc (.cells (rqR t (.slice ab t.l.length cb)).toArray 31)).rangeAt w.heap.size 0 (sR ⟨0, 0⟩) := HX0.out.range 0 (sR ⟨0, 0⟩) rfl
  have hs0 : (w.alloc (.cells (rqR t (.slice ab t.l.length cb)).toArray 31)).heap.size = w.heap.size + 1 := by simp
  have hs1 : ((w.alloc (.cells (rqR t (.slice ab t.l.length cb)).toArray 31)).alloc (.cells (sR ⟨0, 0⟩).toArray 27)).heap.size = w.heap.size + 1 + 1 := by simp
  have hba : Below (w.alloc (.cells (rqR t (.slice ab t.l.length cb)).toArray 31)).heap.size (w.alloc (.cells (rqR t (.slice ab t.l.length cb)).toArray 31)) ((w.alloc (.cells (rqR t (.slice ab t.l.length cb)).toArray 31)).alloc (.cells (sR ⟨0, 0⟩).toArray 27)) := (Below.refl _ _).alloc (Nat.le_refl _) _
  have hbb : Below ((w.alloc (.cells (rqR t (.slice ab t.l.length cb)).toArray 31)).alloc (.cells (sR ⟨0, 0⟩).toArray 27)).heap.size ((w.alloc (.cells (rqR t (.slice ab t.l.length cb)).toArray 31)).alloc (.cells (sR ⟨0, 0⟩).toArray 27)) (((w.alloc (.cells (rqR t (.slice ab t.l.length cb)).toArray 31)).alloc (.cells (sR ⟨0, 0⟩).toArray 27)).alloc (.cells (sR allO).toArray 27)) := (Below.refl _ _).alloc (Nat.le_refl _) _
  have hbab := below_up hba hbb hba.size
  have hIB := isS_new ((w.alloc (.cells (rqR t (.slice ab t.l.length cb)).toArray 31)).alloc (.cells (sR ⟨0, 0⟩).toArray 27)) [allO] (by simp) _ rfl
  rw [hs1] at hIB
  have HXB := Lib.hid (HX0.out.up hbab)
  have HBB := Lib.hid (below_up hb0 hbab hb0.size)
  have HCA := Lib.hid (rcut_any _ [allO] t.a1 (((w.alloc (.cells (rqR t (.slice ab t.l.length cb)).toArray 31)).alloc (.cells (sR ⟨0, 0⟩).toArray 27)).alloc (.cells (sR allO).toArray 27)) hIB (by simp))
  have rb := (rq_ar HXB.out).1
  clear hb0 hba hbb hbab hIB hkl hg
  have hf1b : (t.a1.f == 0) = false := by simpa using hf1
  go_enter Try.func49, Try.ntmps49
  go_wp2_with (first
    | (refine plV rfl (sV ⟨0, 0⟩) (exec_load_any 27 (.tmp 27) rfl w.heap.size 0 (sR ⟨0, 0⟩) _ rfl r0 Try.underlying27 rfl sp_info) ?_)
    | (refine plV rfl (.slice (some ⟨w.heap.size + 1, 0, none⟩) 1 1) (exec_one_spb (.tmp 28) rfl ⟨0, 0⟩ rfl _ hs0) ?_)
    | (refine plV rfl (sV allO) (exec_build2 _ 0 1 _ _ rfl _ _ (sR allO) rfl rfl (built_sp2 _ _)) ?_)
    | (refine plV rfl (.slice (some ⟨w.heap.size + 1 + 1, 0, none⟩) 1 1) (exec_one_spb (.tmp 32) rfl allO rfl _ hs1) ?_)
    | (refine plV rfl (sV t.a1) (exec_load_any 27 (.tmp 35) rfl w.heap.size 2 (sR t.a1) _ rfl rb Try.underlying27 rfl sp_info) ?_)
    | (go_at_call 76; refine HCA.out.mono ?_; rintro e w3 ⟨v3, rfl, i3, b3⟩; refine Hid.out ?_))
  refine Lib.hid ?_
  have HX3 := Lib.hid (HXB.out.up b3)
  have HB3 := Lib.hid (below_up HBB.out b3 HBB.out.size)
  obtain ⟨q2, q4, _⟩ := rq_ar HX3.out
  have y2 := rng0 q2
  have y4 := rng0 q4
  have HIC := Lib.hid i3
  have HXC := HX3
  have HBC := HB3
  clear r0 r2 r4 rb x2 x4 hs0 hs1 b3 i3
  go_wp2
  have HI4 := Lib.hid (show IsS (w3) v3 (cutAll (t.base 0) (t.l.take 0)) by rw [HBS.out]; exact HIC.out)
  have HX4 := HXC
  have HB4 := HBC
  obtain ⟨w4, hw4⟩ : ∃ w4, w3 = w4 := ⟨_, rfl⟩
  subst hw4
  go_loopw [5, 6] (fun vo i wr => ∃ j : Nat, j ≤ t.l.length ∧ i = .int .i64 (j : Int) ∧ Hid (IsS wr vo (cutAll (t.base (0 : Int)) (t.l.take j))) ∧ Below w3.heap.size w3 wr) (fun _ i _ => t.l.length - (intOf i).toNat)
  case atStart => exact ⟨0, Nat.zero_le _, rfl, HI4, Below.refl _ _⟩
  case round =>
    obtain ⟨j, hj, rfl, HIJ, hbel⟩ := hrel
    have hX := HX4.out.up hbel
    have c6 : wr.cell? ⟨w.heap.size, 6, none⟩ = some (.slice ab t.l.length cb) := (rq_ar hX).2.2
    have hln := cutAll_len (t.l.take j) HBA.out.2.may HBA.out.2
    have hl2 : (t.l.take j).length ≤ 1000 := by rw [List.length_take]; omega
    have hl3 : (cutAll (t.base (0 : Int)) (t.l.take j)).length ≤ 4 * 1001 := Nat.le_trans hln (Nat.mul_le_mul HBA.out.1 (by omega))
    by_cases hlt : j < t.l.length
    · have hlti : (j : Int) < (t.l.length : Int) := by omega
      have h0k : (0 : Int) ≤ (j : Int) := by omega
      obtain ⟨x, hx⟩ : ∃ x, t.l[j]? = some x := ⟨t.l[j], List.getElem?_eq_getElem hlt⟩
      obtain ⟨bb, bo, rfl, hbb⟩ : ∃ bb bo, ab = some ⟨bb, bo, none⟩ ∧ bb < w.heap.size := by
        obtain ⟨_, _, _, h4⟩ := HK.out.shape
        obtain ⟨b, o, e1, e2, _⟩ := h4 (by omega)
        exact ⟨b, o, e1, e2⟩
      have hr := rq_blk (HK.out.below (below_up HB4.out hbel HB4.out.size)) j x hx
      have HNX := Lib.hid (cutAll_next (l := t.base (0 : Int)) hx)
      have HCU := Lib.hid (fun v (hv : IsS wr v (cutAll (t.base (0 : Int)) (t.l.take j))) => rcut_any v _ x.s wr hv (by omega))
      have HCT := Lib.hid (HCU.out _ HIJ.out)
      have HBW := Lib.hid hbel
      clear hx hX hln hl3 hbel HCU
      go_wp2_with (first
        | (refine plV rfl (sV x.s) (exec_load_any 27 (.tmp 67) rfl bb (bo + j * 4) (sR x.s) _ rfl hr Try.underlying27 rfl sp_info) ?_)
        | (go_at_call 76; refine HCT.out.mono ?_; rintro e w5 ⟨v5, rfl, i5, b5⟩; refine Hid.out ?_))
      refine Lib.hid ?_
      have HI5 := Lib.hid (show IsS w5 v5 (cutAll (t.base (0 : Int)) (t.l.take (j + 1))) by rw [HNX.out]; exact i5)
      have HB5 := Lib.hid (below_up HBW.out b5 HBW.out.size)
      clear i5 b5
      go_wp2
      go_roundw
      case rel => exact ⟨j + 1, by omega, rfl, HI5, HB5.out⟩
      case measure => simp only [intOf]; omega
    · have hke : j = t.l.length := by omega
      subst hke
      rw [List.take_of_length_le (Nat.le_refl _)] at HIJ
      have hlti : ¬ ((t.l.length : Int) < (t.l.length : Int)) := by omega
      have HR := Lib.hid (show ∀ v, IsS wr v (cutAll (t.base (0 : Int)) t.l) → IsS wr v (t.left (0 : Int)) ∧ Below w.heap.size w wr from fun v hv => ⟨by rw [HLF.out]; exact hv, below_up HB4.out hbel HB4.out.size⟩)
      have HF := Lib.hid (HR.out _ HIJ.out)
      obtain ⟨ax, cx, hvx, hcx⟩ := IsS.form HIJ.out
      subst hvx
      clear hX hln hl3 hbel
      go_wp2
      go_ret
      exact ⟨_, rfl, HF.out⟩
set_option maxRecDepth 100000 in
set_option maxHeartbeats 4000000 in
theorem rleft0_yy (t : SpS) (vl : Value) (w : World) (hwf : WF t) (hln1 : t.l.length ≤ 1000) (hkl : IsK w vl t.l) (hf1 : t.a1.f ≠ 0) (hf2 : t.a2.f ≠ 0) :
    Calls Try.prog 49 #[rqV t vl, .int .i64 (0 : Int)] w fun e w' => ∃ v', e = .returned v' ∧ IsS w' v' (t.left 0) ∧ Below w.heap.size w w' := by
  have hg : t.gone 0 = false := by unfold SpS.gone; simp
  have HLF := Lib.hid (left_of hg)
  have HBA := Lib.hid (base_len hwf hg)
  have HBS := Lib.hid (show t.base 0 = cutS (cutS [allO] t.a1) t.a2 by
    unfold SpS.base cutIf
    rw [if_pos rfl, if_neg hf2, if_neg hf1])
  have hlb1 := cutS_length [allO] t.a1
  have hp2 : 0 < t.a2.f := by
    rcases hwf.o2 with h9 | h9
    · rw [h9] at hf2; exact absurd rfl hf2
    · unfold mayO at h9; omega
  have HK := Lib.hid hkl
  obtain ⟨ab, cb, hvb, hcb⟩ := hkl.form
  subst hvb
  have hb0 : Below w.heap.size w (w.alloc (.cells (rqR t (.slice ab t.l.length cb)).toArray 31)) := (Below.refl _ _).alloc (Nat.le_refl _) _
  have HX0 := Lib.hid (Bx.new w 31 (rqR t (.slice ab t.l.length cb)))
  have HB0 := Lib.hid hb0
  obtain ⟨r2, r4, _⟩ := rq_ar HX0.out
  have x2 := rng0 r2
  have x4 := rng0 r4
  rw [show rqV t (.slice ab t.l.length cb) = .agg (rqR t (.slice ab t.l.length cb)).toArray from rfl]
  have r0 : (w.alloc (.cells (rqR t (.slice ab t.l.length cb)).toArray 31)).rangeAt w.heap.size 0 (sR ⟨0, 0⟩) := HX0.out.range 0 (sR ⟨0, 0⟩) rfl
  have hs0 : (w.alloc (.cells (rqR t (.slice ab t.l.length cb)).toArray 31)).heap.size = w.heap.size + 1 := by simp
  have hs1 : ((w.alloc (.cells (rqR t (.slice ab t.l.length cb)).toArray 31)).alloc (.cells (sR ⟨0, 0⟩).toArray 27)).heap.size = w.heap.size + 1 + 1 := by simp
  have hba : Below (w.alloc (.cells (rqR t (.slice ab t.l.length cb)).toArray 31)).heap.size (w.alloc (.cells (rqR t (.slice ab t.l.length cb)).toArray 31)) ((w.alloc (.cells (rqR t (.slice ab t.l.length cb)).toArray 31)).alloc (.cells (sR ⟨0, 0⟩).toArray 27)) := (Below.refl _ _).alloc (Nat.le_refl _) _
  have hbb : Below ((w.alloc (.cells (rqR t (.slice ab t.l.length cb)).toArray 31)).alloc (.cells (sR ⟨0, 0⟩).toArray 27)).heap.size ((w.alloc (.cells (rqR t (.slice ab t.l.length cb)).toArray 31)).alloc (.cells (sR ⟨0, 0⟩).toArray 27)) (((w.alloc (.cells (rqR t (.slice ab t.l.length cb)).toArray 31)).alloc (.cells (sR ⟨0, 0⟩).toArray 27)).alloc (.cells (sR allO).toArray 27)) := (Below.refl _ _).alloc (Nat.le_refl _) _
  have hbab := below_up hba hbb hba.size
  have hIB := isS_new ((w.alloc (.cells (rqR t (.slice ab t.l.length cb)).toArray 31)).alloc (.cells (sR ⟨0, 0⟩).toArray 27)) [allO] (by simp) _ rfl
  rw [hs1] at hIB
  have HXB := Lib.hid (HX0.out.up hbab)
  have HBB := Lib.hid (below_up hb0 hbab hb0.size)
  have HCA := Lib.hid (rcut_any _ [allO] t.a1 (((w.alloc (.cells (rqR t (.slice ab t.l.length cb)).toArray 31)).alloc (.cells (sR ⟨0, 0⟩).toArray 27)).alloc (.cells (sR allO).toArray 27)) hIB (by simp))
  have rb := (rq_ar HXB.out).1
  clear hb0 hba hbb hbab hIB hkl hg
  have hf1b : (t.a1.f == 0) = false := by simpa using hf1
  go_enter Try.func49, Try.ntmps49
  go_wp2_with (first
    | (refine plV rfl (sV ⟨0, 0⟩) (exec_load_any 27 (.tmp 27) rfl w.heap.size 0 (sR ⟨0, 0⟩) _ rfl r0 Try.underlying27 rfl sp_info) ?_)
    | (refine plV rfl (.slice (some ⟨w.heap.size + 1, 0, none⟩) 1 1) (exec_one_spb (.tmp 28) rfl ⟨0, 0⟩ rfl _ hs0) ?_)
    | (refine plV rfl (sV allO) (exec_build2 _ 0 1 _ _ rfl _ _ (sR allO) rfl rfl (built_sp2 _ _)) ?_)
    | (refine plV rfl (.slice (some ⟨w.heap.size + 1 + 1, 0, none⟩) 1 1) (exec_one_spb (.tmp 32) rfl allO rfl _ hs1) ?_)
    | (refine plV rfl (sV t.a1) (exec_load_any 27 (.tmp 35) rfl w.heap.size 2 (sR t.a1) _ rfl rb Try.underlying27 rfl sp_info) ?_)
    | (go_at_call 76; refine HCA.out.mono ?_; rintro e w3 ⟨v3, rfl, i3, b3⟩; refine Hid.out ?_))
  refine Lib.hid ?_
  have HX3 := Lib.hid (HXB.out.up b3)
  have HB3 := Lib.hid (below_up HBB.out b3 HBB.out.size)
  obtain ⟨q2, q4, _⟩ := rq_ar HX3.out
  have y2 := rng0 q2
  have y4 := rng0 q4
  have HIC := Lib.hid i3
  have HXC := HX3
  have HBC := HB3
  clear r0 r2 r4 rb x2 x4 hs0 hs1 b3 i3
  have HCB := Lib.hid (rcut_any _ (cutS [allO] t.a1) t.a2 (w3) HIC.out (by simp only [List.length_singleton] at hlb1; omega))
  go_wp2_with (first
    | (refine plV rfl (sV t.a2) (exec_load_any 27 (.tmp 52) rfl w.heap.size 4 (sR t.a2) _ rfl q4 Try.underlying27 rfl sp_info) ?_)
    | (go_at_call 76; refine HCB.out.mono ?_; rintro e w4 ⟨v4, rfl, i4, b4⟩; refine Hid.out ?_))
  refine Lib.hid ?_
  have HI4 := Lib.hid (show IsS w4 v4 (cutAll (t.base 0) (t.l.take 0)) by rw [HBS.out]; exact i4)
  have HX4 := Lib.hid (HXC.out.up b4)
  have HB4 := Lib.hid (below_up HBC.out b4 HBC.out.size)
  clear i4 b4
  go_wp2
  go_loopw [5, 6] (fun vo i wr => ∃ j : Nat, j ≤ t.l.length ∧ i = .int .i64 (j : Int) ∧ Hid (IsS wr vo (cutAll (t.base (0 : Int)) (t.l.take j))) ∧ Below w4.heap.size w4 wr) (fun _ i _ => t.l.length - (intOf i).toNat)
  case atStart => exact ⟨0, Nat.zero_le _, rfl, HI4, Below.refl _ _⟩
  case round =>
    obtain ⟨j, hj, rfl, HIJ, hbel⟩ := hrel
    have hX := HX4.out.up hbel
    have c6 : wr.cell? ⟨w.heap.size, 6, none⟩ = some (.slice ab t.l.length cb) := (rq_ar hX).2.2
    have hln := cutAll_len (t.l.take j) HBA.out.2.may HBA.out.2
    have hl2 : (t.l.take j).length ≤ 1000 := by rw [List.length_take]; omega
    have hl3 : (cutAll (t.base (0 : Int)) (t.l.take j)).length ≤ 4 * 1001 := Nat.le_trans hln (Nat.mul_le_mul HBA.out.1 (by omega))
    by_cases hlt : j < t.l.length
    · have hlti : (j : Int) < (t.l.length : Int) := by omega
      have h0k : (0 : Int) ≤ (j : Int) := by omega
      obtain ⟨x, hx⟩ : ∃ x, t.l[j]? = some x := ⟨t.l[j], List.getElem?_eq_getElem hlt⟩
      obtain ⟨bb, bo, rfl, hbb⟩ : ∃ bb bo, ab = some ⟨bb, bo, none⟩ ∧ bb < w.heap.size := by
        obtain ⟨_, _, _, h4⟩ := HK.out.shape
        obtain ⟨b, o, e1, e2, _⟩ := h4 (by omega)
        exact ⟨b, o, e1, e2⟩
      have hr := rq_blk (HK.out.below (below_up HB4.out hbel HB4.out.size)) j x hx
      have HNX := Lib.hid (cutAll_next (l := t.base (0 : Int)) hx)
      have HCU := Lib.hid (fun v (hv : IsS wr v (cutAll (t.base (0 : Int)) (t.l.take j))) => rcut_any v _ x.s wr hv (by omega))
      have HCT := Lib.hid (HCU.out _ HIJ.out)
      have HBW := Lib.hid hbel
      clear hx hX hln hl3 hbel HCU
      go_wp2_with (first
        | (refine plV rfl (sV x.s) (exec_load_any 27 (.tmp 67) rfl bb (bo + j * 4) (sR x.s) _ rfl hr Try.underlying27 rfl sp_info) ?_)
        | (go_at_call 76; refine HCT.out.mono ?_; rintro e w5 ⟨v5, rfl, i5, b5⟩; refine Hid.out ?_))
      refine Lib.hid ?_
      have HI5 := Lib.hid (show IsS w5 v5 (cutAll (t.base (0 : Int)) (t.l.take (j + 1))) by rw [HNX.out]; exact i5)
      have HB5 := Lib.hid (below_up HBW.out b5 HBW.out.size)
      clear i5 b5
      go_wp2
      go_roundw
      case rel => exact ⟨j + 1, by omega, rfl, HI5, HB5.out⟩
      case measure => simp only [intOf]; omega
    · have hke : j = t.l.length := by omega
      subst hke
      rw [List.take_of_length_le (Nat.le_refl _)] at HIJ
      have hlti : ¬ ((t.l.length : Int) < (t.l.length : Int)) := by omega
      have HR := Lib.hid (show ∀ v, IsS wr v (cutAll (t.base (0 : Int)) t.l) → IsS wr v (t.left (0 : Int)) ∧ Below w.heap.size w wr from fun v hv => ⟨by rw [HLF.out]; exact hv, below_up HB4.out hbel HB4.out.size⟩)
      have HF := Lib.hid (HR.out _ HIJ.out)
      obtain ⟨ax, cx, hvx, hcx⟩ := IsS.form HIJ.out
      subst hvx
      clear hX hln hl3 hbel
      go_wp2
      go_ret
      exact ⟨_, rfl, HF.out⟩
set_option maxRecDepth 100000 in
set_option maxHeartbeats 1000000 in
theorem rleftn_any (t : SpS) (vl : Value) (k : Int) (w : World) (hk : k = 1 ∨ k = 2) (hf : (t.ar k).f = 0) : Calls Try.prog 49 #[rqV t vl, .int .i64 k] w fun e w' => e = .returned (.slice none 0 0) ∧ Below w.heap.size w w' := by
  have HB := Lib.hid ((Below.refl w.heap.size w).alloc (Nat.le_refl _) (.cells (rqR t vl).toArray 31))
  obtain ⟨r2, r4, _⟩ := rq_ar (Bx.new w 31 (rqR t vl))
  have x2 := rng0 r2
  have x4 := rng0 r4
  rw [show rqV t vl = .agg (rqR t vl).toArray from rfl]
  rcases hk with rfl | rfl
  · rw [show (t.ar 1) = t.a1 from rfl] at hf
    rw [hf] at x2
    clear r2 r4
    go_enter Try.func49, Try.ntmps49
    go_wp2
    go_ret
    exact ⟨rfl, HB.out⟩
  · rw [show (t.ar 2) = t.a2 from rfl] at hf
    rw [hf] at x4
    clear r2 r4
    go_enter Try.func49, Try.ntmps49
    go_wp2
    go_ret
    exact ⟨rfl, HB.out⟩
theorem rleft_any (t : SpS) (vl : Value) (k : Int) (w : World) (hwf : WF t) (hln1 : t.l.length ≤ 1000) (hkl : IsK w vl t.l) :
    Calls Try.prog 49 #[rqV t vl, .int .i64 k] w fun e w' => ∃ v', e = .returned v' ∧ IsS w' v' (t.left k) ∧ Below w.heap.size w w' := by
  have hnil : t.gone k = true → t.left k = [] := fun h => by unfold SpS.left; rw [if_pos h]
  by_cases h0 : k < 0 ∨ 2 < k
  · refine (rleft0_any t vl k w h0).mono ?_
    rintro e w' ⟨rfl, h2⟩
    refine ⟨_, rfl, ?_, h2⟩
    rw [hnil (by unfold SpS.gone; simp; omega)]
    exact IsC.nil _
  · by_cases h1 : k = 0
    · subst h1
      by_cases f1 : t.a1.f = 0 <;> by_cases f2 : t.a2.f = 0
      · exact rleft0_zz t vl w hwf hln1 hkl f1 f2
      · exact rleft0_zy t vl w hwf hln1 hkl f1 f2
      · exact rleft0_yz t vl w hwf hln1 hkl f1 f2
      · exact rleft0_yy t vl w hwf hln1 hkl f1 f2
    · have hk : k = 1 ∨ k = 2 := by omega
      by_cases hf : (t.ar k).f = 0
      · refine (rleftn_any t vl k w hk hf).mono ?_
        rintro e w' ⟨rfl, h2⟩
        refine ⟨_, rfl, ?_, h2⟩
        rw [hnil (by unfold SpS.gone; simp; exact .inr ⟨by omega, hf⟩)]
        exact IsC.nil _
      · rcases hk with rfl | rfl
        · exact rleft1_any t vl w hwf hln1 hkl hf
        · exact rleft2_any t vl w hwf hln1 hkl hf
end Go.Proofs.Ytgelbeglffjdaaa
