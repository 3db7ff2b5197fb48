/- Proved: for every input of its types ColonOf returns true, and what was handed in reads behind the call as it did. Conditions: the listed library tables hold what the program's own text lays in them (the card ties that). -/
import Derived.Test.YteomoipbjkafgaaDoorLift7
import Derived.Test.YteomoipbjkafgaaDoorLiftA
import Derived.Test.YteomoipbjkafgaaDoorLaw7Of
namespace Go.Proofs.YteomoipbjkafgaaDoor.colonOf
open Go Go.ChangeShapes Go.WideShapes Go.ChangeAt Go.RowKit
open Go.ChangeMaps (open_string shut_string)
set_option linter.unusedVariables false

set_option maxRecDepth 100000 in
theorem lifted (os : Os) (started : os.Started) (H : Type) (enc : TypeId × Value → H) :
    ReturnsInHanded {} Tryd.checked os 5 .any (fun w args => (Rows.colonOfSpec.pre enc Tryd.prog Tryd.f5 [] false w args ∧ laidMetH Tryd.prog laidAll w) ∧ sizedMet enc Tryd.prog Tryd.f5 (OpenSpec.ofChange Rows.colonOfSpec) false w args)
      (Rows.colonOfSpec.post enc Tryd.prog Tryd.f5 false true false false) := by
  refine handed_laid_shaped (C := Tryd.checked) (X := fun w _ => laidMetH Tryd.prog laidAll w) (fun _ _ _ hh h => h.of_heap hh) own started (by kernel_rfl) Tryd.func5
    (ChangeSpec.witness_shaped (enc := enc) (C := Tryd.checked) (os := os) (X := fun w _ => laidMetH Tryd.prog laidAll w) false (World.doorLaid Tryd.prog 400 os) #[.agg #[.int .i64 0, .int .i64 0, .int .i64 0, .int .i64 0, .int .i64 0, .int .i64 0, .int .i64 0, .int .i64 0]] 8 rfl (World.shaped_of_RefB (by kernel_rfl) (by kernel_rfl)) (by kernel_rfl) (by kernel_rfl) (by kernel_rfl) (door_met os _)) ?_
  intro W base args ds gs before hval0 hW hL hSH
  have hval : ∀ (j : Nat) t v, Tryd.f5.params[j]? = some t → args[j]? = some v → Value.okWide Tryd.prog W .any base t v := hval0
  have hW' := hW
  obtain ⟨p, q, hA0, hV, rfl, hfz, hnd⟩ := hW
  have hA : DataW.TrodAll enc Tryd.prog W 0 (fun _ => true) true Tryd.f5.params.toList args.toList ds p := hA0
  rw [Tryd.params5] at hA hval
  obtain ⟨v0, vs0, d0, ds0, p0, q0, hargs, rfl, rfl, h0, r0⟩ := trodAll_cons hA
  obtain ⟨rfl, rfl, rfl⟩ := trodAll_nil r0
  obtain rfl : args = #[v0] := by cases args; simp_all
  obtain ⟨rfl, rfl⟩ := trodVars_none hV
  have k0 := h0
  have lt0 : ∀ x ∈ p0, x.block < W.heap.size := by obtain ⟨m, hm⟩ := k0; exact DataW.trod_lt m _ _ _ hm
  obtain ⟨cs0, nn0, rfl, sz0, rd0⟩ := arr_reads Tryd.underlying25 (by kernel_rfl) (by kernel_rfl) (hval 0 25 v0 rfl rfl) h0
  obtain ⟨c0_0, c0_1, c0_2, c0_3, c0_4, c0_5, c0_6, c0_7, rfl⟩ := array8 (sz0.trans (by kernel_rfl))
  obtain ⟨y0_0, g0_0⟩ := rd0 0 _ rfl
  obtain ⟨n0_0, e0_0, _, w0_0⟩ := DataW.trod_int Tryd.underlying3 g0_0
  simp only [List.cons.injEq, and_true] at e0_0
  subst e0_0
  have u0_0 := bounds_i64 w0_0
  obtain ⟨y0_1, g0_1⟩ := rd0 1 _ rfl
  obtain ⟨n0_1, e0_1, _, w0_1⟩ := DataW.trod_int Tryd.underlying3 g0_1
  simp only [List.cons.injEq, and_true] at e0_1
  subst e0_1
  have u0_1 := bounds_i64 w0_1
  obtain ⟨y0_2, g0_2⟩ := rd0 2 _ rfl
  obtain ⟨n0_2, e0_2, _, w0_2⟩ := DataW.trod_int Tryd.underlying3 g0_2
  simp only [List.cons.injEq, and_true] at e0_2
  subst e0_2
  have u0_2 := bounds_i64 w0_2
  obtain ⟨y0_3, g0_3⟩ := rd0 3 _ rfl
  obtain ⟨n0_3, e0_3, _, w0_3⟩ := DataW.trod_int Tryd.underlying3 g0_3
  simp only [List.cons.injEq, and_true] at e0_3
  subst e0_3
  have u0_3 := bounds_i64 w0_3
  obtain ⟨y0_4, g0_4⟩ := rd0 4 _ rfl
  obtain ⟨n0_4, e0_4, _, w0_4⟩ := DataW.trod_int Tryd.underlying3 g0_4
  simp only [List.cons.injEq, and_true] at e0_4
  subst e0_4
  have u0_4 := bounds_i64 w0_4
  obtain ⟨y0_5, g0_5⟩ := rd0 5 _ rfl
  obtain ⟨n0_5, e0_5, _, w0_5⟩ := DataW.trod_int Tryd.underlying3 g0_5
  simp only [List.cons.injEq, and_true] at e0_5
  subst e0_5
  have u0_5 := bounds_i64 w0_5
  obtain ⟨y0_6, g0_6⟩ := rd0 6 _ rfl
  obtain ⟨n0_6, e0_6, _, w0_6⟩ := DataW.trod_int Tryd.underlying3 g0_6
  simp only [List.cons.injEq, and_true] at e0_6
  subst e0_6
  have u0_6 := bounds_i64 w0_6
  obtain ⟨y0_7, g0_7⟩ := rd0 7 _ rfl
  obtain ⟨n0_7, e0_7, _, w0_7⟩ := DataW.trod_int Tryd.underlying3 g0_7
  simp only [List.cons.injEq, and_true] at e0_7
  subst e0_7
  have u0_7 := bounds_i64 w0_7
  clear hA0 hval0
  refine (cof_row n0_0 n0_1 n0_2 n0_3 n0_4 n0_5 n0_6 n0_7 W u0_0.1 u0_0.2 u0_1.1 u0_1.2 u0_2.1 u0_2.2 u0_3.1 u0_3.2 u0_4.1 u0_4.2 u0_5.1 u0_5.2 u0_6.1 u0_6.2 u0_7.1 u0_7.2 (env_of_laid hL hSH)).mono fun e W' ⟨he, bel⟩ => ?_
  subst he
  exact ⟨_, rfl, _, _, _, [], _, [], hW', trodAll_mk1 (shut_bool Tryd.underlying4 _), (trodAll_cons_mk (Below.trod laidOut (by kernel_rfl) (of_decide_eq_true (by kernel_rfl)) k0 bel lt0) trodAll_mk0), rfl, bel.frame _, fun h => by cases h⟩

theorem over : Rows.ColonOfSaid :=
  OpenClaim.holds_of_wide 5 Tryd.f5 rfl rfl rfl rfl rfl rfl rfl ⟨rfl, rfl, rfl, rfl, rfl⟩ rfl rfl rfl rfl rfl (by kernel_rfl) Tryd.func5 (by kernel_rfl)
    (of_decide_eq_true (by kernel_rfl)) (by unfold Func.isWrapper; first | (rw [if_pos (by decide +kernel)]; kernel_rfl) | (rw [if_neg (by decide +kernel)]; exact ⟨rfl, rfl⟩))
    (fun os started H enc _ => lifted os started H enc)

theorem card_holds : Rows.ColonOfCardSaid :=
  Claim7.holds_tied_plain_at .later [] Rows.colonOfCard.laidKinds true Rows.colonOfCard.stood.harness false
    over (fun _ h => by cases h) (by kernel_rfl) (fun _ h => by cases h) colonOf_row_tie rfl ⟨rfl, rfl⟩ (by kernel_rfl) rfl
    (fun f fn hf hfn => by
      obtain rfl : f = 5 := Option.some.inj ((show Tryd.prog.funcNamed Rows.colonOfRow.func = some 5 by kernel_rfl).symm.trans hf) |>.symm
      obtain rfl : fn = Tryd.f5 := (Option.some.inj (Tryd.func5.symm.trans hfn)).symm
      exact ⟨by kernel_rfl, fun j t ht => by
        rw [Tryd.params5] at ht
        have hm : t ∈ [25] := by simpa using Array.mem_of_getElem? ht
        have hall : ([25].all fun u => !Tryd.prog.wantsStandIn u) = true := by kernel_rfl
        exact (show Tryd.prog.wantsStandIn t = false by simpa using List.all_eq_true.1 hall t hm)⟩)
    (by kernel_rfl)
end Go.Proofs.YteomoipbjkafgaaDoor.colonOf
namespace Go.Proofs.YteomoipbjkafgaaDoor
theorem colonOf_holds : Rows.ColonOfCardSaid := colonOf.card_holds
#print axioms colonOf_holds
end Go.Proofs.YteomoipbjkafgaaDoor
