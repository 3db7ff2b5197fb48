/- Proved: for every input of its types DottedBack returns true, and what was handed in reads behind the call as it did. Conditions: the listed library tables hold what the program's own text lays in them (the card ties that). -/
import Derived.Test.YtjnejnoojpaifaaDoorLift
import Derived.Test.YtjnejnoojpaifaaDoorLiftA
import Derived.Test.YtjnejnoojpaifaaDoorLaw6Back
namespace Go.Proofs.YtjnejnoojpaifaaDoor.dottedBack
open Go Go.ChangeShapes Go.WideShapes Go.ChangeAt Go.RowKit
open Go.ChangeMaps (open_string shut_string)
set_option linter.unusedVariables false

set_option maxRecDepth 100000 in
theorem lifted (os : Os) (started : os.Started) (H : Type) (enc : TypeId × Value → H) :
    ReturnsInHanded {} Tryd.checked os 5 .any (fun w args => (Rows.dottedBackSpec.pre enc Tryd.prog Tryd.f5 [] false w args ∧ laidMetH Tryd.prog laidAll w) ∧ sizedMet enc Tryd.prog Tryd.f5 (OpenSpec.ofChange Rows.dottedBackSpec) false w args)
      (Rows.dottedBackSpec.post enc Tryd.prog Tryd.f5 false true false false) := by
  refine returnsInHanded_of_change_and (C := Tryd.checked) (X := fun w _ => laidMetH Tryd.prog laidAll w) (fun _ _ _ hh h => h.of_heap hh) own started (by kernel_rfl) Tryd.func5
    (ChangeSpec.witness_shaped (enc := enc) (C := Tryd.checked) (os := os) (X := fun w _ => laidMetH Tryd.prog laidAll w) false (World.doorLaid Tryd.prog 400 os) #[.agg #[.int .u8 0, .int .u8 0, .int .u8 0, .int .u8 0], .string ByteArray.empty] 8 rfl (World.shaped_of_RefB (by kernel_rfl) (by kernel_rfl)) (by kernel_rfl) (by kernel_rfl) (by kernel_rfl) (door_met os _)) ?_
  intro W base args ds gs before hval0 hW _ _ hL _
  have hval : ∀ (j : Nat) t v, Tryd.f5.params[j]? = some t → args[j]? = some v → Value.okWide Tryd.prog W .any base t v := hval0
  have hW' := hW
  obtain ⟨p, q, hA0, hV, rfl, hfz, hnd⟩ := hW
  have hA : DataW.TrodAll enc Tryd.prog W 0 (fun _ => true) true Tryd.f5.params.toList args.toList ds p := hA0
  rw [Tryd.params5] at hA hval
  obtain ⟨v0, vs0, d0, ds0, p0, q0, hargs, rfl, rfl, h0, r0⟩ := trodAll_cons hA
  obtain ⟨v1, vs1, d1, ds1, p1, q1, rfl, rfl, rfl, h1, r1⟩ := trodAll_cons r0
  obtain ⟨rfl, rfl, rfl⟩ := trodAll_nil r1
  obtain rfl : args = #[v0, v1] := by cases args; simp_all
  obtain ⟨rfl, rfl⟩ := trodVars_none hV
  have k0 := h0
  have lt0 : ∀ x ∈ p0, x.block < W.heap.size := by obtain ⟨m, hm⟩ := k0; exact DataW.trod_lt m _ _ _ hm
  obtain ⟨cs0, nn0, rfl, sz0, rd0⟩ := arr_reads Tryd.underlying22 (by kernel_rfl) (by kernel_rfl) (hval 0 22 v0 rfl rfl) h0
  obtain ⟨c0_0, c0_1, c0_2, c0_3, rfl⟩ := Go.Joins.array4 (sz0.trans (by kernel_rfl))
  obtain ⟨y0_0, g0_0⟩ := rd0 0 _ rfl
  obtain ⟨n0_0, e0_0, _, w0_0⟩ := DataW.trod_int Tryd.underlying5 g0_0
  simp only [List.cons.injEq, and_true] at e0_0
  subst e0_0
  have u0_0 := bounds_u8 w0_0
  obtain ⟨y0_1, g0_1⟩ := rd0 1 _ rfl
  obtain ⟨n0_1, e0_1, _, w0_1⟩ := DataW.trod_int Tryd.underlying5 g0_1
  simp only [List.cons.injEq, and_true] at e0_1
  subst e0_1
  have u0_1 := bounds_u8 w0_1
  obtain ⟨y0_2, g0_2⟩ := rd0 2 _ rfl
  obtain ⟨n0_2, e0_2, _, w0_2⟩ := DataW.trod_int Tryd.underlying5 g0_2
  simp only [List.cons.injEq, and_true] at e0_2
  subst e0_2
  have u0_2 := bounds_u8 w0_2
  obtain ⟨y0_3, g0_3⟩ := rd0 3 _ rfl
  obtain ⟨n0_3, e0_3, _, w0_3⟩ := DataW.trod_int Tryd.underlying5 g0_3
  simp only [List.cons.injEq, and_true] at e0_3
  subst e0_3
  have u0_3 := bounds_u8 w0_3
  obtain ⟨a1, rfl, rfl, rfl, w1⟩ := open_string Tryd.underlying9 (hval 1 9 v1 rfl rfl) h1
  clear hA0 hval0
  refine (dback_walk n0_0 n0_1 n0_2 n0_3 a1 W u0_0.1 u0_0.2 u0_1.1 u0_1.2 u0_2.1 u0_2.2 u0_3.1 u0_3.2 w1 (tab_of_laid hL)).mono fun e W' ⟨he, bel⟩ => ?_
  subst he
  exact ⟨_, rfl, _, _, _, [], _, [], hW', trodAll_mk1 (shut_bool Tryd.underlying4 _), (trodAll_cons_mk (Below.trod laidOut (by kernel_rfl) (of_decide_eq_true (by kernel_rfl)) k0 bel lt0) (trodAll_cons_mk (shut_string Tryd.underlying9 w1) trodAll_mk0)), rfl, bel.frame _, fun h => by cases h⟩

theorem over : Rows.DottedBackSaid :=
  OpenClaim.holds_of_wide 5 Tryd.f5 rfl rfl rfl rfl rfl rfl rfl ⟨rfl, rfl, rfl, rfl, rfl⟩ rfl rfl rfl rfl rfl (by kernel_rfl) Tryd.func5 (by kernel_rfl)
    (of_decide_eq_true (by kernel_rfl)) (by unfold Func.isWrapper; first | (rw [if_pos (by decide +kernel)]; kernel_rfl) | (rw [if_neg (by decide +kernel)]; exact ⟨rfl, rfl⟩))
    (fun os started H enc _ => lifted os started H enc)

theorem card_holds : Rows.DottedBackCardSaid :=
  Claim7.holds_tied_plain_at .later [] Rows.dottedBackCard.laidKinds true Rows.dottedBackCard.stood.harness false
    over (fun _ h => by cases h) (by kernel_rfl) (fun _ h => by cases h) dottedBack_row_tie rfl ⟨rfl, rfl⟩ (by kernel_rfl) rfl
    (fun f fn hf hfn => by
      obtain rfl : f = 5 := Option.some.inj ((show Tryd.prog.funcNamed Rows.dottedBackRow.func = some 5 by kernel_rfl).symm.trans hf) |>.symm
      obtain rfl : fn = Tryd.f5 := (Option.some.inj (Tryd.func5.symm.trans hfn)).symm
      exact ⟨by kernel_rfl, fun j t ht => by
        rw [Tryd.params5] at ht
        have hm : t ∈ [22, 9] := by simpa using Array.mem_of_getElem? ht
        have hall : ([22, 9].all fun u => !Tryd.prog.wantsStandIn u) = true := by kernel_rfl
        exact (show Tryd.prog.wantsStandIn t = false by simpa using List.all_eq_true.1 hall t hm)⟩)
    (by kernel_rfl)
end Go.Proofs.YtjnejnoojpaifaaDoor.dottedBack
namespace Go.Proofs.YtjnejnoojpaifaaDoor
theorem dottedBack_holds : Rows.DottedBackCardSaid := dottedBack.card_holds
#print axioms dottedBack_holds
end Go.Proofs.YtjnejnoojpaifaaDoor
