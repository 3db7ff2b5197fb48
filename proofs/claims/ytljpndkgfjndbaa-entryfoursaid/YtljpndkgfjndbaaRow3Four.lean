/- Proved: for every input of its types EntryFour returns true, and what was handed in reads behind the call as it did. Conditions: none. -/
import Derived.Test.YtljpndkgfjndbaaLiftP
import Derived.Test.YtljpndkgfjndbaaLiftE
import Derived.Test.YtljpndkgfjndbaaLaw3Four
namespace Go.Proofs.Ytljpndkgfjndbaa.entryFour
open Go Go.ChangeShapes Go.WideShapes Go.ChangeAt Go.RowKit
open Go.ChangeMaps (open_string shut_string)
set_option linter.unusedVariables false

set_option maxRecDepth 100000 in
theorem lifted (os : Os) (started : os.Started) (H : Type) (enc : TypeId × Value → H) :
    ReturnsInHanded {} Try.checked os 6 .any (Rows.entryFourSpec.pre6 enc Try.prog Try.f6 Rows.entryFourRow.domain false) (Rows.entryFourSpec.post enc Try.prog Try.f6 false true false false) := by
  refine returnsInHanded_of_change (C := Try.checked) own started (by kernel_rfl) Try.func6
    (ChangeSpec.witness6 (enc := enc) (C := Try.checked) false ⟨#[], #[.agg #[.int .u8 0, .int .u8 0, .int .u8 0, .int .u8 0]], []⟩ 8 (by kernel_rfl) (by kernel_rfl) (by kernel_rfl) (by kernel_rfl)) ?_
  intro W base args ds gs before hval0 hW hcnd _
  have hval : ∀ (j : Nat) t v, Try.f6.params[j]? = some t → args[j]? = some v → Value.okWide Try.prog W .any base t v := hval0
  have hW' := hW
  obtain ⟨p, q, hA0, hV, rfl, hfz, hnd⟩ := hW
  have hA : DataW.TrodAll enc Try.prog W 0 (fun _ => true) true Try.f6.params.toList args.toList ds p := hA0
  rw [Try.params6] at hA hval
  obtain ⟨v0, vs0, d0, ds0, p0, q0, hargs, rfl, rfl, h0, r0⟩ := trodAll_cons hA
  obtain ⟨rfl, rfl, rfl⟩ := trodAll_nil r0
  obtain rfl : args = #[v0] := by cases args; simp_all
  obtain ⟨rfl, rfl⟩ := trodVars_none hV
  have k0 := h0
  have lt0 : ∀ x ∈ p0, x.block < W.heap.size := by obtain ⟨m, hm⟩ := k0; exact DataW.trod_lt m _ _ _ hm
  obtain ⟨cs0, nn0, rfl, sz0, rd0⟩ := arr_reads Try.underlying43 (by kernel_rfl) (by kernel_rfl) (hval 0 43 v0 rfl rfl) h0
  obtain ⟨c0_0, c0_1, c0_2, c0_3, rfl⟩ := Go.Joins.array4 (sz0.trans (by kernel_rfl))
  obtain ⟨y0_0, g0_0⟩ := rd0 0 _ rfl
  obtain ⟨n0_0, e0_0, _, w0_0⟩ := DataW.trod_int Try.underlying5 g0_0
  simp only [List.cons.injEq, and_true] at e0_0
  subst e0_0
  have u0_0 := bounds_u8 w0_0
  obtain ⟨y0_1, g0_1⟩ := rd0 1 _ rfl
  obtain ⟨n0_1, e0_1, _, w0_1⟩ := DataW.trod_int Try.underlying5 g0_1
  simp only [List.cons.injEq, and_true] at e0_1
  subst e0_1
  have u0_1 := bounds_u8 w0_1
  obtain ⟨y0_2, g0_2⟩ := rd0 2 _ rfl
  obtain ⟨n0_2, e0_2, _, w0_2⟩ := DataW.trod_int Try.underlying5 g0_2
  simp only [List.cons.injEq, and_true] at e0_2
  subst e0_2
  have u0_2 := bounds_u8 w0_2
  obtain ⟨y0_3, g0_3⟩ := rd0 3 _ rfl
  obtain ⟨n0_3, e0_3, _, w0_3⟩ := DataW.trod_int Try.underlying5 g0_3
  simp only [List.cons.injEq, and_true] at e0_3
  subst e0_3
  have u0_3 := bounds_u8 w0_3
  clear hA0 hval0
  refine (four_walk n0_0 n0_1 n0_2 n0_3 W u0_0.1 u0_0.2 u0_1.1 u0_1.2 u0_2.1 u0_2.2 u0_3.1 u0_3.2).mono fun e W' ⟨he, bel⟩ => ?_
  subst he
  exact ⟨_, rfl, _, _, _, [], _, [], hW', trodAll_mk1 (shut_bool Try.underlying4 _), (trodAll_cons_mk (Below.trod laidOut (by kernel_rfl) (of_decide_eq_true (by kernel_rfl)) k0 bel lt0) trodAll_mk0), rfl, bel.frame _, fun h => by cases h⟩

theorem over : Rows.EntryFourSaid :=
  OpenClaim.holds_of_wide 6 Try.f6 rfl rfl rfl rfl rfl rfl rfl ⟨rfl, rfl, rfl, rfl, rfl⟩ rfl rfl rfl rfl rfl (by kernel_rfl) Try.func6 (by kernel_rfl)
    (of_decide_eq_true (by kernel_rfl)) (by unfold Func.isWrapper; first | (rw [if_pos (by decide +kernel)]; kernel_rfl) | (rw [if_neg (by decide +kernel)]; exact ⟨rfl, rfl⟩))
    (fun os started H enc _ => lifted os started H enc)

end Go.Proofs.Ytljpndkgfjndbaa.entryFour
namespace Go.Proofs.Ytljpndkgfjndbaa
theorem entryFour_holds : Rows.EntryFourSaid := entryFour.over
#print axioms entryFour_holds
end Go.Proofs.Ytljpndkgfjndbaa
