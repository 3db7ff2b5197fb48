/- Proved: for every input of its types SumTurns returns true, and what was handed in reads behind the call as it did. Conditions: none. -/
import Derived.Test.YtfecgnhgkciebaaLiftP
import Derived.Test.YtfecgnhgkciebaaLaw2Turns
namespace Go.Proofs.Ytfecgnhgkciebaa.sumTurns
open Go Go.ChangeShapes Go.WideShapes Go.ChangeAt Go.RowKit
open Go.ChangeMaps (open_string shut_string)
set_option linter.unusedVariables false

set_option maxRecDepth 100000 in
theorem lifted (os : Os) (started : os.Started) (H : Type) (enc : TypeId × Value → H) :
    ReturnsInHanded {} Try.checked os 4 .any (Rows.sumTurnsSpec.pre6 enc Try.prog Try.f4 Rows.sumTurnsRow.domain false) (Rows.sumTurnsSpec.post enc Try.prog Try.f4 false true false false) := by
  refine returnsInHanded_of_change (C := Try.checked) own started (by kernel_rfl) Try.func4
    (ChangeSpec.witness6 (enc := enc) (C := Try.checked) false ⟨#[], #[.agg #[.int .u16 0, .int .u16 0, .int .u16 0, .int .u8 0, .int .i64 0], .slice none 0 0, .slice none 0 0], []⟩ 8 (by kernel_rfl) (by kernel_rfl) (by kernel_rfl) (by kernel_rfl)) ?_
  intro W base args ds gs before hval0 hW hcnd _
  have hval : ∀ (j : Nat) t v, Try.f4.params[j]? = some t → args[j]? = some v → Value.okWide Try.prog W .any base t v := hval0
  have hW' := hW
  obtain ⟨p, q, hA0, hV, rfl, hfz, hnd⟩ := hW
  have hA : DataW.TrodAll enc Try.prog W 0 (fun _ => true) true Try.f4.params.toList args.toList ds p := hA0
  rw [Try.params4] at hA hval
  obtain ⟨v0, vs0, d0, ds0, p0, q0, hargs, rfl, rfl, h0, r0⟩ := trodAll_cons hA
  obtain ⟨v1, vs1, d1, ds1, p1, q1, rfl, rfl, rfl, h1, r1⟩ := trodAll_cons r0
  obtain ⟨v2, vs2, d2, ds2, p2, q2, rfl, rfl, rfl, h2, r2⟩ := trodAll_cons r1
  obtain ⟨rfl, rfl, rfl⟩ := trodAll_nil r2
  obtain rfl : args = #[v0, v1, v2] := by cases args; simp_all
  obtain ⟨rfl, rfl⟩ := trodVars_none hV
  have k0 := h0
  have lt0 : ∀ x ∈ p0, x.block < W.heap.size := by obtain ⟨m, hm⟩ := k0; exact DataW.trod_lt m _ _ _ hm
  obtain ⟨cs0, nn0, rfl, sz0, rd0⟩ := agg_reads Try.underlying30 (by kernel_rfl) (hval 0 30 v0 rfl rfl) h0
  obtain ⟨c0_0, c0_1, c0_2, c0_3, c0_4, rfl⟩ := array5 (sz0.trans (by kernel_rfl))
  obtain ⟨y0_0, g0_0⟩ := rd0 0 _ rfl _ rfl
  obtain ⟨n0_0, e0_0, _, w0_0⟩ := DataW.trod_int Try.underlying24 g0_0
  simp only [List.cons.injEq, and_true] at e0_0
  subst e0_0
  have u0_0 := bounds_u16 w0_0
  obtain ⟨y0_1, g0_1⟩ := rd0 1 _ rfl _ rfl
  obtain ⟨n0_1, e0_1, _, w0_1⟩ := DataW.trod_int Try.underlying24 g0_1
  simp only [List.cons.injEq, and_true] at e0_1
  subst e0_1
  have u0_1 := bounds_u16 w0_1
  obtain ⟨y0_2, g0_2⟩ := rd0 2 _ rfl _ rfl
  obtain ⟨n0_2, e0_2, _, w0_2⟩ := DataW.trod_int Try.underlying24 g0_2
  simp only [List.cons.injEq, and_true] at e0_2
  subst e0_2
  have u0_2 := bounds_u16 w0_2
  obtain ⟨y0_3, g0_3⟩ := rd0 3 _ rfl _ rfl
  obtain ⟨n0_3, e0_3, _, w0_3⟩ := DataW.trod_int Try.underlying5 g0_3
  simp only [List.cons.injEq, and_true] at e0_3
  subst e0_3
  have u0_3 := bounds_u8 w0_3
  obtain ⟨y0_4, g0_4⟩ := rd0 4 _ rfl _ rfl
  obtain ⟨n0_4, e0_4, _, w0_4⟩ := DataW.trod_int Try.underlying3 g0_4
  simp only [List.cons.injEq, and_true] at e0_4
  subst e0_4
  have u0_4 := bounds_i64 w0_4
  obtain ⟨a1, len1, cap1, rfl⟩ := okWide_slice Try.underlying22 (hval 1 22 v1 rfl rfl)
  have k1 := h1
  have lt1 : ∀ x ∈ p1, x.block < W.heap.size := by obtain ⟨m, hm⟩ := k1; exact DataW.trod_lt m _ _ _ hm
  obtain ⟨l1, f1⟩ : ∃ l, IsB W (.slice a1 len1 cap1) l := by obtain ⟨fuel, hf⟩ := h1; exact isB_of_reads hf
  obtain ⟨a2, len2, cap2, rfl⟩ := okWide_slice Try.underlying22 (hval 2 22 v2 rfl rfl)
  have k2 := h2
  have lt2 : ∀ x ∈ p2, x.block < W.heap.size := by obtain ⟨m, hm⟩ := k2; exact DataW.trod_lt m _ _ _ hm
  obtain ⟨l2, f2⟩ : ∃ l, IsB W (.slice a2 len2 cap2) l := by obtain ⟨fuel, hf⟩ := h2; exact isB_of_reads hf
  clear hA0 hval0
  refine (turns_walk n0_0 n0_1 n0_2 n0_3 n0_4 a1 len1 cap1 l1 a2 len2 cap2 l2 W u0_0.1 u0_0.2 u0_1.1 u0_1.2 u0_2.1 u0_2.2 u0_3.1 u0_3.2 u0_4.1 u0_4.2 f1 f2).mono fun e W' ⟨he, bel⟩ => ?_
  subst he
  exact ⟨_, rfl, _, _, _, [], _, [], hW', trodAll_mk1 (shut_bool Try.underlying4 _), (trodAll_cons_mk (Below.trod laidOut (by kernel_rfl) (of_decide_eq_true (by kernel_rfl)) k0 bel lt0) (trodAll_cons_mk (Below.trod laidOut (by kernel_rfl) (of_decide_eq_true (by kernel_rfl)) k1 bel lt1) (trodAll_cons_mk (Below.trod laidOut (by kernel_rfl) (of_decide_eq_true (by kernel_rfl)) k2 bel lt2) trodAll_mk0))), rfl, bel.frame _, fun h => by cases h⟩

theorem over : Rows.SumTurnsSaid :=
  OpenClaim.holds_of_wide 4 Try.f4 rfl rfl rfl rfl rfl rfl rfl ⟨rfl, rfl, rfl, rfl, rfl⟩ rfl rfl rfl rfl rfl (by kernel_rfl) Try.func4 (by kernel_rfl)
    (of_decide_eq_true (by kernel_rfl)) (by unfold Func.isWrapper; first | (rw [if_pos (by decide +kernel)]; kernel_rfl) | (rw [if_neg (by decide +kernel)]; exact ⟨rfl, rfl⟩))
    (fun os started H enc _ => lifted os started H enc)

end Go.Proofs.Ytfecgnhgkciebaa.sumTurns
namespace Go.Proofs.Ytfecgnhgkciebaa
theorem sumTurns_holds : Rows.SumTurnsSaid := sumTurns.over
#print axioms sumTurns_holds
end Go.Proofs.Ytfecgnhgkciebaa
