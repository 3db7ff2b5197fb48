/- Proved: for every input of its types ColonLong returns true, and what was handed in reads behind the call as it did. Conditions: the listed library tables hold what the program's own text lays in them (the card ties that). -/
import Derived.Test.YteomoipbjkafgaaDoorLift7
import Derived.Test.YteomoipbjkafgaaDoorLiftA
import Derived.Test.YteomoipbjkafgaaDoorLaw7Long
namespace Go.Proofs.YteomoipbjkafgaaDoor.colonLong
open Go Go.ChangeShapes Go.WideShapes Go.ChangeAt Go.RowKit
open Go.ChangeMaps (open_string shut_string)
set_option linter.unusedVariables false

set_option maxRecDepth 100000 in
theorem lifted (os : Os) (started : os.Started) (H : Type) (enc : TypeId × Value → H) :
    ReturnsInHanded {} Tryd.checked os 7 .any (fun w args => (Rows.colonLongSpec.pre enc Tryd.prog Tryd.f7 [] false w args ∧ laidMetH Tryd.prog laidAll w) ∧ sizedMet enc Tryd.prog Tryd.f7 (OpenSpec.ofChange Rows.colonLongSpec) false w args)
      (Rows.colonLongSpec.post enc Tryd.prog Tryd.f7 false true false false) := by
  refine handed_laid_shaped (C := Tryd.checked) (X := fun w _ => laidMetH Tryd.prog laidAll w) (fun _ _ _ hh h => h.of_heap hh) own started (by kernel_rfl) Tryd.func7
    (ChangeSpec.witness_shaped (enc := enc) (C := Tryd.checked) (os := os) (X := fun w _ => laidMetH Tryd.prog laidAll w) false (World.doorLaid Tryd.prog 400 os) #[.agg #[.int .u8 0, .int .u8 0, .int .u8 0, .int .u8 0, .int .u8 0, .int .u8 0, .int .u8 0, .int .u8 0, .int .u8 0, .int .u8 0, .int .u8 0, .int .u8 0, .int .u8 0, .int .u8 0, .int .u8 0, .int .u8 0], .bool false] 8 rfl (World.shaped_of_RefB (by kernel_rfl) (by kernel_rfl)) (by kernel_rfl) (by kernel_rfl) (by kernel_rfl) (door_met os _)) ?_
  intro W base args ds gs before hval0 hW hL hSH
  have hval : ∀ (j : Nat) t v, Tryd.f7.params[j]? = some t → args[j]? = some v → Value.okWide Tryd.prog W .any base t v := hval0
  have hW' := hW
  obtain ⟨p, q, hA0, hV, rfl, hfz, hnd⟩ := hW
  have hA : DataW.TrodAll enc Tryd.prog W 0 (fun _ => true) true Tryd.f7.params.toList args.toList ds p := hA0
  rw [Tryd.params7] at hA hval
  obtain ⟨v0, vs0, d0, ds0, p0, q0, hargs, rfl, rfl, h0, r0⟩ := trodAll_cons hA
  obtain ⟨v1, vs1, d1, ds1, p1, q1, rfl, rfl, rfl, h1, r1⟩ := trodAll_cons r0
  obtain ⟨rfl, rfl, rfl⟩ := trodAll_nil r1
  obtain rfl : args = #[v0, v1] := by cases args; simp_all
  obtain ⟨rfl, rfl⟩ := trodVars_none hV
  have k0 := h0
  have lt0 : ∀ x ∈ p0, x.block < W.heap.size := by obtain ⟨m, hm⟩ := k0; exact DataW.trod_lt m _ _ _ hm
  obtain ⟨cs0, nn0, rfl, sz0, rd0⟩ := arr_reads Tryd.underlying22 (by kernel_rfl) (by kernel_rfl) (hval 0 22 v0 rfl rfl) h0
  obtain ⟨c0_0, c0_1, c0_2, c0_3, c0_4, c0_5, c0_6, c0_7, c0_8, c0_9, c0_10, c0_11, c0_12, c0_13, c0_14, c0_15, rfl⟩ := array16 (sz0.trans (by kernel_rfl))
  obtain ⟨y0_0, g0_0⟩ := rd0 0 _ rfl
  obtain ⟨n0_0, e0_0, _, w0_0⟩ := DataW.trod_int Tryd.underlying5 g0_0
  simp only [List.cons.injEq, and_true] at e0_0
  subst e0_0
  have u0_0 := bounds_u8 w0_0
  obtain ⟨y0_1, g0_1⟩ := rd0 1 _ rfl
  obtain ⟨n0_1, e0_1, _, w0_1⟩ := DataW.trod_int Tryd.underlying5 g0_1
  simp only [List.cons.injEq, and_true] at e0_1
  subst e0_1
  have u0_1 := bounds_u8 w0_1
  obtain ⟨y0_2, g0_2⟩ := rd0 2 _ rfl
  obtain ⟨n0_2, e0_2, _, w0_2⟩ := DataW.trod_int Tryd.underlying5 g0_2
  simp only [List.cons.injEq, and_true] at e0_2
  subst e0_2
  have u0_2 := bounds_u8 w0_2
  obtain ⟨y0_3, g0_3⟩ := rd0 3 _ rfl
  obtain ⟨n0_3, e0_3, _, w0_3⟩ := DataW.trod_int Tryd.underlying5 g0_3
  simp only [List.cons.injEq, and_true] at e0_3
  subst e0_3
  have u0_3 := bounds_u8 w0_3
  obtain ⟨y0_4, g0_4⟩ := rd0 4 _ rfl
  obtain ⟨n0_4, e0_4, _, w0_4⟩ := DataW.trod_int Tryd.underlying5 g0_4
  simp only [List.cons.injEq, and_true] at e0_4
  subst e0_4
  have u0_4 := bounds_u8 w0_4
  obtain ⟨y0_5, g0_5⟩ := rd0 5 _ rfl
  obtain ⟨n0_5, e0_5, _, w0_5⟩ := DataW.trod_int Tryd.underlying5 g0_5
  simp only [List.cons.injEq, and_true] at e0_5
  subst e0_5
  have u0_5 := bounds_u8 w0_5
  obtain ⟨y0_6, g0_6⟩ := rd0 6 _ rfl
  obtain ⟨n0_6, e0_6, _, w0_6⟩ := DataW.trod_int Tryd.underlying5 g0_6
  simp only [List.cons.injEq, and_true] at e0_6
  subst e0_6
  have u0_6 := bounds_u8 w0_6
  obtain ⟨y0_7, g0_7⟩ := rd0 7 _ rfl
  obtain ⟨n0_7, e0_7, _, w0_7⟩ := DataW.trod_int Tryd.underlying5 g0_7
  simp only [List.cons.injEq, and_true] at e0_7
  subst e0_7
  have u0_7 := bounds_u8 w0_7
  obtain ⟨y0_8, g0_8⟩ := rd0 8 _ rfl
  obtain ⟨n0_8, e0_8, _, w0_8⟩ := DataW.trod_int Tryd.underlying5 g0_8
  simp only [List.cons.injEq, and_true] at e0_8
  subst e0_8
  have u0_8 := bounds_u8 w0_8
  obtain ⟨y0_9, g0_9⟩ := rd0 9 _ rfl
  obtain ⟨n0_9, e0_9, _, w0_9⟩ := DataW.trod_int Tryd.underlying5 g0_9
  simp only [List.cons.injEq, and_true] at e0_9
  subst e0_9
  have u0_9 := bounds_u8 w0_9
  obtain ⟨y0_10, g0_10⟩ := rd0 10 _ rfl
  obtain ⟨n0_10, e0_10, _, w0_10⟩ := DataW.trod_int Tryd.underlying5 g0_10
  simp only [List.cons.injEq, and_true] at e0_10
  subst e0_10
  have u0_10 := bounds_u8 w0_10
  obtain ⟨y0_11, g0_11⟩ := rd0 11 _ rfl
  obtain ⟨n0_11, e0_11, _, w0_11⟩ := DataW.trod_int Tryd.underlying5 g0_11
  simp only [List.cons.injEq, and_true] at e0_11
  subst e0_11
  have u0_11 := bounds_u8 w0_11
  obtain ⟨y0_12, g0_12⟩ := rd0 12 _ rfl
  obtain ⟨n0_12, e0_12, _, w0_12⟩ := DataW.trod_int Tryd.underlying5 g0_12
  simp only [List.cons.injEq, and_true] at e0_12
  subst e0_12
  have u0_12 := bounds_u8 w0_12
  obtain ⟨y0_13, g0_13⟩ := rd0 13 _ rfl
  obtain ⟨n0_13, e0_13, _, w0_13⟩ := DataW.trod_int Tryd.underlying5 g0_13
  simp only [List.cons.injEq, and_true] at e0_13
  subst e0_13
  have u0_13 := bounds_u8 w0_13
  obtain ⟨y0_14, g0_14⟩ := rd0 14 _ rfl
  obtain ⟨n0_14, e0_14, _, w0_14⟩ := DataW.trod_int Tryd.underlying5 g0_14
  simp only [List.cons.injEq, and_true] at e0_14
  subst e0_14
  have u0_14 := bounds_u8 w0_14
  obtain ⟨y0_15, g0_15⟩ := rd0 15 _ rfl
  obtain ⟨n0_15, e0_15, _, w0_15⟩ := DataW.trod_int Tryd.underlying5 g0_15
  simp only [List.cons.injEq, and_true] at e0_15
  subst e0_15
  have u0_15 := bounds_u8 w0_15
  obtain ⟨a1, rfl, rfl, rfl⟩ := open_bool Tryd.underlying4 (hval 1 4 v1 rfl rfl) h1
  clear hA0 hval0
  refine (clong_row n0_0 n0_1 n0_2 n0_3 n0_4 n0_5 n0_6 n0_7 n0_8 n0_9 n0_10 n0_11 n0_12 n0_13 n0_14 n0_15 a1 W u0_0.1 u0_0.2 u0_1.1 u0_1.2 u0_2.1 u0_2.2 u0_3.1 u0_3.2 u0_4.1 u0_4.2 u0_5.1 u0_5.2 u0_6.1 u0_6.2 u0_7.1 u0_7.2 u0_8.1 u0_8.2 u0_9.1 u0_9.2 u0_10.1 u0_10.2 u0_11.1 u0_11.2 u0_12.1 u0_12.2 u0_13.1 u0_13.2 u0_14.1 u0_14.2 u0_15.1 u0_15.2 (env_of_laid hL hSH)).mono fun e W' ⟨he, bel⟩ => ?_
  subst he
  exact ⟨_, rfl, _, _, _, [], _, [], hW', trodAll_mk1 (shut_bool Tryd.underlying4 _), (trodAll_cons_mk (Below.trod laidOut (by kernel_rfl) (of_decide_eq_true (by kernel_rfl)) k0 bel lt0) (trodAll_cons_mk (shut_bool Tryd.underlying4 a1) trodAll_mk0)), rfl, bel.frame _, fun h => by cases h⟩

theorem over : Rows.ColonLongSaid :=
  OpenClaim.holds_of_wide 7 Tryd.f7 rfl rfl rfl rfl rfl rfl rfl ⟨rfl, rfl, rfl, rfl, rfl⟩ rfl rfl rfl rfl rfl (by kernel_rfl) Tryd.func7 (by kernel_rfl)
    (of_decide_eq_true (by kernel_rfl)) (by unfold Func.isWrapper; first | (rw [if_pos (by decide +kernel)]; kernel_rfl) | (rw [if_neg (by decide +kernel)]; exact ⟨rfl, rfl⟩))
    (fun os started H enc _ => lifted os started H enc)

theorem card_holds : Rows.ColonLongCardSaid :=
  Claim7.holds_tied_plain_at .later [] Rows.colonLongCard.laidKinds true Rows.colonLongCard.stood.harness false
    over (fun _ h => by cases h) (by kernel_rfl) (fun _ h => by cases h) colonLong_row_tie rfl ⟨rfl, rfl⟩ (by kernel_rfl) rfl
    (fun f fn hf hfn => by
      obtain rfl : f = 7 := Option.some.inj ((show Tryd.prog.funcNamed Rows.colonLongRow.func = some 7 by kernel_rfl).symm.trans hf) |>.symm
      obtain rfl : fn = Tryd.f7 := (Option.some.inj (Tryd.func7.symm.trans hfn)).symm
      exact ⟨by kernel_rfl, fun j t ht => by
        rw [Tryd.params7] at ht
        have hm : t ∈ [22, 4] := by simpa using Array.mem_of_getElem? ht
        have hall : ([22, 4].all fun u => !Tryd.prog.wantsStandIn u) = true := by kernel_rfl
        exact (show Tryd.prog.wantsStandIn t = false by simpa using List.all_eq_true.1 hall t hm)⟩)
    (by kernel_rfl)
end Go.Proofs.YteomoipbjkafgaaDoor.colonLong
namespace Go.Proofs.YteomoipbjkafgaaDoor
theorem colonLong_holds : Rows.ColonLongCardSaid := colonLong.card_holds
#print axioms colonLong_holds
end Go.Proofs.YteomoipbjkafgaaDoor
