/- EntryBack: the walk. -/
import Derived.Test.YtljpndkgfjndbaaAw3
import Derived.Test.YtljpndkgfjndbaaEnt6
import Derived.Test.YtljpndkgfjndbaaEntQ
import Derived.Test.YtljpndkgfjndbaaBaseMore
import Derived.Lib.SmallJoins
namespace Go.Proofs.Ytljpndkgfjndbaa
open Go Go.RowKit

set_option maxHeartbeats 4000000 in
theorem eback_walk (a0 : Option Addr) (n0 c0 : Nat) (l0 : List Ent) (a1 : Option Addr) (n1 c1 : Nat) (l1 : List UInt8) (w : World) (f0 : IsE w (.slice a0 n0 c0) l0) (f1 : IsB w (.slice a1 n1 c1) l1) :
    Calls Try.prog 5 #[.slice a0 n0 c0, .slice a1 n1 c1] w fun e w' => e = .returned (.bool true) ∧ Below w.heap.size w w' := by
  obtain ⟨rfl, q0, m0, lok, -⟩ := f0.cells
  obtain ⟨rfl, q1, m1, l1c⟩ := f1.cells
  unfold maxLen at m0 m1
  have F0 := Lib.hid f0
  have F1 := Lib.hid f1
  have HOK := Lib.hid lok
  clear f0 f1 lok l1c
  by_cases g0 : 40 < l0.length
  · go_enter Try.func5, Try.ntmps5
    go_wp2_with (go_at_call 8; refine (awake3_any _).mono ?_; rintro e w1 ⟨rfl, b1⟩)
    go_ret
    exact ⟨rfl, b1⟩
  by_cases g1 : 100 < l1.length
  · go_enter Try.func5, Try.ntmps5
    go_wp2_with (go_at_call 8; refine (awake3_any _).mono ?_; rintro e w1 ⟨rfl, b1⟩)
    go_ret
    exact ⟨rfl, b1⟩
  have HP := Lib.hid (fun W (hb : Below w.heap.size w W) => eput_own a0 _ c0 l0 W (F0.out.below hb))
  by_cases hbad : putC l0 = 0
  · have h16 : ¬ 16 < l0.length := by
      intro h
      rw [(putC_many h).1] at hbad
      exact absurd hbad (by decide)
    have hgood : l0.all Ent.good = true := by
      cases h : l0.all Ent.good
      · rw [(putC_bad h16 h).1] at hbad
        exact absurd hbad (by decide)
      · rfl
    rw [(putC_good h16 hgood).1, (putC_good h16 hgood).2] at HP
    clear hbad
    by_cases hne : l0 = []
    · subst hne
      clear hgood h16
      go_enter Try.func5, Try.ntmps5
      go_wp2_with (first
        | (go_at_call 8; refine (awake3_any _).mono ?_; rintro e w1 ⟨rfl, b1⟩)
        | (go_at_call 16; refine (HP.out _ b1).mono ?_; rintro e w2 ⟨⟨a2, n2, c2, rfl, i2⟩, b2⟩; obtain rfl : n2 = 0 := by (have := i2.1; simp [byteVals, putBytes, botL] at this; omega)))
      go_ret
      exact ⟨rfl, below_up b1 b2 b1.size⟩
    have hpos : 0 < l0.length := List.length_pos_iff.2 hne
    obtain ⟨M, hM⟩ : ∃ M, M + 1 = 4 * l0.length := ⟨4 * l0.length - 1, by omega⟩
    obtain ⟨i0, hi, hz0, hz1, hz2⟩ := info_parts info5
    have HM := Lib.hid hM
    have HNE := Lib.hid hne
    have HGD := Lib.hid hgood
    clear hM hne hgood
    go_enter Try.func5, Try.ntmps5
    go_wp2_with (first
      | (go_at_call 8; refine (awake3_any _).mono ?_; rintro e w1 ⟨rfl, b1⟩)
      | (go_at_call 16; refine (HP.out _ b1).mono ?_; rintro e w2 ⟨⟨a2, n2, c2, rfl, o2⟩, b2⟩; refine Hid.out ?_))
    refine Lib.hid ?_
    obtain rfl : n2 = M + 1 := by have := HM.out; have := o2.1; rw [byteVals_length, putBytes_length] at this; omega
    obtain ⟨g2, c2', he2⟩ := Go.Joins.ownsRow_form o2 (by omega)
    cases he2
    have i2 := IsB.of_owned o2
    obtain ⟨-, q2, m2, -⟩ := i2.cells
    rw [putBytes_length] at q2
    unfold maxLen at m2
    have hq2 : M + 1 ≤ c2 := by have := HM.out; omega
    have b2' := below_up b1 b2 b1.size
    have HS3 := Lib.hid (stack_any _ M c2 _ w2 (i2.head (k := M) (by have := HM.out; rw [putBytes_length]; omega)))
    have hM1 : M = 4 * l0.length - 1 := by have := HM.out; omega
    have hst : stk 16 ((putBytes l0).take M) = ([], 10) := by rw [hM1]; exact stk_short l0 16 HNE.out (by omega) HOK.out HGD.out
    rw [hst] at HS3
    have HBA := Lib.hid b1.size
    have HO2 := Lib.hid o2
    have HZ2 := Lib.hid b2.size
    have HB2 := Lib.hid b2'
    clear o2 b1 b2 b2' i2 q2 HP hst hM1
    go_wp2_with (go_at_call 13; refine HS3.out.mono ?_; rintro e w3 ⟨⟨a3, n3, c3, rfl, e3⟩, b3⟩; refine Hid.out ?_)
    refine Lib.hid ?_
    have b3' := below_up HB2.out b3 HB2.out.size
    have HO3 := Lib.hid (own_below HO2.out b3)
    have HB3 := Lib.hid b3'
    have HZ3 := Lib.hid (Nat.le_trans HZ2.out b3.size)
    clear b3 b3' e3 HS3 HO2 HB2
    rcases a1 with _ | ad
    · have hl1 : l1 = [] := by
        rcases l1 with _ | ⟨b, l1⟩
        · rfl
        · obtain ⟨-, -, -, h⟩ := F1.out.cells
          obtain ⟨ad, h4, _⟩ := h (by simp)
          cases h4
      subst hl1
      go_wp2_with (at_builtin; refine wpList_append_none_any rfl (.tmp 53) (.tmp 54) 24 rfl w1.heap.size 5 i0 1 Try.underlying24 hi _ _ _ rfl HO3.out _ rfl ?_; refine Hid.out ?_)
      refine Lib.hid ?_
      obtain ⟨w4, hw4⟩ : ∃ w4, w4 = w3 := ⟨_, rfl⟩
      rw [← hw4]
      have ho4 : w4.ownsRow w1.heap.size 5 1 (.slice (some ⟨g2, 0, none⟩) (M + 1) c2) (M + 1) (byteVals (putBytes l0 ++ [])) := by rw [List.append_nil, hw4]; exact HO3.out
      have hb4 : Below w.heap.size w w4 := by rw [hw4]; exact HB3.out
      clear hw4 HO3 HB3
      have HZ4 := Lib.hid hb4
      obtain ⟨a4, n4, c4, he4, i4⟩ := owned_shape ho4
      cases he4
      have HS4 := Lib.hid (stack_any _ _ _ (putBytes l0 ++ []) w4 i4)
      rw [stk_put l0 16 [] HNE.out (by omega) HOK.out HGD.out] at HS4
      have hm4 : ((4 * (botL l0).length : Nat) : Int) = (M : Int) + 1 := by have := HM.out; rw [botL_length]; omega
      simp only [hm4] at HS4
      clear ho4 i4 hb4 hm4
      go_wp2_with (go_at_call 13; refine HS4.out.mono ?_; rintro e w5 ⟨⟨a5, n5, c5, rfl, e5⟩, b5⟩; refine Hid.out ?_)
      refine Lib.hid ?_
      have b5' := below_up HZ4.out b5 HZ4.out.size
      have HSM := Lib.hid (same_any a0 a5 _ _ c0 c5 l0 (botL l0) w5 (F0.out.below b5') e5 (by omega))
      rw [alike_bot] at HSM
      have HE5 := Lib.hid e5
      have HB5 := Lib.hid b5'
      obtain ⟨hn5, q5, m5, -, -⟩ := e5.cells
      rw [botL_length] at hn5 q5
      subst hn5
      unfold maxLen at m5
      clear HS4 b5 b5' e5 HZ4
      go_wp2_with (go_at_call 18; refine HSM.out.mono ?_; rintro e w6 ⟨rfl, b6⟩; refine Hid.out ?_)
      refine Lib.hid ?_
      have e6 := HE5.out.below b6
      have HB6 := Lib.hid (below_up HB5.out b6 HB5.out.size)
      obtain ⟨-, -, -, -, hc6⟩ := e6.cells
      rw [botL_length] at hc6
      obtain ⟨g6, o6, rfl, -, hcc⟩ := hc6 (by omega)
      have HCC := Lib.hid hcc
      have hlast : ((M : Int) + 1 == 4 * (l0.length : Int)) = true := by have := HM.out; simp; omega
      clear hcc hc6 e6 b6 HSM HE5 HB5
      go_wp2
      go_loop [15] (fun i => ∃ k : Nat, k ≤ l0.length ∧ i = .int .i64 k) (fun i => l0.length - (intOf i).toNat)
      case atStart => exact ⟨0, Nat.zero_le _, rfl⟩
      case round =>
        obtain ⟨k, hk, rfl⟩ := hrel
        by_cases hlt : k < l0.length
        · obtain ⟨x, hx⟩ : ∃ x, l0[k]? = some x := ⟨l0[k], by simp [hlt]⟩
          have hbx := botL_get l0 k
          rw [hx] at hbx
          have hcell := (HCC.out k _ hbx).2.2.1
          have hbit : (x.setB (decide (k + 1 = l0.length))).B = ((k : Int) == (l0.length : Int) - 1) := by
            rw [Bool.eq_iff_iff, beq_iff_eq]; simp only [Ent.setB, decide_eq_true_iff]; omega
          rw [hbit] at hcell
          clear hbx hx hbit
          go_wp2
          go_round
          case rel => exact ⟨k + 1, by omega, by go_num⟩
          case measure => simp [intOf]; omega
        · go_wp2
          go_ret
          exact ⟨rfl, HB6.out⟩
    · obtain ⟨-, -, -, hcs⟩ := (F1.out.below HB3.out).cells
      have hadc : ∀ j v, (byteVals l1)[j]? = some v → w3.cell? (ad.add j) = some v := by
        intro j v hj
        have hjl : j < (byteVals l1).length := (List.getElem?_eq_some_iff.1 hj).1
        rw [byteVals_length] at hjl
        obtain ⟨ad2, h4, _, h5⟩ := hcs (by omega)
        cases h4
        exact h5 j v hj
      have HC := Lib.hid hadc
      clear hadc hcs
      go_wp2_with (at_builtin; refine wpList_append_own _ rfl (.tmp 53) (.tmp 54) 24 rfl w1.heap.size 5 i0 (.int .u8 0) 1 1 Try.underlying24 hi hz0 hz1 hz2 rfl (by decide) _ _ _ rfl HO3.out ad _ _ (byteVals l1) rfl (by rw [byteVals_length, Nat.mul_one]) HC.out (byteVals_oneCell l1) (by have := HM.out; unfold maxLen; omega) (by have := HM.out; omega) HZ3.out ?_; intro v4 w4 hown' hgrow _; refine Hid.out ?_)
      refine Lib.hid ?_
      have hb4 : Below w.heap.size w w4 := HB3.out.grown hgrow HB3.out.size (fun k hk => Nat.le_trans HBA.out (owned_low HO3.out k hk))
      have ho4 := hown'
      rw [← byteVals_append] at ho4
      clear hown' hgrow HO3 HB3
      have HZ4 := Lib.hid hb4
      obtain ⟨a4, n4, c4, he4, i4⟩ := owned_shape ho4
      cases he4
      have HS4 := Lib.hid (stack_any _ _ _ (putBytes l0 ++ l1) w4 i4)
      rw [stk_put l0 16 l1 HNE.out (by omega) HOK.out HGD.out] at HS4
      have hm4 : ((4 * (botL l0).length : Nat) : Int) = (M : Int) + 1 := by have := HM.out; rw [botL_length]; omega
      simp only [hm4] at HS4
      clear ho4 i4 hb4 hm4
      go_wp2_with (go_at_call 13; refine HS4.out.mono ?_; rintro e w5 ⟨⟨a5, n5, c5, rfl, e5⟩, b5⟩; refine Hid.out ?_)
      refine Lib.hid ?_
      have b5' := below_up HZ4.out b5 HZ4.out.size
      have HSM := Lib.hid (same_any a0 a5 _ _ c0 c5 l0 (botL l0) w5 (F0.out.below b5') e5 (by omega))
      rw [alike_bot] at HSM
      have HE5 := Lib.hid e5
      have HB5 := Lib.hid b5'
      obtain ⟨hn5, q5, m5, -, -⟩ := e5.cells
      rw [botL_length] at hn5 q5
      subst hn5
      unfold maxLen at m5
      clear HS4 b5 b5' e5 HZ4
      go_wp2_with (go_at_call 18; refine HSM.out.mono ?_; rintro e w6 ⟨rfl, b6⟩; refine Hid.out ?_)
      refine Lib.hid ?_
      have e6 := HE5.out.below b6
      have HB6 := Lib.hid (below_up HB5.out b6 HB5.out.size)
      obtain ⟨-, -, -, -, hc6⟩ := e6.cells
      rw [botL_length] at hc6
      obtain ⟨g6, o6, rfl, -, hcc⟩ := hc6 (by omega)
      have HCC := Lib.hid hcc
      have hlast : ((M : Int) + 1 == 4 * (l0.length : Int)) = true := by have := HM.out; simp; omega
      clear hcc hc6 e6 b6 HSM HE5 HB5
      go_wp2
      go_loop [15] (fun i => ∃ k : Nat, k ≤ l0.length ∧ i = .int .i64 k) (fun i => l0.length - (intOf i).toNat)
      case atStart => exact ⟨0, Nat.zero_le _, rfl⟩
      case round =>
        obtain ⟨k, hk, rfl⟩ := hrel
        by_cases hlt : k < l0.length
        · obtain ⟨x, hx⟩ : ∃ x, l0[k]? = some x := ⟨l0[k], by simp [hlt]⟩
          have hbx := botL_get l0 k
          rw [hx] at hbx
          have hcell := (HCC.out k _ hbx).2.2.1
          have hbit : (x.setB (decide (k + 1 = l0.length))).B = ((k : Int) == (l0.length : Int) - 1) := by
            rw [Bool.eq_iff_iff, beq_iff_eq]; simp only [Ent.setB, decide_eq_true_iff]; omega
          rw [hbit] at hcell
          clear hbx hx hbit
          go_wp2
          go_round
          case rel => exact ⟨k + 1, by omega, by go_num⟩
          case measure => simp [intOf]; omega
        · go_wp2
          go_ret
          exact ⟨rfl, HB6.out⟩
  · have hr : putR l0 = [] := by unfold putR; rw [if_neg hbad]
    rw [hr] at HP
    clear hr
    generalize putC l0 = pc at *
    go_enter Try.func5, Try.ntmps5
    go_wp2_with (first
      | (go_at_call 8; refine (awake3_any _).mono ?_; rintro e w1 ⟨rfl, b1⟩)
      | (go_at_call 16; refine (HP.out _ b1).mono ?_; rintro e w2 ⟨⟨a2, n2, c2, rfl, i2⟩, b2⟩; obtain rfl : n2 = 0 := by (have := i2.1; simp [byteVals] at this; omega)))
    go_ret
    exact ⟨rfl, below_up b1 b2 b1.size⟩
end Go.Proofs.Ytljpndkgfjndbaa
