/- EntryJoins: the walk. -/
import Derived.Test.YtljpndkgfjndbaaAw3
import Derived.Test.YtljpndkgfjndbaaEnt6
import Derived.Test.YtljpndkgfjndbaaEntQ
import Derived.Test.YtljpndkgfjndbaaBaseMore
import Derived.Test.YtljpndkgfjndbaaAppE
import Derived.Test.YtljpndkgfjndbaaReg
import Derived.Lib.SmallJoins
namespace Go.Proofs.Ytljpndkgfjndbaa
open Go Go.RowKit

theorem all_append_bad (a b : List Ent) (h : (a ++ b).all Ent.good = false) (hb : b.all Ent.good = true) : a.all Ent.good = false := by
  rw [List.all_append, hb, Bool.and_true] at h; exact h

set_option maxHeartbeats 4000000 in
theorem joins_walk (a0 : Option Addr) (n0 c0 : Nat) (l0 : List Ent) (a1 : Option Addr) (n1 c1 : Nat) (l1 : List Ent) (w : World) (f0 : IsE w (.slice a0 n0 c0) l0) (s0 : l0.length ≤ 8796093021952) (f1 : IsE w (.slice a1 n1 c1) l1) (s1 : l1.length ≤ 8796093021952) :
    Calls Try.prog 7 #[.slice a0 n0 c0, .slice a1 n1 c1] w fun e w' => e = .returned (.bool true) ∧ Below w.heap.size w w' := by
  obtain ⟨rfl, q0, m0, ok0, -⟩ := f0.cells
  obtain ⟨rfl, q1, m1, ok1, -⟩ := f1.cells
  unfold maxLen at m0 m1
  have F0 := Lib.hid f0
  have F1 := Lib.hid f1
  have OK0 := Lib.hid ok0
  have OK1 := Lib.hid ok1
  clear f0 f1 ok0 ok1
  by_cases g1 : l1.length = 0
  · have g1' : ((l1.length : Int) == 0) = true := by simp [g1]
    have G1 := Lib.hid g1
    clear g1
    go_enter Try.func7, Try.ntmps7
    go_wp2_with (go_at_call 8; refine (awake3_any _).mono ?_; rintro e w1 ⟨rfl, b1⟩)
    go_ret
    exact ⟨rfl, b1⟩
  have g1' : ((l1.length : Int) == 0) = false := by simpa using g1
  by_cases g2 : 16 < l0.length + l1.length
  · go_enter Try.func7, Try.ntmps7
    go_wp2_with (go_at_call 8; refine (awake3_any _).mono ?_; rintro e w1 ⟨rfl, b1⟩)
    go_ret
    exact ⟨rfl, b1⟩
  have hl1 : l1 ≠ [] := fun h => g1 (by rw [h]; rfl)
  obtain ⟨i0, hi, hz0, hz1, hz2⟩ := info_parts info23
  go_enter Try.func7, Try.ntmps7
  go_wp2_with (go_at_call 8; refine (awake3_any _).mono ?_; rintro e w1 ⟨rfl, b1⟩; refine Hid.out ?_)
  refine Lib.hid ?_
  go_wp2_with (at_builtin; refine append_ents rfl (.tmp 30) (.tmp 31) rfl w1.heap.size _ 0 [] rfl (World.ownsRow_nil _ _ _ _) _ _ _ l0 rfl (F0.out.below b1) (by omega) (Nat.le_refl _) ?_; intro v2 w2 ho2 hg2; refine Hid.out ?_)
  refine Lib.hid ?_
  have b2' : Below w.heap.size w w2 := b1.grown hg2 b1.size (fun k hk => by cases hk)
  have hz2' : w1.heap.size ≤ w2.heap.size := hg2.size
  rw [Nat.zero_add, List.nil_append] at ho2
  have HO2 := Lib.hid ho2
  have HZ1 := Lib.hid b1.size
  clear ho2 hg2 b1
  go_wp2_with (at_builtin; refine append_ents rfl (.tmp 33) (.tmp 34) rfl w1.heap.size _ _ _ rfl HO2.out _ _ _ l1 rfl (F1.out.below b2') (by omega) hz2' ?_; intro v3 w3 ho3 hg3; refine Hid.out ?_)
  refine Lib.hid ?_
  have b3' : Below w.heap.size w w3 := b2'.grown hg3 b2'.size (fun k hk => Nat.le_trans HZ1.out (owned_low HO2.out k hk))
  rw [← entVals_append] at ho3
  obtain ⟨g3, c3, rfl⟩ := Go.Joins.ownsRow_form ho3 (by omega)
  have e3 := IsE.of_owned ho3 (fun e he => (List.mem_append.1 he).elim (OK0.out e) (OK1.out e))
  have HP3 := Lib.hid (eput_own _ _ _ (l0 ++ l1) w3 e3)
  have HP4 := Lib.hid (fun W (hb : Below w.heap.size w W) => eput_any _ _ _ l1 W (F1.out.below hb))
  have HP5 := Lib.hid (fun W (hb : Below w.heap.size w W) => eput_any _ _ _ l0 W (F0.out.below hb))
  have h16 : ¬ 16 < (l0 ++ l1).length := by simp; omega
  have h161 : ¬ 16 < l1.length := by omega
  have h160 : ¬ 16 < l0.length := by omega
  have HB3 := Lib.hid b3'
  have H16 := Lib.hid (And.intro h16 (And.intro h161 h160))
  clear ho3 hg3 e3 b2' hz2' HO2 HZ1 h16 h161 h160
  cases hall : (l0 ++ l1).all Ent.good
  · rw [(putC_bad H16.out.1 hall).1, (putC_bad H16.out.1 hall).2] at HP3
    cases hal1 : l1.all Ent.good
    · rw [(putC_bad H16.out.2.1 hal1).1] at HP4
      generalize putC l0 = p0 at *
      clear hall hal1
      go_wp2_with (first
        | (go_at_call 16; refine HP3.out.mono ?_; clear HP3; rintro e w4 ⟨⟨a4, n4, c4, rfl, i4⟩, b4⟩; have b4' := below_up b3' b4 b3'.size)
        | (go_at_call 16; refine (HP4.out _ b4').mono ?_; clear HP4; rintro e w5 ⟨⟨a5, n5, c5, rfl, i5⟩, b5⟩; have b5' := below_up b4' b5 b4'.size)
        | (go_at_call 16; refine (HP5.out _ b5').mono ?_; clear HP5; rintro e w6 ⟨⟨a6, n6, c6, rfl, i6⟩, b6⟩; have b6' := below_up b5' b6 b5'.size))
      go_ret
      exact ⟨rfl, b6'⟩
    · rw [(putC_good H16.out.2.1 hal1).1] at HP4
      rw [(putC_bad H16.out.2.2 (all_append_bad _ _ hall hal1)).1] at HP5
      clear hall hal1
      go_wp2_with (first
        | (go_at_call 16; refine HP3.out.mono ?_; clear HP3; rintro e w4 ⟨⟨a4, n4, c4, rfl, i4⟩, b4⟩; have b4' := below_up b3' b4 b3'.size)
        | (go_at_call 16; refine (HP4.out _ b4').mono ?_; clear HP4; rintro e w5 ⟨⟨a5, n5, c5, rfl, i5⟩, b5⟩; have b5' := below_up b4' b5 b4'.size)
        | (go_at_call 16; refine (HP5.out _ b5').mono ?_; clear HP5; rintro e w6 ⟨⟨a6, n6, c6, rfl, i6⟩, b6⟩; have b6' := below_up b5' b6 b5'.size))
      go_ret
      exact ⟨rfl, b6'⟩
  · have hal := hall
    rw [List.all_append, Bool.and_eq_true] at hal
    rw [(putC_good H16.out.1 hall).1, (putC_good H16.out.1 hall).2] at HP3
    rw [(putC_good H16.out.2.1 hal.2).1, (putC_good H16.out.2.1 hal.2).2] at HP4
    rw [(putC_good H16.out.2.2 hal.1).1] at HP5
    have HAL := Lib.hid hall
    clear hall hal
    go_wp2_with (go_at_call 16; refine HP3.out.mono ?_; clear HP3; rintro e w4 ⟨⟨a4, n4, c4, rfl, o4⟩, b4⟩; refine Hid.out ?_)
    refine Lib.hid ?_
    have b4' := below_up b3' b4 b3'.size
    have hn4 : n4 = 4 * (l0.length + l1.length) := by
      have := o4.1
      rw [byteVals_length, putBytes_length, List.length_append] at this
      omega
    obtain ⟨g4, c4', he4⟩ := Go.Joins.ownsRow_form o4 (by omega)
    cases he4
    have i4 := IsB.of_owned o4
    obtain ⟨-, q4, m4, -⟩ := i4.cells
    rw [putBytes_length, List.length_append, ← hn4] at q4
    unfold maxLen at m4
    have k4 : 4 * l0.length ≤ n4 := by omega
    have k4' : 4 * (l0.length : Int) ≤ (n4 : Int) := by omega
    have nc4 : ¬ c4 = 4 * l0.length := by omega
    have t4 := i4.tail (k := 4 * l0.length) (by rw [putBytes_length, List.length_append]; omega)
    rw [if_neg nc4, Option.map_some, plain_add, Nat.zero_add, putBytes_append l0 l1 hl1] at t4
    have HI4 := Lib.hid i4
    have HT4 := Lib.hid t4
    have HN4 := Lib.hid hn4
    clear o4 i4 t4 hn4 b4
    go_wp2_with (go_at_call 16; refine (HP4.out _ b4').mono ?_; clear HP4; rintro e w5 ⟨⟨a5, n5, c5, rfl, i5⟩, b5⟩; refine Hid.out ?_)
    refine Lib.hid ?_
    have b5' := below_up b4' b5 b4'.size
    have HI5 := Lib.hid (HI4.out.below b5)
    have HT5 := Lib.hid (HT4.out.below b5)
    have HY5 := Lib.hid i5
    clear HI4 HT4 b4' b5 i5
    go_wp2_with (go_at_call 16; refine (HP5.out _ b5').mono ?_; clear HP5; rintro e w6 ⟨⟨a6, n6, c6, rfl, i6⟩, b6⟩; refine Hid.out ?_)
    refine Lib.hid ?_
    have b6' := below_up b5' b6 b5'.size
    have HT6 := Lib.hid (HT5.out.below b6)
    have HY6 := Lib.hid (HY5.out.below b6)
    have HS6 := Lib.hid (stack_any _ _ _ _ w6 (HI5.out.below b6))
    have hst := stk_put (l0 ++ l1) 16 [] (by simp [hl1]) (by have := H16.out.1; omega) (fun e he => (List.mem_append.1 he).elim (OK0.out e) (OK1.out e)) HAL.out
    rw [List.append_nil] at hst
    rw [hst] at HS6
    have hm6 : ((4 * (botL (l0 ++ l1)).length : Nat) : Int) = 4 * ((l0.length : Int) + (l1.length : Int)) := by rw [botL_length, List.length_append]; omega
    simp only [hm6] at HS6
    clear HI5 HT5 HY5 b5' b6 i6 hst hm6
    go_wp2_with (go_at_call 13; refine HS6.out.mono ?_; rintro e w7 ⟨⟨a7, n7, c7, rfl, e7⟩, b7⟩; refine Hid.out ?_)
    refine Lib.hid ?_
    have b7' := below_up b6' b7 b6'.size
    have hh7 := e7.head (k := l0.length) (by rw [botL_length, List.length_append]; omega)
    rw [bot_take l0 l1 hl1] at hh7
    obtain ⟨hn7, q7, m7, -, -⟩ := e7.cells
    rw [botL_length, List.length_append] at hn7 q7
    unfold maxLen at m7
    have HH7 := Lib.hid hh7
    have k7 : (l0.length : Int) ≤ (c7 : Int) := by omega
    have HN7 := Lib.hid hn7
    have HB7 := Lib.hid b7'
    have HC2 : Hid (∀ W, Below w7.heap.size w7 W → Below w7.heap.size w7 W ∧ (convert 24 9 (.slice (some ⟨g4, 4 * l0.length, none⟩) (n4 - 4 * l0.length) (c4 - 4 * l0.length))).run Try.prog W = .ok (.string ⟨(putBytes l1).toArray⟩) W ∧ (convert 24 9 (.slice a5 n5 c5)).run Try.prog W = .ok (.string ⟨(putBytes l1).toArray⟩) W) := by
      intro W hb
      exact ⟨hb, ((HT6.out.below b7).below hb).conv Try.underlying24 Try.underlying5 Try.underlying9, ((HY6.out.below b7).below hb).conv Try.underlying24 Try.underlying5 Try.underlying9⟩
    have HSM := Lib.hid (fun W (hb : Below w7.heap.size w7 W) => same_any _ _ _ _ _ _ _ _ W (hh7.below hb) ((F0.out.below b7').below hb) (by simp; omega))
    rw [alike_low] at HSM
    have hw : IntKind.i64.wrap (4 * ((l0.length : Int) + (l1.length : Int))) = 4 * ((l0.length : Int) + (l1.length : Int)) := by rw [IntKind.wrap_i64]; omega
    have hw0 : IntKind.i64.wrap (4 * (l0.length : Int)) = 4 * (l0.length : Int) := by rw [IntKind.wrap_i64]; omega
    have z0 : 0 ≤ 4 * (l0.length : Int) := by omega
    have tn : (4 * (l0.length : Int)).toNat = 4 * l0.length := by omega
    clear b6' b7 b7' hh7 e7 hn7 HS6 HT6 HY6
    go_wp2_with fail
    refine wp_region_noPanic ?_
    refine wp_region_held_drew (S := fun W => Below w7.heap.size w7 W ∧ (convert 24 9 (.slice (some ⟨g4, 4 * l0.length, none⟩) (n4 - 4 * l0.length) (c4 - 4 * l0.length))).run Try.prog W = .ok (.string ⟨(putBytes l1).toArray⟩) W ∧ (convert 24 9 (.slice a5 n5 c5)).run Try.prog W = .ok (.string ⟨(putBytes l1).toArray⟩) W) (by kernel_rfl) (HC2.out _ ((Below.refl _ _).drew)) (fun hHeld => ?_)
    refine held_take (v := ?v161) 0 rfl (by kernel_rfl) (by kernel_rfl) (by kernel_rfl) (fun _ _ _ h => h) (by rfl) ?y161 (by assumption) ?_
    case y161 => (intro w hSw; (try dsimp only at hSw); go_simp; try with_reducible rfl)
    simp only [List.setIfInBounds_toArray, List.set_cons_zero, List.set_cons_succ]
    refine held_take (v := ?v164) 1 rfl (by kernel_rfl) (by kernel_rfl) (by kernel_rfl) (fun _ _ _ h => h) (by rfl) ?y164 (by assumption) ?_
    case y164 => (intro w hSw; (try dsimp only at hSw); go_simp; try with_reducible rfl)
    simp only [List.setIfInBounds_toArray, List.set_cons_zero, List.set_cons_succ]
    refine held_take (v := ?v167) 2 rfl (by kernel_rfl) (by kernel_rfl) (by kernel_rfl) (fun _ _ _ h => h) (by rfl) ?y167 (by assumption) ?_
    case y167 => (intro w hSw; (try dsimp only at hSw); go_simp; try with_reducible rfl)
    simp only [List.setIfInBounds_toArray, List.set_cons_zero, List.set_cons_succ]
    refine held_take (v := ?v170) 3 rfl (by kernel_rfl) (by kernel_rfl) (by kernel_rfl) (fun _ _ _ h => h) (by rfl) ?y170 (by assumption) ?_
    case y170 => (intro w hSw; (try dsimp only at hSw); go_simp; try with_reducible rfl)
    simp only [List.setIfInBounds_toArray, List.set_cons_zero, List.set_cons_succ]
    refine held_take (v := ?v173) 4 rfl (by kernel_rfl) (by kernel_rfl) (by kernel_rfl) (fun _ _ _ h => h) (by rfl) ?y173 (by assumption) ?_
    case y173 => (intro w hSw; (try dsimp only at hSw); go_simp; try with_reducible rfl)
    simp only [List.setIfInBounds_toArray, List.set_cons_zero, List.set_cons_succ]
    refine held_take (v := ?v176) 5 rfl (by kernel_rfl) (by kernel_rfl) (by kernel_rfl) (fun _ _ _ h => h) (by rfl) ?y176 (by assumption) ?_
    case y176 => (intro w hSw; (try dsimp only at hSw); go_simp; try with_reducible rfl)
    simp only [List.setIfInBounds_toArray, List.set_cons_zero, List.set_cons_succ]
    refine held_take (v := ?v179) 6 rfl (by kernel_rfl) (by kernel_rfl) (by kernel_rfl) (fun _ _ _ h => h) (by rfl) ?y179 (by assumption) ?_
    case y179 => (intro w hSw; (try dsimp only at hSw); go_simp; try with_reducible rfl)
    simp only [List.setIfInBounds_toArray, List.set_cons_zero, List.set_cons_succ]
    refine held_take (v := ?v182) 7 rfl (by kernel_rfl) (by kernel_rfl) (by kernel_rfl) (fun _ _ _ h => h) (by rfl) ?y182 (by assumption) ?_
    case y182 => (intro w hSw; (try dsimp only at hSw); go_simp; try with_reducible rfl)
    simp only [List.setIfInBounds_toArray, List.set_cons_zero, List.set_cons_succ]
    refine held_take (v := ?v185) 8 rfl (by kernel_rfl) (by kernel_rfl) (by kernel_rfl) (fun _ _ _ h => h) (by rfl) ?y185 (by assumption) ?_
    case y185 => (intro w hSw; (try dsimp only at hSw); go_simp; try with_reducible rfl)
    simp only [List.setIfInBounds_toArray, List.set_cons_zero, List.set_cons_succ]
    refine held_take (v := ?v188) 9 rfl (by kernel_rfl) (by kernel_rfl) (by kernel_rfl) (fun _ _ _ h => h) (by rfl) ?y188 (by assumption) ?_
    case y188 => (intro w hSw; (try dsimp only at hSw); go_simp; try with_reducible rfl)
    simp only [List.setIfInBounds_toArray, List.set_cons_zero, List.set_cons_succ]
    refine held_take (v := ?v191) 10 rfl (by kernel_rfl) (by kernel_rfl) (by kernel_rfl) (fun _ _ _ h => h) (by rfl) ?y191 (by assumption) ?_
    case y191 => (intro w hSw; (try dsimp only at hSw); go_simp; try with_reducible rfl)
    simp only [List.setIfInBounds_toArray, List.set_cons_zero, List.set_cons_succ]
    refine held_take (v := ?v194) 11 rfl (by kernel_rfl) (by kernel_rfl) (by kernel_rfl) (fun _ _ _ h => h) (by rfl) ?y194 (by assumption) ?_
    case y194 => (intro w hSw; (try dsimp only at hSw); go_simp; try with_reducible rfl)
    simp only [List.setIfInBounds_toArray, List.set_cons_zero, List.set_cons_succ]
    refine held_take (v := ?v197) 12 rfl (by kernel_rfl) (by kernel_rfl) (by kernel_rfl) (fun _ _ _ h => h) (by rfl) ?y197 (by assumption) ?_
    case y197 => (intro w hSw; (try dsimp only at hSw); go_simp; try with_reducible rfl)
    simp only [List.setIfInBounds_toArray, List.set_cons_zero, List.set_cons_succ]
    refine held_take (v := ?v200) 13 rfl (by kernel_rfl) (by kernel_rfl) (by kernel_rfl) (fun _ _ _ h => h) (by rfl) ?y200 (by assumption) ?_
    case y200 => (intro w hSw; (try dsimp only at hSw); go_simp; try with_reducible rfl)
    simp only [List.setIfInBounds_toArray, List.set_cons_zero, List.set_cons_succ]
    refine held_take (v := ?v203) 14 rfl (by kernel_rfl) (by kernel_rfl) (by kernel_rfl) (fun _ _ _ h => h) (by rfl) ?y203 (by assumption) ?_
    case y203 => (intro w hSw; (try dsimp only at hSw); go_simp; try with_reducible rfl)
    simp only [List.setIfInBounds_toArray, List.set_cons_zero, List.set_cons_succ]
    refine held_take (v := ?v206) 15 rfl (by kernel_rfl) (by kernel_rfl) (by kernel_rfl) (fun _ _ _ h => h) (by rfl) ?y206 (by assumption) ?_
    case y206 => (intro w hSw; (try dsimp only at hSw); go_simp; try with_reducible rfl)
    simp only [List.setIfInBounds_toArray, List.set_cons_zero, List.set_cons_succ]
    refine held_take (v := ?v209) 16 rfl (by kernel_rfl) (by kernel_rfl) (by kernel_rfl) (fun _ _ _ h => h) (by rfl) ?y209 (by assumption) ?_
    case y209 => (intro w hSw; (try dsimp only at hSw); go_simp; try with_reducible rfl)
    simp only [List.setIfInBounds_toArray, List.set_cons_zero, List.set_cons_succ]
    refine held_take (v := ?v212) 17 rfl (by kernel_rfl) (by kernel_rfl) (by kernel_rfl) (fun _ _ _ h => h) (by rfl) ?y212 (by assumption) ?_
    case y212 => (intro w hSw; (try dsimp only at hSw); go_simp; try with_reducible rfl)
    simp only [List.setIfInBounds_toArray, List.set_cons_zero, List.set_cons_succ]
    refine held_take (v := ?v215) 18 rfl (by kernel_rfl) (by kernel_rfl) (by kernel_rfl) (fun _ _ _ h => h) (by rfl) ?y215 (by assumption) ?_
    case y215 => (intro w hSw; (try dsimp only at hSw); go_simp; try with_reducible rfl)
    simp only [List.setIfInBounds_toArray, List.set_cons_zero, List.set_cons_succ]
    refine held_take (v := ?v218) 19 rfl (by kernel_rfl) (by kernel_rfl) (by kernel_rfl) (fun _ _ _ h => h) (by rfl) ?y218 (by assumption) ?_
    case y218 => (intro w hSw; (try dsimp only at hSw); go_simp; try with_reducible rfl)
    simp only [List.setIfInBounds_toArray, List.set_cons_zero, List.set_cons_succ]
    refine held_take (v := ?v221) 20 rfl (by kernel_rfl) (by kernel_rfl) (by kernel_rfl) (fun _ _ _ h => h) (by rfl) ?y221 (by assumption) ?_
    case y221 => (intro w hSw; (try dsimp only at hSw); go_simp; try with_reducible rfl)
    simp only [List.setIfInBounds_toArray, List.set_cons_zero, List.set_cons_succ]
    refine held_take (v := ?v224) 21 rfl (by kernel_rfl) (by kernel_rfl) (by kernel_rfl) (fun _ _ _ h => h) (by rfl) ?y224 (by assumption) ?_
    case y224 => (intro w hSw; (try dsimp only at hSw); go_simp; try with_reducible rfl)
    simp only [List.setIfInBounds_toArray, List.set_cons_zero, List.set_cons_succ]
    refine held_take (v := ?v227) 22 rfl (by kernel_rfl) (by kernel_rfl) (by kernel_rfl) (fun _ _ _ h => h) (by rfl) ?y227 (by assumption) ?_
    case y227 => (intro w hSw; (try dsimp only at hSw); go_simp; try with_reducible rfl)
    simp only [List.setIfInBounds_toArray, List.set_cons_zero, List.set_cons_succ]
    refine held_take (v := ?v230) 23 rfl (by kernel_rfl) (by kernel_rfl) (by kernel_rfl) (fun _ _ _ h => h) (by rfl) ?y230 (by assumption) ?_
    case y230 => (intro w hSw; (try dsimp only at hSw); go_simp; try with_reducible rfl)
    simp only [List.setIfInBounds_toArray, List.set_cons_zero, List.set_cons_succ]
    refine held_take (v := ?v233) 24 rfl (by kernel_rfl) (by kernel_rfl) (by kernel_rfl) (fun _ _ _ h => h) (by rfl) ?y233 (by assumption) ?_
    case y233 => (intro w hSw; (try dsimp only at hSw); go_simp; try with_reducible rfl)
    simp only [List.setIfInBounds_toArray, List.set_cons_zero, List.set_cons_succ]
    refine held_take (v := ?v236) 25 rfl (by kernel_rfl) (by kernel_rfl) (by kernel_rfl) (fun _ _ _ h => h) (by rfl) ?y236 (by assumption) ?_
    case y236 => (intro w hSw; (try dsimp only at hSw); go_simp; try with_reducible rfl)
    simp only [List.setIfInBounds_toArray, List.set_cons_zero, List.set_cons_succ]
    refine held_take (v := ?v239) 26 rfl (by kernel_rfl) (by kernel_rfl) (by kernel_rfl) (fun _ _ _ h => h) (by rfl) ?y239 (by assumption) ?_
    case y239 => (intro w hSw; (try dsimp only at hSw); go_simp; try with_reducible rfl)
    simp only [List.setIfInBounds_toArray, List.set_cons_zero, List.set_cons_succ]
    refine held_take (v := ?v242) 27 rfl (by kernel_rfl) (by kernel_rfl) (by kernel_rfl) (fun _ _ _ h => h) (by rfl) ?y242 (by assumption) ?_
    case y242 => (intro w hSw; (try dsimp only at hSw); go_simp; try with_reducible rfl)
    simp only [List.setIfInBounds_toArray, List.set_cons_zero, List.set_cons_succ]
    refine held_take (v := ?v245) 28 rfl (by kernel_rfl) (by kernel_rfl) (by kernel_rfl) (fun _ _ _ h => h) (by rfl) ?y245 (by assumption) ?_
    case y245 => (intro w hSw; (try dsimp only at hSw); go_simp; try with_reducible rfl)
    simp only [List.setIfInBounds_toArray, List.set_cons_zero, List.set_cons_succ]
    refine held_take (v := ?v248) 29 rfl (by kernel_rfl) (by kernel_rfl) (by kernel_rfl) (fun _ _ _ h => h) (by rfl) ?y248 (by assumption) ?_
    case y248 => (intro w hSw; (try dsimp only at hSw); go_simp; try with_reducible rfl)
    simp only [List.setIfInBounds_toArray, List.set_cons_zero, List.set_cons_succ]
    refine held_one 30 rfl (by kernel_rfl) (by rfl) (fun K hK => ?_)
    go_simp
    refine (HSM.out _ ((Below.refl _ _).drew)).mono ?_
    rintro e w8 ⟨rfl, b8⟩
    have g8 : Below w7.heap.size w7 w8 := below_up (Below.refl _ _).drew b8 (Nat.le_refl _)
    refine hK.out _ _ (HC2.out _ g8) (fun hHeld1 => ?_)
    clear hK K hHeld
    refine held_take (v := ?v258) 31 rfl (by kernel_rfl) (by kernel_rfl) (by kernel_rfl) (fun _ _ _ h => h) (by rfl) ?y258 (by assumption) ?_
    case y258 => (intro w hSw; (try dsimp only at hSw); go_simp; try with_reducible rfl)
    simp only [List.setIfInBounds_toArray, List.set_cons_zero, List.set_cons_succ]
    refine held_take (v := ?v261) 32 rfl (by kernel_rfl) (by kernel_rfl) (by kernel_rfl) (fun _ _ _ h => h) (by rfl) ?y261 (by assumption) ?_
    case y261 => (intro w hSw; (try dsimp only at hSw); go_simp; try with_reducible rfl)
    simp only [List.setIfInBounds_toArray, List.set_cons_zero, List.set_cons_succ]
    refine wpAnyH_done (by kernel_rfl) ?_ _
    refine NoPanic.normal ?_
    clear hHeld1
    go_wp2
    go_ret
    exact ⟨rfl, below_up HB7.out g8 HB7.out.size⟩
end Go.Proofs.Ytljpndkgfjndbaa
