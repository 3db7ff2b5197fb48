/- The document's table of stage 13: find, New, Get, Put, Delete. -/
import Derived.Test.YtoliijajhikhgaaSlB
namespace Go.Proofs.Ytoliijajhikhgaa
open Go Go.RowKit

theorem find_at13 {x : Int} : ∀ (L : List (Int × Int)) (j : Nat) (y : Int × Int), (∀ i z, i < j → L[i]? = some z → z.1 < x) → L[j]? = some y → ¬ y.1 < x → idx13 x L = j
  | [], j, y, _, h, _ => by simp at h
  | z :: L, 0, y, _, h, hn => by
    cases h
    unfold idx13
    rw [if_neg hn]
  | z :: L, j + 1, y, hp, h, hn => by
    unfold idx13
    rw [if_pos (hp 0 z (by omega) rfl), find_at13 L j y (fun i u hi hu => hp (i + 1) u (by omega) hu) h hn]
theorem find_end13 {x : Int} : ∀ (L : List (Int × Int)), (∀ i z, i < L.length → L[i]? = some z → z.1 < x) → idx13 x L = L.length
  | [], _ => rfl
  | z :: L, hp => by
    unfold idx13
    rw [if_pos (hp 0 z (by simp) rfl), find_end13 L (fun i u hi hu => hp (i + 1) u (by simpa using hi) hu)]
    rfl
theorem is13_at {x : Int} {L : List (Int × Int)} {y : Int × Int} {j : Nat} (h : idx13 x L = j) (hy : L[j]? = some y) : is13 x L = decide (y.1 = x) := by
  unfold is13
  rw [h, hy]
theorem is13_end {x : Int} {L : List (Int × Int)} (h : idx13 x L = L.length) : is13 x L = false := by
  unfold is13
  rw [h, List.getElem?_eq_none (Nat.le_refl _)]
theorem isI_at {W : World} {a : Option Addr} {n cap : Nat} {L : List (Int × Int)} (h : IsI13 W (.slice a n cap) L) (j : Nat) (x : Int × Int) (hx : L[j]? = some x) : ∃ b k, a = some ⟨b, k, none⟩ ∧ b < W.heap.size ∧ W.rangeAt b (k + j * 2) (iR x) := by
  obtain ⟨rfl, _, _, h3⟩ := h.shape
  have hj := (List.getElem?_eq_some_iff.1 hx).1
  obtain ⟨b, k, e, hb, hc⟩ := h3 (by omega)
  exact ⟨b, k, e, hb, flat_range (iR_all L) hc j x hx⟩
set_option maxRecDepth 100000 in
set_option maxHeartbeats 8000000 in
theorem rfind13 (a : Option Addr) (n cap : Nat) (L : List (Int × Int)) (x : Int) (w : World) (hC : IsI13 w (.slice a n cap) L) (hl : L.length ≤ 1000000) :
    Calls Try.prog 20 #[.slice a n cap, .int .i64 x] w fun e w' => e = .returned (.tuple #[.int .i64 (idx13 x L : Nat), .bool (is13 x L)]) ∧ Below w.heap.size w w' := by
  obtain ⟨rfl, hcap, hcm, _⟩ := hC.shape
  have HC := Lib.hid hC
  unfold maxLen at hcm
  clear hC
  go_enter Try.func20, Try.ntmps20
  go_wp2
  go_loopw [6] (fun r wr => ∃ j : Nat, j ≤ L.length ∧ r = .int .i64 (j : Int) ∧ Hid (∀ i z, i < j → L[i]? = some z → z.1 < x) ∧ Below w.heap.size w wr) (fun r _ => L.length - (intOf r).toNat)
  case atStart => exact ⟨0, by omega, rfl, Lib.hid (fun i y hi => by omega), Below.refl _ _⟩
  case round =>
    obtain ⟨j, hj, rfl, HPRE, hbel⟩ := hrel
    by_cases hlt : j < L.length
    · obtain ⟨y, hy⟩ : ∃ y, L[j]? = some y := ⟨_, List.getElem?_eq_getElem hlt⟩
      obtain ⟨b, k, rfl, hbw, hr⟩ := isI_at (HC.out.below hbel) j y hy
      have hi3 : (j : Int) < (L.length : Int) := by omega
      have hi0 : ¬ (j : Int) < 0 := by omega
      have c0 : wr.cell? ⟨b, k + j * 2, none⟩ = some (.int .i64 y.1) := hr 0 _ rfl
      have c0d : wr.drew.cell? ⟨b, k + j * 2, none⟩ = some (.int .i64 y.1) := c0
      have HB := Lib.hid hbel
      by_cases hc : y.1 < x
      · have HPN : Hid (∀ i z, i < j + 1 → L[i]? = some z → z.1 < x) := fun i z hi hz => by
          rcases Nat.lt_or_ge i j with h | h
          · exact HPRE.out i z h hz
          · obtain rfl : i = j := by omega
            rw [hy] at hz; cases hz; exact hc
        clear hy hr hbel
        go_wp2
        go_roundw
        case rel => exact ⟨j + 1, by omega, by go_num, HPN, HB.out⟩
        case measure => simp [intOf]; omega
      · have hix := find_at13 L j y HPRE.out hy hc
        have his := is13_at hix hy
        have HIX := Lib.hid hix
        have HIS := Lib.hid his
        clear hy hr hbel hix his
        go_wp2_with fail
        refine wp_region_noPanic ?_
        refine wp_region_held_drew (S := fun W => W.cell? ⟨b, k + j * 2, none⟩ = some (.int .i64 y.1)) (by kernel_rfl) c0d (fun hHeld => ?_)
        refine held_take (v := ?v72) 0 rfl (by kernel_rfl) (by kernel_rfl) (by kernel_rfl) (fun _ _ _ h => h) (by rfl) ?y72 (by assumption) ?_
        case y72 => (intro w hSw; (try dsimp only at hSw); go_simp; (try with_reducible rfl); (try omega))
        simp only [List.setIfInBounds_toArray, List.set_cons_zero, List.set_cons_succ]
        refine held_take (v := ?v75) 1 rfl (by kernel_rfl) (by kernel_rfl) (by kernel_rfl) (fun _ _ _ h => h) (by rfl) ?y75 (by assumption) ?_
        case y75 => (intro w hSw; (try dsimp only at hSw); go_simp; (try with_reducible rfl); (try omega))
        simp only [List.setIfInBounds_toArray, List.set_cons_zero, List.set_cons_succ]
        refine held_take (v := ?v78) 2 rfl (by kernel_rfl) (by kernel_rfl) (by kernel_rfl) (fun _ _ _ h => h) (by rfl) ?y78 (by assumption) ?_
        case y78 => (intro w hSw; (try dsimp only at hSw); go_simp; (try with_reducible rfl); (try omega))
        simp only [List.setIfInBounds_toArray, List.set_cons_zero, List.set_cons_succ]
        refine held_take (v := ?v81) 3 rfl (by kernel_rfl) (by kernel_rfl) (by kernel_rfl) (fun _ _ _ h => h) (by rfl) ?y81 (by assumption) ?_
        case y81 => (intro w hSw; (try dsimp only at hSw); go_simp; (try with_reducible rfl); (try omega))
        simp only [List.setIfInBounds_toArray, List.set_cons_zero, List.set_cons_succ]
        refine held_take (v := ?v84) 4 rfl (by kernel_rfl) (by kernel_rfl) (by kernel_rfl) (fun _ _ _ h => h) (by rfl) ?y84 (by assumption) ?_
        case y84 => (intro w hSw; (try dsimp only at hSw); go_simp; (try with_reducible rfl); (try omega))
        simp only [List.setIfInBounds_toArray, List.set_cons_zero, List.set_cons_succ]
        (try rw [decide_eq_true hi3])
        refine held_take (v := ?v88) 5 rfl (by kernel_rfl) (by kernel_rfl) (by kernel_rfl) (fun _ _ _ h => h) (by rfl) ?y88 (by assumption) ?_
        case y88 => (intro w hSw; (try dsimp only at hSw); go_simp; (try with_reducible rfl); (try omega))
        simp only [List.setIfInBounds_toArray, List.set_cons_zero, List.set_cons_succ]
        refine held_take (v := ?v91) 6 rfl (by kernel_rfl) (by kernel_rfl) (by kernel_rfl) (fun _ _ _ h => h) (by rfl) ?y91 (by assumption) ?_
        case y91 => (intro w hSw; (try dsimp only at hSw); go_simp; (try with_reducible rfl); (try omega))
        simp only [List.setIfInBounds_toArray, List.set_cons_zero, List.set_cons_succ]
        refine held_take (v := ?v94) 7 rfl (by kernel_rfl) (by kernel_rfl) (by kernel_rfl) (fun _ _ _ h => h) (by rfl) ?y94 (by assumption) ?_
        case y94 => (intro w hSw; (try dsimp only at hSw); go_simp; (try with_reducible rfl); (try omega))
        simp only [List.setIfInBounds_toArray, List.set_cons_zero, List.set_cons_succ]
        refine held_take (v := ?v97) 8 rfl (by kernel_rfl) (by kernel_rfl) (by kernel_rfl) (fun _ _ _ h => h) (by rfl) ?y97 (by assumption) ?_
        case y97 => (intro w hSw; (try dsimp only at hSw); go_simp; (try with_reducible rfl); (try omega))
        simp only [List.setIfInBounds_toArray, List.set_cons_zero, List.set_cons_succ]
        refine held_take (v := ?v100) 9 rfl (by kernel_rfl) (by kernel_rfl) (by kernel_rfl) (fun _ _ _ h => h) (by rfl) ?y100 (by assumption) ?_
        case y100 => (intro w hSw; (try dsimp only at hSw); go_simp; (try with_reducible rfl); (try omega))
        simp only [List.setIfInBounds_toArray, List.set_cons_zero, List.set_cons_succ]
        refine held_take (v := ?v103) 10 rfl (by kernel_rfl) (by kernel_rfl) (by kernel_rfl) (fun _ _ _ h => h) (by rfl) ?y103 (by assumption) ?_
        case y103 => (intro w hSw; (try dsimp only at hSw); go_simp; (try with_reducible rfl); (try omega))
        simp only [List.setIfInBounds_toArray, List.set_cons_zero, List.set_cons_succ]
        refine held_take (v := ?v106) 11 rfl (by kernel_rfl) (by kernel_rfl) (by kernel_rfl) (fun _ _ _ h => h) (by rfl) ?y106 (by assumption) ?_
        case y106 => (intro w hSw; (try dsimp only at hSw); go_simp; (try with_reducible rfl); (try omega))
        simp only [List.setIfInBounds_toArray, List.set_cons_zero, List.set_cons_succ]
        refine held_take (v := ?v109) 12 rfl (by kernel_rfl) (by kernel_rfl) (by kernel_rfl) (fun _ _ _ h => h) (by rfl) ?y109 (by assumption) ?_
        case y109 => (intro w hSw; (try dsimp only at hSw); go_simp; (try with_reducible rfl); (try omega))
        simp only [List.setIfInBounds_toArray, List.set_cons_zero, List.set_cons_succ]
        refine held_take (v := ?v112) 13 rfl (by kernel_rfl) (by kernel_rfl) (by kernel_rfl) (fun _ _ _ h => h) (by rfl) ?y112 (by assumption) ?_
        case y112 => (intro w hSw; (try dsimp only at hSw); go_simp; (try with_reducible rfl); (try omega))
        simp only [List.setIfInBounds_toArray, List.set_cons_zero, List.set_cons_succ]
        refine held_take (v := ?v115) 14 rfl (by kernel_rfl) (by kernel_rfl) (by kernel_rfl) (fun _ _ _ h => h) (by rfl) ?y115 (by assumption) ?_
        case y115 => (intro w hSw; (try dsimp only at hSw); go_simp; (try with_reducible rfl); (try omega))
        simp only [List.setIfInBounds_toArray, List.set_cons_zero, List.set_cons_succ]
        refine held_take (v := ?v118) 15 rfl (by kernel_rfl) (by kernel_rfl) (by kernel_rfl) (fun _ _ _ h => h) (by rfl) ?y118 (by assumption) ?_
        case y118 => (intro w hSw; (try dsimp only at hSw); go_simp; (try with_reducible rfl); (try omega))
        simp only [List.setIfInBounds_toArray, List.set_cons_zero, List.set_cons_succ]
        refine wpAnyH_done (by kernel_rfl) ?_ _
        refine NoPanic.normal ?_
        go_wp2
        go_ret2
        refine ⟨by rw [HIX.out, HIS.out]; rfl, HB.out.drew⟩
    · have hje : L.length ≤ j := by omega
      have hi3 : ¬ (j : Int) < (L.length : Int) := by omega
      have HJE := Lib.hid (show j = L.length by omega)
      have HIX := Lib.hid (find_end13 L (fun i z hi hz => HPRE.out i z (by rw [HJE.out]; exact hi) hz))
      have HIS := Lib.hid (is13_end HIX.out)
      have HB := Lib.hid hbel
      clear hbel
      go_wp2_with fail
      refine wp_region_noPanic ?_
      refine wp_region_held_drew (S := HeldN) (by kernel_rfl) trivial (fun hHeld => ?_)
      refine held_take (v := ?v136) 0 rfl (by kernel_rfl) (by kernel_rfl) (by kernel_rfl) (fun _ _ _ h => h) (by rfl) ?y136 (by assumption) ?_
      case y136 => (intro w hSw; unfold HeldN at hSw; go_simp; (try with_reducible rfl); (try omega))
      simp only [List.setIfInBounds_toArray, List.set_cons_zero, List.set_cons_succ]
      refine held_take (v := ?v139) 1 rfl (by kernel_rfl) (by kernel_rfl) (by kernel_rfl) (fun _ _ _ h => h) (by rfl) ?y139 (by assumption) ?_
      case y139 => (intro w hSw; unfold HeldN at hSw; go_simp; (try with_reducible rfl); (try omega))
      simp only [List.setIfInBounds_toArray, List.set_cons_zero, List.set_cons_succ]
      refine held_take (v := ?v142) 2 rfl (by kernel_rfl) (by kernel_rfl) (by kernel_rfl) (fun _ _ _ h => h) (by rfl) ?y142 (by assumption) ?_
      case y142 => (intro w hSw; unfold HeldN at hSw; go_simp; (try with_reducible rfl); (try omega))
      simp only [List.setIfInBounds_toArray, List.set_cons_zero, List.set_cons_succ]
      refine held_take (v := ?v145) 3 rfl (by kernel_rfl) (by kernel_rfl) (by kernel_rfl) (fun _ _ _ h => h) (by rfl) ?y145 (by assumption) ?_
      case y145 => (intro w hSw; unfold HeldN at hSw; go_simp; (try with_reducible rfl); (try omega))
      simp only [List.setIfInBounds_toArray, List.set_cons_zero, List.set_cons_succ]
      refine held_take (v := ?v148) 4 rfl (by kernel_rfl) (by kernel_rfl) (by kernel_rfl) (fun _ _ _ h => h) (by rfl) ?y148 (by assumption) ?_
      case y148 => (intro w hSw; unfold HeldN at hSw; go_simp; (try with_reducible rfl); (try omega))
      simp only [List.setIfInBounds_toArray, List.set_cons_zero, List.set_cons_succ]
      (try rw [decide_eq_false hi3])
      refine held_take (v := ?v152) 5 rfl (by kernel_rfl) (by kernel_rfl) (by kernel_rfl) (fun _ _ _ h => h) (by rfl) ?y152 (by assumption) ?_
      case y152 => (intro w hSw; unfold HeldN at hSw; go_simp; (try with_reducible rfl); (try omega))
      simp only [List.setIfInBounds_toArray, List.set_cons_zero, List.set_cons_succ]
      refine held_skip 6 rfl (by kernel_rfl) (by kernel_rfl) (by kernel_rfl) (fun _ _ _ h => h) (by rfl) (by assumption) ?_
      simp only [List.setIfInBounds_toArray, List.set_cons_zero, List.set_cons_succ]
      refine held_skip 7 rfl (by kernel_rfl) (by kernel_rfl) (by kernel_rfl) (fun _ _ _ h => h) (by rfl) (by assumption) ?_
      simp only [List.setIfInBounds_toArray, List.set_cons_zero, List.set_cons_succ]
      refine held_skip 8 rfl (by kernel_rfl) (by kernel_rfl) (by kernel_rfl) (fun _ _ _ h => h) (by rfl) (by assumption) ?_
      simp only [List.setIfInBounds_toArray, List.set_cons_zero, List.set_cons_succ]
      refine held_skip 9 rfl (by kernel_rfl) (by kernel_rfl) (by kernel_rfl) (fun _ _ _ h => h) (by rfl) (by assumption) ?_
      simp only [List.setIfInBounds_toArray, List.set_cons_zero, List.set_cons_succ]
      refine held_skip 10 rfl (by kernel_rfl) (by kernel_rfl) (by kernel_rfl) (fun _ _ _ h => h) (by rfl) (by assumption) ?_
      simp only [List.setIfInBounds_toArray, List.set_cons_zero, List.set_cons_succ]
      refine held_skip 11 rfl (by kernel_rfl) (by kernel_rfl) (by kernel_rfl) (fun _ _ _ h => h) (by rfl) (by assumption) ?_
      simp only [List.setIfInBounds_toArray, List.set_cons_zero, List.set_cons_succ]
      refine held_skip 12 rfl (by kernel_rfl) (by kernel_rfl) (by kernel_rfl) (fun _ _ _ h => h) (by rfl) (by assumption) ?_
      simp only [List.setIfInBounds_toArray, List.set_cons_zero, List.set_cons_succ]
      refine held_take (v := ?v169) 13 rfl (by kernel_rfl) (by kernel_rfl) (by kernel_rfl) (fun _ _ _ h => h) (by rfl) ?y169 (by assumption) ?_
      case y169 => (intro w hSw; unfold HeldN at hSw; go_simp; (try with_reducible rfl); (try omega))
      simp only [List.setIfInBounds_toArray, List.set_cons_zero, List.set_cons_succ]
      refine held_take (v := ?v172) 14 rfl (by kernel_rfl) (by kernel_rfl) (by kernel_rfl) (fun _ _ _ h => h) (by rfl) ?y172 (by assumption) ?_
      case y172 => (intro w hSw; unfold HeldN at hSw; go_simp; (try with_reducible rfl); (try omega))
      simp only [List.setIfInBounds_toArray, List.set_cons_zero, List.set_cons_succ]
      refine held_take (v := ?v175) 15 rfl (by kernel_rfl) (by kernel_rfl) (by kernel_rfl) (fun _ _ _ h => h) (by rfl) ?y175 (by assumption) ?_
      case y175 => (intro w hSw; unfold HeldN at hSw; go_simp; (try with_reducible rfl); (try omega))
      simp only [List.setIfInBounds_toArray, List.set_cons_zero, List.set_cons_succ]
      refine wpAnyH_done (by kernel_rfl) ?_ _
      refine NoPanic.normal ?_
      go_wp2
      go_ret2
      refine ⟨by rw [show idx13 x L = j from HIX.out.trans HJE.out.symm, HIS.out]; rfl, HB.out.drew⟩
end Go.Proofs.Ytoliijajhikhgaa
