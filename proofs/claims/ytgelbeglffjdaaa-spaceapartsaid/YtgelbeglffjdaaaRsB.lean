/- The document's spans: Add, Count, Longest. The document's spans: First. -/
import Derived.Test.YtgelbeglffjdaaaRs3
import Derived.Test.YtgelbeglffjdaaaSpA
namespace Go.Proofs.Ytgelbeglffjdaaa
open Go Go.RowKit Go.Shelf

def HeldQ (b k : Nat) (f e : Int) (W : World) : Prop := W.cell? ⟨b, k, none⟩ = some (.int .i64 f) ∧ W.cell? ⟨b, k + 1, none⟩ = some (.int .i64 e)
set_option maxRecDepth 100000 in
set_option maxHeartbeats 2000000 in
theorem rcount_any (v : Value) (l : List Spn) (w : World) (h : IsS w v l) (hN : l.length ≤ 200000) :
    Calls Try.prog 22 #[v] w fun e w' => e = .returned (.int .i64 (cntS (normS l))) ∧ Below w.heap.size w w' := by
  obtain ⟨a, c, rfl, hc⟩ := h.form
  have HT := Lib.hid (rnorm_any _ l w h hN)
  have hml := normS_length_le l
  have HNO := Lib.hid (norm_ok l).1
  generalize normS l = m at *
  clear h
  go_enter Try.func22, Try.ntmps22
  go_wp2_with (go_at_call 53; refine HT.out.mono ?_; rintro e w1 ⟨v1, rfl, h1, b1⟩; refine Hid.out ?_)
  refine Lib.hid ?_
  obtain ⟨a1, c1, rfl, hc1⟩ := h1.form
  have HS := Lib.hid h1
  have HB := Lib.hid b1
  clear h1 b1 HT
  go_wp2
  go_loopw [4, 5] (fun r i wr => ∃ k : Nat, k ≤ m.length ∧ i = .int .i64 (k : Int) ∧ r = .int .i64 (cntS (m.take k)) ∧ Below w1.heap.size w1 wr) (fun _ i _ => m.length - (intOf i).toNat)
  case atStart => exact ⟨0, Nat.zero_le _, rfl, rfl, Below.refl _ _⟩
  case round =>
    obtain ⟨k, hk, rfl, rfl, hbel⟩ := hrel
    by_cases hlt : k < m.length
    · have hlti : (k : Int) < (m.length : Int) := by omega
      have h0k : (0 : Int) ≤ (k : Int) := by omega
      obtain ⟨x, hx⟩ : ∃ x, m[k]? = some x := ⟨m[k], List.getElem?_eq_getElem hlt⟩
      have hxm := HNO.out.may x (List.mem_of_getElem? hx)
      obtain ⟨b, o, rfl, hbl⟩ := HS.out.place (by omega)
      have hr := IsS.range (HS.out.below hbel) k x hx
      have hH : HeldQ b (o + k * 2) x.f x.l wr.drew := ⟨rng0 hr, rng1 hr⟩
      have hcb := cntS_bound (normal_take HNO.out k)
      have hnx : cntS (m.take (k + 1)) = cntS (m.take k) + (x.l - x.f + 1) := by rw [take_next hx, cntS_snoc]
      have k3 : IntKind.i64.wrap (cntS (m.take k) + (x.l - x.f + 1)) = cntS (m.take k) + (x.l - x.f + 1) := by unfold mayS at hxm; simp [IntKind.wrap, IntKind.bits, IntKind.signed]; omega
      have k1 : IntKind.i64.wrap (x.l - x.f) = x.l - x.f := by unfold mayS at hxm; simp [IntKind.wrap, IntKind.bits, IntKind.signed]; omega
      have k2 : IntKind.i64.wrap (x.l - x.f + 1) = x.l - x.f + 1 := by unfold mayS at hxm; simp [IntKind.wrap, IntKind.bits, IntKind.signed]; omega
      have HNX := Lib.hid hnx
      have HB2 := Lib.hid (below_up hbel ((Below.refl wr.heap.size wr).drew) hbel.size)
      obtain ⟨C, hC⟩ : ∃ C, cntS (m.take k) = C := ⟨_, rfl⟩
      rw [hC] at HNX k3 ⊢
      clear hr hx hxm hnx hbel hC hcb
      go_wp2
      refine wp_region_noPanic ?_
      refine wp_region_held_drew (S := HeldQ b (o + k * 2) x.f x.l) (by kernel_rfl) hH (fun hHeld => ?_)
      refine held_take (v := ?v98) 0 rfl (by kernel_rfl) (by kernel_rfl) (by kernel_rfl) (fun _ _ _ h => h) (by rfl) ?y98 (by assumption) ?_
      case y98 => (intro w hSw; unfold HeldQ at hSw; go_simp; (try with_reducible rfl); (try omega))
      simp only [List.setIfInBounds_toArray, List.set_cons_zero, List.set_cons_succ]
      refine held_take (v := ?v101) 1 rfl (by kernel_rfl) (by kernel_rfl) (by kernel_rfl) (fun _ _ _ h => h) (by rfl) ?y101 (by assumption) ?_
      case y101 => (intro w hSw; unfold HeldQ at hSw; go_simp; (try with_reducible rfl); (try omega))
      simp only [List.setIfInBounds_toArray, List.set_cons_zero, List.set_cons_succ]
      refine held_take (v := ?v104) 2 rfl (by kernel_rfl) (by kernel_rfl) (by kernel_rfl) (fun _ _ _ h => h) (by rfl) ?y104 (by assumption) ?_
      case y104 => (intro w hSw; unfold HeldQ at hSw; go_simp; (try with_reducible rfl); (try omega))
      simp only [List.setIfInBounds_toArray, List.set_cons_zero, List.set_cons_succ]
      refine held_take (v := ?v107) 3 rfl (by kernel_rfl) (by kernel_rfl) (by kernel_rfl) (fun _ _ _ h => h) (by rfl) ?y107 (by assumption) ?_
      case y107 => (intro w hSw; unfold HeldQ at hSw; go_simp; (try with_reducible rfl); (try omega))
      simp only [List.setIfInBounds_toArray, List.set_cons_zero, List.set_cons_succ]
      refine held_take (v := ?v110) 4 rfl (by kernel_rfl) (by kernel_rfl) (by kernel_rfl) (fun _ _ _ h => h) (by rfl) ?y110 (by assumption) ?_
      case y110 => (intro w hSw; unfold HeldQ at hSw; go_simp; (try with_reducible rfl); (try omega))
      simp only [List.setIfInBounds_toArray, List.set_cons_zero, List.set_cons_succ]
      refine held_take (v := ?v113) 5 rfl (by kernel_rfl) (by kernel_rfl) (by kernel_rfl) (fun _ _ _ h => h) (by rfl) ?y113 (by assumption) ?_
      case y113 => (intro w hSw; unfold HeldQ at hSw; go_simp; (try with_reducible rfl); (try omega))
      simp only [List.setIfInBounds_toArray, List.set_cons_zero, List.set_cons_succ]
      refine held_take (v := ?v116) 6 rfl (by kernel_rfl) (by kernel_rfl) (by kernel_rfl) (fun _ _ _ h => h) (by rfl) ?y116 (by assumption) ?_
      case y116 => (intro w hSw; unfold HeldQ at hSw; go_simp; (try with_reducible rfl); (try omega))
      simp only [List.setIfInBounds_toArray, List.set_cons_zero, List.set_cons_succ]
      refine held_take (v := ?v119) 7 rfl (by kernel_rfl) (by kernel_rfl) (by kernel_rfl) (fun _ _ _ h => h) (by rfl) ?y119 (by assumption) ?_
      case y119 => (intro w hSw; unfold HeldQ at hSw; go_simp; (try with_reducible rfl); (try omega))
      simp only [List.setIfInBounds_toArray, List.set_cons_zero, List.set_cons_succ]
      refine held_take (v := ?v122) 8 rfl (by kernel_rfl) (by kernel_rfl) (by kernel_rfl) (fun _ _ _ h => h) (by rfl) ?y122 (by assumption) ?_
      case y122 => (intro w hSw; unfold HeldQ at hSw; go_simp; (try with_reducible rfl); (try omega))
      simp only [List.setIfInBounds_toArray, List.set_cons_zero, List.set_cons_succ]
      refine held_take (v := ?v125) 9 rfl (by kernel_rfl) (by kernel_rfl) (by kernel_rfl) (fun _ _ _ h => h) (by rfl) ?y125 (by assumption) ?_
      case y125 => (intro w hSw; unfold HeldQ at hSw; go_simp; (try with_reducible rfl); (try omega))
      simp only [List.setIfInBounds_toArray, List.set_cons_zero, List.set_cons_succ]
      refine held_take (v := ?v128) 10 rfl (by kernel_rfl) (by kernel_rfl) (by kernel_rfl) (fun _ _ _ h => h) (by rfl) ?y128 (by assumption) ?_
      case y128 => (intro w hSw; unfold HeldQ at hSw; go_simp; (try with_reducible rfl); (try omega))
      simp only [List.setIfInBounds_toArray, List.set_cons_zero, List.set_cons_succ]
      refine held_take (v := .int .i64 (x.l - x.f)) 11 rfl (by kernel_rfl) (by kernel_rfl) (by kernel_rfl) (fun _ _ _ h => h) (by rfl) (fun W hSw => (by go_simp; (try exact k1))) (by assumption) ?_
      simp only [List.setIfInBounds_toArray, List.set_cons_zero, List.set_cons_succ]
      refine held_take (v := .int .i64 (x.l - x.f + 1)) 12 rfl (by kernel_rfl) (by kernel_rfl) (by kernel_rfl) (fun _ _ _ h => h) (by rfl) (fun W hSw => (by go_simp; (try exact k2))) (by assumption) ?_
      simp only [List.setIfInBounds_toArray, List.set_cons_zero, List.set_cons_succ]
      refine held_take (v := .int .i64 (C + (x.l - x.f + 1))) 13 rfl (by kernel_rfl) (by kernel_rfl) (by kernel_rfl) (fun _ _ _ h => h) (by rfl) (fun W hSw => (by go_simp; (try exact k3))) (by assumption) ?_
      simp only [List.setIfInBounds_toArray, List.set_cons_zero, List.set_cons_succ]
      refine held_take (v := ?v137) 14 rfl (by kernel_rfl) (by kernel_rfl) (by kernel_rfl) (fun _ _ _ h => h) (by rfl) ?y137 (by assumption) ?_
      case y137 => (intro w hSw; unfold HeldQ at hSw; go_simp; (try with_reducible rfl); (try omega))
      simp only [List.setIfInBounds_toArray, List.set_cons_zero, List.set_cons_succ]
      refine wpAnyH_done (by kernel_rfl) ?_ _
      refine NoPanic.normal ?_
      go_wp2
      go_roundw
      case rel => exact ⟨k + 1, hlt, rfl, by rw [HNX.out], HB2.out⟩
      case measure => simp only [intOf]; omega
    · have hlti : ¬ (k : Int) < (m.length : Int) := by omega
      have HBW := Lib.hid (below_up HB.out hbel HB.out.size)
      clear hbel
      go_wp2
      go_ret
      refine ⟨?_, HBW.out⟩
      rw [List.take_of_length_le (by omega)]
      rfl
set_option maxRecDepth 100000 in
set_option maxHeartbeats 2000000 in
theorem rlong_any (v : Value) (l : List Spn) (w : World) (h : IsS w v l) (hN : l.length ≤ 200000) :
    Calls Try.prog 23 #[v] w fun e w' => e = .returned (.int .i64 (longS (normS l) 0)) ∧ Below w.heap.size w w' := by
  obtain ⟨a, c, rfl, hc⟩ := h.form
  have HT := Lib.hid (rnorm_any _ l w h hN)
  have hml := normS_length_le l
  have HNO := Lib.hid (norm_ok l).1
  generalize normS l = m at *
  clear h
  go_enter Try.func23, Try.ntmps23
  go_wp2_with (go_at_call 53; refine HT.out.mono ?_; rintro e w1 ⟨v1, rfl, h1, b1⟩; refine Hid.out ?_)
  refine Lib.hid ?_
  obtain ⟨a1, c1, rfl, hc1⟩ := h1.form
  have HS := Lib.hid h1
  have HB := Lib.hid b1
  clear h1 b1 HT
  go_wp2
  go_loopw [4, 5] (fun r i wr => ∃ k : Nat, k ≤ m.length ∧ i = .int .i64 (k : Int) ∧ r = .int .i64 (longS (m.take k) 0) ∧ Below w1.heap.size w1 wr) (fun _ i _ => m.length - (intOf i).toNat)
  case atStart => exact ⟨0, Nat.zero_le _, rfl, rfl, Below.refl _ _⟩
  case round =>
    obtain ⟨k, hk, rfl, rfl, hbel⟩ := hrel
    by_cases hlt : k < m.length
    · have hlti : (k : Int) < (m.length : Int) := by omega
      have h0k : (0 : Int) ≤ (k : Int) := by omega
      obtain ⟨x, hx⟩ : ∃ x, m[k]? = some x := ⟨m[k], List.getElem?_eq_getElem hlt⟩
      have hxm := HNO.out.may x (List.mem_of_getElem? hx)
      obtain ⟨b, o, rfl, hbl⟩ := HS.out.place (by omega)
      have hr := IsS.range (HS.out.below hbel) k x hx
      have hH : HeldQ b (o + k * 2) x.f x.l wr.drew := ⟨rng0 hr, rng1 hr⟩
      have hnx : longS (m.take (k + 1)) 0 = max (longS (m.take k) 0) (x.l - x.f + 1) := by rw [take_next hx, longS_snoc]
      have k1 : IntKind.i64.wrap (x.l - x.f) = x.l - x.f := by unfold mayS at hxm; simp [IntKind.wrap, IntKind.bits, IntKind.signed]; omega
      have k2 : IntKind.i64.wrap (x.l - x.f + 1) = x.l - x.f + 1 := by unfold mayS at hxm; simp [IntKind.wrap, IntKind.bits, IntKind.signed]; omega
      have HNX := Lib.hid hnx
      have HB2 := Lib.hid (below_up hbel ((Below.refl wr.heap.size wr).drew) hbel.size)
      obtain ⟨C, hC⟩ : ∃ C, longS (m.take k) 0 = C := ⟨_, rfl⟩
      rw [hC] at HNX  ⊢
      clear hr hx hxm hnx hbel hC 
      go_wp2
      refine wp_region_noPanic ?_
      refine wp_region_held_drew (S := HeldQ b (o + k * 2) x.f x.l) (by kernel_rfl) hH (fun hHeld => ?_)
      refine held_take (v := ?v195) 0 rfl (by kernel_rfl) (by kernel_rfl) (by kernel_rfl) (fun _ _ _ h => h) (by rfl) ?y195 (by assumption) ?_
      case y195 => (intro w hSw; unfold HeldQ at hSw; go_simp; (try with_reducible rfl); (try omega))
      simp only [List.setIfInBounds_toArray, List.set_cons_zero, List.set_cons_succ]
      refine held_take (v := ?v198) 1 rfl (by kernel_rfl) (by kernel_rfl) (by kernel_rfl) (fun _ _ _ h => h) (by rfl) ?y198 (by assumption) ?_
      case y198 => (intro w hSw; unfold HeldQ at hSw; go_simp; (try with_reducible rfl); (try omega))
      simp only [List.setIfInBounds_toArray, List.set_cons_zero, List.set_cons_succ]
      refine held_take (v := ?v201) 2 rfl (by kernel_rfl) (by kernel_rfl) (by kernel_rfl) (fun _ _ _ h => h) (by rfl) ?y201 (by assumption) ?_
      case y201 => (intro w hSw; unfold HeldQ at hSw; go_simp; (try with_reducible rfl); (try omega))
      simp only [List.setIfInBounds_toArray, List.set_cons_zero, List.set_cons_succ]
      refine held_take (v := ?v204) 3 rfl (by kernel_rfl) (by kernel_rfl) (by kernel_rfl) (fun _ _ _ h => h) (by rfl) ?y204 (by assumption) ?_
      case y204 => (intro w hSw; unfold HeldQ at hSw; go_simp; (try with_reducible rfl); (try omega))
      simp only [List.setIfInBounds_toArray, List.set_cons_zero, List.set_cons_succ]
      refine held_take (v := ?v207) 4 rfl (by kernel_rfl) (by kernel_rfl) (by kernel_rfl) (fun _ _ _ h => h) (by rfl) ?y207 (by assumption) ?_
      case y207 => (intro w hSw; unfold HeldQ at hSw; go_simp; (try with_reducible rfl); (try omega))
      simp only [List.setIfInBounds_toArray, List.set_cons_zero, List.set_cons_succ]
      refine held_take (v := ?v210) 5 rfl (by kernel_rfl) (by kernel_rfl) (by kernel_rfl) (fun _ _ _ h => h) (by rfl) ?y210 (by assumption) ?_
      case y210 => (intro w hSw; unfold HeldQ at hSw; go_simp; (try with_reducible rfl); (try omega))
      simp only [List.setIfInBounds_toArray, List.set_cons_zero, List.set_cons_succ]
      refine held_take (v := ?v213) 6 rfl (by kernel_rfl) (by kernel_rfl) (by kernel_rfl) (fun _ _ _ h => h) (by rfl) ?y213 (by assumption) ?_
      case y213 => (intro w hSw; unfold HeldQ at hSw; go_simp; (try with_reducible rfl); (try omega))
      simp only [List.setIfInBounds_toArray, List.set_cons_zero, List.set_cons_succ]
      refine held_take (v := ?v216) 7 rfl (by kernel_rfl) (by kernel_rfl) (by kernel_rfl) (fun _ _ _ h => h) (by rfl) ?y216 (by assumption) ?_
      case y216 => (intro w hSw; unfold HeldQ at hSw; go_simp; (try with_reducible rfl); (try omega))
      simp only [List.setIfInBounds_toArray, List.set_cons_zero, List.set_cons_succ]
      refine held_take (v := ?v219) 8 rfl (by kernel_rfl) (by kernel_rfl) (by kernel_rfl) (fun _ _ _ h => h) (by rfl) ?y219 (by assumption) ?_
      case y219 => (intro w hSw; unfold HeldQ at hSw; go_simp; (try with_reducible rfl); (try omega))
      simp only [List.setIfInBounds_toArray, List.set_cons_zero, List.set_cons_succ]
      refine held_take (v := ?v222) 9 rfl (by kernel_rfl) (by kernel_rfl) (by kernel_rfl) (fun _ _ _ h => h) (by rfl) ?y222 (by assumption) ?_
      case y222 => (intro w hSw; unfold HeldQ at hSw; go_simp; (try with_reducible rfl); (try omega))
      simp only [List.setIfInBounds_toArray, List.set_cons_zero, List.set_cons_succ]
      refine held_take (v := ?v225) 10 rfl (by kernel_rfl) (by kernel_rfl) (by kernel_rfl) (fun _ _ _ h => h) (by rfl) ?y225 (by assumption) ?_
      case y225 => (intro w hSw; unfold HeldQ at hSw; go_simp; (try with_reducible rfl); (try omega))
      simp only [List.setIfInBounds_toArray, List.set_cons_zero, List.set_cons_succ]
      refine held_take (v := .int .i64 (x.l - x.f)) 11 rfl (by kernel_rfl) (by kernel_rfl) (by kernel_rfl) (fun _ _ _ h => h) (by rfl) (fun W hSw => (by go_simp; (try exact k1))) (by assumption) ?_
      simp only [List.setIfInBounds_toArray, List.set_cons_zero, List.set_cons_succ]
      refine held_take (v := .int .i64 (x.l - x.f + 1)) 12 rfl (by kernel_rfl) (by kernel_rfl) (by kernel_rfl) (fun _ _ _ h => h) (by rfl) (fun W hSw => (by go_simp; (try exact k2))) (by assumption) ?_
      simp only [List.setIfInBounds_toArray, List.set_cons_zero, List.set_cons_succ]
      refine held_take (v := .int .i64 (max C (x.l - x.f + 1))) 13 rfl (by kernel_rfl) (by kernel_rfl) (by kernel_rfl) (fun _ _ _ h => h) (by rfl) (fun W hSw => (by go_simp)) (by assumption) ?_
      simp only [List.setIfInBounds_toArray, List.set_cons_zero, List.set_cons_succ]
      refine held_take (v := ?v234) 14 rfl (by kernel_rfl) (by kernel_rfl) (by kernel_rfl) (fun _ _ _ h => h) (by rfl) ?y234 (by assumption) ?_
      case y234 => (intro w hSw; unfold HeldQ at hSw; go_simp; (try with_reducible rfl); (try omega))
      simp only [List.setIfInBounds_toArray, List.set_cons_zero, List.set_cons_succ]
      refine wpAnyH_done (by kernel_rfl) ?_ _
      refine NoPanic.normal ?_
      go_wp2
      go_roundw
      case rel => exact ⟨k + 1, hlt, rfl, by rw [HNX.out], HB2.out⟩
      case measure => simp only [intOf]; omega
    · have hlti : ¬ (k : Int) < (m.length : Int) := by omega
      have HBW := Lib.hid (below_up HB.out hbel HB.out.size)
      clear hbel
      go_wp2
      go_ret
      refine ⟨?_, HBW.out⟩
      rw [List.take_of_length_le (by omega)]
      rfl
end Go.Proofs.Ytgelbeglffjdaaa
namespace Go.Proofs.Ytgelbeglffjdaaa
open Go Go.RowKit Go.Shelf

theorem cell_rowOther (w : World) {b g : Nat} (h : b ≠ g) (cs : Array Value) (k : Nat) : (w.setRow g cs).cell? ⟨b, k, none⟩ = w.cell? ⟨b, k, none⟩ := by
  unfold World.cell?
  rw [setRow_other w g b cs h]
set_option maxRecDepth 100000 in
set_option maxHeartbeats 4000000 in
theorem rfirst_any (v : Value) (l : List Spn) (size : Int) (w : World) (h : IsS w v l) (hN : l.length ≤ 200000) :
    Calls Try.prog 26 #[v, .int .i64 size] w fun e w' => e = .returned (fRes (firstS size (normS l))) ∧ Below w.heap.size w w' := by
  obtain ⟨a, c, rfl, hc⟩ := h.form
  have hb : Below w.heap.size w (w.alloc (.cells #[.int .i64 0, .int .i64 0] 27)) := (Below.refl _ _).alloc (Nat.le_refl _) _
  have HB0 := Lib.hid hb
  have HT := Lib.hid (rnorm_low _ l _ (h.below hb) hN)
  have HNB := Lib.hid (Bx.new w 27 [.int .i64 0, .int .i64 0])
  have hml := normS_length_le l
  have HNO := Lib.hid (norm_ok l).1
  generalize normS l = m at *
  clear h hb
  go_enter Try.func26, Try.ntmps26
  go_wp2_with (go_at_call 53; refine HT.out.mono ?_; rintro e w1 ⟨v1, rfl, h1, b1, hlow⟩; refine Hid.out ?_)
  refine Lib.hid ?_
  obtain ⟨a1, c1, rfl, hc1⟩ := h1.form
  have HS := Lib.hid h1
  have HLOW := Lib.hid (fun k e => Nat.lt_of_lt_of_le (show w.heap.size < (w.alloc (.cells #[.int .i64 0, .int .i64 0] 27)).heap.size by simp) (hlow k e))
  have HB := Lib.hid (below_up HB0.out b1 HB0.out.size)
  have HX1 := Lib.hid (HNB.out.up b1)
  have hw1 := HX1.out.lt
  clear h1 b1 hlow HT HB0 HNB
  go_wp2
  go_loopw [7] (fun i wr => ∃ k : Nat, k ≤ m.length ∧ i = .int .i64 (k : Int) ∧ firstS size m = firstS size (m.drop k) ∧ Below w1.heap.size w1 wr) (fun i _ => m.length - (intOf i).toNat)
  case atStart => exact ⟨0, Nat.zero_le _, rfl, rfl, Below.refl _ _⟩
  case round =>
    obtain ⟨k, hk, rfl, hfs, hbel⟩ := hrel
    by_cases hlt : k < m.length
    · have hlti : (k : Int) < (m.length : Int) := by omega
      have h0k : (0 : Int) ≤ (k : Int) := by omega
      obtain ⟨x, hx⟩ : ∃ x, m[k]? = some x := ⟨m[k], List.getElem?_eq_getElem hlt⟩
      have hxm := HNO.out.may x (List.mem_of_getElem? hx)
      obtain ⟨b, o, rfl, hbl⟩ := IsS.place HS.out (by omega)
      have hr := IsS.range (HS.out.below hbel) k x hx
      have hH : HeldQ b (o + k * 2) x.f x.l wr.drew := ⟨rng0 hr, rng1 hr⟩
      have k1 : IntKind.i64.wrap (x.l - x.f) = x.l - x.f := by unfold mayS at hxm; simp [IntKind.wrap, IntKind.bits, IntKind.signed]; omega
      have k2 : IntKind.i64.wrap (x.l - x.f + 1) = x.l - x.f + 1 := by unfold mayS at hxm; simp [IntKind.wrap, IntKind.bits, IntKind.signed]; omega
      have hfd := firstS_drop (size := size) hx
      have HFS := Lib.hid hfs
      have hdr : Below wr.heap.size wr wr.drew := (Below.refl _ _).drew
      have HBX := Lib.hid hbel
      have HB2 := Lib.hid (below_up hbel hdr hbel.size)
      have HXM := Lib.hid hxm
      have HNE := Lib.hid (show b ≠ w.heap.size from fun e => by have := HLOW.out b rfl; omega)
      clear hr hx hfs hxm hdr hbel
      by_cases hs : 0 < size
      · by_cases hc : size ≤ x.l - x.f + 1
        · rw [if_pos ⟨hs, hc⟩] at hfd
          have HR := Lib.hid (HFS.out.trans hfd)
          clear hfd HFS
          go_wp2
          refine wp_region_noPanic ?_
          refine wp_region_held_drew (S := HeldQ b (o + k * 2) x.f x.l) (by kernel_rfl) hH (fun hHeld => ?_)
          refine held_take (v := ?v312) 0 rfl (by kernel_rfl) (by kernel_rfl) (by kernel_rfl) (fun _ _ _ h => h) (by rfl) ?y312 (by assumption) ?_
          case y312 => (intro w hSw; unfold HeldQ at hSw; go_simp; (try with_reducible rfl); (try omega))
          simp only [List.setIfInBounds_toArray, List.set_cons_zero, List.set_cons_succ]
          refine held_take (v := .bool true) 1 rfl (by kernel_rfl) (by kernel_rfl) (by kernel_rfl) (fun _ _ _ h => h) (by rfl) (fun W hSw => (by go_simp; (try exact hs))) (by assumption) ?_
          simp only [List.setIfInBounds_toArray, List.set_cons_zero, List.set_cons_succ]
          refine held_take (v := ?v317) 2 rfl (by kernel_rfl) (by kernel_rfl) (by kernel_rfl) (fun _ _ _ h => h) (by rfl) ?y317 (by assumption) ?_
          case y317 => (intro w hSw; unfold HeldQ at hSw; go_simp; (try with_reducible rfl); (try omega))
          simp only [List.setIfInBounds_toArray, List.set_cons_zero, List.set_cons_succ]
          refine held_take (v := ?v320) 3 rfl (by kernel_rfl) (by kernel_rfl) (by kernel_rfl) (fun _ _ _ h => h) (by rfl) ?y320 (by assumption) ?_
          case y320 => (intro w hSw; unfold HeldQ at hSw; go_simp; (try with_reducible rfl); (try omega))
          simp only [List.setIfInBounds_toArray, List.set_cons_zero, List.set_cons_succ]
          refine held_take (v := ?v323) 4 rfl (by kernel_rfl) (by kernel_rfl) (by kernel_rfl) (fun _ _ _ h => h) (by rfl) ?y323 (by assumption) ?_
          case y323 => (intro w hSw; unfold HeldQ at hSw; go_simp; (try with_reducible rfl); (try omega))
          simp only [List.setIfInBounds_toArray, List.set_cons_zero, List.set_cons_succ]
          refine held_take (v := ?v326) 5 rfl (by kernel_rfl) (by kernel_rfl) (by kernel_rfl) (fun _ _ _ h => h) (by rfl) ?y326 (by assumption) ?_
          case y326 => (intro w hSw; unfold HeldQ at hSw; go_simp; (try with_reducible rfl); (try omega))
          simp only [List.setIfInBounds_toArray, List.set_cons_zero, List.set_cons_succ]
          refine held_take (v := ?v329) 6 rfl (by kernel_rfl) (by kernel_rfl) (by kernel_rfl) (fun _ _ _ h => h) (by rfl) ?y329 (by assumption) ?_
          case y329 => (intro w hSw; unfold HeldQ at hSw; go_simp; (try with_reducible rfl); (try omega))
          simp only [List.setIfInBounds_toArray, List.set_cons_zero, List.set_cons_succ]
          refine held_take (v := ?v332) 7 rfl (by kernel_rfl) (by kernel_rfl) (by kernel_rfl) (fun _ _ _ h => h) (by rfl) ?y332 (by assumption) ?_
          case y332 => (intro w hSw; unfold HeldQ at hSw; go_simp; (try with_reducible rfl); (try omega))
          simp only [List.setIfInBounds_toArray, List.set_cons_zero, List.set_cons_succ]
          refine held_take (v := ?v335) 8 rfl (by kernel_rfl) (by kernel_rfl) (by kernel_rfl) (fun _ _ _ h => h) (by rfl) ?y335 (by assumption) ?_
          case y335 => (intro w hSw; unfold HeldQ at hSw; go_simp; (try with_reducible rfl); (try omega))
          simp only [List.setIfInBounds_toArray, List.set_cons_zero, List.set_cons_succ]
          refine held_take (v := ?v338) 9 rfl (by kernel_rfl) (by kernel_rfl) (by kernel_rfl) (fun _ _ _ h => h) (by rfl) ?y338 (by assumption) ?_
          case y338 => (intro w hSw; unfold HeldQ at hSw; go_simp; (try with_reducible rfl); (try omega))
          simp only [List.setIfInBounds_toArray, List.set_cons_zero, List.set_cons_succ]
          refine held_take (v := ?v341) 10 rfl (by kernel_rfl) (by kernel_rfl) (by kernel_rfl) (fun _ _ _ h => h) (by rfl) ?y341 (by assumption) ?_
          case y341 => (intro w hSw; unfold HeldQ at hSw; go_simp; (try with_reducible rfl); (try omega))
          simp only [List.setIfInBounds_toArray, List.set_cons_zero, List.set_cons_succ]
          refine held_take (v := ?v344) 11 rfl (by kernel_rfl) (by kernel_rfl) (by kernel_rfl) (fun _ _ _ h => h) (by rfl) ?y344 (by assumption) ?_
          case y344 => (intro w hSw; unfold HeldQ at hSw; go_simp; (try with_reducible rfl); (try omega))
          simp only [List.setIfInBounds_toArray, List.set_cons_zero, List.set_cons_succ]
          refine held_take (v := ?v347) 12 rfl (by kernel_rfl) (by kernel_rfl) (by kernel_rfl) (fun _ _ _ h => h) (by rfl) ?y347 (by assumption) ?_
          case y347 => (intro w hSw; unfold HeldQ at hSw; go_simp; (try with_reducible rfl); (try omega))
          simp only [List.setIfInBounds_toArray, List.set_cons_zero, List.set_cons_succ]
          refine held_take (v := .int .i64 (x.l - x.f)) 13 rfl (by kernel_rfl) (by kernel_rfl) (by kernel_rfl) (fun _ _ _ h => h) (by rfl) (fun W hSw => (by go_simp; (try exact k1))) (by assumption) ?_
          simp only [List.setIfInBounds_toArray, List.set_cons_zero, List.set_cons_succ]
          refine held_take (v := .int .i64 (x.l - x.f + 1)) 14 rfl (by kernel_rfl) (by kernel_rfl) (by kernel_rfl) (fun _ _ _ h => h) (by rfl) (fun W hSw => (by go_simp; (try exact k2))) (by assumption) ?_
          simp only [List.setIfInBounds_toArray, List.set_cons_zero, List.set_cons_succ]
          refine held_take (v := ?v354) 15 rfl (by kernel_rfl) (by kernel_rfl) (by kernel_rfl) (fun _ _ _ h => h) (by rfl) ?y354 (by assumption) ?_
          case y354 => (intro w hSw; unfold HeldQ at hSw; go_simp; (try with_reducible rfl); (try omega))
          simp only [List.setIfInBounds_toArray, List.set_cons_zero, List.set_cons_succ]
          refine held_take (v := .bool true) 16 rfl (by kernel_rfl) (by kernel_rfl) (by kernel_rfl) (fun _ _ _ h => h) (by rfl) (fun W hSw => (by go_simp; (try exact hc))) (by assumption) ?_
          simp only [List.setIfInBounds_toArray, List.set_cons_zero, List.set_cons_succ]
          refine held_take (v := ?v359) 17 rfl (by kernel_rfl) (by kernel_rfl) (by kernel_rfl) (fun _ _ _ h => h) (by rfl) ?y359 (by assumption) ?_
          case y359 => (intro w hSw; unfold HeldQ at hSw; go_simp; (try with_reducible rfl); (try omega))
          simp only [List.setIfInBounds_toArray, List.set_cons_zero, List.set_cons_succ]
          refine wpAnyH_done (by kernel_rfl) ?_ _
          refine NoPanic.normal ?_
          have k3 : IntKind.i64.wrap (x.f + size) = x.f + size := by have := HXM.out; unfold mayS at this; simp [IntKind.wrap, IntKind.bits, IntKind.signed]; omega
          have k4 : IntKind.i64.wrap (x.f + size - 1) = x.f + size - 1 := by have := HXM.out; unfold mayS at this; simp [IntKind.wrap, IntKind.bits, IntKind.signed]; omega
          have hq0 := HX1.out.up HB2.out
          clear hH k1 k2
          generalize wr.drew = wd at *
          have hdd : Below wd.heap.size wd wd.drew := (Below.refl _ _).drew
          have HB3 := Lib.hid (below_up HB2.out hdd HB2.out.size)
          have hq1 := hq0.up hdd
          have hbw : b < wd.heap.size := Nat.lt_of_lt_of_le hbl HB2.out.size
          have hH2 : HeldQ b (o + k * 2) x.f x.l wd.drew := hHeld
          have hbne : b ≠ w.heap.size := HNE.out
          clear hHeld hq0 hdd
          go_wp2
          refine wp_region_noPanic ?_
          refine wp_region_held_drew (S := HeldQ b (o + k * 2) x.f x.l) (by kernel_rfl) hH2 (fun hHeld => ?_)
          clear hH2
          generalize wd.drew = we at *
          refine held_take (v := ?v381) 0 rfl (by kernel_rfl) (by kernel_rfl) (by kernel_rfl) (fun _ _ _ h => h) (by rfl) ?y381 (by assumption) ?_
          case y381 => (intro w hSw; unfold HeldQ at hSw; go_simp; (try with_reducible rfl); (try omega))
          simp only [List.setIfInBounds_toArray, List.set_cons_zero, List.set_cons_succ]
          refine held_take (v := ?v384) 1 rfl (by kernel_rfl) (by kernel_rfl) (by kernel_rfl) (fun _ _ _ h => h) (by rfl) ?y384 (by assumption) ?_
          case y384 => (intro w hSw; unfold HeldQ at hSw; go_simp; (try with_reducible rfl); (try omega))
          simp only [List.setIfInBounds_toArray, List.set_cons_zero, List.set_cons_succ]
          refine held_take (v := ?v387) 2 rfl (by kernel_rfl) (by kernel_rfl) (by kernel_rfl) (fun _ _ _ h => h) (by rfl) ?y387 (by assumption) ?_
          case y387 => (intro w hSw; unfold HeldQ at hSw; go_simp; (try with_reducible rfl); (try omega))
          simp only [List.setIfInBounds_toArray, List.set_cons_zero, List.set_cons_succ]
          refine held_take (v := ?v390) 3 rfl (by kernel_rfl) (by kernel_rfl) (by kernel_rfl) (fun _ _ _ h => h) (by rfl) ?y390 (by assumption) ?_
          case y390 => (intro w hSw; unfold HeldQ at hSw; go_simp; (try with_reducible rfl); (try omega))
          simp only [List.setIfInBounds_toArray, List.set_cons_zero, List.set_cons_succ]
          refine held_take (v := ?v393) 4 rfl (by kernel_rfl) (by kernel_rfl) (by kernel_rfl) (fun _ _ _ h => h) (by rfl) ?y393 (by assumption) ?_
          case y393 => (intro w hSw; unfold HeldQ at hSw; go_simp; (try with_reducible rfl); (try omega))
          simp only [List.setIfInBounds_toArray, List.set_cons_zero, List.set_cons_succ]
          refine held_take (v := ?v396) 5 rfl (by kernel_rfl) (by kernel_rfl) (by kernel_rfl) (fun _ _ _ h => h) (by rfl) ?y396 (by assumption) ?_
          case y396 => (intro w hSw; unfold HeldQ at hSw; go_simp; (try with_reducible rfl); (try omega))
          simp only [List.setIfInBounds_toArray, List.set_cons_zero, List.set_cons_succ]
          refine held_take (v := ?v399) 6 rfl (by kernel_rfl) (by kernel_rfl) (by kernel_rfl) (fun _ _ _ h => h) (by rfl) ?y399 (by assumption) ?_
          case y399 => (intro w hSw; unfold HeldQ at hSw; go_simp; (try with_reducible rfl); (try omega))
          simp only [List.setIfInBounds_toArray, List.set_cons_zero, List.set_cons_succ]
          refine held_take (v := ?v402) 7 rfl (by kernel_rfl) (by kernel_rfl) (by kernel_rfl) (fun _ _ _ h => h) (by rfl) ?y402 (by assumption) ?_
          case y402 => (intro w hSw; unfold HeldQ at hSw; go_simp; (try with_reducible rfl); (try omega))
          simp only [List.setIfInBounds_toArray, List.set_cons_zero, List.set_cons_succ]
          refine held_take (v := ?v405) 8 rfl (by kernel_rfl) (by kernel_rfl) (by kernel_rfl) (fun _ _ _ h => h) (by rfl) ?y405 (by assumption) ?_
          case y405 => (intro w hSw; unfold HeldQ at hSw; go_simp; (try with_reducible rfl); (try omega))
          simp only [List.setIfInBounds_toArray, List.set_cons_zero, List.set_cons_succ]
          refine held_take (v := ?v408) 9 rfl (by kernel_rfl) (by kernel_rfl) (by kernel_rfl) (fun _ _ _ h => h) (by rfl) ?y408 (by assumption) ?_
          case y408 => (intro w hSw; unfold HeldQ at hSw; go_simp; (try with_reducible rfl); (try omega))
          simp only [List.setIfInBounds_toArray, List.set_cons_zero, List.set_cons_succ]
          refine held_take (v := ?v411) 10 rfl (by kernel_rfl) (by kernel_rfl) (by kernel_rfl) (fun _ _ _ h => h) (by rfl) ?y411 (by assumption) ?_
          case y411 => (intro w hSw; unfold HeldQ at hSw; go_simp; (try with_reducible rfl); (try omega))
          simp only [List.setIfInBounds_toArray, List.set_cons_zero, List.set_cons_succ]
          refine held_take (v := .int .i64 (x.f + size)) 11 rfl (by kernel_rfl) (by kernel_rfl) (by kernel_rfl) (fun _ _ _ h => h) (by rfl) (fun W hSw => (by go_simp; (try exact k3))) (by assumption) ?_
          simp only [List.setIfInBounds_toArray, List.set_cons_zero, List.set_cons_succ]
          refine held_take (v := .int .i64 (x.f + size - 1)) 12 rfl (by kernel_rfl) (by kernel_rfl) (by kernel_rfl) (fun _ _ _ h => h) (by rfl) (fun W hSw => (by go_simp; (try exact k4))) (by assumption) ?_
          simp only [List.setIfInBounds_toArray, List.set_cons_zero, List.set_cons_succ]
          refine held_take (v := sV ⟨x.f, x.f + size - 1⟩) 13 rfl (by kernel_rfl) (by kernel_rfl) (by kernel_rfl) (fun _ _ _ h => h) (by rfl) (fun W hSw => exec_build2 _ 0 1 (.tmp 38) (.tmp 46) rfl _ _ (sR ⟨x.f, x.f + size - 1⟩) rfl rfl (built_sp2 _ _)) (by assumption) ?_
          simp only [List.setIfInBounds_toArray, List.set_cons_zero, List.set_cons_succ]
          refine held_none 14 rfl (by kernel_rfl) (by rfl) (fun K hK => ?_)
          refine wp_store_row 27 (.tmp 4) (.tmp 47) rfl w.heap.size (sR ⟨x.f, x.f + size - 1⟩).toArray rfl rfl _ _ hq1 (by simpa [sR] using sp_info) rfl (all_oneCell_toArray (sR_one _)) ?_
          have hq2 := hq1.row (sR ⟨x.f, x.f + size - 1⟩)
          refine hK.out _ _ ⟨(cell_rowOther we hbne _ _).trans hHeld.1, (cell_rowOther we hbne _ _).trans hHeld.2⟩ (fun _ => ?_)
          clear hK K
          (try simp only [Act.put])
          refine held_take (v := ?v426) 15 rfl (by kernel_rfl) (by kernel_rfl) (by kernel_rfl) (fun _ _ _ h => h) (by rfl) ?y426 (by assumption) ?_
          case y426 => (intro w hSw; unfold HeldQ at hSw; go_simp; (try with_reducible rfl); (try omega))
          simp only [List.setIfInBounds_toArray, List.set_cons_zero, List.set_cons_succ]
          refine wpAnyH_done (by kernel_rfl) ?_ _
          refine NoPanic.normal ?_
          have HBZ := Lib.hid (below_row (below_up HB.out HB3.out HB.out.size) (Nat.le_refl _) (sR ⟨x.f, x.f + size - 1⟩).toArray)
          clear hq1 hHeld
          go_wp2
          rw [HR.out]
          generalize we.setRow w.heap.size (sR ⟨x.f, x.f + size - 1⟩).toArray = WZ at hq2 HBZ ⊢
          have z0 := rng0 (rangeAll hq2)
          have z1 := rng1 (rangeAll hq2)
          simp only [Nat.zero_add] at z0 z1
          exact bodyPost_ret (v := fRes (some ⟨x.f, x.f + size - 1⟩)) (by simp [results, Try.results26, go_sem, fRes, sV, sR, z0, z1]) rfl ⟨rfl, HBZ.out⟩
        · rw [if_neg (fun h => hc h.2)] at hfd
          have HR := Lib.hid (HFS.out.trans hfd)
          clear hfd HFS
          go_wp2
          refine wp_region_noPanic ?_
          refine wp_region_held_drew (S := HeldQ b (o + k * 2) x.f x.l) (by kernel_rfl) hH (fun hHeld => ?_)
          refine held_take (v := ?v446) 0 rfl (by kernel_rfl) (by kernel_rfl) (by kernel_rfl) (fun _ _ _ h => h) (by rfl) ?y446 (by assumption) ?_
          case y446 => (intro w hSw; unfold HeldQ at hSw; go_simp; (try with_reducible rfl); (try omega))
          simp only [List.setIfInBounds_toArray, List.set_cons_zero, List.set_cons_succ]
          refine held_take (v := .bool true) 1 rfl (by kernel_rfl) (by kernel_rfl) (by kernel_rfl) (fun _ _ _ h => h) (by rfl) (fun W hSw => (by go_simp; (try exact hs))) (by assumption) ?_
          simp only [List.setIfInBounds_toArray, List.set_cons_zero, List.set_cons_succ]
          refine held_take (v := ?v451) 2 rfl (by kernel_rfl) (by kernel_rfl) (by kernel_rfl) (fun _ _ _ h => h) (by rfl) ?y451 (by assumption) ?_
          case y451 => (intro w hSw; unfold HeldQ at hSw; go_simp; (try with_reducible rfl); (try omega))
          simp only [List.setIfInBounds_toArray, List.set_cons_zero, List.set_cons_succ]
          refine held_take (v := ?v454) 3 rfl (by kernel_rfl) (by kernel_rfl) (by kernel_rfl) (fun _ _ _ h => h) (by rfl) ?y454 (by assumption) ?_
          case y454 => (intro w hSw; unfold HeldQ at hSw; go_simp; (try with_reducible rfl); (try omega))
          simp only [List.setIfInBounds_toArray, List.set_cons_zero, List.set_cons_succ]
          refine held_take (v := ?v457) 4 rfl (by kernel_rfl) (by kernel_rfl) (by kernel_rfl) (fun _ _ _ h => h) (by rfl) ?y457 (by assumption) ?_
          case y457 => (intro w hSw; unfold HeldQ at hSw; go_simp; (try with_reducible rfl); (try omega))
          simp only [List.setIfInBounds_toArray, List.set_cons_zero, List.set_cons_succ]
          refine held_take (v := ?v460) 5 rfl (by kernel_rfl) (by kernel_rfl) (by kernel_rfl) (fun _ _ _ h => h) (by rfl) ?y460 (by assumption) ?_
          case y460 => (intro w hSw; unfold HeldQ at hSw; go_simp; (try with_reducible rfl); (try omega))
          simp only [List.setIfInBounds_toArray, List.set_cons_zero, List.set_cons_succ]
          refine held_take (v := ?v463) 6 rfl (by kernel_rfl) (by kernel_rfl) (by kernel_rfl) (fun _ _ _ h => h) (by rfl) ?y463 (by assumption) ?_
          case y463 => (intro w hSw; unfold HeldQ at hSw; go_simp; (try with_reducible rfl); (try omega))
          simp only [List.setIfInBounds_toArray, List.set_cons_zero, List.set_cons_succ]
          refine held_take (v := ?v466) 7 rfl (by kernel_rfl) (by kernel_rfl) (by kernel_rfl) (fun _ _ _ h => h) (by rfl) ?y466 (by assumption) ?_
          case y466 => (intro w hSw; unfold HeldQ at hSw; go_simp; (try with_reducible rfl); (try omega))
          simp only [List.setIfInBounds_toArray, List.set_cons_zero, List.set_cons_succ]
          refine held_take (v := ?v469) 8 rfl (by kernel_rfl) (by kernel_rfl) (by kernel_rfl) (fun _ _ _ h => h) (by rfl) ?y469 (by assumption) ?_
          case y469 => (intro w hSw; unfold HeldQ at hSw; go_simp; (try with_reducible rfl); (try omega))
          simp only [List.setIfInBounds_toArray, List.set_cons_zero, List.set_cons_succ]
          refine held_take (v := ?v472) 9 rfl (by kernel_rfl) (by kernel_rfl) (by kernel_rfl) (fun _ _ _ h => h) (by rfl) ?y472 (by assumption) ?_
          case y472 => (intro w hSw; unfold HeldQ at hSw; go_simp; (try with_reducible rfl); (try omega))
          simp only [List.setIfInBounds_toArray, List.set_cons_zero, List.set_cons_succ]
          refine held_take (v := ?v475) 10 rfl (by kernel_rfl) (by kernel_rfl) (by kernel_rfl) (fun _ _ _ h => h) (by rfl) ?y475 (by assumption) ?_
          case y475 => (intro w hSw; unfold HeldQ at hSw; go_simp; (try with_reducible rfl); (try omega))
          simp only [List.setIfInBounds_toArray, List.set_cons_zero, List.set_cons_succ]
          refine held_take (v := ?v478) 11 rfl (by kernel_rfl) (by kernel_rfl) (by kernel_rfl) (fun _ _ _ h => h) (by rfl) ?y478 (by assumption) ?_
          case y478 => (intro w hSw; unfold HeldQ at hSw; go_simp; (try with_reducible rfl); (try omega))
          simp only [List.setIfInBounds_toArray, List.set_cons_zero, List.set_cons_succ]
          refine held_take (v := ?v481) 12 rfl (by kernel_rfl) (by kernel_rfl) (by kernel_rfl) (fun _ _ _ h => h) (by rfl) ?y481 (by assumption) ?_
          case y481 => (intro w hSw; unfold HeldQ at hSw; go_simp; (try with_reducible rfl); (try omega))
          simp only [List.setIfInBounds_toArray, List.set_cons_zero, List.set_cons_succ]
          refine held_take (v := .int .i64 (x.l - x.f)) 13 rfl (by kernel_rfl) (by kernel_rfl) (by kernel_rfl) (fun _ _ _ h => h) (by rfl) (fun W hSw => (by go_simp; (try exact k1))) (by assumption) ?_
          simp only [List.setIfInBounds_toArray, List.set_cons_zero, List.set_cons_succ]
          refine held_take (v := .int .i64 (x.l - x.f + 1)) 14 rfl (by kernel_rfl) (by kernel_rfl) (by kernel_rfl) (fun _ _ _ h => h) (by rfl) (fun W hSw => (by go_simp; (try exact k2))) (by assumption) ?_
          simp only [List.setIfInBounds_toArray, List.set_cons_zero, List.set_cons_succ]
          refine held_take (v := ?v488) 15 rfl (by kernel_rfl) (by kernel_rfl) (by kernel_rfl) (fun _ _ _ h => h) (by rfl) ?y488 (by assumption) ?_
          case y488 => (intro w hSw; unfold HeldQ at hSw; go_simp; (try with_reducible rfl); (try omega))
          simp only [List.setIfInBounds_toArray, List.set_cons_zero, List.set_cons_succ]
          refine held_take (v := .bool false) 16 rfl (by kernel_rfl) (by kernel_rfl) (by kernel_rfl) (fun _ _ _ h => h) (by rfl) (fun W hSw => (by go_simp; (try omega))) (by assumption) ?_
          simp only [List.setIfInBounds_toArray, List.set_cons_zero, List.set_cons_succ]
          refine held_take (v := ?v493) 17 rfl (by kernel_rfl) (by kernel_rfl) (by kernel_rfl) (fun _ _ _ h => h) (by rfl) ?y493 (by assumption) ?_
          case y493 => (intro w hSw; unfold HeldQ at hSw; go_simp; (try with_reducible rfl); (try omega))
          simp only [List.setIfInBounds_toArray, List.set_cons_zero, List.set_cons_succ]
          refine wpAnyH_done (by kernel_rfl) ?_ _
          refine NoPanic.normal ?_
          go_wp2
          go_roundw
          case rel => exact ⟨k + 1, hlt, rfl, HR.out, HB2.out⟩
          case measure => simp only [intOf]; omega
      · rw [if_neg (fun h => hs h.1)] at hfd
        have HR := Lib.hid (HFS.out.trans hfd)
        clear hfd HFS
        go_wp2
        refine wp_region_noPanic ?_
        refine wp_region_held_drew (S := HeldQ b (o + k * 2) x.f x.l) (by kernel_rfl) hH (fun hHeld => ?_)
        refine held_take (v := ?v508) 0 rfl (by kernel_rfl) (by kernel_rfl) (by kernel_rfl) (fun _ _ _ h => h) (by rfl) ?y508 (by assumption) ?_
        case y508 => (intro w hSw; unfold HeldQ at hSw; go_simp; (try with_reducible rfl); (try omega))
        simp only [List.setIfInBounds_toArray, List.set_cons_zero, List.set_cons_succ]
        refine held_take (v := .bool false) 1 rfl (by kernel_rfl) (by kernel_rfl) (by kernel_rfl) (fun _ _ _ h => h) (by rfl) (fun W hSw => (by go_simp; (try omega))) (by assumption) ?_
        simp only [List.setIfInBounds_toArray, List.set_cons_zero, List.set_cons_succ]
        refine held_take (v := ?v513) 2 rfl (by kernel_rfl) (by kernel_rfl) (by kernel_rfl) (fun _ _ _ h => h) (by rfl) ?y513 (by assumption) ?_
        case y513 => (intro w hSw; unfold HeldQ at hSw; go_simp; (try with_reducible rfl); (try omega))
        simp only [List.setIfInBounds_toArray, List.set_cons_zero, List.set_cons_succ]
        refine held_skip 3 rfl (by kernel_rfl) (by kernel_rfl) (by kernel_rfl) (fun _ _ _ h => h) (by rfl) (by assumption) ?_
        simp only [List.setIfInBounds_toArray, List.set_cons_zero, List.set_cons_succ]
        refine held_skip 4 rfl (by kernel_rfl) (by kernel_rfl) (by kernel_rfl) (fun _ _ _ h => h) (by rfl) (by assumption) ?_
        simp only [List.setIfInBounds_toArray, List.set_cons_zero, List.set_cons_succ]
        refine held_skip 5 rfl (by kernel_rfl) (by kernel_rfl) (by kernel_rfl) (fun _ _ _ h => h) (by rfl) (by assumption) ?_
        simp only [List.setIfInBounds_toArray, List.set_cons_zero, List.set_cons_succ]
        refine held_skip 6 rfl (by kernel_rfl) (by kernel_rfl) (by kernel_rfl) (fun _ _ _ h => h) (by rfl) (by assumption) ?_
        simp only [List.setIfInBounds_toArray, List.set_cons_zero, List.set_cons_succ]
        refine held_skip 7 rfl (by kernel_rfl) (by kernel_rfl) (by kernel_rfl) (fun _ _ _ h => h) (by rfl) (by assumption) ?_
        simp only [List.setIfInBounds_toArray, List.set_cons_zero, List.set_cons_succ]
        refine held_skip 8 rfl (by kernel_rfl) (by kernel_rfl) (by kernel_rfl) (fun _ _ _ h => h) (by rfl) (by assumption) ?_
        simp only [List.setIfInBounds_toArray, List.set_cons_zero, List.set_cons_succ]
        refine held_skip 9 rfl (by kernel_rfl) (by kernel_rfl) (by kernel_rfl) (fun _ _ _ h => h) (by rfl) (by assumption) ?_
        simp only [List.setIfInBounds_toArray, List.set_cons_zero, List.set_cons_succ]
        refine held_skip 10 rfl (by kernel_rfl) (by kernel_rfl) (by kernel_rfl) (fun _ _ _ h => h) (by rfl) (by assumption) ?_
        simp only [List.setIfInBounds_toArray, List.set_cons_zero, List.set_cons_succ]
        refine held_skip 11 rfl (by kernel_rfl) (by kernel_rfl) (by kernel_rfl) (fun _ _ _ h => h) (by rfl) (by assumption) ?_
        simp only [List.setIfInBounds_toArray, List.set_cons_zero, List.set_cons_succ]
        refine held_skip 12 rfl (by kernel_rfl) (by kernel_rfl) (by kernel_rfl) (fun _ _ _ h => h) (by rfl) (by assumption) ?_
        simp only [List.setIfInBounds_toArray, List.set_cons_zero, List.set_cons_succ]
        refine held_skip 13 rfl (by kernel_rfl) (by kernel_rfl) (by kernel_rfl) (fun _ _ _ h => h) (by rfl) (by assumption) ?_
        simp only [List.setIfInBounds_toArray, List.set_cons_zero, List.set_cons_succ]
        refine held_skip 14 rfl (by kernel_rfl) (by kernel_rfl) (by kernel_rfl) (fun _ _ _ h => h) (by rfl) (by assumption) ?_
        simp only [List.setIfInBounds_toArray, List.set_cons_zero, List.set_cons_succ]
        refine held_skip 15 rfl (by kernel_rfl) (by kernel_rfl) (by kernel_rfl) (fun _ _ _ h => h) (by rfl) (by assumption) ?_
        simp only [List.setIfInBounds_toArray, List.set_cons_zero, List.set_cons_succ]
        refine held_skip 16 rfl (by kernel_rfl) (by kernel_rfl) (by kernel_rfl) (fun _ _ _ h => h) (by rfl) (by assumption) ?_
        simp only [List.setIfInBounds_toArray, List.set_cons_zero, List.set_cons_succ]
        refine held_take (v := ?v544) 17 rfl (by kernel_rfl) (by kernel_rfl) (by kernel_rfl) (fun _ _ _ h => h) (by rfl) ?y544 (by assumption) ?_
        case y544 => (intro w hSw; unfold HeldQ at hSw; go_simp; (try with_reducible rfl); (try omega))
        simp only [List.setIfInBounds_toArray, List.set_cons_zero, List.set_cons_succ]
        refine wpAnyH_done (by kernel_rfl) ?_ _
        refine NoPanic.normal ?_
        go_wp2
        go_roundw
        case rel => exact ⟨k + 1, hlt, rfl, HR.out, HB2.out⟩
        case measure => simp only [intOf]; omega
    · have hlti : ¬ (k : Int) < (m.length : Int) := by omega
      rw [List.drop_of_length_le (by omega)] at hfs
      have HF := Lib.hid (show firstS size m = none from hfs)
      have hq := HX1.out.up hbel
      have HBW := Lib.hid (below_up HB.out hbel HB.out.size)
      have g0 : wr.cell? ⟨w.heap.size, 0, none⟩ = some (.int .i64 0) := by rw [hq.cell]; rfl
      have g1 : wr.cell? ⟨w.heap.size, 1, none⟩ = some (.int .i64 0) := by rw [hq.cell]; rfl
      have y0 := hq.frozen 0
      have y1 := hq.frozen 1
      have HQ := Lib.hid (((hq.set 0 (.int .i64 0)).set 1 (.int .i64 0)))
      have HBQ := Lib.hid ((HBW.out.setCell (p := ⟨w.heap.size, 0, none⟩) (Nat.le_refl _) (.int .i64 0)).setCell (p := ⟨w.heap.size, 1, none⟩) (Nat.le_refl _) (.int .i64 0))
      clear hbel hfs hq
      go_wp2
      rw [HF.out]
      generalize (wr.setCell ⟨w.heap.size, 0, none⟩ (.int .i64 0)).setCell ⟨w.heap.size, 1, none⟩ (.int .i64 0) = WZ at HQ HBQ ⊢
      have z0 := rng0 (x := ⟨0, 0⟩) (rangeAll HQ.out)
      have z1 := rng1 (x := ⟨0, 0⟩) (rangeAll HQ.out)
      simp only [Nat.zero_add] at z0 z1
      exact bodyPost_ret (v := fRes none) (by simp [results, Try.results26, go_sem, fRes, sV, sR, z0, z1]) rfl ⟨rfl, HBQ.out⟩
end Go.Proofs.Ytgelbeglffjdaaa
