/- The document's spans: Has, Meets. The document's spans: Cut. -/
import Derived.Test.YtgelbeglffjdaaaRs3
import Derived.Test.YtgelbeglffjdaaaSpA
namespace Go.Proofs.Ytgelbeglffjdaaa
open Go Go.RowKit Go.Shelf

def HeldR (b k g : Nat) (x s : Spn) (W : World) : Prop := W.cell? ⟨b, k, none⟩ = some (.int .i64 x.f) ∧ W.cell? ⟨b, k + 1, none⟩ = some (.int .i64 x.l) ∧ W.cell? ⟨g, 0, none⟩ = some (.int .i64 s.f) ∧ W.cell? ⟨g, 1, none⟩ = some (.int .i64 s.l)
set_option maxRecDepth 100000 in
set_option maxHeartbeats 2000000 in
theorem rhas_any (v : Value) (l : List Spn) (s : Spn) (w : World) (h : IsS w v l) (hN : l.length ≤ 200000) :
    Calls Try.prog 73 #[v, sV s] w fun e w' => e = .returned (.bool (hasS l s)) ∧ Below w.heap.size w w' := by
  obtain ⟨a, c, rfl, hc⟩ := h.form
  have hb0 : Below w.heap.size w (w.alloc (.cells (sR s).toArray 27)) := (Below.refl _ _).alloc (Nat.le_refl _) _
  have HB0 := Lib.hid hb0
  have HX0 := Lib.hid (Bx.new w 27 (sR s))
  have HI0 := Lib.hid (h.below hb0)
  have HT := Lib.hid (fun W (hW : IsS W (.slice a l.length c) l) => rnorm_any _ l W hW hN)
  have HSP := Lib.hid (show hasS l s = (mayB s && (normS l).any fun x => decide (x.f ≤ s.f ∧ s.l ≤ x.l)) from rfl)
  have hml := normS_length_le l
  generalize normS l = m at HT HSP hml
  obtain ⟨r, hr⟩ : ∃ r, hasS l s = r := ⟨_, rfl⟩
  rw [hr] at HSP ⊢
  obtain ⟨ok, hok⟩ : ∃ ok, mayB s = ok := ⟨_, rfl⟩
  have hmx := fun W => rmay_any s W
  rw [hok] at hmx HSP
  have HMX := Lib.hid hmx
  rw [show sV s = .agg (sR s).toArray from rfl]
  have e0 : (sR s)[0]? = some (.int .i64 s.f) := rfl
  have e1 : (sR s)[1]? = some (.int .i64 s.l) := rfl
  clear h hb0 hr hok hmx
  go_enter Try.func73, Try.ntmps73
  go_wp2_with (go_at_call 53; refine (HT.out _ HI0.out).mono ?_; rintro e w1 ⟨v1, rfl, h1, b1⟩; refine Hid.out ?_)
  refine Lib.hid ?_
  obtain ⟨a1, c1, rfl, hc1⟩ := h1.form
  have hx1 := HX0.out.up b1
  have hr1 := rangeAll hx1
  have d0 := rng0 hr1
  have d1 := rng1 hr1
  simp only [Nat.zero_add] at d1
  have HX1 := Lib.hid hx1
  have HS1 := Lib.hid h1
  have HB1 := Lib.hid (below_up HB0.out b1 HB0.out.size)
  clear h1 b1 hx1 hr1 HX0 HI0 HB0
  go_wp2_with (go_at_call 52; refine (HMX.out _).mono ?_; rintro e w2 ⟨rfl, b2⟩; refine Hid.out ?_)
  refine Lib.hid ?_
  have HS := Lib.hid (HS1.out.below b2)
  have HXN := Lib.hid (HX1.out.up b2)
  have HBN := Lib.hid (below_up HB1.out b2 HB1.out.size)
  clear b2 HS1 HX1 HB1 d0 d1
  go_wp2
  go_loopw [7] (fun i wr => ∃ k : Nat, k ≤ m.length ∧ i = .int .i64 (k : Int) ∧ Hid (ok = true → ((m.take k).any fun x => decide (x.f ≤ s.f ∧ s.l ≤ x.l)) = false) ∧ Below w2.heap.size w2 wr) (fun i _ => m.length - (intOf i).toNat)
  case atStart => exact ⟨0, Nat.zero_le _, rfl, Lib.hid (fun _ => rfl), Below.refl _ _⟩
  case round =>
    obtain ⟨k, hk, rfl, HNO, hbel⟩ := hrel
    by_cases hlt : k < m.length
    · have hlti : (k : Int) < (m.length : Int) := by omega
      have h0k : (0 : Int) ≤ (k : Int) := by omega
      obtain ⟨x, hx⟩ : ∃ x, m[k]? = some x := ⟨m[k], List.getElem?_eq_getElem hlt⟩
      obtain ⟨b, o, rfl, hbl⟩ := IsS.place HS.out (by omega)
      have hr := IsS.range (HS.out.below hbel) k x hx
      have hxs := HXN.out.up hbel
      have hrs := rangeAll hxs
      have q1 := rng1 hrs
      simp only [Nat.zero_add] at q1
      have hH : HeldR b (o + k * 2) w.heap.size x s wr.drew := ⟨rng0 hr, rng1 hr, rng0 hrs, q1⟩
      have HNX := Lib.hid (show (ok = true → decide (x.f ≤ s.f ∧ s.l ≤ x.l) = false) → ok = true → ((m.take (k + 1)).any fun x => decide (x.f ≤ s.f ∧ s.l ≤ x.l)) = false from fun h1 h2 => by
        rw [take_next hx, List.any_append, HNO.out h2]
        simp only [List.any_cons, List.any_nil, Bool.or_false, Bool.false_or]
        exact h1 h2)
      have HXM := Lib.hid (List.mem_of_getElem? hx)
      have HB2 := Lib.hid (below_up hbel ((Below.refl wr.heap.size wr).drew) hbel.size)
      clear hx hr hxs hrs q1 hbel HNO
      cases ok with
      | false =>
        have HN2 := Lib.hid (HNX.out (fun h => by cases h))
        clear HNX
        go_wp2
        refine wp_region_noPanic ?_
        refine wp_region_held_drew (S := HeldR b (o + k * 2) w.heap.size x s) (by kernel_rfl) hH (fun hHeld => ?_)
        refine held_take (v := ?v79) 0 rfl (by kernel_rfl) (by kernel_rfl) (by kernel_rfl) (fun _ _ _ h => h) (by rfl) ?y79 (by assumption) ?_
        case y79 => (intro w hSw; unfold HeldR at hSw; go_simp; (try with_reducible rfl); (try omega))
        simp only [List.setIfInBounds_toArray, List.set_cons_zero, List.set_cons_succ]
        refine held_take (v := ?v82) 1 rfl (by kernel_rfl) (by kernel_rfl) (by kernel_rfl) (fun _ _ _ h => h) (by rfl) ?y82 (by assumption) ?_
        case y82 => (intro w hSw; unfold HeldR at hSw; go_simp; (try with_reducible rfl); (try omega))
        simp only [List.setIfInBounds_toArray, List.set_cons_zero, List.set_cons_succ]
        refine held_skip 2 rfl (by kernel_rfl) (by kernel_rfl) (by kernel_rfl) (fun _ _ _ h => h) (by rfl) (by assumption) ?_
        simp only [List.setIfInBounds_toArray, List.set_cons_zero, List.set_cons_succ]
        refine held_skip 3 rfl (by kernel_rfl) (by kernel_rfl) (by kernel_rfl) (fun _ _ _ h => h) (by rfl) (by assumption) ?_
        simp only [List.setIfInBounds_toArray, List.set_cons_zero, List.set_cons_succ]
        refine held_skip 4 rfl (by kernel_rfl) (by kernel_rfl) (by kernel_rfl) (fun _ _ _ h => h) (by rfl) (by assumption) ?_
        simp only [List.setIfInBounds_toArray, List.set_cons_zero, List.set_cons_succ]
        refine held_skip 5 rfl (by kernel_rfl) (by kernel_rfl) (by kernel_rfl) (fun _ _ _ h => h) (by rfl) (by assumption) ?_
        simp only [List.setIfInBounds_toArray, List.set_cons_zero, List.set_cons_succ]
        refine held_skip 6 rfl (by kernel_rfl) (by kernel_rfl) (by kernel_rfl) (fun _ _ _ h => h) (by rfl) (by assumption) ?_
        simp only [List.setIfInBounds_toArray, List.set_cons_zero, List.set_cons_succ]
        refine held_skip 7 rfl (by kernel_rfl) (by kernel_rfl) (by kernel_rfl) (fun _ _ _ h => h) (by rfl) (by assumption) ?_
        simp only [List.setIfInBounds_toArray, List.set_cons_zero, List.set_cons_succ]
        refine held_skip 8 rfl (by kernel_rfl) (by kernel_rfl) (by kernel_rfl) (fun _ _ _ h => h) (by rfl) (by assumption) ?_
        simp only [List.setIfInBounds_toArray, List.set_cons_zero, List.set_cons_succ]
        refine held_skip 9 rfl (by kernel_rfl) (by kernel_rfl) (by kernel_rfl) (fun _ _ _ h => h) (by rfl) (by assumption) ?_
        simp only [List.setIfInBounds_toArray, List.set_cons_zero, List.set_cons_succ]
        refine held_take (v := ?v101) 10 rfl (by kernel_rfl) (by kernel_rfl) (by kernel_rfl) (fun _ _ _ h => h) (by rfl) ?y101 (by assumption) ?_
        case y101 => (intro w hSw; unfold HeldR at hSw; go_simp; (try with_reducible rfl); (try omega))
        simp only [List.setIfInBounds_toArray, List.set_cons_zero, List.set_cons_succ]
        refine held_take (v := ?v104) 11 rfl (by kernel_rfl) (by kernel_rfl) (by kernel_rfl) (fun _ _ _ h => h) (by rfl) ?y104 (by assumption) ?_
        case y104 => (intro w hSw; unfold HeldR at hSw; go_simp; (try with_reducible rfl); (try omega))
        simp only [List.setIfInBounds_toArray, List.set_cons_zero, List.set_cons_succ]
        refine held_skip 12 rfl (by kernel_rfl) (by kernel_rfl) (by kernel_rfl) (fun _ _ _ h => h) (by rfl) (by assumption) ?_
        simp only [List.setIfInBounds_toArray, List.set_cons_zero, List.set_cons_succ]
        refine held_skip 13 rfl (by kernel_rfl) (by kernel_rfl) (by kernel_rfl) (fun _ _ _ h => h) (by rfl) (by assumption) ?_
        simp only [List.setIfInBounds_toArray, List.set_cons_zero, List.set_cons_succ]
        refine held_skip 14 rfl (by kernel_rfl) (by kernel_rfl) (by kernel_rfl) (fun _ _ _ h => h) (by rfl) (by assumption) ?_
        simp only [List.setIfInBounds_toArray, List.set_cons_zero, List.set_cons_succ]
        refine held_skip 15 rfl (by kernel_rfl) (by kernel_rfl) (by kernel_rfl) (fun _ _ _ h => h) (by rfl) (by assumption) ?_
        simp only [List.setIfInBounds_toArray, List.set_cons_zero, List.set_cons_succ]
        refine held_skip 16 rfl (by kernel_rfl) (by kernel_rfl) (by kernel_rfl) (fun _ _ _ h => h) (by rfl) (by assumption) ?_
        simp only [List.setIfInBounds_toArray, List.set_cons_zero, List.set_cons_succ]
        refine held_skip 17 rfl (by kernel_rfl) (by kernel_rfl) (by kernel_rfl) (fun _ _ _ h => h) (by rfl) (by assumption) ?_
        simp only [List.setIfInBounds_toArray, List.set_cons_zero, List.set_cons_succ]
        refine held_skip 18 rfl (by kernel_rfl) (by kernel_rfl) (by kernel_rfl) (fun _ _ _ h => h) (by rfl) (by assumption) ?_
        simp only [List.setIfInBounds_toArray, List.set_cons_zero, List.set_cons_succ]
        refine held_skip 19 rfl (by kernel_rfl) (by kernel_rfl) (by kernel_rfl) (fun _ _ _ h => h) (by rfl) (by assumption) ?_
        simp only [List.setIfInBounds_toArray, List.set_cons_zero, List.set_cons_succ]
        refine held_take (v := ?v123) 20 rfl (by kernel_rfl) (by kernel_rfl) (by kernel_rfl) (fun _ _ _ h => h) (by rfl) ?y123 (by assumption) ?_
        case y123 => (intro w hSw; unfold HeldR at hSw; go_simp; (try with_reducible rfl); (try omega))
        simp only [List.setIfInBounds_toArray, List.set_cons_zero, List.set_cons_succ]
        refine wpAnyH_done (by kernel_rfl) ?_ _
        refine NoPanic.normal ?_
        go_wp2
        go_roundw
        case rel => exact ⟨k + 1, hlt, rfl, HN2, HB2.out⟩
        case measure => simp only [intOf]; omega
      | true =>
        by_cases h1 : x.f ≤ s.f
        · have h1d : decide (x.f ≤ s.f) = true := decide_eq_true h1
          by_cases h2 : s.l ≤ x.l
          · have h2d : decide (s.l ≤ x.l) = true := decide_eq_true h2
            have HT2 := Lib.hid (show r = true by
              rw [HSP.out, Bool.true_and, List.any_eq_true]
              exact ⟨x, HXM.out, decide_eq_true ⟨h1, h2⟩⟩)
            have HBF := Lib.hid (below_up HBN.out HB2.out HBN.out.size)
            clear HNX
            go_wp2
            refine wp_region_noPanic ?_
            refine wp_region_held_drew (S := HeldR b (o + k * 2) w.heap.size x s) (by kernel_rfl) hH (fun hHeld => ?_)
            refine held_take (v := ?v145) 0 rfl (by kernel_rfl) (by kernel_rfl) (by kernel_rfl) (fun _ _ _ h => h) (by rfl) ?y145 (by assumption) ?_
            case y145 => (intro w hSw; unfold HeldR at hSw; go_simp; (try with_reducible rfl); (try omega))
            simp only [List.setIfInBounds_toArray, List.set_cons_zero, List.set_cons_succ]
            refine held_take (v := ?v148) 1 rfl (by kernel_rfl) (by kernel_rfl) (by kernel_rfl) (fun _ _ _ h => h) (by rfl) ?y148 (by assumption) ?_
            case y148 => (intro w hSw; unfold HeldR at hSw; go_simp; (try with_reducible rfl); (try omega))
            simp only [List.setIfInBounds_toArray, List.set_cons_zero, List.set_cons_succ]
            refine held_take (v := ?v151) 2 rfl (by kernel_rfl) (by kernel_rfl) (by kernel_rfl) (fun _ _ _ h => h) (by rfl) ?y151 (by assumption) ?_
            case y151 => (intro w hSw; unfold HeldR at hSw; go_simp; (try with_reducible rfl); (try omega))
            simp only [List.setIfInBounds_toArray, List.set_cons_zero, List.set_cons_succ]
            refine held_take (v := ?v154) 3 rfl (by kernel_rfl) (by kernel_rfl) (by kernel_rfl) (fun _ _ _ h => h) (by rfl) ?y154 (by assumption) ?_
            case y154 => (intro w hSw; unfold HeldR at hSw; go_simp; (try with_reducible rfl); (try omega))
            simp only [List.setIfInBounds_toArray, List.set_cons_zero, List.set_cons_succ]
            refine held_take (v := ?v157) 4 rfl (by kernel_rfl) (by kernel_rfl) (by kernel_rfl) (fun _ _ _ h => h) (by rfl) ?y157 (by assumption) ?_
            case y157 => (intro w hSw; unfold HeldR at hSw; go_simp; (try with_reducible rfl); (try omega))
            simp only [List.setIfInBounds_toArray, List.set_cons_zero, List.set_cons_succ]
            refine held_take (v := ?v160) 5 rfl (by kernel_rfl) (by kernel_rfl) (by kernel_rfl) (fun _ _ _ h => h) (by rfl) ?y160 (by assumption) ?_
            case y160 => (intro w hSw; unfold HeldR at hSw; go_simp; (try with_reducible rfl); (try omega))
            simp only [List.setIfInBounds_toArray, List.set_cons_zero, List.set_cons_succ]
            refine held_take (v := ?v163) 6 rfl (by kernel_rfl) (by kernel_rfl) (by kernel_rfl) (fun _ _ _ h => h) (by rfl) ?y163 (by assumption) ?_
            case y163 => (intro w hSw; unfold HeldR at hSw; go_simp; (try with_reducible rfl); (try omega))
            simp only [List.setIfInBounds_toArray, List.set_cons_zero, List.set_cons_succ]
            refine held_take (v := ?v166) 7 rfl (by kernel_rfl) (by kernel_rfl) (by kernel_rfl) (fun _ _ _ h => h) (by rfl) ?y166 (by assumption) ?_
            case y166 => (intro w hSw; unfold HeldR at hSw; go_simp; (try with_reducible rfl); (try omega))
            simp only [List.setIfInBounds_toArray, List.set_cons_zero, List.set_cons_succ]
            refine held_take (v := ?v169) 8 rfl (by kernel_rfl) (by kernel_rfl) (by kernel_rfl) (fun _ _ _ h => h) (by rfl) ?y169 (by assumption) ?_
            case y169 => (intro w hSw; unfold HeldR at hSw; go_simp; (try with_reducible rfl); (try omega))
            simp only [List.setIfInBounds_toArray, List.set_cons_zero, List.set_cons_succ]
            refine held_take (v := .bool true) 9 rfl (by kernel_rfl) (by kernel_rfl) (by kernel_rfl) (fun _ _ _ h => h) (by rfl) (fun W hSw => (by go_simp; (try exact h1); (try exact h1d))) (by assumption) ?_
            simp only [List.setIfInBounds_toArray, List.set_cons_zero, List.set_cons_succ]
            refine held_take (v := ?v174) 10 rfl (by kernel_rfl) (by kernel_rfl) (by kernel_rfl) (fun _ _ _ h => h) (by rfl) ?y174 (by assumption) ?_
            case y174 => (intro w hSw; unfold HeldR at hSw; go_simp; (try with_reducible rfl); (try omega))
            simp only [List.setIfInBounds_toArray, List.set_cons_zero, List.set_cons_succ]
            refine held_take (v := ?v177) 11 rfl (by kernel_rfl) (by kernel_rfl) (by kernel_rfl) (fun _ _ _ h => h) (by rfl) ?y177 (by assumption) ?_
            case y177 => (intro w hSw; unfold HeldR at hSw; go_simp; (try with_reducible rfl); (try omega))
            simp only [List.setIfInBounds_toArray, List.set_cons_zero, List.set_cons_succ]
            refine held_take (v := ?v180) 12 rfl (by kernel_rfl) (by kernel_rfl) (by kernel_rfl) (fun _ _ _ h => h) (by rfl) ?y180 (by assumption) ?_
            case y180 => (intro w hSw; unfold HeldR at hSw; go_simp; (try with_reducible rfl); (try omega))
            simp only [List.setIfInBounds_toArray, List.set_cons_zero, List.set_cons_succ]
            refine held_take (v := ?v183) 13 rfl (by kernel_rfl) (by kernel_rfl) (by kernel_rfl) (fun _ _ _ h => h) (by rfl) ?y183 (by assumption) ?_
            case y183 => (intro w hSw; unfold HeldR at hSw; go_simp; (try with_reducible rfl); (try omega))
            simp only [List.setIfInBounds_toArray, List.set_cons_zero, List.set_cons_succ]
            refine held_take (v := ?v186) 14 rfl (by kernel_rfl) (by kernel_rfl) (by kernel_rfl) (fun _ _ _ h => h) (by rfl) ?y186 (by assumption) ?_
            case y186 => (intro w hSw; unfold HeldR at hSw; go_simp; (try with_reducible rfl); (try omega))
            simp only [List.setIfInBounds_toArray, List.set_cons_zero, List.set_cons_succ]
            refine held_take (v := ?v189) 15 rfl (by kernel_rfl) (by kernel_rfl) (by kernel_rfl) (fun _ _ _ h => h) (by rfl) ?y189 (by assumption) ?_
            case y189 => (intro w hSw; unfold HeldR at hSw; go_simp; (try with_reducible rfl); (try omega))
            simp only [List.setIfInBounds_toArray, List.set_cons_zero, List.set_cons_succ]
            refine held_take (v := ?v192) 16 rfl (by kernel_rfl) (by kernel_rfl) (by kernel_rfl) (fun _ _ _ h => h) (by rfl) ?y192 (by assumption) ?_
            case y192 => (intro w hSw; unfold HeldR at hSw; go_simp; (try with_reducible rfl); (try omega))
            simp only [List.setIfInBounds_toArray, List.set_cons_zero, List.set_cons_succ]
            refine held_take (v := ?v195) 17 rfl (by kernel_rfl) (by kernel_rfl) (by kernel_rfl) (fun _ _ _ h => h) (by rfl) ?y195 (by assumption) ?_
            case y195 => (intro w hSw; unfold HeldR at hSw; go_simp; (try with_reducible rfl); (try omega))
            simp only [List.setIfInBounds_toArray, List.set_cons_zero, List.set_cons_succ]
            refine held_take (v := ?v198) 18 rfl (by kernel_rfl) (by kernel_rfl) (by kernel_rfl) (fun _ _ _ h => h) (by rfl) ?y198 (by assumption) ?_
            case y198 => (intro w hSw; unfold HeldR at hSw; go_simp; (try with_reducible rfl); (try omega))
            simp only [List.setIfInBounds_toArray, List.set_cons_zero, List.set_cons_succ]
            refine held_take (v := .bool true) 19 rfl (by kernel_rfl) (by kernel_rfl) (by kernel_rfl) (fun _ _ _ h => h) (by rfl) (fun W hSw => (by go_simp; (try exact h2); (try exact h2d))) (by assumption) ?_
            simp only [List.setIfInBounds_toArray, List.set_cons_zero, List.set_cons_succ]
            refine held_take (v := ?v203) 20 rfl (by kernel_rfl) (by kernel_rfl) (by kernel_rfl) (fun _ _ _ h => h) (by rfl) ?y203 (by assumption) ?_
            case y203 => (intro w hSw; unfold HeldR at hSw; go_simp; (try with_reducible rfl); (try omega))
            simp only [List.setIfInBounds_toArray, List.set_cons_zero, List.set_cons_succ]
            refine wpAnyH_done (by kernel_rfl) ?_ _
            refine NoPanic.normal ?_
            go_wp2
            go_ret
            exact ⟨by rw [HT2.out]; rfl, HBF.out⟩
          · have HN2 := Lib.hid (HNX.out (fun _ => decide_eq_false (fun h => h2 h.2)))
            clear HNX
            go_wp2
            refine wp_region_noPanic ?_
            refine wp_region_held_drew (S := HeldR b (o + k * 2) w.heap.size x s) (by kernel_rfl) hH (fun hHeld => ?_)
            refine held_take (v := ?v216) 0 rfl (by kernel_rfl) (by kernel_rfl) (by kernel_rfl) (fun _ _ _ h => h) (by rfl) ?y216 (by assumption) ?_
            case y216 => (intro w hSw; unfold HeldR at hSw; go_simp; (try with_reducible rfl); (try omega))
            simp only [List.setIfInBounds_toArray, List.set_cons_zero, List.set_cons_succ]
            refine held_take (v := ?v219) 1 rfl (by kernel_rfl) (by kernel_rfl) (by kernel_rfl) (fun _ _ _ h => h) (by rfl) ?y219 (by assumption) ?_
            case y219 => (intro w hSw; unfold HeldR at hSw; go_simp; (try with_reducible rfl); (try omega))
            simp only [List.setIfInBounds_toArray, List.set_cons_zero, List.set_cons_succ]
            refine held_take (v := ?v222) 2 rfl (by kernel_rfl) (by kernel_rfl) (by kernel_rfl) (fun _ _ _ h => h) (by rfl) ?y222 (by assumption) ?_
            case y222 => (intro w hSw; unfold HeldR at hSw; go_simp; (try with_reducible rfl); (try omega))
            simp only [List.setIfInBounds_toArray, List.set_cons_zero, List.set_cons_succ]
            refine held_take (v := ?v225) 3 rfl (by kernel_rfl) (by kernel_rfl) (by kernel_rfl) (fun _ _ _ h => h) (by rfl) ?y225 (by assumption) ?_
            case y225 => (intro w hSw; unfold HeldR at hSw; go_simp; (try with_reducible rfl); (try omega))
            simp only [List.setIfInBounds_toArray, List.set_cons_zero, List.set_cons_succ]
            refine held_take (v := ?v228) 4 rfl (by kernel_rfl) (by kernel_rfl) (by kernel_rfl) (fun _ _ _ h => h) (by rfl) ?y228 (by assumption) ?_
            case y228 => (intro w hSw; unfold HeldR at hSw; go_simp; (try with_reducible rfl); (try omega))
            simp only [List.setIfInBounds_toArray, List.set_cons_zero, List.set_cons_succ]
            refine held_take (v := ?v231) 5 rfl (by kernel_rfl) (by kernel_rfl) (by kernel_rfl) (fun _ _ _ h => h) (by rfl) ?y231 (by assumption) ?_
            case y231 => (intro w hSw; unfold HeldR at hSw; go_simp; (try with_reducible rfl); (try omega))
            simp only [List.setIfInBounds_toArray, List.set_cons_zero, List.set_cons_succ]
            refine held_take (v := ?v234) 6 rfl (by kernel_rfl) (by kernel_rfl) (by kernel_rfl) (fun _ _ _ h => h) (by rfl) ?y234 (by assumption) ?_
            case y234 => (intro w hSw; unfold HeldR at hSw; go_simp; (try with_reducible rfl); (try omega))
            simp only [List.setIfInBounds_toArray, List.set_cons_zero, List.set_cons_succ]
            refine held_take (v := ?v237) 7 rfl (by kernel_rfl) (by kernel_rfl) (by kernel_rfl) (fun _ _ _ h => h) (by rfl) ?y237 (by assumption) ?_
            case y237 => (intro w hSw; unfold HeldR at hSw; go_simp; (try with_reducible rfl); (try omega))
            simp only [List.setIfInBounds_toArray, List.set_cons_zero, List.set_cons_succ]
            refine held_take (v := ?v240) 8 rfl (by kernel_rfl) (by kernel_rfl) (by kernel_rfl) (fun _ _ _ h => h) (by rfl) ?y240 (by assumption) ?_
            case y240 => (intro w hSw; unfold HeldR at hSw; go_simp; (try with_reducible rfl); (try omega))
            simp only [List.setIfInBounds_toArray, List.set_cons_zero, List.set_cons_succ]
            refine held_take (v := .bool true) 9 rfl (by kernel_rfl) (by kernel_rfl) (by kernel_rfl) (fun _ _ _ h => h) (by rfl) (fun W hSw => (by go_simp; (try exact h1); (try exact h1d))) (by assumption) ?_
            simp only [List.setIfInBounds_toArray, List.set_cons_zero, List.set_cons_succ]
            refine held_take (v := ?v245) 10 rfl (by kernel_rfl) (by kernel_rfl) (by kernel_rfl) (fun _ _ _ h => h) (by rfl) ?y245 (by assumption) ?_
            case y245 => (intro w hSw; unfold HeldR at hSw; go_simp; (try with_reducible rfl); (try omega))
            simp only [List.setIfInBounds_toArray, List.set_cons_zero, List.set_cons_succ]
            refine held_take (v := ?v248) 11 rfl (by kernel_rfl) (by kernel_rfl) (by kernel_rfl) (fun _ _ _ h => h) (by rfl) ?y248 (by assumption) ?_
            case y248 => (intro w hSw; unfold HeldR at hSw; go_simp; (try with_reducible rfl); (try omega))
            simp only [List.setIfInBounds_toArray, List.set_cons_zero, List.set_cons_succ]
            refine held_take (v := ?v251) 12 rfl (by kernel_rfl) (by kernel_rfl) (by kernel_rfl) (fun _ _ _ h => h) (by rfl) ?y251 (by assumption) ?_
            case y251 => (intro w hSw; unfold HeldR at hSw; go_simp; (try with_reducible rfl); (try omega))
            simp only [List.setIfInBounds_toArray, List.set_cons_zero, List.set_cons_succ]
            refine held_take (v := ?v254) 13 rfl (by kernel_rfl) (by kernel_rfl) (by kernel_rfl) (fun _ _ _ h => h) (by rfl) ?y254 (by assumption) ?_
            case y254 => (intro w hSw; unfold HeldR at hSw; go_simp; (try with_reducible rfl); (try omega))
            simp only [List.setIfInBounds_toArray, List.set_cons_zero, List.set_cons_succ]
            refine held_take (v := ?v257) 14 rfl (by kernel_rfl) (by kernel_rfl) (by kernel_rfl) (fun _ _ _ h => h) (by rfl) ?y257 (by assumption) ?_
            case y257 => (intro w hSw; unfold HeldR at hSw; go_simp; (try with_reducible rfl); (try omega))
            simp only [List.setIfInBounds_toArray, List.set_cons_zero, List.set_cons_succ]
            refine held_take (v := ?v260) 15 rfl (by kernel_rfl) (by kernel_rfl) (by kernel_rfl) (fun _ _ _ h => h) (by rfl) ?y260 (by assumption) ?_
            case y260 => (intro w hSw; unfold HeldR at hSw; go_simp; (try with_reducible rfl); (try omega))
            simp only [List.setIfInBounds_toArray, List.set_cons_zero, List.set_cons_succ]
            refine held_take (v := ?v263) 16 rfl (by kernel_rfl) (by kernel_rfl) (by kernel_rfl) (fun _ _ _ h => h) (by rfl) ?y263 (by assumption) ?_
            case y263 => (intro w hSw; unfold HeldR at hSw; go_simp; (try with_reducible rfl); (try omega))
            simp only [List.setIfInBounds_toArray, List.set_cons_zero, List.set_cons_succ]
            refine held_take (v := ?v266) 17 rfl (by kernel_rfl) (by kernel_rfl) (by kernel_rfl) (fun _ _ _ h => h) (by rfl) ?y266 (by assumption) ?_
            case y266 => (intro w hSw; unfold HeldR at hSw; go_simp; (try with_reducible rfl); (try omega))
            simp only [List.setIfInBounds_toArray, List.set_cons_zero, List.set_cons_succ]
            refine held_take (v := ?v269) 18 rfl (by kernel_rfl) (by kernel_rfl) (by kernel_rfl) (fun _ _ _ h => h) (by rfl) ?y269 (by assumption) ?_
            case y269 => (intro w hSw; unfold HeldR at hSw; go_simp; (try with_reducible rfl); (try omega))
            simp only [List.setIfInBounds_toArray, List.set_cons_zero, List.set_cons_succ]
            refine held_take (v := .bool false) 19 rfl (by kernel_rfl) (by kernel_rfl) (by kernel_rfl) (fun _ _ _ h => h) (by rfl) (fun W hSw => (by go_simp; (try omega))) (by assumption) ?_
            simp only [List.setIfInBounds_toArray, List.set_cons_zero, List.set_cons_succ]
            refine held_take (v := ?v274) 20 rfl (by kernel_rfl) (by kernel_rfl) (by kernel_rfl) (fun _ _ _ h => h) (by rfl) ?y274 (by assumption) ?_
            case y274 => (intro w hSw; unfold HeldR at hSw; go_simp; (try with_reducible rfl); (try omega))
            simp only [List.setIfInBounds_toArray, List.set_cons_zero, List.set_cons_succ]
            refine wpAnyH_done (by kernel_rfl) ?_ _
            refine NoPanic.normal ?_
            go_wp2
            go_roundw
            case rel => exact ⟨k + 1, hlt, rfl, HN2, HB2.out⟩
            case measure => simp only [intOf]; omega
        · have HN2 := Lib.hid (HNX.out (fun _ => decide_eq_false (fun h => h1 h.1)))
          clear HNX
          go_wp2
          refine wp_region_noPanic ?_
          refine wp_region_held_drew (S := HeldR b (o + k * 2) w.heap.size x s) (by kernel_rfl) hH (fun hHeld => ?_)
          refine held_take (v := ?v288) 0 rfl (by kernel_rfl) (by kernel_rfl) (by kernel_rfl) (fun _ _ _ h => h) (by rfl) ?y288 (by assumption) ?_
          case y288 => (intro w hSw; unfold HeldR at hSw; go_simp; (try with_reducible rfl); (try omega))
          simp only [List.setIfInBounds_toArray, List.set_cons_zero, List.set_cons_succ]
          refine held_take (v := ?v291) 1 rfl (by kernel_rfl) (by kernel_rfl) (by kernel_rfl) (fun _ _ _ h => h) (by rfl) ?y291 (by assumption) ?_
          case y291 => (intro w hSw; unfold HeldR at hSw; go_simp; (try with_reducible rfl); (try omega))
          simp only [List.setIfInBounds_toArray, List.set_cons_zero, List.set_cons_succ]
          refine held_take (v := ?v294) 2 rfl (by kernel_rfl) (by kernel_rfl) (by kernel_rfl) (fun _ _ _ h => h) (by rfl) ?y294 (by assumption) ?_
          case y294 => (intro w hSw; unfold HeldR at hSw; go_simp; (try with_reducible rfl); (try omega))
          simp only [List.setIfInBounds_toArray, List.set_cons_zero, List.set_cons_succ]
          refine held_take (v := ?v297) 3 rfl (by kernel_rfl) (by kernel_rfl) (by kernel_rfl) (fun _ _ _ h => h) (by rfl) ?y297 (by assumption) ?_
          case y297 => (intro w hSw; unfold HeldR at hSw; go_simp; (try with_reducible rfl); (try omega))
          simp only [List.setIfInBounds_toArray, List.set_cons_zero, List.set_cons_succ]
          refine held_take (v := ?v300) 4 rfl (by kernel_rfl) (by kernel_rfl) (by kernel_rfl) (fun _ _ _ h => h) (by rfl) ?y300 (by assumption) ?_
          case y300 => (intro w hSw; unfold HeldR at hSw; go_simp; (try with_reducible rfl); (try omega))
          simp only [List.setIfInBounds_toArray, List.set_cons_zero, List.set_cons_succ]
          refine held_take (v := ?v303) 5 rfl (by kernel_rfl) (by kernel_rfl) (by kernel_rfl) (fun _ _ _ h => h) (by rfl) ?y303 (by assumption) ?_
          case y303 => (intro w hSw; unfold HeldR at hSw; go_simp; (try with_reducible rfl); (try omega))
          simp only [List.setIfInBounds_toArray, List.set_cons_zero, List.set_cons_succ]
          refine held_take (v := ?v306) 6 rfl (by kernel_rfl) (by kernel_rfl) (by kernel_rfl) (fun _ _ _ h => h) (by rfl) ?y306 (by assumption) ?_
          case y306 => (intro w hSw; unfold HeldR at hSw; go_simp; (try with_reducible rfl); (try omega))
          simp only [List.setIfInBounds_toArray, List.set_cons_zero, List.set_cons_succ]
          refine held_take (v := ?v309) 7 rfl (by kernel_rfl) (by kernel_rfl) (by kernel_rfl) (fun _ _ _ h => h) (by rfl) ?y309 (by assumption) ?_
          case y309 => (intro w hSw; unfold HeldR at hSw; go_simp; (try with_reducible rfl); (try omega))
          simp only [List.setIfInBounds_toArray, List.set_cons_zero, List.set_cons_succ]
          refine held_take (v := ?v312) 8 rfl (by kernel_rfl) (by kernel_rfl) (by kernel_rfl) (fun _ _ _ h => h) (by rfl) ?y312 (by assumption) ?_
          case y312 => (intro w hSw; unfold HeldR at hSw; go_simp; (try with_reducible rfl); (try omega))
          simp only [List.setIfInBounds_toArray, List.set_cons_zero, List.set_cons_succ]
          refine held_take (v := .bool false) 9 rfl (by kernel_rfl) (by kernel_rfl) (by kernel_rfl) (fun _ _ _ h => h) (by rfl) (fun W hSw => (by go_simp; (try omega))) (by assumption) ?_
          simp only [List.setIfInBounds_toArray, List.set_cons_zero, List.set_cons_succ]
          refine held_take (v := ?v317) 10 rfl (by kernel_rfl) (by kernel_rfl) (by kernel_rfl) (fun _ _ _ h => h) (by rfl) ?y317 (by assumption) ?_
          case y317 => (intro w hSw; unfold HeldR at hSw; go_simp; (try with_reducible rfl); (try omega))
          simp only [List.setIfInBounds_toArray, List.set_cons_zero, List.set_cons_succ]
          refine held_take (v := ?v320) 11 rfl (by kernel_rfl) (by kernel_rfl) (by kernel_rfl) (fun _ _ _ h => h) (by rfl) ?y320 (by assumption) ?_
          case y320 => (intro w hSw; unfold HeldR at hSw; go_simp; (try with_reducible rfl); (try omega))
          simp only [List.setIfInBounds_toArray, List.set_cons_zero, List.set_cons_succ]
          refine held_skip 12 rfl (by kernel_rfl) (by kernel_rfl) (by kernel_rfl) (fun _ _ _ h => h) (by rfl) (by assumption) ?_
          simp only [List.setIfInBounds_toArray, List.set_cons_zero, List.set_cons_succ]
          refine held_skip 13 rfl (by kernel_rfl) (by kernel_rfl) (by kernel_rfl) (fun _ _ _ h => h) (by rfl) (by assumption) ?_
          simp only [List.setIfInBounds_toArray, List.set_cons_zero, List.set_cons_succ]
          refine held_skip 14 rfl (by kernel_rfl) (by kernel_rfl) (by kernel_rfl) (fun _ _ _ h => h) (by rfl) (by assumption) ?_
          simp only [List.setIfInBounds_toArray, List.set_cons_zero, List.set_cons_succ]
          refine held_skip 15 rfl (by kernel_rfl) (by kernel_rfl) (by kernel_rfl) (fun _ _ _ h => h) (by rfl) (by assumption) ?_
          simp only [List.setIfInBounds_toArray, List.set_cons_zero, List.set_cons_succ]
          refine held_skip 16 rfl (by kernel_rfl) (by kernel_rfl) (by kernel_rfl) (fun _ _ _ h => h) (by rfl) (by assumption) ?_
          simp only [List.setIfInBounds_toArray, List.set_cons_zero, List.set_cons_succ]
          refine held_skip 17 rfl (by kernel_rfl) (by kernel_rfl) (by kernel_rfl) (fun _ _ _ h => h) (by rfl) (by assumption) ?_
          simp only [List.setIfInBounds_toArray, List.set_cons_zero, List.set_cons_succ]
          refine held_skip 18 rfl (by kernel_rfl) (by kernel_rfl) (by kernel_rfl) (fun _ _ _ h => h) (by rfl) (by assumption) ?_
          simp only [List.setIfInBounds_toArray, List.set_cons_zero, List.set_cons_succ]
          refine held_skip 19 rfl (by kernel_rfl) (by kernel_rfl) (by kernel_rfl) (fun _ _ _ h => h) (by rfl) (by assumption) ?_
          simp only [List.setIfInBounds_toArray, List.set_cons_zero, List.set_cons_succ]
          refine held_take (v := ?v339) 20 rfl (by kernel_rfl) (by kernel_rfl) (by kernel_rfl) (fun _ _ _ h => h) (by rfl) ?y339 (by assumption) ?_
          case y339 => (intro w hSw; unfold HeldR at hSw; go_simp; (try with_reducible rfl); (try omega))
          simp only [List.setIfInBounds_toArray, List.set_cons_zero, List.set_cons_succ]
          refine wpAnyH_done (by kernel_rfl) ?_ _
          refine NoPanic.normal ?_
          go_wp2
          go_roundw
          case rel => exact ⟨k + 1, hlt, rfl, HN2, HB2.out⟩
          case measure => simp only [intOf]; omega
    · have hlti : ¬ (k : Int) < (m.length : Int) := by omega
      have HF := Lib.hid (show r = false by
        rw [HSP.out]
        cases ok with
        | false => rfl
        | true =>
          have := HNO.out rfl
          rw [List.take_of_length_le (by omega)] at this
          rw [Bool.true_and, this])
      have HBF := Lib.hid (below_up HBN.out hbel HBN.out.size)
      clear hbel HNO
      go_wp2
      go_ret
      exact ⟨by rw [HF.out]; rfl, HBF.out⟩
set_option maxRecDepth 100000 in
set_option maxHeartbeats 2000000 in
theorem rmeet_any (v : Value) (l : List Spn) (s : Spn) (w : World) (h : IsS w v l) (hN : l.length ≤ 200000) :
    Calls Try.prog 20 #[v, sV s] w fun e w' => e = .returned (.bool (meetS l s)) ∧ Below w.heap.size w w' := by
  obtain ⟨a, c, rfl, hc⟩ := h.form
  have hb0 : Below w.heap.size w (w.alloc (.cells (sR s).toArray 27)) := (Below.refl _ _).alloc (Nat.le_refl _) _
  have HB0 := Lib.hid hb0
  have HX0 := Lib.hid (Bx.new w 27 (sR s))
  have HI0 := Lib.hid (h.below hb0)
  have HT := Lib.hid (fun W (hW : IsS W (.slice a l.length c) l) => rnorm_any _ l W hW hN)
  have HSP := Lib.hid (show meetS l s = (mayB s && (normS l).any fun x => decide (x.f ≤ s.l ∧ s.f ≤ x.l)) from rfl)
  have hml := normS_length_le l
  generalize normS l = m at HT HSP hml
  obtain ⟨r, hr⟩ : ∃ r, meetS l s = r := ⟨_, rfl⟩
  rw [hr] at HSP ⊢
  obtain ⟨ok, hok⟩ : ∃ ok, mayB s = ok := ⟨_, rfl⟩
  have hmx := fun W => rmay_any s W
  rw [hok] at hmx HSP
  have HMX := Lib.hid hmx
  rw [show sV s = .agg (sR s).toArray from rfl]
  have e0 : (sR s)[0]? = some (.int .i64 s.f) := rfl
  have e1 : (sR s)[1]? = some (.int .i64 s.l) := rfl
  clear h hb0 hr hok hmx
  go_enter Try.func20, Try.ntmps20
  go_wp2_with (go_at_call 52; refine (HMX.out _).mono ?_; rintro e w1 ⟨rfl, b1⟩; refine Hid.out ?_)
  refine Lib.hid ?_
  have HX1 := Lib.hid (HX0.out.up b1)
  have HI1 := Lib.hid (HI0.out.below b1)
  have HB1 := Lib.hid (below_up HB0.out b1 HB0.out.size)
  clear b1 HX0 HI0 HB0
  go_wp2_with (go_at_call 53; refine (HT.out _ HI1.out).mono ?_; rintro e w2 ⟨v1, rfl, h1, b2⟩; refine Hid.out ?_)
  refine Lib.hid ?_
  obtain ⟨a1, c1, rfl, hc1⟩ := h1.form
  have HS := Lib.hid h1
  have HXN := Lib.hid (HX1.out.up b2)
  have HBN := Lib.hid (below_up HB1.out b2 HB1.out.size)
  clear h1 b2 HX1 HB1
  go_wp2
  go_loopw [7] (fun i wr => ∃ k : Nat, k ≤ m.length ∧ i = .int .i64 (k : Int) ∧ Hid (ok = true → ((m.take k).any fun x => decide (x.f ≤ s.l ∧ s.f ≤ x.l)) = false) ∧ Below w2.heap.size w2 wr) (fun i _ => m.length - (intOf i).toNat)
  case atStart => exact ⟨0, Nat.zero_le _, rfl, Lib.hid (fun _ => rfl), Below.refl _ _⟩
  case round =>
    obtain ⟨k, hk, rfl, HNO, hbel⟩ := hrel
    by_cases hlt : k < m.length
    · have hlti : (k : Int) < (m.length : Int) := by omega
      have h0k : (0 : Int) ≤ (k : Int) := by omega
      obtain ⟨x, hx⟩ : ∃ x, m[k]? = some x := ⟨m[k], List.getElem?_eq_getElem hlt⟩
      obtain ⟨b, o, rfl, hbl⟩ := IsS.place HS.out (by omega)
      have hr := IsS.range (HS.out.below hbel) k x hx
      have hxs := HXN.out.up hbel
      have hrs := rangeAll hxs
      have q1 := rng1 hrs
      simp only [Nat.zero_add] at q1
      have hH : HeldR b (o + k * 2) w.heap.size x s wr.drew := ⟨rng0 hr, rng1 hr, rng0 hrs, q1⟩
      have HNX := Lib.hid (show (ok = true → decide (x.f ≤ s.l ∧ s.f ≤ x.l) = false) → ok = true → ((m.take (k + 1)).any fun x => decide (x.f ≤ s.l ∧ s.f ≤ x.l)) = false from fun h1 h2 => by
        rw [take_next hx, List.any_append, HNO.out h2]
        simp only [List.any_cons, List.any_nil, Bool.or_false, Bool.false_or]
        exact h1 h2)
      have HXM := Lib.hid (List.mem_of_getElem? hx)
      have HB2 := Lib.hid (below_up hbel ((Below.refl wr.heap.size wr).drew) hbel.size)
      clear hx hr hxs hrs q1 hbel HNO
      cases ok with
      | false =>
        have HN2 := Lib.hid (HNX.out (fun h => by cases h))
        clear HNX
        go_wp2
        refine wp_region_noPanic ?_
        refine wp_region_held_drew (S := HeldR b (o + k * 2) w.heap.size x s) (by kernel_rfl) hH (fun hHeld => ?_)
        refine held_take (v := ?v429) 0 rfl (by kernel_rfl) (by kernel_rfl) (by kernel_rfl) (fun _ _ _ h => h) (by rfl) ?y429 (by assumption) ?_
        case y429 => (intro w hSw; unfold HeldR at hSw; go_simp; (try with_reducible rfl); (try omega))
        simp only [List.setIfInBounds_toArray, List.set_cons_zero, List.set_cons_succ]
        refine held_take (v := ?v432) 1 rfl (by kernel_rfl) (by kernel_rfl) (by kernel_rfl) (fun _ _ _ h => h) (by rfl) ?y432 (by assumption) ?_
        case y432 => (intro w hSw; unfold HeldR at hSw; go_simp; (try with_reducible rfl); (try omega))
        simp only [List.setIfInBounds_toArray, List.set_cons_zero, List.set_cons_succ]
        refine held_skip 2 rfl (by kernel_rfl) (by kernel_rfl) (by kernel_rfl) (fun _ _ _ h => h) (by rfl) (by assumption) ?_
        simp only [List.setIfInBounds_toArray, List.set_cons_zero, List.set_cons_succ]
        refine held_skip 3 rfl (by kernel_rfl) (by kernel_rfl) (by kernel_rfl) (fun _ _ _ h => h) (by rfl) (by assumption) ?_
        simp only [List.setIfInBounds_toArray, List.set_cons_zero, List.set_cons_succ]
        refine held_skip 4 rfl (by kernel_rfl) (by kernel_rfl) (by kernel_rfl) (fun _ _ _ h => h) (by rfl) (by assumption) ?_
        simp only [List.setIfInBounds_toArray, List.set_cons_zero, List.set_cons_succ]
        refine held_skip 5 rfl (by kernel_rfl) (by kernel_rfl) (by kernel_rfl) (fun _ _ _ h => h) (by rfl) (by assumption) ?_
        simp only [List.setIfInBounds_toArray, List.set_cons_zero, List.set_cons_succ]
        refine held_skip 6 rfl (by kernel_rfl) (by kernel_rfl) (by kernel_rfl) (fun _ _ _ h => h) (by rfl) (by assumption) ?_
        simp only [List.setIfInBounds_toArray, List.set_cons_zero, List.set_cons_succ]
        refine held_skip 7 rfl (by kernel_rfl) (by kernel_rfl) (by kernel_rfl) (fun _ _ _ h => h) (by rfl) (by assumption) ?_
        simp only [List.setIfInBounds_toArray, List.set_cons_zero, List.set_cons_succ]
        refine held_skip 8 rfl (by kernel_rfl) (by kernel_rfl) (by kernel_rfl) (fun _ _ _ h => h) (by rfl) (by assumption) ?_
        simp only [List.setIfInBounds_toArray, List.set_cons_zero, List.set_cons_succ]
        refine held_skip 9 rfl (by kernel_rfl) (by kernel_rfl) (by kernel_rfl) (fun _ _ _ h => h) (by rfl) (by assumption) ?_
        simp only [List.setIfInBounds_toArray, List.set_cons_zero, List.set_cons_succ]
        refine held_take (v := ?v451) 10 rfl (by kernel_rfl) (by kernel_rfl) (by kernel_rfl) (fun _ _ _ h => h) (by rfl) ?y451 (by assumption) ?_
        case y451 => (intro w hSw; unfold HeldR at hSw; go_simp; (try with_reducible rfl); (try omega))
        simp only [List.setIfInBounds_toArray, List.set_cons_zero, List.set_cons_succ]
        refine held_take (v := ?v454) 11 rfl (by kernel_rfl) (by kernel_rfl) (by kernel_rfl) (fun _ _ _ h => h) (by rfl) ?y454 (by assumption) ?_
        case y454 => (intro w hSw; unfold HeldR at hSw; go_simp; (try with_reducible rfl); (try omega))
        simp only [List.setIfInBounds_toArray, List.set_cons_zero, List.set_cons_succ]
        refine held_skip 12 rfl (by kernel_rfl) (by kernel_rfl) (by kernel_rfl) (fun _ _ _ h => h) (by rfl) (by assumption) ?_
        simp only [List.setIfInBounds_toArray, List.set_cons_zero, List.set_cons_succ]
        refine held_skip 13 rfl (by kernel_rfl) (by kernel_rfl) (by kernel_rfl) (fun _ _ _ h => h) (by rfl) (by assumption) ?_
        simp only [List.setIfInBounds_toArray, List.set_cons_zero, List.set_cons_succ]
        refine held_skip 14 rfl (by kernel_rfl) (by kernel_rfl) (by kernel_rfl) (fun _ _ _ h => h) (by rfl) (by assumption) ?_
        simp only [List.setIfInBounds_toArray, List.set_cons_zero, List.set_cons_succ]
        refine held_skip 15 rfl (by kernel_rfl) (by kernel_rfl) (by kernel_rfl) (fun _ _ _ h => h) (by rfl) (by assumption) ?_
        simp only [List.setIfInBounds_toArray, List.set_cons_zero, List.set_cons_succ]
        refine held_skip 16 rfl (by kernel_rfl) (by kernel_rfl) (by kernel_rfl) (fun _ _ _ h => h) (by rfl) (by assumption) ?_
        simp only [List.setIfInBounds_toArray, List.set_cons_zero, List.set_cons_succ]
        refine held_skip 17 rfl (by kernel_rfl) (by kernel_rfl) (by kernel_rfl) (fun _ _ _ h => h) (by rfl) (by assumption) ?_
        simp only [List.setIfInBounds_toArray, List.set_cons_zero, List.set_cons_succ]
        refine held_skip 18 rfl (by kernel_rfl) (by kernel_rfl) (by kernel_rfl) (fun _ _ _ h => h) (by rfl) (by assumption) ?_
        simp only [List.setIfInBounds_toArray, List.set_cons_zero, List.set_cons_succ]
        refine held_skip 19 rfl (by kernel_rfl) (by kernel_rfl) (by kernel_rfl) (fun _ _ _ h => h) (by rfl) (by assumption) ?_
        simp only [List.setIfInBounds_toArray, List.set_cons_zero, List.set_cons_succ]
        refine held_take (v := ?v473) 20 rfl (by kernel_rfl) (by kernel_rfl) (by kernel_rfl) (fun _ _ _ h => h) (by rfl) ?y473 (by assumption) ?_
        case y473 => (intro w hSw; unfold HeldR at hSw; go_simp; (try with_reducible rfl); (try omega))
        simp only [List.setIfInBounds_toArray, List.set_cons_zero, List.set_cons_succ]
        refine wpAnyH_done (by kernel_rfl) ?_ _
        refine NoPanic.normal ?_
        go_wp2
        go_roundw
        case rel => exact ⟨k + 1, hlt, rfl, HN2, HB2.out⟩
        case measure => simp only [intOf]; omega
      | true =>
        by_cases h1 : x.f ≤ s.l
        · have h1d : decide (x.f ≤ s.l) = true := decide_eq_true h1
          by_cases h2 : s.f ≤ x.l
          · have h2d : decide (s.f ≤ x.l) = true := decide_eq_true h2
            have HT2 := Lib.hid (show r = true by
              rw [HSP.out, Bool.true_and, List.any_eq_true]
              exact ⟨x, HXM.out, decide_eq_true ⟨h1, h2⟩⟩)
            have HBF := Lib.hid (below_up HBN.out HB2.out HBN.out.size)
            clear HNX
            go_wp2
            refine wp_region_noPanic ?_
            refine wp_region_held_drew (S := HeldR b (o + k * 2) w.heap.size x s) (by kernel_rfl) hH (fun hHeld => ?_)
            refine held_take (v := ?v495) 0 rfl (by kernel_rfl) (by kernel_rfl) (by kernel_rfl) (fun _ _ _ h => h) (by rfl) ?y495 (by assumption) ?_
            case y495 => (intro w hSw; unfold HeldR at hSw; go_simp; (try with_reducible rfl); (try omega))
            simp only [List.setIfInBounds_toArray, List.set_cons_zero, List.set_cons_succ]
            refine held_take (v := ?v498) 1 rfl (by kernel_rfl) (by kernel_rfl) (by kernel_rfl) (fun _ _ _ h => h) (by rfl) ?y498 (by assumption) ?_
            case y498 => (intro w hSw; unfold HeldR at hSw; go_simp; (try with_reducible rfl); (try omega))
            simp only [List.setIfInBounds_toArray, List.set_cons_zero, List.set_cons_succ]
            refine held_take (v := ?v501) 2 rfl (by kernel_rfl) (by kernel_rfl) (by kernel_rfl) (fun _ _ _ h => h) (by rfl) ?y501 (by assumption) ?_
            case y501 => (intro w hSw; unfold HeldR at hSw; go_simp; (try with_reducible rfl); (try omega))
            simp only [List.setIfInBounds_toArray, List.set_cons_zero, List.set_cons_succ]
            refine held_take (v := ?v504) 3 rfl (by kernel_rfl) (by kernel_rfl) (by kernel_rfl) (fun _ _ _ h => h) (by rfl) ?y504 (by assumption) ?_
            case y504 => (intro w hSw; unfold HeldR at hSw; go_simp; (try with_reducible rfl); (try omega))
            simp only [List.setIfInBounds_toArray, List.set_cons_zero, List.set_cons_succ]
            refine held_take (v := ?v507) 4 rfl (by kernel_rfl) (by kernel_rfl) (by kernel_rfl) (fun _ _ _ h => h) (by rfl) ?y507 (by assumption) ?_
            case y507 => (intro w hSw; unfold HeldR at hSw; go_simp; (try with_reducible rfl); (try omega))
            simp only [List.setIfInBounds_toArray, List.set_cons_zero, List.set_cons_succ]
            refine held_take (v := ?v510) 5 rfl (by kernel_rfl) (by kernel_rfl) (by kernel_rfl) (fun _ _ _ h => h) (by rfl) ?y510 (by assumption) ?_
            case y510 => (intro w hSw; unfold HeldR at hSw; go_simp; (try with_reducible rfl); (try omega))
            simp only [List.setIfInBounds_toArray, List.set_cons_zero, List.set_cons_succ]
            refine held_take (v := ?v513) 6 rfl (by kernel_rfl) (by kernel_rfl) (by kernel_rfl) (fun _ _ _ h => h) (by rfl) ?y513 (by assumption) ?_
            case y513 => (intro w hSw; unfold HeldR at hSw; go_simp; (try with_reducible rfl); (try omega))
            simp only [List.setIfInBounds_toArray, List.set_cons_zero, List.set_cons_succ]
            refine held_take (v := ?v516) 7 rfl (by kernel_rfl) (by kernel_rfl) (by kernel_rfl) (fun _ _ _ h => h) (by rfl) ?y516 (by assumption) ?_
            case y516 => (intro w hSw; unfold HeldR at hSw; go_simp; (try with_reducible rfl); (try omega))
            simp only [List.setIfInBounds_toArray, List.set_cons_zero, List.set_cons_succ]
            refine held_take (v := ?v519) 8 rfl (by kernel_rfl) (by kernel_rfl) (by kernel_rfl) (fun _ _ _ h => h) (by rfl) ?y519 (by assumption) ?_
            case y519 => (intro w hSw; unfold HeldR at hSw; go_simp; (try with_reducible rfl); (try omega))
            simp only [List.setIfInBounds_toArray, List.set_cons_zero, List.set_cons_succ]
            refine held_take (v := .bool true) 9 rfl (by kernel_rfl) (by kernel_rfl) (by kernel_rfl) (fun _ _ _ h => h) (by rfl) (fun W hSw => (by go_simp; (try exact h1); (try exact h1d))) (by assumption) ?_
            simp only [List.setIfInBounds_toArray, List.set_cons_zero, List.set_cons_succ]
            refine held_take (v := ?v524) 10 rfl (by kernel_rfl) (by kernel_rfl) (by kernel_rfl) (fun _ _ _ h => h) (by rfl) ?y524 (by assumption) ?_
            case y524 => (intro w hSw; unfold HeldR at hSw; go_simp; (try with_reducible rfl); (try omega))
            simp only [List.setIfInBounds_toArray, List.set_cons_zero, List.set_cons_succ]
            refine held_take (v := ?v527) 11 rfl (by kernel_rfl) (by kernel_rfl) (by kernel_rfl) (fun _ _ _ h => h) (by rfl) ?y527 (by assumption) ?_
            case y527 => (intro w hSw; unfold HeldR at hSw; go_simp; (try with_reducible rfl); (try omega))
            simp only [List.setIfInBounds_toArray, List.set_cons_zero, List.set_cons_succ]
            refine held_take (v := ?v530) 12 rfl (by kernel_rfl) (by kernel_rfl) (by kernel_rfl) (fun _ _ _ h => h) (by rfl) ?y530 (by assumption) ?_
            case y530 => (intro w hSw; unfold HeldR at hSw; go_simp; (try with_reducible rfl); (try omega))
            simp only [List.setIfInBounds_toArray, List.set_cons_zero, List.set_cons_succ]
            refine held_take (v := ?v533) 13 rfl (by kernel_rfl) (by kernel_rfl) (by kernel_rfl) (fun _ _ _ h => h) (by rfl) ?y533 (by assumption) ?_
            case y533 => (intro w hSw; unfold HeldR at hSw; go_simp; (try with_reducible rfl); (try omega))
            simp only [List.setIfInBounds_toArray, List.set_cons_zero, List.set_cons_succ]
            refine held_take (v := ?v536) 14 rfl (by kernel_rfl) (by kernel_rfl) (by kernel_rfl) (fun _ _ _ h => h) (by rfl) ?y536 (by assumption) ?_
            case y536 => (intro w hSw; unfold HeldR at hSw; go_simp; (try with_reducible rfl); (try omega))
            simp only [List.setIfInBounds_toArray, List.set_cons_zero, List.set_cons_succ]
            refine held_take (v := ?v539) 15 rfl (by kernel_rfl) (by kernel_rfl) (by kernel_rfl) (fun _ _ _ h => h) (by rfl) ?y539 (by assumption) ?_
            case y539 => (intro w hSw; unfold HeldR at hSw; go_simp; (try with_reducible rfl); (try omega))
            simp only [List.setIfInBounds_toArray, List.set_cons_zero, List.set_cons_succ]
            refine held_take (v := ?v542) 16 rfl (by kernel_rfl) (by kernel_rfl) (by kernel_rfl) (fun _ _ _ h => h) (by rfl) ?y542 (by assumption) ?_
            case y542 => (intro w hSw; unfold HeldR at hSw; go_simp; (try with_reducible rfl); (try omega))
            simp only [List.setIfInBounds_toArray, List.set_cons_zero, List.set_cons_succ]
            refine held_take (v := ?v545) 17 rfl (by kernel_rfl) (by kernel_rfl) (by kernel_rfl) (fun _ _ _ h => h) (by rfl) ?y545 (by assumption) ?_
            case y545 => (intro w hSw; unfold HeldR at hSw; go_simp; (try with_reducible rfl); (try omega))
            simp only [List.setIfInBounds_toArray, List.set_cons_zero, List.set_cons_succ]
            refine held_take (v := ?v548) 18 rfl (by kernel_rfl) (by kernel_rfl) (by kernel_rfl) (fun _ _ _ h => h) (by rfl) ?y548 (by assumption) ?_
            case y548 => (intro w hSw; unfold HeldR at hSw; go_simp; (try with_reducible rfl); (try omega))
            simp only [List.setIfInBounds_toArray, List.set_cons_zero, List.set_cons_succ]
            refine held_take (v := .bool true) 19 rfl (by kernel_rfl) (by kernel_rfl) (by kernel_rfl) (fun _ _ _ h => h) (by rfl) (fun W hSw => (by go_simp; (try exact h2); (try exact h2d))) (by assumption) ?_
            simp only [List.setIfInBounds_toArray, List.set_cons_zero, List.set_cons_succ]
            refine held_take (v := ?v553) 20 rfl (by kernel_rfl) (by kernel_rfl) (by kernel_rfl) (fun _ _ _ h => h) (by rfl) ?y553 (by assumption) ?_
            case y553 => (intro w hSw; unfold HeldR at hSw; go_simp; (try with_reducible rfl); (try omega))
            simp only [List.setIfInBounds_toArray, List.set_cons_zero, List.set_cons_succ]
            refine wpAnyH_done (by kernel_rfl) ?_ _
            refine NoPanic.normal ?_
            go_wp2
            go_ret
            exact ⟨by rw [HT2.out]; rfl, HBF.out⟩
          · have HN2 := Lib.hid (HNX.out (fun _ => decide_eq_false (fun h => h2 h.2)))
            clear HNX
            go_wp2
            refine wp_region_noPanic ?_
            refine wp_region_held_drew (S := HeldR b (o + k * 2) w.heap.size x s) (by kernel_rfl) hH (fun hHeld => ?_)
            refine held_take (v := ?v566) 0 rfl (by kernel_rfl) (by kernel_rfl) (by kernel_rfl) (fun _ _ _ h => h) (by rfl) ?y566 (by assumption) ?_
            case y566 => (intro w hSw; unfold HeldR at hSw; go_simp; (try with_reducible rfl); (try omega))
            simp only [List.setIfInBounds_toArray, List.set_cons_zero, List.set_cons_succ]
            refine held_take (v := ?v569) 1 rfl (by kernel_rfl) (by kernel_rfl) (by kernel_rfl) (fun _ _ _ h => h) (by rfl) ?y569 (by assumption) ?_
            case y569 => (intro w hSw; unfold HeldR at hSw; go_simp; (try with_reducible rfl); (try omega))
            simp only [List.setIfInBounds_toArray, List.set_cons_zero, List.set_cons_succ]
            refine held_take (v := ?v572) 2 rfl (by kernel_rfl) (by kernel_rfl) (by kernel_rfl) (fun _ _ _ h => h) (by rfl) ?y572 (by assumption) ?_
            case y572 => (intro w hSw; unfold HeldR at hSw; go_simp; (try with_reducible rfl); (try omega))
            simp only [List.setIfInBounds_toArray, List.set_cons_zero, List.set_cons_succ]
            refine held_take (v := ?v575) 3 rfl (by kernel_rfl) (by kernel_rfl) (by kernel_rfl) (fun _ _ _ h => h) (by rfl) ?y575 (by assumption) ?_
            case y575 => (intro w hSw; unfold HeldR at hSw; go_simp; (try with_reducible rfl); (try omega))
            simp only [List.setIfInBounds_toArray, List.set_cons_zero, List.set_cons_succ]
            refine held_take (v := ?v578) 4 rfl (by kernel_rfl) (by kernel_rfl) (by kernel_rfl) (fun _ _ _ h => h) (by rfl) ?y578 (by assumption) ?_
            case y578 => (intro w hSw; unfold HeldR at hSw; go_simp; (try with_reducible rfl); (try omega))
            simp only [List.setIfInBounds_toArray, List.set_cons_zero, List.set_cons_succ]
            refine held_take (v := ?v581) 5 rfl (by kernel_rfl) (by kernel_rfl) (by kernel_rfl) (fun _ _ _ h => h) (by rfl) ?y581 (by assumption) ?_
            case y581 => (intro w hSw; unfold HeldR at hSw; go_simp; (try with_reducible rfl); (try omega))
            simp only [List.setIfInBounds_toArray, List.set_cons_zero, List.set_cons_succ]
            refine held_take (v := ?v584) 6 rfl (by kernel_rfl) (by kernel_rfl) (by kernel_rfl) (fun _ _ _ h => h) (by rfl) ?y584 (by assumption) ?_
            case y584 => (intro w hSw; unfold HeldR at hSw; go_simp; (try with_reducible rfl); (try omega))
            simp only [List.setIfInBounds_toArray, List.set_cons_zero, List.set_cons_succ]
            refine held_take (v := ?v587) 7 rfl (by kernel_rfl) (by kernel_rfl) (by kernel_rfl) (fun _ _ _ h => h) (by rfl) ?y587 (by assumption) ?_
            case y587 => (intro w hSw; unfold HeldR at hSw; go_simp; (try with_reducible rfl); (try omega))
            simp only [List.setIfInBounds_toArray, List.set_cons_zero, List.set_cons_succ]
            refine held_take (v := ?v590) 8 rfl (by kernel_rfl) (by kernel_rfl) (by kernel_rfl) (fun _ _ _ h => h) (by rfl) ?y590 (by assumption) ?_
            case y590 => (intro w hSw; unfold HeldR at hSw; go_simp; (try with_reducible rfl); (try omega))
            simp only [List.setIfInBounds_toArray, List.set_cons_zero, List.set_cons_succ]
            refine held_take (v := .bool true) 9 rfl (by kernel_rfl) (by kernel_rfl) (by kernel_rfl) (fun _ _ _ h => h) (by rfl) (fun W hSw => (by go_simp; (try exact h1); (try exact h1d))) (by assumption) ?_
            simp only [List.setIfInBounds_toArray, List.set_cons_zero, List.set_cons_succ]
            refine held_take (v := ?v595) 10 rfl (by kernel_rfl) (by kernel_rfl) (by kernel_rfl) (fun _ _ _ h => h) (by rfl) ?y595 (by assumption) ?_
            case y595 => (intro w hSw; unfold HeldR at hSw; go_simp; (try with_reducible rfl); (try omega))
            simp only [List.setIfInBounds_toArray, List.set_cons_zero, List.set_cons_succ]
            refine held_take (v := ?v598) 11 rfl (by kernel_rfl) (by kernel_rfl) (by kernel_rfl) (fun _ _ _ h => h) (by rfl) ?y598 (by assumption) ?_
            case y598 => (intro w hSw; unfold HeldR at hSw; go_simp; (try with_reducible rfl); (try omega))
            simp only [List.setIfInBounds_toArray, List.set_cons_zero, List.set_cons_succ]
            refine held_take (v := ?v601) 12 rfl (by kernel_rfl) (by kernel_rfl) (by kernel_rfl) (fun _ _ _ h => h) (by rfl) ?y601 (by assumption) ?_
            case y601 => (intro w hSw; unfold HeldR at hSw; go_simp; (try with_reducible rfl); (try omega))
            simp only [List.setIfInBounds_toArray, List.set_cons_zero, List.set_cons_succ]
            refine held_take (v := ?v604) 13 rfl (by kernel_rfl) (by kernel_rfl) (by kernel_rfl) (fun _ _ _ h => h) (by rfl) ?y604 (by assumption) ?_
            case y604 => (intro w hSw; unfold HeldR at hSw; go_simp; (try with_reducible rfl); (try omega))
            simp only [List.setIfInBounds_toArray, List.set_cons_zero, List.set_cons_succ]
            refine held_take (v := ?v607) 14 rfl (by kernel_rfl) (by kernel_rfl) (by kernel_rfl) (fun _ _ _ h => h) (by rfl) ?y607 (by assumption) ?_
            case y607 => (intro w hSw; unfold HeldR at hSw; go_simp; (try with_reducible rfl); (try omega))
            simp only [List.setIfInBounds_toArray, List.set_cons_zero, List.set_cons_succ]
            refine held_take (v := ?v610) 15 rfl (by kernel_rfl) (by kernel_rfl) (by kernel_rfl) (fun _ _ _ h => h) (by rfl) ?y610 (by assumption) ?_
            case y610 => (intro w hSw; unfold HeldR at hSw; go_simp; (try with_reducible rfl); (try omega))
            simp only [List.setIfInBounds_toArray, List.set_cons_zero, List.set_cons_succ]
            refine held_take (v := ?v613) 16 rfl (by kernel_rfl) (by kernel_rfl) (by kernel_rfl) (fun _ _ _ h => h) (by rfl) ?y613 (by assumption) ?_
            case y613 => (intro w hSw; unfold HeldR at hSw; go_simp; (try with_reducible rfl); (try omega))
            simp only [List.setIfInBounds_toArray, List.set_cons_zero, List.set_cons_succ]
            refine held_take (v := ?v616) 17 rfl (by kernel_rfl) (by kernel_rfl) (by kernel_rfl) (fun _ _ _ h => h) (by rfl) ?y616 (by assumption) ?_
            case y616 => (intro w hSw; unfold HeldR at hSw; go_simp; (try with_reducible rfl); (try omega))
            simp only [List.setIfInBounds_toArray, List.set_cons_zero, List.set_cons_succ]
            refine held_take (v := ?v619) 18 rfl (by kernel_rfl) (by kernel_rfl) (by kernel_rfl) (fun _ _ _ h => h) (by rfl) ?y619 (by assumption) ?_
            case y619 => (intro w hSw; unfold HeldR at hSw; go_simp; (try with_reducible rfl); (try omega))
            simp only [List.setIfInBounds_toArray, List.set_cons_zero, List.set_cons_succ]
            refine held_take (v := .bool false) 19 rfl (by kernel_rfl) (by kernel_rfl) (by kernel_rfl) (fun _ _ _ h => h) (by rfl) (fun W hSw => (by go_simp; (try omega))) (by assumption) ?_
            simp only [List.setIfInBounds_toArray, List.set_cons_zero, List.set_cons_succ]
            refine held_take (v := ?v624) 20 rfl (by kernel_rfl) (by kernel_rfl) (by kernel_rfl) (fun _ _ _ h => h) (by rfl) ?y624 (by assumption) ?_
            case y624 => (intro w hSw; unfold HeldR at hSw; go_simp; (try with_reducible rfl); (try omega))
            simp only [List.setIfInBounds_toArray, List.set_cons_zero, List.set_cons_succ]
            refine wpAnyH_done (by kernel_rfl) ?_ _
            refine NoPanic.normal ?_
            go_wp2
            go_roundw
            case rel => exact ⟨k + 1, hlt, rfl, HN2, HB2.out⟩
            case measure => simp only [intOf]; omega
        · have HN2 := Lib.hid (HNX.out (fun _ => decide_eq_false (fun h => h1 h.1)))
          clear HNX
          go_wp2
          refine wp_region_noPanic ?_
          refine wp_region_held_drew (S := HeldR b (o + k * 2) w.heap.size x s) (by kernel_rfl) hH (fun hHeld => ?_)
          refine held_take (v := ?v638) 0 rfl (by kernel_rfl) (by kernel_rfl) (by kernel_rfl) (fun _ _ _ h => h) (by rfl) ?y638 (by assumption) ?_
          case y638 => (intro w hSw; unfold HeldR at hSw; go_simp; (try with_reducible rfl); (try omega))
          simp only [List.setIfInBounds_toArray, List.set_cons_zero, List.set_cons_succ]
          refine held_take (v := ?v641) 1 rfl (by kernel_rfl) (by kernel_rfl) (by kernel_rfl) (fun _ _ _ h => h) (by rfl) ?y641 (by assumption) ?_
          case y641 => (intro w hSw; unfold HeldR at hSw; go_simp; (try with_reducible rfl); (try omega))
          simp only [List.setIfInBounds_toArray, List.set_cons_zero, List.set_cons_succ]
          refine held_take (v := ?v644) 2 rfl (by kernel_rfl) (by kernel_rfl) (by kernel_rfl) (fun _ _ _ h => h) (by rfl) ?y644 (by assumption) ?_
          case y644 => (intro w hSw; unfold HeldR at hSw; go_simp; (try with_reducible rfl); (try omega))
          simp only [List.setIfInBounds_toArray, List.set_cons_zero, List.set_cons_succ]
          refine held_take (v := ?v647) 3 rfl (by kernel_rfl) (by kernel_rfl) (by kernel_rfl) (fun _ _ _ h => h) (by rfl) ?y647 (by assumption) ?_
          case y647 => (intro w hSw; unfold HeldR at hSw; go_simp; (try with_reducible rfl); (try omega))
          simp only [List.setIfInBounds_toArray, List.set_cons_zero, List.set_cons_succ]
          refine held_take (v := ?v650) 4 rfl (by kernel_rfl) (by kernel_rfl) (by kernel_rfl) (fun _ _ _ h => h) (by rfl) ?y650 (by assumption) ?_
          case y650 => (intro w hSw; unfold HeldR at hSw; go_simp; (try with_reducible rfl); (try omega))
          simp only [List.setIfInBounds_toArray, List.set_cons_zero, List.set_cons_succ]
          refine held_take (v := ?v653) 5 rfl (by kernel_rfl) (by kernel_rfl) (by kernel_rfl) (fun _ _ _ h => h) (by rfl) ?y653 (by assumption) ?_
          case y653 => (intro w hSw; unfold HeldR at hSw; go_simp; (try with_reducible rfl); (try omega))
          simp only [List.setIfInBounds_toArray, List.set_cons_zero, List.set_cons_succ]
          refine held_take (v := ?v656) 6 rfl (by kernel_rfl) (by kernel_rfl) (by kernel_rfl) (fun _ _ _ h => h) (by rfl) ?y656 (by assumption) ?_
          case y656 => (intro w hSw; unfold HeldR at hSw; go_simp; (try with_reducible rfl); (try omega))
          simp only [List.setIfInBounds_toArray, List.set_cons_zero, List.set_cons_succ]
          refine held_take (v := ?v659) 7 rfl (by kernel_rfl) (by kernel_rfl) (by kernel_rfl) (fun _ _ _ h => h) (by rfl) ?y659 (by assumption) ?_
          case y659 => (intro w hSw; unfold HeldR at hSw; go_simp; (try with_reducible rfl); (try omega))
          simp only [List.setIfInBounds_toArray, List.set_cons_zero, List.set_cons_succ]
          refine held_take (v := ?v662) 8 rfl (by kernel_rfl) (by kernel_rfl) (by kernel_rfl) (fun _ _ _ h => h) (by rfl) ?y662 (by assumption) ?_
          case y662 => (intro w hSw; unfold HeldR at hSw; go_simp; (try with_reducible rfl); (try omega))
          simp only [List.setIfInBounds_toArray, List.set_cons_zero, List.set_cons_succ]
          refine held_take (v := .bool false) 9 rfl (by kernel_rfl) (by kernel_rfl) (by kernel_rfl) (fun _ _ _ h => h) (by rfl) (fun W hSw => (by go_simp; (try omega))) (by assumption) ?_
          simp only [List.setIfInBounds_toArray, List.set_cons_zero, List.set_cons_succ]
          refine held_take (v := ?v667) 10 rfl (by kernel_rfl) (by kernel_rfl) (by kernel_rfl) (fun _ _ _ h => h) (by rfl) ?y667 (by assumption) ?_
          case y667 => (intro w hSw; unfold HeldR at hSw; go_simp; (try with_reducible rfl); (try omega))
          simp only [List.setIfInBounds_toArray, List.set_cons_zero, List.set_cons_succ]
          refine held_take (v := ?v670) 11 rfl (by kernel_rfl) (by kernel_rfl) (by kernel_rfl) (fun _ _ _ h => h) (by rfl) ?y670 (by assumption) ?_
          case y670 => (intro w hSw; unfold HeldR at hSw; go_simp; (try with_reducible rfl); (try omega))
          simp only [List.setIfInBounds_toArray, List.set_cons_zero, List.set_cons_succ]
          refine held_skip 12 rfl (by kernel_rfl) (by kernel_rfl) (by kernel_rfl) (fun _ _ _ h => h) (by rfl) (by assumption) ?_
          simp only [List.setIfInBounds_toArray, List.set_cons_zero, List.set_cons_succ]
          refine held_skip 13 rfl (by kernel_rfl) (by kernel_rfl) (by kernel_rfl) (fun _ _ _ h => h) (by rfl) (by assumption) ?_
          simp only [List.setIfInBounds_toArray, List.set_cons_zero, List.set_cons_succ]
          refine held_skip 14 rfl (by kernel_rfl) (by kernel_rfl) (by kernel_rfl) (fun _ _ _ h => h) (by rfl) (by assumption) ?_
          simp only [List.setIfInBounds_toArray, List.set_cons_zero, List.set_cons_succ]
          refine held_skip 15 rfl (by kernel_rfl) (by kernel_rfl) (by kernel_rfl) (fun _ _ _ h => h) (by rfl) (by assumption) ?_
          simp only [List.setIfInBounds_toArray, List.set_cons_zero, List.set_cons_succ]
          refine held_skip 16 rfl (by kernel_rfl) (by kernel_rfl) (by kernel_rfl) (fun _ _ _ h => h) (by rfl) (by assumption) ?_
          simp only [List.setIfInBounds_toArray, List.set_cons_zero, List.set_cons_succ]
          refine held_skip 17 rfl (by kernel_rfl) (by kernel_rfl) (by kernel_rfl) (fun _ _ _ h => h) (by rfl) (by assumption) ?_
          simp only [List.setIfInBounds_toArray, List.set_cons_zero, List.set_cons_succ]
          refine held_skip 18 rfl (by kernel_rfl) (by kernel_rfl) (by kernel_rfl) (fun _ _ _ h => h) (by rfl) (by assumption) ?_
          simp only [List.setIfInBounds_toArray, List.set_cons_zero, List.set_cons_succ]
          refine held_skip 19 rfl (by kernel_rfl) (by kernel_rfl) (by kernel_rfl) (fun _ _ _ h => h) (by rfl) (by assumption) ?_
          simp only [List.setIfInBounds_toArray, List.set_cons_zero, List.set_cons_succ]
          refine held_take (v := ?v689) 20 rfl (by kernel_rfl) (by kernel_rfl) (by kernel_rfl) (fun _ _ _ h => h) (by rfl) ?y689 (by assumption) ?_
          case y689 => (intro w hSw; unfold HeldR at hSw; go_simp; (try with_reducible rfl); (try omega))
          simp only [List.setIfInBounds_toArray, List.set_cons_zero, List.set_cons_succ]
          refine wpAnyH_done (by kernel_rfl) ?_ _
          refine NoPanic.normal ?_
          go_wp2
          go_roundw
          case rel => exact ⟨k + 1, hlt, rfl, HN2, HB2.out⟩
          case measure => simp only [intOf]; omega
    · have hlti : ¬ (k : Int) < (m.length : Int) := by omega
      have HF := Lib.hid (show r = false by
        rw [HSP.out]
        cases ok with
        | false => rfl
        | true =>
          have := HNO.out rfl
          rw [List.take_of_length_le (by omega)] at this
          rw [Bool.true_and, this])
      have HBF := Lib.hid (below_up HBN.out hbel HBN.out.size)
      clear hbel HNO
      go_wp2
      go_ret
      exact ⟨by rw [HF.out]; rfl, HBF.out⟩
end Go.Proofs.Ytgelbeglffjdaaa
namespace Go.Proofs.Ytgelbeglffjdaaa
open Go Go.RowKit Go.Shelf

theorem fill_sp2 (p q : Spn) (z : Array Value) (hz : z.size = 4) : Instr.fill (fun i => some (i * 2, 2)) z [(0, sV p), (1, sV q)] = some (sR p ++ sR q).toArray := by
  obtain ⟨z⟩ := z
  match z, hz with
  | [z0, z1, z2, z3], _ => rfl
theorem exec_two_sp {ρ : Operand → Value} {o : Oper} {w : World} (x y : Operand) (ho : o.op = .buildSlice 51 2 #[(0, x), (1, y)]) (p q : Spn) (hx : ρ x = sV p) (hy : ρ y = sV q) (b : Nat) (hb : w.heap.size = b) :
    (execOp ρ o).run Try.prog w = .ok (.value (.slice (some ⟨b, 0, none⟩) 2 2)) (w.alloc (.cells (sR p ++ sR q).toArray 27)) := by
  subst hb
  obtain ⟨i, hi, hz, hs, _⟩ := info_parts sp_infoF
  have := run_buildSlice (P := Try.prog) w 51 27 2 #[(0, sV p), (1, sV q)] (sR p ++ sR q).toArray i (sV ⟨0, 0⟩) Try.underlying51 hi hz (by rw [hs]; decide) (by rw [hs]; decide) (by rw [hs]; exact fill_sp2 p q _ (by simp))
  unfold execOp
  simp only [ho, List.map_toArray, List.map_cons, List.map_nil, hx, hy, Sem.run_bind, this, Result.andThen_ok, Sem.run_pure]
theorem partS_len (s x : Spn) : (partS s x).length = 2 := rfl
theorem parts_len (s : Spn) (m : List Spn) : (m.flatMap (partS s)).length = m.length * 2 := by
  induction m with
  | nil => rfl
  | cons x m ih => rw [List.flatMap_cons, List.length_append, ih, partS_len, List.length_cons]; omega
theorem HeldR.up {b k g : Nat} {x s : Spn} {W W' : World} (h : HeldR b k g x s W) (hb : b < W.heap.size) (hg : g < W.heap.size) (hB : Below W.heap.size W W') : HeldR b k g x s W' :=
  ⟨(hB.cell (p := ⟨b, k, none⟩) hb).trans h.1, (hB.cell (p := ⟨b, k + 1, none⟩) hb).trans h.2.1, (hB.cell (p := ⟨g, 0, none⟩) hg).trans h.2.2.1, (hB.cell (p := ⟨g, 1, none⟩) hg).trans h.2.2.2⟩
set_option maxRecDepth 100000 in
set_option maxHeartbeats 4000000 in
theorem rcut_any (v : Value) (l : List Spn) (s : Spn) (w : World) (h : IsS w v l) (hN : l.length ≤ 50000) :
    Calls Try.prog 76 #[v, sV s] w fun e w' => ∃ v', e = .returned v' ∧ IsS w' v' (cutS l s) ∧ Below w.heap.size w w' := by
  obtain ⟨a, c, rfl, hc⟩ := h.form
  have hb0 : Below w.heap.size w (w.alloc (.cells (sR s).toArray 27)) := (Below.refl _ _).alloc (Nat.le_refl _) _
  have HB0 := Lib.hid hb0
  have HX0 := Lib.hid (Bx.new w 27 (sR s))
  have HI0 := Lib.hid (h.below hb0)
  have HT := Lib.hid (fun W (hW : IsS W (.slice a l.length c) l) => rnorm_any _ l W hW (by omega))
  have hml := normS_length_le l
  obtain ⟨r, hr⟩ : ∃ r, cutS l s = r := ⟨_, rfl⟩
  have HC := Lib.hid (show r = if mayB s = true then normS ((normS l).flatMap (partS s)) else normS l from hr.symm)
  have HNORM := Lib.hid (norm_ok l).1
  rw [hr]
  generalize normS l = m at HT HC hml HNORM
  obtain ⟨ok, hok⟩ : ∃ ok, mayB s = ok := ⟨_, rfl⟩
  have hmx := fun W => rmay_any s W
  have HMAY := Lib.hid (show ok = true → mayS s from fun h => (mayB_iff s).1 (hok.trans h))
  rw [hok] at hmx HC
  have HMX := Lib.hid hmx
  rw [show sV s = .agg (sR s).toArray from rfl]
  have e0 : (sR s)[0]? = some (.int .i64 s.f) := rfl
  have e1 : (sR s)[1]? = some (.int .i64 s.l) := rfl
  clear h hb0 hr hok hmx
  go_enter Try.func76, Try.ntmps76
  go_wp2_with (go_at_call 52; refine (HMX.out _).mono ?_; rintro e w1 ⟨rfl, b1⟩; refine Hid.out ?_)
  refine Lib.hid ?_
  have HX1 := Lib.hid (HX0.out.up b1)
  have HI1 := Lib.hid (HI0.out.below b1)
  have HB1 := Lib.hid (below_up HB0.out b1 HB0.out.size)
  clear b1 HX0 HI0 HB0
  go_wp2_with (go_at_call 53; refine (HT.out _ HI1.out).mono ?_; rintro e w2 ⟨v1, rfl, h1, b2⟩; refine Hid.out ?_)
  refine Lib.hid ?_
  obtain ⟨a1, c1, rfl, hc1⟩ := h1.form
  have HS := Lib.hid h1
  have HX2 := Lib.hid (HX1.out.up b2)
  have HB2 := Lib.hid (below_up HB1.out b2 HB1.out.size)
  have hx2 := HX2.out.lt
  clear h1 b2 HX1 HB1 HI1 HT
  cases ok with
  | false =>
    have HR := Lib.hid (show IsS w2 (.slice a1 m.length c1) r by rw [HC.out]; exact HS.out)
    clear HC
    go_wp2
    go_ret
    exact ⟨_, rfl, HR.out, HB2.out⟩
  | true =>
    have hsm := HMAY.out rfl
    unfold mayS at hsm
    have k1 : IntKind.i64.wrap (s.f - 1) = s.f - 1 := by simp [IntKind.wrap, IntKind.bits, IntKind.signed]; omega
    have k2 : IntKind.i64.wrap (s.l + 1) = s.l + 1 := by simp [IntKind.wrap, IntKind.bits, IntKind.signed]; omega
    have HO0 := Lib.hid (World.ownsRow_nil w2 w2.heap.size 27 2 : w2.ownsRow w2.heap.size 27 2 (.slice none 0 0) ((m.take 0).flatMap (partS s)).length (((m.take 0).flatMap (partS s)).flatMap sR))
    clear hsm HMAY
    go_wp2
    go_loopw [7, 8] (fun vo i wr => ∃ k : Nat, k ≤ m.length ∧ i = .int .i64 (k : Int) ∧ Hid (wr.ownsRow w2.heap.size 27 2 vo ((m.take k).flatMap (partS s)).length (((m.take k).flatMap (partS s)).flatMap sR)) ∧ Below w2.heap.size w2 wr) (fun _ i _ => m.length - (intOf i).toNat)
    case atStart => exact ⟨0, Nat.zero_le _, rfl, HO0, Below.refl _ _⟩
    case round =>
      clear HO0
      obtain ⟨k, hk, rfl, HOW, hbel⟩ := hrel
      by_cases hlt : k < m.length
      · have hlti : (k : Int) < (m.length : Int) := by omega
        have h0k : (0 : Int) ≤ (k : Int) := by omega
        obtain ⟨x, hx⟩ : ∃ x, m[k]? = some x := ⟨m[k], List.getElem?_eq_getElem hlt⟩
        obtain ⟨b, o, rfl, hbl⟩ := IsS.place HS.out (by omega)
        have hr := IsS.range (HS.out.below hbel) k x hx
        have hxs := HX2.out.up hbel
        have hrs := rangeAll hxs
        have q1 := rng1 hrs
        simp only [Nat.zero_add] at q1
        have hH : HeldR b (o + k * 2) w.heap.size x s wr.drew := ⟨rng0 hr, rng1 hr, rng0 hrs, q1⟩
        have hr2 := IsS.range HS.out k x hx
        have hrs2 := rangeAll HX2.out
        have q2 := rng1 hrs2
        simp only [Nat.zero_add] at q2
        have hH2 : HeldR b (o + k * 2) w.heap.size x s w2 := ⟨rng0 hr2, rng1 hr2, rng0 hrs2, q2⟩
        have hHU2 := Lib.hid (fun W (hW : Below w2.heap.size w2 W) => hH2.up hbl hx2 hW)
        have hlen := parts_len s (m.take k)
        rw [List.length_take, Nat.min_eq_left hk] at hlen
        have HNX := Lib.hid (show (m.take (k + 1)).flatMap (partS s) = (m.take k).flatMap (partS s) ++ partS s x by rw [take_next hx, List.flatMap_append]; simp)
        have hdr : Below wr.heap.size wr wr.drew := (Below.refl _ _).drew
        have HB3 := Lib.hid (below_up hbel hdr hbel.size)
        have HO3 := Lib.hid (own_below HOW.out hdr)
        have hbw : b < wr.drew.heap.size := Nat.lt_of_lt_of_le hbl hbel.size
        have hgw : w.heap.size < wr.drew.heap.size := Nat.lt_of_lt_of_le hx2 hbel.size
        have hw3 : w2.heap.size ≤ wr.drew.heap.size := hbel.size
        obtain ⟨ti, hti, htz, hts, htb⟩ := info_parts sp_infoF
        have hHU := Lib.hid (fun W (hW : Below wr.drew.heap.size wr.drew W) => hH.up hbw hgw hW)
        clear hx hr hxs hrs q1 hbel hdr HOW hr2 hrs2 q2 hH2
        go_wp2
        refine wp_region_noPanic ?_
        refine wp_region_held_drew (S := HeldR b (o + k * 2) w.heap.size x s) (by kernel_rfl) hH (fun hHeld => ?_)
        clear hH
        generalize wr.drew = wd at *
        refine held_take (v := ?v828) 0 rfl (by kernel_rfl) (by kernel_rfl) (by kernel_rfl) (fun _ _ _ h => h) (by rfl) ?y828 (by assumption) ?_
        case y828 => (intro w hSw; unfold HeldR at hSw; go_simp; (try with_reducible rfl); (try omega))
        simp only [List.setIfInBounds_toArray, List.set_cons_zero, List.set_cons_succ]
        refine held_take (v := ?v831) 1 rfl (by kernel_rfl) (by kernel_rfl) (by kernel_rfl) (fun _ _ _ h => h) (by rfl) ?y831 (by assumption) ?_
        case y831 => (intro w hSw; unfold HeldR at hSw; go_simp; (try with_reducible rfl); (try omega))
        simp only [List.setIfInBounds_toArray, List.set_cons_zero, List.set_cons_succ]
        refine held_take (v := ?v834) 2 rfl (by kernel_rfl) (by kernel_rfl) (by kernel_rfl) (fun _ _ _ h => h) (by rfl) ?y834 (by assumption) ?_
        case y834 => (intro w hSw; unfold HeldR at hSw; go_simp; (try with_reducible rfl); (try omega))
        simp only [List.setIfInBounds_toArray, List.set_cons_zero, List.set_cons_succ]
        refine held_take (v := ?v837) 3 rfl (by kernel_rfl) (by kernel_rfl) (by kernel_rfl) (fun _ _ _ h => h) (by rfl) ?y837 (by assumption) ?_
        case y837 => (intro w hSw; unfold HeldR at hSw; go_simp; (try with_reducible rfl); (try omega))
        simp only [List.setIfInBounds_toArray, List.set_cons_zero, List.set_cons_succ]
        refine held_take (v := ?v840) 4 rfl (by kernel_rfl) (by kernel_rfl) (by kernel_rfl) (fun _ _ _ h => h) (by rfl) ?y840 (by assumption) ?_
        case y840 => (intro w hSw; unfold HeldR at hSw; go_simp; (try with_reducible rfl); (try omega))
        simp only [List.setIfInBounds_toArray, List.set_cons_zero, List.set_cons_succ]
        refine held_take (v := ?v843) 5 rfl (by kernel_rfl) (by kernel_rfl) (by kernel_rfl) (fun _ _ _ h => h) (by rfl) ?y843 (by assumption) ?_
        case y843 => (intro w hSw; unfold HeldR at hSw; go_simp; (try with_reducible rfl); (try omega))
        simp only [List.setIfInBounds_toArray, List.set_cons_zero, List.set_cons_succ]
        refine held_take (v := ?v846) 6 rfl (by kernel_rfl) (by kernel_rfl) (by kernel_rfl) (fun _ _ _ h => h) (by rfl) ?y846 (by assumption) ?_
        case y846 => (intro w hSw; unfold HeldR at hSw; go_simp; (try with_reducible rfl); (try omega))
        simp only [List.setIfInBounds_toArray, List.set_cons_zero, List.set_cons_succ]
        refine held_take (v := ?v849) 7 rfl (by kernel_rfl) (by kernel_rfl) (by kernel_rfl) (fun _ _ _ h => h) (by rfl) ?y849 (by assumption) ?_
        case y849 => (intro w hSw; unfold HeldR at hSw; go_simp; (try with_reducible rfl); (try omega))
        simp only [List.setIfInBounds_toArray, List.set_cons_zero, List.set_cons_succ]
        refine held_take (v := ?v852) 8 rfl (by kernel_rfl) (by kernel_rfl) (by kernel_rfl) (fun _ _ _ h => h) (by rfl) ?y852 (by assumption) ?_
        case y852 => (intro w hSw; unfold HeldR at hSw; go_simp; (try with_reducible rfl); (try omega))
        simp only [List.setIfInBounds_toArray, List.set_cons_zero, List.set_cons_succ]
        refine held_take (v := ?v855) 9 rfl (by kernel_rfl) (by kernel_rfl) (by kernel_rfl) (fun _ _ _ h => h) (by rfl) ?y855 (by assumption) ?_
        case y855 => (intro w hSw; unfold HeldR at hSw; go_simp; (try with_reducible rfl); (try omega))
        simp only [List.setIfInBounds_toArray, List.set_cons_zero, List.set_cons_succ]
        refine held_take (v := ?v858) 10 rfl (by kernel_rfl) (by kernel_rfl) (by kernel_rfl) (fun _ _ _ h => h) (by rfl) ?y858 (by assumption) ?_
        case y858 => (intro w hSw; unfold HeldR at hSw; go_simp; (try with_reducible rfl); (try omega))
        simp only [List.setIfInBounds_toArray, List.set_cons_zero, List.set_cons_succ]
        refine held_take (v := ?v861) 11 rfl (by kernel_rfl) (by kernel_rfl) (by kernel_rfl) (fun _ _ _ h => h) (by rfl) ?y861 (by assumption) ?_
        case y861 => (intro w hSw; unfold HeldR at hSw; go_simp; (try with_reducible rfl); (try omega))
        simp only [List.setIfInBounds_toArray, List.set_cons_zero, List.set_cons_succ]
        refine held_take (v := ?v864) 12 rfl (by kernel_rfl) (by kernel_rfl) (by kernel_rfl) (fun _ _ _ h => h) (by rfl) ?y864 (by assumption) ?_
        case y864 => (intro w hSw; unfold HeldR at hSw; go_simp; (try with_reducible rfl); (try omega))
        simp only [List.setIfInBounds_toArray, List.set_cons_zero, List.set_cons_succ]
        refine held_take (v := .int .i64 (s.f - 1)) 13 rfl (by kernel_rfl) (by kernel_rfl) (by kernel_rfl) (fun _ _ _ h => h) (by rfl) (fun W hSw => (by go_simp; (try exact k1))) (by assumption) ?_
        simp only [List.setIfInBounds_toArray, List.set_cons_zero, List.set_cons_succ]
        refine held_take (v := .int .i64 (min x.l (s.f - 1))) 14 rfl (by kernel_rfl) (by kernel_rfl) (by kernel_rfl) (fun _ _ _ h => h) (by rfl) (fun W hSw => (by go_simp)) (by assumption) ?_
        simp only [List.setIfInBounds_toArray, List.set_cons_zero, List.set_cons_succ]
        refine held_take (v := sV ⟨x.f, min x.l (s.f - 1)⟩) 15 rfl (by kernel_rfl) (by kernel_rfl) (by kernel_rfl) (fun _ _ _ h => h) (by rfl) (fun W hSw => exec_build2 _ 0 1 (.tmp 27) (.tmp 36) rfl _ _ (sR ⟨x.f, min x.l (s.f - 1)⟩) rfl rfl (built_sp2 _ _)) (by assumption) ?_
        simp only [List.setIfInBounds_toArray, List.set_cons_zero, List.set_cons_succ]
        refine held_take (v := ?v873) 16 rfl (by kernel_rfl) (by kernel_rfl) (by kernel_rfl) (fun _ _ _ h => h) (by rfl) ?y873 (by assumption) ?_
        case y873 => (intro w hSw; unfold HeldR at hSw; go_simp; (try with_reducible rfl); (try omega))
        simp only [List.setIfInBounds_toArray, List.set_cons_zero, List.set_cons_succ]
        refine held_take (v := ?v876) 17 rfl (by kernel_rfl) (by kernel_rfl) (by kernel_rfl) (fun _ _ _ h => h) (by rfl) ?y876 (by assumption) ?_
        case y876 => (intro w hSw; unfold HeldR at hSw; go_simp; (try with_reducible rfl); (try omega))
        simp only [List.setIfInBounds_toArray, List.set_cons_zero, List.set_cons_succ]
        refine held_take (v := ?v879) 18 rfl (by kernel_rfl) (by kernel_rfl) (by kernel_rfl) (fun _ _ _ h => h) (by rfl) ?y879 (by assumption) ?_
        case y879 => (intro w hSw; unfold HeldR at hSw; go_simp; (try with_reducible rfl); (try omega))
        simp only [List.setIfInBounds_toArray, List.set_cons_zero, List.set_cons_succ]
        refine held_take (v := ?v882) 19 rfl (by kernel_rfl) (by kernel_rfl) (by kernel_rfl) (fun _ _ _ h => h) (by rfl) ?y882 (by assumption) ?_
        case y882 => (intro w hSw; unfold HeldR at hSw; go_simp; (try with_reducible rfl); (try omega))
        simp only [List.setIfInBounds_toArray, List.set_cons_zero, List.set_cons_succ]
        refine held_take (v := ?v885) 20 rfl (by kernel_rfl) (by kernel_rfl) (by kernel_rfl) (fun _ _ _ h => h) (by rfl) ?y885 (by assumption) ?_
        case y885 => (intro w hSw; unfold HeldR at hSw; go_simp; (try with_reducible rfl); (try omega))
        simp only [List.setIfInBounds_toArray, List.set_cons_zero, List.set_cons_succ]
        refine held_take (v := ?v888) 21 rfl (by kernel_rfl) (by kernel_rfl) (by kernel_rfl) (fun _ _ _ h => h) (by rfl) ?y888 (by assumption) ?_
        case y888 => (intro w hSw; unfold HeldR at hSw; go_simp; (try with_reducible rfl); (try omega))
        simp only [List.setIfInBounds_toArray, List.set_cons_zero, List.set_cons_succ]
        refine held_take (v := ?v891) 22 rfl (by kernel_rfl) (by kernel_rfl) (by kernel_rfl) (fun _ _ _ h => h) (by rfl) ?y891 (by assumption) ?_
        case y891 => (intro w hSw; unfold HeldR at hSw; go_simp; (try with_reducible rfl); (try omega))
        simp only [List.setIfInBounds_toArray, List.set_cons_zero, List.set_cons_succ]
        refine held_take (v := .int .i64 (s.l + 1)) 23 rfl (by kernel_rfl) (by kernel_rfl) (by kernel_rfl) (fun _ _ _ h => h) (by rfl) (fun W hSw => (by go_simp; (try exact k2))) (by assumption) ?_
        simp only [List.setIfInBounds_toArray, List.set_cons_zero, List.set_cons_succ]
        refine held_take (v := .int .i64 (max x.f (s.l + 1))) 24 rfl (by kernel_rfl) (by kernel_rfl) (by kernel_rfl) (fun _ _ _ h => h) (by rfl) (fun W hSw => (by go_simp)) (by assumption) ?_
        simp only [List.setIfInBounds_toArray, List.set_cons_zero, List.set_cons_succ]
        refine held_take (v := ?v898) 25 rfl (by kernel_rfl) (by kernel_rfl) (by kernel_rfl) (fun _ _ _ h => h) (by rfl) ?y898 (by assumption) ?_
        case y898 => (intro w hSw; unfold HeldR at hSw; go_simp; (try with_reducible rfl); (try omega))
        simp only [List.setIfInBounds_toArray, List.set_cons_zero, List.set_cons_succ]
        refine held_take (v := ?v901) 26 rfl (by kernel_rfl) (by kernel_rfl) (by kernel_rfl) (fun _ _ _ h => h) (by rfl) ?y901 (by assumption) ?_
        case y901 => (intro w hSw; unfold HeldR at hSw; go_simp; (try with_reducible rfl); (try omega))
        simp only [List.setIfInBounds_toArray, List.set_cons_zero, List.set_cons_succ]
        refine held_take (v := ?v904) 27 rfl (by kernel_rfl) (by kernel_rfl) (by kernel_rfl) (fun _ _ _ h => h) (by rfl) ?y904 (by assumption) ?_
        case y904 => (intro w hSw; unfold HeldR at hSw; go_simp; (try with_reducible rfl); (try omega))
        simp only [List.setIfInBounds_toArray, List.set_cons_zero, List.set_cons_succ]
        refine held_take (v := ?v907) 28 rfl (by kernel_rfl) (by kernel_rfl) (by kernel_rfl) (fun _ _ _ h => h) (by rfl) ?y907 (by assumption) ?_
        case y907 => (intro w hSw; unfold HeldR at hSw; go_simp; (try with_reducible rfl); (try omega))
        simp only [List.setIfInBounds_toArray, List.set_cons_zero, List.set_cons_succ]
        refine held_take (v := ?v910) 29 rfl (by kernel_rfl) (by kernel_rfl) (by kernel_rfl) (fun _ _ _ h => h) (by rfl) ?y910 (by assumption) ?_
        case y910 => (intro w hSw; unfold HeldR at hSw; go_simp; (try with_reducible rfl); (try omega))
        simp only [List.setIfInBounds_toArray, List.set_cons_zero, List.set_cons_succ]
        refine held_take (v := sV ⟨max x.f (s.l + 1), x.l⟩) 30 rfl (by kernel_rfl) (by kernel_rfl) (by kernel_rfl) (fun _ _ _ h => h) (by rfl) (fun W hSw => exec_build2 _ 0 1 (.tmp 46) (.tmp 51) rfl _ _ (sR ⟨max x.f (s.l + 1), x.l⟩) rfl rfl (built_sp2 _ _)) (by assumption) ?_
        simp only [List.setIfInBounds_toArray, List.set_cons_zero, List.set_cons_succ]
        refine held_one 31 rfl (by kernel_rfl) (by rfl) (fun K hK => ?_)
        refine wp_of_value (exec_two_sp (.tmp 37) (.tmp 52) rfl ⟨x.f, min x.l (s.f - 1)⟩ ⟨max x.f (s.l + 1), x.l⟩ rfl rfl _ rfl) ?_
        have hb4 : Below wd.heap.size wd (wd.alloc (.cells (sR ⟨x.f, min x.l (s.f - 1)⟩ ++ sR ⟨max x.f (s.l + 1), x.l⟩).toArray 27)) := (Below.refl _ _).alloc (Nat.le_refl _) _
        have HBN := Lib.hid (Bx.new wd 27 (sR ⟨x.f, min x.l (s.f - 1)⟩ ++ sR ⟨max x.f (s.l + 1), x.l⟩))
        have HROW := Lib.hid (own_below HO3.out hb4)
        have hs4 : (wd.alloc (.cells (sR ⟨x.f, min x.l (s.f - 1)⟩ ++ sR ⟨max x.f (s.l + 1), x.l⟩).toArray 27)).heap.size = wd.heap.size + 1 := by simp
        have HB4 := Lib.hid (below_up HB3.out hb4 HB3.out.size)
        refine hK.out _ _ (hHU.out _ hb4) (fun _ => ?_)
        simp only [List.setIfInBounds_toArray, List.set_cons_zero, List.set_cons_succ]
        clear hK K
        refine held_one 32 rfl (by kernel_rfl) (by rfl) (fun K hK => ?_)
        refine wp_append_lies _ _ _ 51 rfl w2.heap.size 27 ti (sV ⟨0, 0⟩) 2 16 Try.underlying51 hti htz hts htb rfl (by decide) _ _ _ rfl HROW.out ⟨wd.heap.size, 0, none⟩ 2 2 (sR ⟨x.f, min x.l (s.f - 1)⟩ ++ sR ⟨max x.f (s.l + 1), x.l⟩) rfl rfl (fun j u hj => World.news_of_block HBN.out j u (by simpa using hj)) (fun u hu => by rcases List.mem_append.1 hu with hu | hu <;> exact sR_one _ u hu) (by decide) (by unfold maxLen; omega) (by omega) (by omega) _ rfl ?_
        intro g9 cap9 w9 hown hgr hat hlt9
        have hB9 : Below w2.heap.size w2 w9 := HB4.out.grown hgr (by omega) (fun k e => owned_low HROW.out k e)
        have HO9 := Lib.hid (show w9.ownsRow w2.heap.size 27 2 (.slice (some ⟨g9, 0, none⟩) (((m.take k).flatMap (partS s)).length + 2) cap9) ((m.take (k + 1)).flatMap (partS s)).length (((m.take (k + 1)).flatMap (partS s)).flatMap sR) by
          rw [HNX.out, List.length_append, List.flatMap_append]
          exact hown)
        rw [hlen] at HO9
        have HB9 := Lib.hid hB9
        refine hK.out _ _ (hHU2.out _ hB9) (fun _ => ?_)
        clear hK K hown hgr hat hB9 HROW HBN hHeld
        (try simp only [Act.put, List.setIfInBounds_toArray, List.set_cons_zero, List.set_cons_succ])
        refine held_take (v := ?v937) 33 rfl (by kernel_rfl) (by kernel_rfl) (by kernel_rfl) (fun _ _ _ h => h) (by rfl) ?y937 (by assumption) ?_
        case y937 => (intro w hSw; unfold HeldR at hSw; go_simp; (try with_reducible rfl); (try omega))
        simp only [List.setIfInBounds_toArray, List.set_cons_zero, List.set_cons_succ]
        refine wpAnyH_done (by kernel_rfl) ?_ _
        refine NoPanic.normal ?_
        go_wp2
        go_roundw
        case rel => exact ⟨k + 1, hlt, rfl, HO9, HB9.out⟩
        case measure => simp only [intOf]; omega
      · have hlti : ¬ (k : Int) < (m.length : Int) := by omega
        have how := HOW.out
        rw [List.take_of_length_le (by omega)] at how
        have hi9 : IsS wr u7 (m.flatMap (partS s)) := IsC.of_owned (sR_all _) how
        have hlen := parts_len s m
        obtain ⟨a9, c9, e9, _⟩ := hi9.form
        rw [hlen] at e9
        subst e9
        have HNO := Lib.hid (rnorm_any _ _ wr hi9 (by omega))
        have HBF := Lib.hid (below_up HB2.out hbel HB2.out.size)
        clear how hbel HOW hi9 hlen
        go_wp2_with (go_at_call 53; refine HNO.out.mono ?_; rintro e w4 ⟨v4, rfl, i4, b4⟩; refine Hid.out ?_)
        refine Lib.hid ?_
        have hr4 : normS (m.flatMap (partS s)) = r := by rw [HC.out]; exact (if_pos trivial).symm
        rw [hr4] at i4
        obtain ⟨a4, c4, rfl, _⟩ := i4.form
        have HR := Lib.hid (⟨i4, below_up HBF.out b4 HBF.out.size⟩ : _ ∧ _)
        clear i4 b4 HC hr4
        go_wp2
        go_ret
        exact ⟨_, rfl, HR.out⟩
end Go.Proofs.Ytgelbeglffjdaaa
