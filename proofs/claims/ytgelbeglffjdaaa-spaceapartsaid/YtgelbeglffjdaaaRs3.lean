/- The document's spans: Norm. -/
import Derived.Test.YtgelbeglffjdaaaRsA
namespace Go.Proofs.Ytgelbeglffjdaaa
open Go Go.RowKit Go.Shelf

def HeldP (b k g j : Nat) (f e : Int) (W : World) : Prop := W.cell? ⟨b, k, none⟩ = some (.int .i64 f) ∧ W.cell? ⟨g, j, none⟩ = some (.int .i64 e)
def fuelN (o : List Spn) : Nat := (1048576 - (lastOf o).getD (-1)).toNat
theorem bhd_none (x : Spn) : bhd none x = true := rfl
theorem bhd_some (e : Int) (x : Spn) : bhd (some e) x = decide (e < x.f) := rfl
theorem atStep_skip {c : Option Int} {a : Int} {x : Spn} (h : mayB x = false ∨ bhd c x = false ∨ (¬ a < 0 ∧ ¬ x.f < a)) : atStep c a x = a := by
  unfold atStep
  refine if_neg (fun h1 => ?_)
  rw [Bool.and_eq_true, Bool.and_eq_true, Bool.or_eq_true, decide_eq_true_iff, decide_eq_true_iff] at h1
  rcases h with h | h | h
  · rw [h] at h1; cases h1.1.1
  · rw [h] at h1; cases h1.1.2
  · omega
theorem atStep_take {c : Option Int} {a : Int} {x : Spn} (h1 : mayB x = true) (h2 : bhd c x = true) (h3 : a < 0 ∨ x.f < a) : atStep c a x = x.f := by
  unfold atStep
  refine if_pos ?_
  rw [h1, h2, Bool.and_self, Bool.true_and, Bool.or_eq_true, decide_eq_true_iff, decide_eq_true_iff]
  exact h3
set_option maxRecDepth 100000 in
set_option maxHeartbeats 8000000 in
theorem rnorm_low (v : Value) (l : List Spn) (w : World) (h : IsS w v l) (hN : l.length ≤ 200000) :
    Calls Try.prog 53 #[v] w fun e w' => ∃ v', e = .returned v' ∧ IsS w' v' (normS l) ∧ Below w.heap.size w w' ∧ ∀ k, v'.ownBlock = some k → w.heap.size ≤ k := by
  obtain ⟨a, c, rfl, hc⟩ := h.form
  have HS := Lib.hid h
  have HM := Lib.hid (fun x W => rmay_any x W)
  have HLA := Lib.hid (fun n W (hW : IsS W (.slice a l.length c) l) (hn : inLab l n = true) => rlast_any _ l n W hW hN hn)
  have HO0 := Lib.hid (World.ownsRow_nil w w.heap.size 27 2 : w.ownsRow w.heap.size 27 2 (.slice none 0 0) ([] : List Spn).length (([] : List Spn).flatMap sR))
  clear h
  go_enter Try.func53, Try.ntmps53
  go_wp2
  go_loopg [3] (fuelN []) (fun gg vo wr => ∃ (o : List Spn), Hid (InvN l o) ∧ Hid (wr.ownsRow w.heap.size 27 2 vo o.length (o.flatMap sR)) ∧ Hid (fuelN o ≤ gg) ∧ Below w.heap.size w wr)
  case atStart => exact ⟨[], Lib.hid (inv_nil l), HO0, Lib.hid (Nat.le_refl _), Below.refl _ _⟩
  case round =>
    obtain ⟨o, HIN, HOW, HGG, hbel⟩ := hrel
    obtain ⟨ao, co, hvo, hco⟩ := IsS.form (IsC.of_owned (sR_all _) HOW.out)
    have holen : o.length ≤ 1048576 := by
      have h1 := normal_len HIN.out.1
      have h2 := cntS_bound HIN.out.1
      omega
    subst hvo
    have HBW := Lib.hid hbel
    clear HO0 hbel
    obtain ⟨cc, hcc⟩ : ∃ cc, lastOf o = cc := ⟨_, rfl⟩
    have HCC := Lib.hid hcc
    clear hcc
    go_wp2
    go_loopw [4, 5] (fun va vi wx => ∃ (i : Nat), va = .int .i64 (atF cc (l.take i)) ∧ vi = .int .i64 (i : Int) ∧ i ≤ l.length ∧ Below w.heap.size w wx ∧ Hid (wx.ownsRow w.heap.size 27 2 (.slice ao o.length co) o.length (o.flatMap sR))) (fun _ vi _ => l.length - (intOf vi).toNat)
    case atStart => exact ⟨0, rfl, rfl, Nat.zero_le _, HBW.out, HOW⟩
    case round =>
      clear HOW HBW
      obtain ⟨i, rfl, rfl, hi, hbel, HOW⟩ := hrel
      by_cases hlt : i < l.length
      · have hlti : (i : Int) < (l.length : Int) := by omega
        have h0i : (0 : Int) ≤ (i : Int) := by omega
        obtain ⟨x, hx⟩ : ∃ x, l[i]? = some x := ⟨l[i], List.getElem?_eq_getElem hlt⟩
        obtain ⟨b, k, rfl, hbl⟩ := HS.out.place (by omega)
        have hr := IsS.range (HS.out.below hbel) i x hx
        have c0 := rng0 hr
        have c1 := rng1 hr
        have hmx := fun W => HM.out x W
        have hnx := atF_next (c := cc) hx
        have HNX := Lib.hid hnx
        have HBX := Lib.hid hbel
        have hbw : b < wr.heap.size := Nat.lt_of_lt_of_le hbl hbel.size
        obtain ⟨A, hA⟩ : ∃ A, atF cc (l.take i) = A := ⟨_, rfl⟩
        rw [hA] at HNX ⊢
        obtain ⟨ok, hok⟩ : ∃ ok, mayB x = ok := ⟨_, rfl⟩
        rw [hok] at hmx
        have HOK := Lib.hid hok
        have HMX := Lib.hid hmx
        clear hx hbel hr hnx hA hok hmx
        go_wp2_with (go_at_call 52; refine (HMX.out _).mono ?_; rintro e w1 ⟨rfl, b1⟩; refine Hid.out ?_)
        refine Lib.hid ?_
        have HB1 := Lib.hid (below_up HBX.out b1 HBX.out.size)
        have d0 : w1.cell? ⟨b, k + i * 2, none⟩ = some (.int .i64 x.f) := (b1.cell (p := ⟨b, k + i * 2, none⟩) hbw).trans c0
        have HO1 := Lib.hid (own_below HOW.out b1)
        have hbw1 : b < w1.heap.size := Nat.lt_of_lt_of_le hbw b1.size
        clear b1 c0 c1 HOW
        have hdr : Below w1.heap.size w1 w1.drew := (Below.refl _ _).drew
        have HB2 := Lib.hid (below_up HB1.out hdr HB1.out.size)
        have HO2 := Lib.hid (own_below HO1.out hdr)
        have e0 : w1.drew.cell? ⟨b, k + i * 2, none⟩ = some (.int .i64 x.f) := d0
        clear hdr HB1
        cases hg : o.getLast? with
        | none =>
          obtain rfl : o = [] := List.getLast?_eq_none_iff.1 hg
          obtain rfl : cc = none := HCC.out.symm
          have HBH := Lib.hid (bhd_none x)
          clear hg d0
          go_wp2
          refine wp_region_noPanic ?_
          refine wp_region_held_drew (S := HeldN) (by kernel_rfl) trivial (fun hHeld => ?_)
          refine held_take (v := ?v96) 0 rfl (by kernel_rfl) (by kernel_rfl) (by kernel_rfl) (fun _ _ _ h => h) (by rfl) ?y96 (by assumption) ?_
          case y96 => (intro w hSw; unfold HeldN at hSw; go_simp; (try with_reducible rfl); (try omega))
          simp only [List.setIfInBounds_toArray, List.set_cons_zero, List.set_cons_succ]
          refine held_take (v := ?v99) 1 rfl (by kernel_rfl) (by kernel_rfl) (by kernel_rfl) (fun _ _ _ h => h) (by rfl) ?y99 (by assumption) ?_
          case y99 => (intro w hSw; unfold HeldN at hSw; go_simp; (try with_reducible rfl); (try omega))
          simp only [List.setIfInBounds_toArray, List.set_cons_zero, List.set_cons_succ]
          refine held_take (v := ?v102) 2 rfl (by kernel_rfl) (by kernel_rfl) (by kernel_rfl) (fun _ _ _ h => h) (by rfl) ?y102 (by assumption) ?_
          case y102 => (intro w hSw; unfold HeldN at hSw; go_simp; (try with_reducible rfl); (try omega))
          simp only [List.setIfInBounds_toArray, List.set_cons_zero, List.set_cons_succ]
          refine held_take (v := ?v105) 3 rfl (by kernel_rfl) (by kernel_rfl) (by kernel_rfl) (fun _ _ _ h => h) (by rfl) ?y105 (by assumption) ?_
          case y105 => (intro w hSw; unfold HeldN at hSw; go_simp; (try with_reducible rfl); (try omega))
          simp only [List.setIfInBounds_toArray, List.set_cons_zero, List.set_cons_succ]
          refine held_skip 4 rfl (by kernel_rfl) (by kernel_rfl) (by kernel_rfl) (fun _ _ _ h => h) (by rfl) (by assumption) ?_
          simp only [List.setIfInBounds_toArray, List.set_cons_zero, List.set_cons_succ]
          refine held_skip 5 rfl (by kernel_rfl) (by kernel_rfl) (by kernel_rfl) (fun _ _ _ h => h) (by rfl) (by assumption) ?_
          simp only [List.setIfInBounds_toArray, List.set_cons_zero, List.set_cons_succ]
          refine held_skip 6 rfl (by kernel_rfl) (by kernel_rfl) (by kernel_rfl) (fun _ _ _ h => h) (by rfl) (by assumption) ?_
          simp only [List.setIfInBounds_toArray, List.set_cons_zero, List.set_cons_succ]
          refine held_skip 7 rfl (by kernel_rfl) (by kernel_rfl) (by kernel_rfl) (fun _ _ _ h => h) (by rfl) (by assumption) ?_
          simp only [List.setIfInBounds_toArray, List.set_cons_zero, List.set_cons_succ]
          refine held_skip 8 rfl (by kernel_rfl) (by kernel_rfl) (by kernel_rfl) (fun _ _ _ h => h) (by rfl) (by assumption) ?_
          simp only [List.setIfInBounds_toArray, List.set_cons_zero, List.set_cons_succ]
          refine held_skip 9 rfl (by kernel_rfl) (by kernel_rfl) (by kernel_rfl) (fun _ _ _ h => h) (by rfl) (by assumption) ?_
          simp only [List.setIfInBounds_toArray, List.set_cons_zero, List.set_cons_succ]
          refine held_skip 10 rfl (by kernel_rfl) (by kernel_rfl) (by kernel_rfl) (fun _ _ _ h => h) (by rfl) (by assumption) ?_
          simp only [List.setIfInBounds_toArray, List.set_cons_zero, List.set_cons_succ]
          refine held_skip 11 rfl (by kernel_rfl) (by kernel_rfl) (by kernel_rfl) (fun _ _ _ h => h) (by rfl) (by assumption) ?_
          simp only [List.setIfInBounds_toArray, List.set_cons_zero, List.set_cons_succ]
          refine held_skip 12 rfl (by kernel_rfl) (by kernel_rfl) (by kernel_rfl) (fun _ _ _ h => h) (by rfl) (by assumption) ?_
          simp only [List.setIfInBounds_toArray, List.set_cons_zero, List.set_cons_succ]
          refine held_skip 13 rfl (by kernel_rfl) (by kernel_rfl) (by kernel_rfl) (fun _ _ _ h => h) (by rfl) (by assumption) ?_
          simp only [List.setIfInBounds_toArray, List.set_cons_zero, List.set_cons_succ]
          refine held_skip 14 rfl (by kernel_rfl) (by kernel_rfl) (by kernel_rfl) (fun _ _ _ h => h) (by rfl) (by assumption) ?_
          simp only [List.setIfInBounds_toArray, List.set_cons_zero, List.set_cons_succ]
          refine held_skip 15 rfl (by kernel_rfl) (by kernel_rfl) (by kernel_rfl) (fun _ _ _ h => h) (by rfl) (by assumption) ?_
          simp only [List.setIfInBounds_toArray, List.set_cons_zero, List.set_cons_succ]
          refine held_skip 16 rfl (by kernel_rfl) (by kernel_rfl) (by kernel_rfl) (fun _ _ _ h => h) (by rfl) (by assumption) ?_
          simp only [List.setIfInBounds_toArray, List.set_cons_zero, List.set_cons_succ]
          refine held_take (v := ?v134) 17 rfl (by kernel_rfl) (by kernel_rfl) (by kernel_rfl) (fun _ _ _ h => h) (by rfl) ?y134 (by assumption) ?_
          case y134 => (intro w hSw; unfold HeldN at hSw; go_simp; (try with_reducible rfl); (try omega))
          simp only [List.setIfInBounds_toArray, List.set_cons_zero, List.set_cons_succ]
          refine held_take (v := ?v137) 18 rfl (by kernel_rfl) (by kernel_rfl) (by kernel_rfl) (fun _ _ _ h => h) (by rfl) ?y137 (by assumption) ?_
          case y137 => (intro w hSw; unfold HeldN at hSw; go_simp; (try with_reducible rfl); (try omega))
          simp only [List.setIfInBounds_toArray, List.set_cons_zero, List.set_cons_succ]
          refine wpAnyH_done (by kernel_rfl) ?_ _
          refine NoPanic.normal ?_
          clear hHeld
          generalize w1.drew = w2 at *
          cases ok with
          | false =>
            have HST := Lib.hid (show atStep none A x = A from atStep_skip (.inl HOK.out))
            go_wp2
            go_roundw
            case rel => exact ⟨i + 1, by rw [HNX.out, HST.out], rfl, hlt, HB2.out, HO2⟩
            case measure => simp only [intOf]; omega
          | true =>
            by_cases hA : A < 0
            · have HST := Lib.hid (show atStep none A x = x.f from atStep_take HOK.out HBH.out (.inl hA))
              go_wp2
              go_roundw
              case rel => exact ⟨i + 1, by rw [HNX.out, HST.out], rfl, hlt, HB2.out, HO2⟩
              case measure => simp only [intOf]; omega
            · by_cases hA2 : x.f < A
              · have HST := Lib.hid (show atStep none A x = x.f from atStep_take HOK.out HBH.out (.inr hA2))
                go_wp2
                go_roundw
                case rel => exact ⟨i + 1, by rw [HNX.out, HST.out], rfl, hlt, HB2.out, HO2⟩
                case measure => simp only [intOf]; omega
              · have HST := Lib.hid (show atStep none A x = A from atStep_skip (.inr (.inr ⟨hA, hA2⟩)))
                go_wp2
                go_roundw
                case rel => exact ⟨i + 1, by rw [HNX.out, HST.out], rfl, hlt, HB2.out, HO2⟩
                case measure => simp only [intOf]; omega
        | some y =>
          have hsp := last_split hg
          have hye : cc = some y.l := by rw [← HCC.out]; unfold lastOf; rw [hg]; rfl
          subst hye
          obtain ⟨m, hm⟩ : ∃ m, o.dropLast = m := ⟨_, rfl⟩
          rw [hm] at hsp
          obtain ⟨E, hE⟩ : ∃ E, m.length = E := ⟨_, rfl⟩
          obtain ⟨N, hNN⟩ : ∃ N, o.length = N := ⟨_, rfl⟩
          have hEN : E + 1 = N := by rw [← hNN, hsp, ← hE]; simp
          obtain ⟨g, hag⟩ : ∃ g, ao = some ⟨g, 0, none⟩ := by
            rcases HO2.out.2 with ⟨h1, h2⟩ | ⟨g, cap, cur, h1, _⟩
            · omega
            · simp only [Value.slice.injEq] at h1; exact ⟨g, h1.1⟩
          subst hag
          have ey : w1.drew.cell? ⟨g, E * 2 + 1, none⟩ = some (.int .i64 y.l) := by
            have h1 := rng1 (IsS.range (IsC.of_owned (sR_all _) HO2.out) m.length y (by rw [hsp]; simp))
            rw [hE] at h1
            simpa using h1
          have hN0 : ((N : Int) == 0) = false := by simp; omega
          have hN1 : (N : Int) ≠ 0 := by omega
          have kw : IntKind.i64.wrap ((N : Int) - 1) = (E : Int) := by simp [IntKind.wrap, IntKind.bits, IntKind.signed]; omega
          have hE0 : (0 : Int) ≤ (E : Int) := by omega
          have hEN2 : (E : Int) < (N : Int) := by omega
          obtain ⟨bh, hbh⟩ : ∃ bh, decide (y.l < x.f) = bh := ⟨_, rfl⟩
          have HBH := Lib.hid (show bhd (some y.l) x = bh from hbh)
          have HNN := Lib.hid hNN
          have HEN := Lib.hid hEN
          clear hg hsp hm hE hEN d0
          rw [hNN]
          go_wp2
          refine wp_region_noPanic ?_
          refine wp_region_held_drew (S := HeldP b (k + i * 2) g (E * 2 + 1) x.f y.l) (by kernel_rfl) ⟨e0, ey⟩ (fun hHeld => ?_)
          refine held_take (v := ?v201) 0 rfl (by kernel_rfl) (by kernel_rfl) (by kernel_rfl) (fun _ _ _ h => h) (by rfl) ?y201 (by assumption) ?_
          case y201 => (intro w hSw; unfold HeldP at hSw; go_simp; (try with_reducible rfl); (try omega))
          simp only [List.setIfInBounds_toArray, List.set_cons_zero, List.set_cons_succ]
          refine held_take (v := ?v204) 1 rfl (by kernel_rfl) (by kernel_rfl) (by kernel_rfl) (fun _ _ _ h => h) (by rfl) ?y204 (by assumption) ?_
          case y204 => (intro w hSw; unfold HeldP at hSw; go_simp; (try with_reducible rfl); (try omega))
          simp only [List.setIfInBounds_toArray, List.set_cons_zero, List.set_cons_succ]
          refine held_take (v := .bool false) 2 rfl (by kernel_rfl) (by kernel_rfl) (by kernel_rfl) (fun _ _ _ h => h) (by rfl) (fun W hSw => (by go_simp; (try exact hN1))) (by assumption) ?_
          simp only [List.setIfInBounds_toArray, List.set_cons_zero, List.set_cons_succ]
          refine held_take (v := ?v209) 3 rfl (by kernel_rfl) (by kernel_rfl) (by kernel_rfl) (fun _ _ _ h => h) (by rfl) ?y209 (by assumption) ?_
          case y209 => (intro w hSw; unfold HeldP at hSw; go_simp; (try with_reducible rfl); (try omega))
          simp only [List.setIfInBounds_toArray, List.set_cons_zero, List.set_cons_succ]
          refine held_take (v := ?v212) 4 rfl (by kernel_rfl) (by kernel_rfl) (by kernel_rfl) (fun _ _ _ h => h) (by rfl) ?y212 (by assumption) ?_
          case y212 => (intro w hSw; unfold HeldP at hSw; go_simp; (try with_reducible rfl); (try omega))
          simp only [List.setIfInBounds_toArray, List.set_cons_zero, List.set_cons_succ]
          refine held_take (v := ?v215) 5 rfl (by kernel_rfl) (by kernel_rfl) (by kernel_rfl) (fun _ _ _ h => h) (by rfl) ?y215 (by assumption) ?_
          case y215 => (intro w hSw; unfold HeldP at hSw; go_simp; (try with_reducible rfl); (try omega))
          simp only [List.setIfInBounds_toArray, List.set_cons_zero, List.set_cons_succ]
          refine held_take (v := ?v218) 6 rfl (by kernel_rfl) (by kernel_rfl) (by kernel_rfl) (fun _ _ _ h => h) (by rfl) ?y218 (by assumption) ?_
          case y218 => (intro w hSw; unfold HeldP at hSw; go_simp; (try with_reducible rfl); (try omega))
          simp only [List.setIfInBounds_toArray, List.set_cons_zero, List.set_cons_succ]
          refine held_take (v := ?v221) 7 rfl (by kernel_rfl) (by kernel_rfl) (by kernel_rfl) (fun _ _ _ h => h) (by rfl) ?y221 (by assumption) ?_
          case y221 => (intro w hSw; unfold HeldP at hSw; go_simp; (try with_reducible rfl); (try omega))
          simp only [List.setIfInBounds_toArray, List.set_cons_zero, List.set_cons_succ]
          refine held_take (v := ?v224) 8 rfl (by kernel_rfl) (by kernel_rfl) (by kernel_rfl) (fun _ _ _ h => h) (by rfl) ?y224 (by assumption) ?_
          case y224 => (intro w hSw; unfold HeldP at hSw; go_simp; (try with_reducible rfl); (try omega))
          simp only [List.setIfInBounds_toArray, List.set_cons_zero, List.set_cons_succ]
          refine held_take (v := ?v227) 9 rfl (by kernel_rfl) (by kernel_rfl) (by kernel_rfl) (fun _ _ _ h => h) (by rfl) ?y227 (by assumption) ?_
          case y227 => (intro w hSw; unfold HeldP at hSw; go_simp; (try with_reducible rfl); (try omega))
          simp only [List.setIfInBounds_toArray, List.set_cons_zero, List.set_cons_succ]
          refine held_take (v := ?v230) 10 rfl (by kernel_rfl) (by kernel_rfl) (by kernel_rfl) (fun _ _ _ h => h) (by rfl) ?y230 (by assumption) ?_
          case y230 => (intro w hSw; unfold HeldP at hSw; go_simp; (try with_reducible rfl); (try omega))
          simp only [List.setIfInBounds_toArray, List.set_cons_zero, List.set_cons_succ]
          refine held_take (v := ?v233) 11 rfl (by kernel_rfl) (by kernel_rfl) (by kernel_rfl) (fun _ _ _ h => h) (by rfl) ?y233 (by assumption) ?_
          case y233 => (intro w hSw; unfold HeldP at hSw; go_simp; (try with_reducible rfl); (try omega))
          simp only [List.setIfInBounds_toArray, List.set_cons_zero, List.set_cons_succ]
          refine held_take (v := .int .i64 (E : Int)) 12 rfl (by kernel_rfl) (by kernel_rfl) (by kernel_rfl) (fun _ _ _ h => h) (by rfl) (fun W hSw => (by go_simp; (try exact kw))) (by assumption) ?_
          simp only [List.setIfInBounds_toArray, List.set_cons_zero, List.set_cons_succ]
          refine held_take (v := ?v238) 13 rfl (by kernel_rfl) (by kernel_rfl) (by kernel_rfl) (fun _ _ _ h => h) (by rfl) ?y238 (by assumption) ?_
          case y238 => (intro w hSw; unfold HeldP at hSw; go_simp; (try with_reducible rfl); (try omega))
          simp only [List.setIfInBounds_toArray, List.set_cons_zero, List.set_cons_succ]
          refine held_take (v := ?v241) 14 rfl (by kernel_rfl) (by kernel_rfl) (by kernel_rfl) (fun _ _ _ h => h) (by rfl) ?y241 (by assumption) ?_
          case y241 => (intro w hSw; unfold HeldP at hSw; go_simp; (try with_reducible rfl); (try omega))
          simp only [List.setIfInBounds_toArray, List.set_cons_zero, List.set_cons_succ]
          refine held_take (v := ?v244) 15 rfl (by kernel_rfl) (by kernel_rfl) (by kernel_rfl) (fun _ _ _ h => h) (by rfl) ?y244 (by assumption) ?_
          case y244 => (intro w hSw; unfold HeldP at hSw; go_simp; (try with_reducible rfl); (try omega))
          simp only [List.setIfInBounds_toArray, List.set_cons_zero, List.set_cons_succ]
          refine held_take (v := .bool bh) 16 rfl (by kernel_rfl) (by kernel_rfl) (by kernel_rfl) (fun _ _ _ h => h) (by rfl) (fun W hSw => (by go_simp; (try exact hbh))) (by assumption) ?_
          simp only [List.setIfInBounds_toArray, List.set_cons_zero, List.set_cons_succ]
          refine held_take (v := ?v249) 17 rfl (by kernel_rfl) (by kernel_rfl) (by kernel_rfl) (fun _ _ _ h => h) (by rfl) ?y249 (by assumption) ?_
          case y249 => (intro w hSw; unfold HeldP at hSw; go_simp; (try with_reducible rfl); (try omega))
          simp only [List.setIfInBounds_toArray, List.set_cons_zero, List.set_cons_succ]
          refine held_take (v := ?v252) 18 rfl (by kernel_rfl) (by kernel_rfl) (by kernel_rfl) (fun _ _ _ h => h) (by rfl) ?y252 (by assumption) ?_
          case y252 => (intro w hSw; unfold HeldP at hSw; go_simp; (try with_reducible rfl); (try omega))
          simp only [List.setIfInBounds_toArray, List.set_cons_zero, List.set_cons_succ]
          refine wpAnyH_done (by kernel_rfl) ?_ _
          refine NoPanic.normal ?_
          clear hHeld ey hN0 hN1 kw hE0 hEN2 hbh
          rw [← hNN]
          generalize w1.drew = w2 at *
          cases bh with
          | false =>
            cases ok with
            | false =>
              have HST := Lib.hid (show atStep (some y.l) A x = A from atStep_skip (.inl HOK.out))
              go_wp2
              go_roundw
              case rel => exact ⟨i + 1, by rw [HNX.out, HST.out], rfl, hlt, HB2.out, HO2⟩
              case measure => simp only [intOf]; omega
            | true =>
              have HST := Lib.hid (show atStep (some y.l) A x = A from atStep_skip (.inr (.inl HBH.out)))
              go_wp2
              go_roundw
              case rel => exact ⟨i + 1, by rw [HNX.out, HST.out], rfl, hlt, HB2.out, HO2⟩
              case measure => simp only [intOf]; omega
          | true =>
            cases ok with
            | false =>
              have HST := Lib.hid (show atStep (some y.l) A x = A from atStep_skip (.inl HOK.out))
              go_wp2
              go_roundw
              case rel => exact ⟨i + 1, by rw [HNX.out, HST.out], rfl, hlt, HB2.out, HO2⟩
              case measure => simp only [intOf]; omega
            | true =>
              by_cases hA : A < 0
              · have HST := Lib.hid (show atStep (some y.l) A x = x.f from atStep_take HOK.out HBH.out (.inl hA))
                go_wp2
                go_roundw
                case rel => exact ⟨i + 1, by rw [HNX.out, HST.out], rfl, hlt, HB2.out, HO2⟩
                case measure => simp only [intOf]; omega
              · by_cases hA2 : x.f < A
                · have HST := Lib.hid (show atStep (some y.l) A x = x.f from atStep_take HOK.out HBH.out (.inr hA2))
                  go_wp2
                  go_roundw
                  case rel => exact ⟨i + 1, by rw [HNX.out, HST.out], rfl, hlt, HB2.out, HO2⟩
                  case measure => simp only [intOf]; omega
                · have HST := Lib.hid (show atStep (some y.l) A x = A from atStep_skip (.inr (.inr ⟨hA, hA2⟩)))
                  go_wp2
                  go_roundw
                  case rel => exact ⟨i + 1, by rw [HNX.out, HST.out], rfl, hlt, HB2.out, HO2⟩
                  case measure => simp only [intOf]; omega
      · have hlti : ¬ (i : Int) < (l.length : Int) := by omega
        rw [List.take_of_length_le (by omega)]
        have HBX := Lib.hid hbel
        have HAT := Lib.hid (fun h => inv_done HIN.out (by rw [HCC.out]; exact h))
        have hat0 := fun h => at_in (l := l) (o := o) (by rw [HCC.out]; exact h)
        rw [HCC.out] at hat0
        have HAT0 := Lib.hid hat0
        have HMORE := Lib.hid (fun N ha hr => inv_more (N := N) HIN.out (by rw [HCC.out]; exact ha) (by rw [HCC.out]; exact hr))
        obtain ⟨A, hA⟩ : ∃ A, atF cc l = A := ⟨_, rfl⟩
        have hAb : A ≤ 1048575 := by
          have := atF_bound cc l l.length
          rw [List.take_length] at this
          omega
        have HA := Lib.hid hA
        rw [hA] at HAT HAT0 HMORE ⊢
        clear hat0 hA hbel
        by_cases hneg : A < 0
        · have HE := Lib.hid (HAT.out hneg)
          have HR := Lib.hid (show IsS wr (.slice ao o.length co) (normS l) by
            have h1 : IsS wr (.slice ao o.length co) o := IsC.of_owned (sR_all _) HOW.out
            rw [← HE.out]; exact h1)
          have HLOW := Lib.hid (owned_low HOW.out)
          clear HOW HMORE HAT HAT0
          go_wp2
          go_ret
          exact ⟨_, rfl, HR.out, HBX.out, HLOW.out⟩
        · have hA0 : 0 ≤ A := by omega
          have HL := Lib.hid (HLA.out A wr (HS.out.below HBX.out) (HAT0.out hA0))
          obtain ⟨ti, hti, htz, hts, htb⟩ := info_parts sp_infoF
          go_wp2_with (go_at_call 77; refine HL.out.mono ?_; rintro e w3 ⟨N, rfl, hrun, b3⟩; refine Hid.out ?_)
          refine Lib.hid ?_
          have hmore := HMORE.out N hA0 hrun
          have hNA := hrun.1
          have HMO := Lib.hid hmore
          have hb4 : Below w3.heap.size w3 (w3.alloc (.cells (sR ⟨A, N⟩).toArray 27)) := (Below.refl _ _).alloc (Nat.le_refl _) _
          have HROW := Lib.hid (own_below (own_below HOW.out b3) hb4)
          have HB3 := Lib.hid (below_up HBX.out b3 HBX.out.size)
          have HB4 := Lib.hid (below_up HB3.out hb4 HB3.out.size)
          have HBN := Lib.hid (Bx.new w3 27 (sR ⟨A, N⟩))
          have hs4 : (w3.alloc (.cells (sR ⟨A, N⟩).toArray 27)).heap.size = w3.heap.size + 1 := by simp
          have hs3 := HB3.out.size
          clear hrun b3 hmore hb4 HOW
          go_wp2_with (first
            | (refine plV rfl (.slice (some ⟨w3.heap.size, 0, none⟩) 1 1) (exec_one_spb (.tmp 67) rfl ⟨A, N⟩ rfl _ rfl) ?_)
            | (at_builtin; refine wpList_append_own _ rfl _ _ 51 rfl w.heap.size 27 ti (sV ⟨0, 0⟩) 2 16 Try.underlying51 hti htz hts htb rfl (by decide) _ _ _ rfl HROW.out ⟨w3.heap.size, 0, none⟩ 1 1 (sR ⟨A, N⟩) rfl rfl (fun j u hj => World.news_of_block HBN.out j u (by simpa using hj)) (sR_one _) (by unfold maxLen; omega) (by omega) (by omega) ?_; intro v' w9 hown hgr _; refine Hid.out ?_))
          refine Lib.hid ?_
          obtain ⟨g', cap', rfl⟩ := ownsRow_succ hown
          have hfu : fuelN (o ++ [(⟨A, N⟩ : Spn)]) < fuelN o := by
            unfold fuelN lastOf
            rw [List.getLast?_concat]
            cases hg : o.getLast? with
            | none => simp; omega
            | some y =>
              have := HMO.out.2 y hg
              simp
              have hb : N ≤ 1048575 := by
                have := HMO.out.1.1
                rw [HCC.out, HA.out] at this
                have := ((normal_snoc o _).1 this).2.1
                exact this.2.2
              omega
          have HFU := Lib.hid hfu
          have HO9 := Lib.hid (show w9.ownsRow w.heap.size 27 2 (.slice (some ⟨g', 0, none⟩) (o.length + 1) cap') (o ++ [(⟨A, N⟩ : Spn)]).length ((o ++ [(⟨A, N⟩ : Spn)]).flatMap sR) by simpa using hown)
          have HI9 := Lib.hid (show InvN l (o ++ [(⟨A, N⟩ : Spn)]) by have := HMO.out.1; rw [HCC.out, HA.out] at this; exact this)
          have HB9 := Lib.hid (HB4.out.grown hgr (by omega) (fun k e => owned_low HROW.out k e))
          clear hown hgr HROW HBN hfu HMO
          go_wp2
          go_roundg (fuelN (o ++ [(⟨A, N⟩ : Spn)]))
          case measure => exact Nat.lt_of_lt_of_le HFU.out HGG.out
          case rel => exact ⟨_, HI9, HO9, Lib.hid (Nat.le_refl _), HB9.out⟩
theorem rnorm_any (v : Value) (l : List Spn) (w : World) (h : IsS w v l) (hN : l.length ≤ 200000) :
    Calls Try.prog 53 #[v] w fun e w' => ∃ v', e = .returned v' ∧ IsS w' v' (normS l) ∧ Below w.heap.size w w' :=
  (rnorm_low v l w h hN).mono fun _ _ ⟨v', h1, h2, h3, _⟩ => ⟨v', h1, h2, h3⟩
end Go.Proofs.Ytgelbeglffjdaaa
