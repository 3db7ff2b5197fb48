/- The document's spans: may, In, Same. -/
import Derived.Test.YthmcgignejofiaaSp4
import Derived.Test.YthmcgignejofiaaReg
namespace Go.Proofs.Ythmcgignejofiaa
open Go Go.RowKit Go.Shelf

set_option maxRecDepth 100000 in
set_option maxHeartbeats 2000000 in
theorem rmay_any (s : Spn) (w : World) : Calls Try.prog 28 #[sV s] w fun e w' => e = .returned (.bool (mayB s)) ∧ Below w.heap.size w w' := by
  have HB := Lib.hid ((Below.refl w.heap.size w).alloc (Nat.le_refl _) (.cells (sR s).toArray 24))
  have hr := rangeAll (Bx.new w 24 (sR s))
  have c0 := rng0 hr
  have c1 := rng1 hr
  have HM := Lib.hid (show mayB s = decide (0 ≤ s.f ∧ s.f ≤ s.l ∧ s.l ≤ 1048575) from rfl)
  rw [show sV s = .agg (sR s).toArray from rfl]
  generalize mayB s = r at *
  clear hr
  go_enter Try.func28, Try.ntmps28
  go_wp2
  all_goals (go_ret; refine ⟨?_, HB.out⟩; rw [HM.out]; simp_all <;> omega)
/-- Where a slice's spans lie, at a place within it. -/
theorem IsS.place {w : World} {a : Option Addr} {n c : Nat} {l : List Spn} (h : IsS w (.slice a n c) l) (hp : 0 < l.length) : ∃ b k, a = some ⟨b, k, none⟩ ∧ b < w.heap.size := by
  obtain ⟨_, _, _, h4⟩ := h.shape
  obtain ⟨b, k, e, h5, _⟩ := h4 hp
  exact ⟨b, k, e, h5⟩
theorem inLab_take {l : List Spn} {i : Nat} {x : Spn} (hx : l[i]? = some x) (n : Int) : inLab (l.take (i + 1)) n = (inLab (l.take i) n || inSd x n) := by
  rw [take_next hx, inS_append]
  congr 1
  show (inSd x n || false) = _
  rw [Bool.or_false]
theorem inLab_of_take {l : List Spn} {i : Nat} {n : Int} (h : inLab (l.take i) n = true) : inLab l n = true := by
  rw [inS_iff] at h ⊢
  obtain ⟨s, hs, h⟩ := h
  exact ⟨s, List.mem_of_mem_take hs, h⟩
set_option maxRecDepth 100000 in
set_option maxHeartbeats 2000000 in
theorem rin_any (v : Value) (l : List Spn) (n : Int) (w : World) (h : IsS w v l) (hN : l.length ≤ 200000) :
    Calls Try.prog 26 #[v, .int .i64 n] w fun e w' => e = .returned (.bool (inLab l n)) ∧ Below w.heap.size w w' := by
  obtain ⟨a, c, rfl, hc⟩ := h.form
  have HS := Lib.hid h
  have HM := Lib.hid (fun x W => rmay_any x W)
  clear h
  go_enter Try.func26, Try.ntmps26
  go_wp2
  go_loopw [5] (fun r wr => ∃ i : Nat, i ≤ l.length ∧ r = .int .i64 (i : Int) ∧ inLab (l.take i) n = false ∧ Below w.heap.size w wr) (fun r _ => l.length - (intOf r).toNat)
  case atStart => exact ⟨0, Nat.zero_le _, rfl, rfl, Below.refl _ _⟩
  case round =>
    obtain ⟨i, hi, rfl, hno, hbel⟩ := hrel
    by_cases hlt : i < l.length
    · have hlti : (i : Int) < (l.length : Int) := by omega
      obtain ⟨x, hx⟩ : ∃ x, l[i]? = some x := ⟨l[i], List.getElem?_eq_getElem hlt⟩
      obtain ⟨b, k, rfl, hbl⟩ := HS.out.place (by omega)
      have hr := IsS.range (HS.out.below hbel) i x hx
      have c0 := rng0 hr
      have c1 := rng1 hr
      have HR := Lib.hid hr
      have hmx := fun W => HM.out x W
      have hnx := inLab_take hx n
      rw [hno, Bool.false_or] at hnx
      have HNX := Lib.hid hnx
      have HBW := Lib.hid hbel
      have hbw : b < wr.heap.size := Nat.lt_of_lt_of_le hbl hbel.size
      have HOF := Lib.hid (fun h => inLab_of_take (l := l) (i := i + 1) (n := n) h)
      clear hx hno hbel hr hnx
      cases hm : mayB x with
      | false =>
        have hd : inSd x n = false := inSd_not (fun h => by rw [(mayB_iff x).2 h] at hm; cases hm) n
        rw [hd] at HNX
        rw [hm] at hmx
        have HMX := Lib.hid hmx
        clear hd hm hmx
        go_wp2_with (go_at_call 28; refine (HMX.out _).mono ?_; rintro e w1 ⟨rfl, b1⟩; refine Hid.out ?_)
        refine Lib.hid ?_
        have HB1 := Lib.hid (below_up HBW.out b1 HBW.out.size)
        clear b1
        go_wp2
        go_roundw
        case rel => exact ⟨i + 1, hlt, rfl, HNX.out, HB1.out⟩
        case measure => simp only [intOf]; omega
      | true =>
        have hd : inSd x n = decide (x.f ≤ n ∧ n ≤ x.l) := inSd_may ((mayB_iff x).1 hm) n
        rw [hd] at HNX
        rw [hm] at hmx
        have HMX := Lib.hid hmx
        clear hd hm hmx
        go_wp2_with (go_at_call 28; refine (HMX.out _).mono ?_; rintro e w1 ⟨rfl, b1⟩; refine Hid.out ?_)
        refine Lib.hid ?_
        have HB1 := Lib.hid (below_up HBW.out b1 HBW.out.size)
        have hr1 := IsS.range (HS.out.below HB1.out) i x
        have d0 : w1.cell? ⟨b, k + i * 2, none⟩ = some (.int .i64 x.f) := (b1.cell (p := ⟨b, k + i * 2, none⟩) hbw).trans c0
        have d1 : w1.cell? ⟨b, k + i * 2 + 1, none⟩ = some (.int .i64 x.l) := (b1.cell (p := ⟨b, k + i * 2 + 1, none⟩) hbw).trans c1
        clear b1 c0 c1 hr1
        by_cases h1 : x.f ≤ n
        · by_cases h2 : n ≤ x.l
          · have HT := Lib.hid (HOF.out (by rw [HNX.out]; exact decide_eq_true ⟨h1, h2⟩))
            go_wp2
            go_ret
            exact ⟨by rw [HT.out]; rfl, HB1.out⟩
          · have HF := Lib.hid (show inLab (l.take (i + 1)) n = false by rw [HNX.out]; exact decide_eq_false (fun h => h2 h.2))
            go_wp2
            go_roundw
            case rel => exact ⟨i + 1, hlt, rfl, HF.out, HB1.out⟩
            case measure => simp only [intOf]; omega
        · have HF := Lib.hid (show inLab (l.take (i + 1)) n = false by rw [HNX.out]; exact decide_eq_false (fun h => h1 h.1))
          go_wp2
          go_roundw
          case rel => exact ⟨i + 1, hlt, rfl, HF.out, HB1.out⟩
          case measure => simp only [intOf]; omega
    · have hlti : ¬ (i : Int) < (l.length : Int) := by omega
      rw [List.take_of_length_le (by omega)] at hno
      have HF := Lib.hid hno
      have HBW := Lib.hid hbel
      clear hno hbel
      go_wp2
      go_ret
      exact ⟨by rw [HF.out]; rfl, HBW.out⟩
def HeldE (b k b' k' : Nat) (x : Spn) (W : World) : Prop := W.rangeAt b k (sR x) ∧ W.rangeAt b' k' (sR x)
set_option maxRecDepth 100000 in
set_option maxHeartbeats 2000000 in
/-- Two slices of the same spans are told the same. -/
theorem rsame_any (v v' : Value) (l : List Spn) (w : World) (h : IsS w v l) (h' : IsS w v' l) (hN : l.length ≤ 1000000) :
    Calls Try.prog 9 #[v, v'] w fun e w' => e = .returned (.bool true) ∧ Below w.heap.size w w' := by
  obtain ⟨a, c, rfl, hc⟩ := h.form
  obtain ⟨a', c', rfl, hc'⟩ := h'.form
  have HS := Lib.hid h
  have HS' := Lib.hid h'
  clear h h'
  go_enter Try.func9, Try.ntmps9
  go_wp2
  go_loopw [5] (fun r wr => ∃ i : Nat, i ≤ l.length ∧ r = .int .i64 (i : Int) ∧ Below w.heap.size w wr) (fun r _ => l.length - (intOf r).toNat)
  case atStart => exact ⟨0, Nat.zero_le _, rfl, Below.refl _ _⟩
  case round =>
    obtain ⟨i, hi, rfl, hbel⟩ := hrel
    by_cases hlt : i < l.length
    · have hlti : (i : Int) < (l.length : Int) := by omega
      have h0i : (0 : Int) ≤ (i : Int) := by omega
      obtain ⟨x, hx⟩ : ∃ x, l[i]? = some x := ⟨l[i], List.getElem?_eq_getElem hlt⟩
      obtain ⟨b, k, rfl, hbl⟩ := HS.out.place (by omega)
      obtain ⟨b', k', rfl, hbl'⟩ := HS'.out.place (by omega)
      have hr := IsS.range (HS.out.below hbel) i x hx
      have hr' := IsS.range (HS'.out.below hbel) i x hx
      have HB2 := Lib.hid (below_up hbel ((Below.refl wr.heap.size wr).drew) hbel.size)
      have hH : HeldE b (k + i * 2) b' (k' + i * 2) x wr.drew := ⟨hr, hr'⟩
      clear hx hbel hr hr'
      go_wp2
      refine wp_region_noPanic ?_
      refine wp_region_held_drew (S := HeldE b (k + i * 2) b' (k' + i * 2) x) (by kernel_rfl) hH (fun hHeld => ?_)
      refine held_take (v := ?v147) 0 rfl (by kernel_rfl) (by kernel_rfl) (by kernel_rfl) (fun _ _ _ h => h) (by rfl) ?y147 (by assumption) ?_
      case y147 => (intro w hSw; unfold HeldE at hSw; go_simp; (try with_reducible rfl); (try omega))
      simp only [List.setIfInBounds_toArray, List.set_cons_zero, List.set_cons_succ]
      refine held_take (v := ?v150) 1 rfl (by kernel_rfl) (by kernel_rfl) (by kernel_rfl) (fun _ _ _ h => h) (by rfl) ?y150 (by assumption) ?_
      case y150 => (intro w hSw; unfold HeldE at hSw; go_simp; (try with_reducible rfl); (try omega))
      simp only [List.setIfInBounds_toArray, List.set_cons_zero, List.set_cons_succ]
      refine held_take (v := ?v153) 2 rfl (by kernel_rfl) (by kernel_rfl) (by kernel_rfl) (fun _ _ _ h => h) (by rfl) ?y153 (by assumption) ?_
      case y153 => (intro w hSw; unfold HeldE at hSw; go_simp; (try with_reducible rfl); (try omega))
      simp only [List.setIfInBounds_toArray, List.set_cons_zero, List.set_cons_succ]
      refine held_take (v := sV x) 3 rfl (by kernel_rfl) (by kernel_rfl) (by kernel_rfl) (fun _ _ _ h => h) (by rfl) (fun W hSw => exec_load_any _ (.tmp 19) rfl b (k + i * 2) (sR x) _ rfl hSw.1 Try.underlying24 rfl sp_info) (by assumption) ?_
      simp only [List.setIfInBounds_toArray, List.set_cons_zero, List.set_cons_succ]
      refine held_take (v := ?v158) 4 rfl (by kernel_rfl) (by kernel_rfl) (by kernel_rfl) (fun _ _ _ h => h) (by rfl) ?y158 (by assumption) ?_
      case y158 => (intro w hSw; unfold HeldE at hSw; go_simp; (try with_reducible rfl); (try omega))
      simp only [List.setIfInBounds_toArray, List.set_cons_zero, List.set_cons_succ]
      refine held_take (v := ?v161) 5 rfl (by kernel_rfl) (by kernel_rfl) (by kernel_rfl) (fun _ _ _ h => h) (by rfl) ?y161 (by assumption) ?_
      case y161 => (intro w hSw; unfold HeldE at hSw; go_simp; (try with_reducible rfl); (try omega))
      simp only [List.setIfInBounds_toArray, List.set_cons_zero, List.set_cons_succ]
      refine held_take (v := ?v164) 6 rfl (by kernel_rfl) (by kernel_rfl) (by kernel_rfl) (fun _ _ _ h => h) (by rfl) ?y164 (by assumption) ?_
      case y164 => (intro w hSw; unfold HeldE at hSw; go_simp; (try with_reducible rfl); (try omega))
      simp only [List.setIfInBounds_toArray, List.set_cons_zero, List.set_cons_succ]
      refine held_take (v := sV x) 7 rfl (by kernel_rfl) (by kernel_rfl) (by kernel_rfl) (fun _ _ _ h => h) (by rfl) (fun W hSw => exec_load_any _ (.tmp 23) rfl b' (k' + i * 2) (sR x) _ rfl hSw.2 Try.underlying24 rfl sp_info) (by assumption) ?_
      simp only [List.setIfInBounds_toArray, List.set_cons_zero, List.set_cons_succ]
      refine held_take (v := .bool false) 8 rfl (by kernel_rfl) (by kernel_rfl) (by kernel_rfl) (fun _ _ _ h => h) (by rfl) (fun W hSw => (by unfold sV sR; go_simp)) (by assumption) ?_
      simp only [List.setIfInBounds_toArray, List.set_cons_zero, List.set_cons_succ]
      refine wpAnyH_done (by kernel_rfl) ?_ _
      refine NoPanic.normal ?_
      go_wp2
      go_roundw
      case rel => exact ⟨i + 1, hlt, rfl, HB2.out⟩
      case measure => simp only [intOf]; omega
    · have hlti : ¬ (i : Int) < (l.length : Int) := by omega
      have HBW := Lib.hid hbel
      clear hbel
      go_wp2
      go_ret
      exact ⟨rfl, HBW.out⟩
end Go.Proofs.Ythmcgignejofiaa
