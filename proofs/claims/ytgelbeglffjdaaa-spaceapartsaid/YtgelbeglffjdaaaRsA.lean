/- The document's spans: may, In, Same. The document's spans: where a run ends (last). -/
import Derived.Test.YtgelbeglffjdaaaSpA
import Derived.Test.YtgelbeglffjdaaaRegX
import Derived.Test.YtgelbeglffjdaaaPM11
namespace Go.Proofs.Ytgelbeglffjdaaa
open Go Go.RowKit Go.Shelf

set_option maxRecDepth 100000 in
set_option maxHeartbeats 2000000 in
theorem rmay_any (s : Spn) (w : World) : Calls Try.prog 52 #[sV s] w fun e w' => e = .returned (.bool (mayB s)) ∧ Below w.heap.size w w' := by
  have HB := Lib.hid ((Below.refl w.heap.size w).alloc (Nat.le_refl _) (.cells (sR s).toArray 27))
  have hr := rangeAll (Bx.new w 27 (sR s))
  have c0 := rng0 hr
  have c1 := rng1 hr
  have HM := Lib.hid (show mayB s = decide (0 ≤ s.f ∧ s.f ≤ s.l ∧ s.l ≤ 1048575) from rfl)
  rw [show sV s = .agg (sR s).toArray from rfl]
  generalize mayB s = r at *
  clear hr
  go_enter Try.func52, Try.ntmps52
  go_wp2
  all_goals (go_ret; refine ⟨?_, HB.out⟩; rw [HM.out]; simp_all <;> omega)
/-- Where a slice's spans lie, at a place within it. -/
theorem IsS.place {w : World} {a : Option Addr} {n c : Nat} {l : List Spn} (h : IsS w (.slice a n c) l) (hp : 0 < l.length) : ∃ b k, a = some ⟨b, k, none⟩ ∧ b < w.heap.size := by
  obtain ⟨_, _, _, h4⟩ := h.shape
  obtain ⟨b, k, e, h5, _⟩ := h4 hp
  exact ⟨b, k, e, h5⟩
theorem inLab_take {l : List Spn} {i : Nat} {x : Spn} (hx : l[i]? = some x) (n : Int) : inLab (l.take (i + 1)) n = (inLab (l.take i) n || inSd x n) := by
  rw [take_next hx, inS_append]
  congr 1
  show (inSd x n || false) = _
  rw [Bool.or_false]
theorem inLab_of_take {l : List Spn} {i : Nat} {n : Int} (h : inLab (l.take i) n = true) : inLab l n = true := by
  rw [inS_iff] at h ⊢
  obtain ⟨s, hs, h⟩ := h
  exact ⟨s, List.mem_of_mem_take hs, h⟩
def HeldE (b k b' k' : Nat) (x : Spn) (W : World) : Prop := W.rangeAt b k (sR x) ∧ W.rangeAt b' k' (sR x)
set_option maxRecDepth 100000 in
set_option maxHeartbeats 2000000 in
/-- Two slices of the same spans are told the same. -/
theorem rsame_any (v v' : Value) (l : List Spn) (w : World) (h : IsS w v l) (h' : IsS w v' l) (hN : l.length ≤ 1000000) :
    Calls Try.prog 48 #[v, v'] w fun e w' => e = .returned (.bool true) ∧ Below w.heap.size w w' := by
  obtain ⟨a, c, rfl, hc⟩ := h.form
  obtain ⟨a', c', rfl, hc'⟩ := h'.form
  have HS := Lib.hid h
  have HS' := Lib.hid h'
  clear h h'
  go_enter Try.func48, Try.ntmps48
  go_wp2
  go_loopw [5] (fun r wr => ∃ i : Nat, i ≤ l.length ∧ r = .int .i64 (i : Int) ∧ Below w.heap.size w wr) (fun r _ => l.length - (intOf r).toNat)
  case atStart => exact ⟨0, Nat.zero_le _, rfl, Below.refl _ _⟩
  case round =>
    obtain ⟨i, hi, rfl, hbel⟩ := hrel
    by_cases hlt : i < l.length
    · have hlti : (i : Int) < (l.length : Int) := by omega
      have h0i : (0 : Int) ≤ (i : Int) := by omega
      obtain ⟨x, hx⟩ : ∃ x, l[i]? = some x := ⟨l[i], List.getElem?_eq_getElem hlt⟩
      obtain ⟨b, k, rfl, hbl⟩ := HS.out.place (by omega)
      obtain ⟨b', k', rfl, hbl'⟩ := HS'.out.place (by omega)
      have hr := IsS.range (HS.out.below hbel) i x hx
      have hr' := IsS.range (HS'.out.below hbel) i x hx
      have HB2 := Lib.hid (below_up hbel ((Below.refl wr.heap.size wr).drew) hbel.size)
      have hH : HeldE b (k + i * 2) b' (k' + i * 2) x wr.drew := ⟨hr, hr'⟩
      clear hx hbel hr hr'
      go_wp2
      refine wp_region_noPanic ?_
      refine wp_region_held_drew (S := HeldE b (k + i * 2) b' (k' + i * 2) x) (by kernel_rfl) hH (fun hHeld => ?_)
      refine held_take (v := ?v148) 0 rfl (by kernel_rfl) (by kernel_rfl) (by kernel_rfl) (fun _ _ _ h => h) (by rfl) ?y148 (by assumption) ?_
      case y148 => (intro w hSw; unfold HeldE at hSw; go_simp; (try with_reducible rfl); (try omega))
      simp only [List.setIfInBounds_toArray, List.set_cons_zero, List.set_cons_succ]
      refine held_take (v := ?v151) 1 rfl (by kernel_rfl) (by kernel_rfl) (by kernel_rfl) (fun _ _ _ h => h) (by rfl) ?y151 (by assumption) ?_
      case y151 => (intro w hSw; unfold HeldE at hSw; go_simp; (try with_reducible rfl); (try omega))
      simp only [List.setIfInBounds_toArray, List.set_cons_zero, List.set_cons_succ]
      refine held_take (v := ?v154) 2 rfl (by kernel_rfl) (by kernel_rfl) (by kernel_rfl) (fun _ _ _ h => h) (by rfl) ?y154 (by assumption) ?_
      case y154 => (intro w hSw; unfold HeldE at hSw; go_simp; (try with_reducible rfl); (try omega))
      simp only [List.setIfInBounds_toArray, List.set_cons_zero, List.set_cons_succ]
      refine held_take (v := sV x) 3 rfl (by kernel_rfl) (by kernel_rfl) (by kernel_rfl) (fun _ _ _ h => h) (by rfl) (fun W hSw => exec_load_any _ (.tmp 19) rfl b (k + i * 2) (sR x) _ rfl hSw.1 Try.underlying27 rfl sp_info) (by assumption) ?_
      simp only [List.setIfInBounds_toArray, List.set_cons_zero, List.set_cons_succ]
      refine held_take (v := ?v159) 4 rfl (by kernel_rfl) (by kernel_rfl) (by kernel_rfl) (fun _ _ _ h => h) (by rfl) ?y159 (by assumption) ?_
      case y159 => (intro w hSw; unfold HeldE at hSw; go_simp; (try with_reducible rfl); (try omega))
      simp only [List.setIfInBounds_toArray, List.set_cons_zero, List.set_cons_succ]
      refine held_take (v := ?v162) 5 rfl (by kernel_rfl) (by kernel_rfl) (by kernel_rfl) (fun _ _ _ h => h) (by rfl) ?y162 (by assumption) ?_
      case y162 => (intro w hSw; unfold HeldE at hSw; go_simp; (try with_reducible rfl); (try omega))
      simp only [List.setIfInBounds_toArray, List.set_cons_zero, List.set_cons_succ]
      refine held_take (v := ?v165) 6 rfl (by kernel_rfl) (by kernel_rfl) (by kernel_rfl) (fun _ _ _ h => h) (by rfl) ?y165 (by assumption) ?_
      case y165 => (intro w hSw; unfold HeldE at hSw; go_simp; (try with_reducible rfl); (try omega))
      simp only [List.setIfInBounds_toArray, List.set_cons_zero, List.set_cons_succ]
      refine held_take (v := sV x) 7 rfl (by kernel_rfl) (by kernel_rfl) (by kernel_rfl) (fun _ _ _ h => h) (by rfl) (fun W hSw => exec_load_any _ (.tmp 23) rfl b' (k' + i * 2) (sR x) _ rfl hSw.2 Try.underlying27 rfl sp_info) (by assumption) ?_
      simp only [List.setIfInBounds_toArray, List.set_cons_zero, List.set_cons_succ]
      refine held_take (v := .bool false) 8 rfl (by kernel_rfl) (by kernel_rfl) (by kernel_rfl) (fun _ _ _ h => h) (by rfl) (fun W hSw => (by unfold sV sR; go_simp)) (by assumption) ?_
      simp only [List.setIfInBounds_toArray, List.set_cons_zero, List.set_cons_succ]
      refine wpAnyH_done (by kernel_rfl) ?_ _
      refine NoPanic.normal ?_
      go_wp2
      go_roundw
      case rel => exact ⟨i + 1, hlt, rfl, HB2.out⟩
      case measure => simp only [intOf]; omega
    · have hlti : ¬ (i : Int) < (l.length : Int) := by omega
      have HBW := Lib.hid hbel
      clear hbel
      go_wp2
      go_ret
      exact ⟨rfl, HBW.out⟩
end Go.Proofs.Ytgelbeglffjdaaa
namespace Go.Proofs.Ytgelbeglffjdaaa
open Go Go.RowKit Go.Shelf

def extS (n : Int) (x : Spn) : Prop := x.f ≤ n + 1 ∧ n < x.l
set_option maxRecDepth 100000 in
set_option maxHeartbeats 4000000 in
theorem rlast_any (v : Value) (l : List Spn) (n0 : Int) (w : World) (h : IsS w v l) (hN : l.length ≤ 200000) (hn : inLab l n0 = true) :
    Calls Try.prog 77 #[v, .int .i64 n0] w fun e w' => ∃ N, e = .returned (.int .i64 N) ∧ RunE l n0 N ∧ Below w.heap.size w w' := by
  obtain ⟨a, c, rfl, hc⟩ := h.form
  have HS := Lib.hid h
  have HM := Lib.hid (fun x W => rmay_any x W)
  have hb0 := inS_bound hn
  have HN0 := Lib.hid (show ∀ k, n0 ≤ k → k ≤ n0 → inLab l k = true from fun k h1 h2 => by rw [show k = n0 by omega]; exact hn)
  clear h hn
  go_enter Try.func77, Try.ntmps77
  go_wp2
  go_loopg [1, 5] (1048577 * 2 + 2) (fun gg vn vm wr => ∃ (n : Int) (more : Bool), vn = .int .i64 n ∧ vm = .bool more ∧ n0 ≤ n ∧ n ≤ 1048575 ∧ Hid (∀ k, n0 ≤ k → k ≤ n → inLab l k = true) ∧ Hid (more = false → ∀ x ∈ l, mayS x → ¬ extS n x) ∧ (1048576 - n).toNat * 2 + (if more then 1 else 0) ≤ gg ∧ Below w.heap.size w wr)
  case atStart => exact ⟨n0, true, rfl, rfl, Int.le_refl _, hb0.2, HN0, Lib.hid (fun h => by cases h), by simp; omega, Below.refl _ _⟩
  case round =>
    obtain ⟨n, more, rfl, rfl, hn1, hn2, HL, HE, hgg, hbel⟩ := hrel
    cases more with
    | false =>
      have HBW := Lib.hid hbel
      have HR := Lib.hid (show RunE l n0 n from ⟨hn1, HL.out, run_end (fun x hx hm => HE.out rfl x hx hm)⟩)
      clear hbel HE HL
      go_wp2
      go_ret
      exact ⟨n, rfl, HR.out, HBW.out⟩
    | true =>
      have HBW := Lib.hid hbel
      have hgg2 := Lib.hid hgg
      clear hbel HE hgg HN0
      go_wp2
      go_loopw [1, 5, 6] (fun vn vm vi wx => ∃ (n' : Int) (more : Bool) (i : Nat), vn = .int .i64 n' ∧ vm = .bool more ∧ vi = .int .i64 (i : Int) ∧ i ≤ l.length ∧ n ≤ n' ∧ n' ≤ 1048575 ∧ Hid (∀ k, n0 ≤ k → k ≤ n' → inLab l k = true) ∧ Hid (more = false → n' = n ∧ ∀ x ∈ l.take i, mayS x → ¬ extS n x) ∧ Hid (more = true → n < n') ∧ Below w.heap.size w wx) (fun _ _ vi _ => l.length - (intOf vi).toNat)
      case atStart => exact ⟨n, false, 0, rfl, rfl, rfl, Nat.zero_le _, Int.le_refl _, hn2, HL, Lib.hid (fun _ => ⟨rfl, fun x hx => by cases hx⟩), Lib.hid (fun h => by cases h), HBW.out⟩
      case round =>
        clear HL HBW
        obtain ⟨n', more, i, rfl, rfl, rfl, hi, hnn, hn2', HL, HE, HT, hbel⟩ := hrel
        have hn0' : 0 ≤ n' := by omega
        by_cases hlt : i < l.length
        · have hlti : (i : Int) < (l.length : Int) := by omega
          obtain ⟨x, hx⟩ : ∃ x, l[i]? = some x := ⟨l[i], List.getElem?_eq_getElem hlt⟩
          obtain ⟨b, k, rfl, hbl⟩ := HS.out.place (by omega)
          have hr := IsS.range (HS.out.below hbel) i x hx
          have c0 := rng0 hr
          have c1 := rng1 hr
          have hmx := fun W => HM.out x W
          have HXM := Lib.hid (List.mem_of_getElem? hx)
          have HX := Lib.hid (take_next hx)
          have HBX := Lib.hid hbel
          have hbw : b < wr.heap.size := Nat.lt_of_lt_of_le hbl hbel.size
          have HKEEP := Lib.hid (show ¬ (mayS x ∧ extS n x) → more = false → n' = n ∧ ∀ y ∈ l.take (i + 1), mayS y → ¬ extS n y from fun hne hm => by
            obtain ⟨h1, h2⟩ := HE.out hm
            refine ⟨h1, fun y hy hym => ?_⟩
            rw [take_next hx] at hy
            rcases List.mem_append.1 hy with hy | hy
            · exact h2 y hy hym
            · rw [List.mem_singleton.1 hy] at hym ⊢; exact fun h => hne ⟨hym, h⟩)
          have HSAME := Lib.hid (show more = false → n' = n from fun hm => (HE.out hm).1)
          clear hx hbel hr HE
          cases hm : mayB x with
          | false =>
            have hmay : ¬ mayS x := fun h => by rw [(mayB_iff x).2 h] at hm; cases hm
            rw [hm] at hmx
            have HMX := Lib.hid hmx
            clear hm hmx
            go_wp2_with (go_at_call 52; refine (HMX.out _).mono ?_; rintro e w1 ⟨rfl, b1⟩; refine Hid.out ?_)
            refine Lib.hid ?_
            have HB1 := Lib.hid (below_up HBX.out b1 HBX.out.size)
            have d0 : w1.cell? ⟨b, k + i * 2, none⟩ = some (.int .i64 x.f) := (b1.cell (p := ⟨b, k + i * 2, none⟩) hbw).trans c0
            have d1 : w1.cell? ⟨b, k + i * 2 + 1, none⟩ = some (.int .i64 x.l) := (b1.cell (p := ⟨b, k + i * 2 + 1, none⟩) hbw).trans c1
            clear b1 c0 c1
            have HK2 := Lib.hid (HKEEP.out (fun h => hmay h.1))
            clear HKEEP
            go_wp2
            go_roundw
            case rel => exact ⟨n', more, i + 1, rfl, rfl, rfl, hlt, hnn, hn2', HL, HK2, HT, HB1.out⟩
            case measure => simp only [intOf]; omega
          | true =>
            have hmay : mayS x := (mayB_iff x).1 hm
            rw [hm] at hmx
            have HMX := Lib.hid hmx
            have HMAY := Lib.hid hmay
            have hxl : x.l ≤ 1048575 := hmay.2.2
            clear hm hmx hmay
            go_wp2_with (go_at_call 52; refine (HMX.out _).mono ?_; rintro e w1 ⟨rfl, b1⟩; refine Hid.out ?_)
            refine Lib.hid ?_
            have HB1 := Lib.hid (below_up HBX.out b1 HBX.out.size)
            have d0 : w1.cell? ⟨b, k + i * 2, none⟩ = some (.int .i64 x.f) := (b1.cell (p := ⟨b, k + i * 2, none⟩) hbw).trans c0
            have d1 : w1.cell? ⟨b, k + i * 2 + 1, none⟩ = some (.int .i64 x.l) := (b1.cell (p := ⟨b, k + i * 2 + 1, none⟩) hbw).trans c1
            clear b1 c0 c1
            by_cases h1 : x.f ≤ n' + 1
            · by_cases h2 : n' < x.l
              · have HL2 := Lib.hid (run_more HL.out HXM.out HMAY.out h1)
                clear HKEEP HL
                go_wp2
                go_roundw
                case rel => exact ⟨x.l, true, i + 1, rfl, rfl, rfl, hlt, by omega, hxl, HL2, Lib.hid (fun h => by cases h), Lib.hid (fun _ => by omega), HB1.out⟩
                case measure => simp only [intOf]; omega
              · have HNE := Lib.hid (show more = false → ¬ (mayS x ∧ extS n x) from fun hm h => h2 (by rw [HSAME.out hm]; exact h.2.2))
                have HK2 := Lib.hid (show more = false → n' = n ∧ ∀ y ∈ l.take (i + 1), mayS y → ¬ extS n y from fun hm => HKEEP.out (HNE.out hm) hm)
                clear HKEEP HNE
                go_wp2
                go_roundw
                case rel => exact ⟨n', more, i + 1, rfl, rfl, rfl, hlt, hnn, hn2', HL, HK2, HT, HB1.out⟩
                case measure => simp only [intOf]; omega
            · have HNE := Lib.hid (show more = false → ¬ (mayS x ∧ extS n x) from fun hm h => h1 (by rw [HSAME.out hm]; exact h.2.1))
              have HK2 := Lib.hid (show more = false → n' = n ∧ ∀ y ∈ l.take (i + 1), mayS y → ¬ extS n y from fun hm => HKEEP.out (HNE.out hm) hm)
              clear HKEEP HNE
              go_wp2
              go_roundw
              case rel => exact ⟨n', more, i + 1, rfl, rfl, rfl, hlt, hnn, hn2', HL, HK2, HT, HB1.out⟩
              case measure => simp only [intOf]; omega
        · have hlti : ¬ (i : Int) < (l.length : Int) := by omega
          have HBX := Lib.hid hbel
          have HE2 := Lib.hid (show more = false → ∀ x ∈ l, mayS x → ¬ extS n' x from fun hm => by
            obtain ⟨e1, e2⟩ := HE.out hm
            rw [List.take_of_length_le (by omega)] at e2
            rw [e1]; exact e2)
          have hfuel : (1048576 - n').toNat * 2 + (if more then 1 else 0) < (1048576 - n).toNat * 2 + 1 := by
            cases more with
            | true => have := HT.out rfl; simp; omega
            | false => have := (HE.out rfl).1; simp; omega
          have HFU := Lib.hid hfuel
          clear hbel HE HT hfuel
          go_wp2
          go_roundg ((1048576 - n').toNat * 2 + (if more then 1 else 0))
          case measure => have := HFU.out; have := hgg2.out; simp at this; omega
          case rel => exact ⟨n', more, rfl, rfl, by omega, hn2', HL, HE2, Nat.le_refl _, HBX.out⟩
end Go.Proofs.Ytgelbeglffjdaaa
