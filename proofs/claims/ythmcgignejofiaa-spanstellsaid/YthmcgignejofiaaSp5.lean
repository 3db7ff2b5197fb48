/- Package spans: Has; slices.ContainsFunc over spans. -/
import Derived.Test.YthmcgignejofiaaSp4
namespace Go.Proofs.Ythmcgignejofiaa
open Go Go.RowKit Go.Shelf

set_option maxRecDepth 100000 in
set_option maxHeartbeats 1000000 in
theorem has1_any (s x : Spn) (B : Nat) (W : World) (hB : Bx W B 24 (sR s)) : Calls Try.prog 34 #[.agg (sR x).toArray, .pointer (some ⟨B, 0, none⟩)] W fun e w' => e = .returned (.bool (decide (x.f ≤ s.f ∧ s.l ≤ x.l))) ∧ Below W.heap.size W w' := by
  have HB := Lib.hid ((Below.refl W.heap.size W).alloc (Nat.le_refl _) (.cells (sR x).toArray 24))
  have hr := rangeAll (Bx.new W 24 (sR x))
  have d0 := rng0 hr
  have d1 := rng1 hr
  have hs := rangeAll (hB.al (.cells (sR x).toArray 24))
  have c0 := rng0 hs
  have c1 := rng1 hs
  have hr2 := rangeAll hB
  have e0 := rng0 hr2
  have e1 := rng1 hr2
  have hlt := hB.lt
  have hne : B ≠ W.heap.size := by omega
  obtain ⟨r, hrr⟩ : ∃ r, decide (x.f ≤ s.f ∧ s.l ≤ x.l) = r := ⟨_, rfl⟩
  rw [hrr]
  have HD := Lib.hid hrr.symm
  clear hrr
  clear hr hs hr2 hB
  go_enter Try.func34, Try.ntmps34
  go_wp2
  all_goals (go_ret; refine ⟨?_, HB.out⟩; rw [HD.out]; simp_all <;> omega)
set_option maxRecDepth 100000 in
set_option maxHeartbeats 1000000 in
theorem contains_any (v : Value) (m : List Spn) (s : Spn) (B : Nat) (w : World) (h : IsS w v m) (hB : Bx w B 24 (sR s)) :
    Calls Try.prog 33 #[v, .func (.func 34) #[] #[.pointer (some ⟨B, 0, none⟩)]] w fun e w' => e = .returned (.bool (m.any fun x => decide (x.f ≤ s.f ∧ s.l ≤ x.l))) ∧ Below w.heap.size w w' := by
  haveI : Inhabited Spn := ⟨⟨0, 0⟩⟩
  obtain ⟨a, c, rfl, hc⟩ := h.form
  by_cases hm : m = []
  · subst hm
    go_enter Try.func33, Try.ntmps33
    go_wp2
    go_loopw [8] (fun r wr => r = .int .i64 0 ∧ wr = w) (fun _ _ => 0)
    case atStart => exact ⟨rfl, rfl⟩
    case round =>
      obtain ⟨rfl, rfl⟩ := hrel
      go_wp2
      go_ret
      exact ⟨rfl, Below.refl _ _⟩
  · have hpos : 0 < m.length := List.length_pos_iff.2 hm
    obtain ⟨_, _, _, h4⟩ := h.shape
    obtain ⟨b, k, rfl, hb, hr⟩ := h4 hpos
    have eg : ∀ args w, (callFunc 34 args).run Try.prog w = .ok (.enter 34 args) w := enters_of Try.func34 (by kernel_rfl) rfl
    have hcon := AnyQ.slices_ContainsFunc Try.contSp 2 Try.isAgg24 Try.sizeOf24 sR (fun _ => rfl) (fun x => decide (x.f ≤ s.f ∧ s.l ≤ x.l)) 34 #[.pointer (some ⟨B, 0, none⟩)] eg b k m.length c m w
      (fun W x hW => (has1_any s x B W (hB.up hW)).mono fun e w' he => ⟨he.1, below_up hW he.2 hW.size⟩) (Nat.le_refl _) (by have := h.shape.2.1; omega) hb
      (fun j hj i v hv => by
        have h1 := flat_range (sR_all m) hr j m[j] (List.getElem?_eq_getElem hj) i v (by rw [getElem!_pos m j hj] at hv; exact hv)
        exact h1)
    change Calls Try.prog 33 _ _ _ at hcon
    rw [List.take_length] at hcon
    exact hcon
set_option maxRecDepth 100000 in
set_option maxHeartbeats 1000000 in
theorem shas_any (v : Value) (l : List Spn) (s : Spn) (w : World) (h : IsS w v l) (hN : l.length ≤ 100000) :
    Calls Try.prog 18 #[v, sV s] w fun e w' => e = .returned (.bool (hasS l s)) ∧ Below w.heap.size w w' := by
  obtain ⟨a, c, rfl, hc⟩ := h.form
  have hb0 : Below w.heap.size w (w.alloc (.cells (sR s).toArray 24)) := (Below.refl _ _).alloc (Nat.le_refl _) _
  have HM := Lib.hid (fun W => may_any s W)
  have HB0 := Lib.hid hb0
  have HI := Lib.hid (h.below hb0)
  have HBX := Lib.hid (Bx.new w 24 (sR s))
  have HS := Lib.hid (show hasS l s = (mayB s && (normS l).any fun x => decide (x.f ≤ s.f ∧ s.l ≤ x.l)) from rfl)
  have HNO := Lib.hid (fun v' W (hW : IsS W v' l) => snorm_any v' l W hW hN)
  rw [show sV s = .agg (sR s).toArray from rfl]
  have c0 : (sR s)[0]? = some (.int .i64 s.f) := rfl
  have c1 : (sR s)[1]? = some (.int .i64 s.l) := rfl
  clear h hb0
  cases hm : mayB s with
  | false =>
    rw [hm] at HM
    rw [HS.out, hm, Bool.false_and]
    clear HS
    go_enter Try.func18, Try.ntmps18
    go_wp2_with (go_at_call 30; refine (HM.out _).mono ?_; rintro e w1 ⟨rfl, b1⟩; refine Hid.out ?_)
    refine Lib.hid ?_
    have HB1 := Lib.hid (below_up HB0.out b1 HB0.out.size)
    clear b1
    go_wp2
    go_ret
    exact ⟨rfl, HB1.out⟩
  | true =>
    rw [hm] at HM
    rw [HS.out, hm, Bool.true_and]
    clear HS
    obtain ⟨r, hr⟩ : ∃ r, ((normS l).any fun x => decide (x.f ≤ s.f ∧ s.l ≤ x.l)) = r := ⟨_, rfl⟩
    rw [hr]
    have HR := Lib.hid hr
    clear hr
    go_enter Try.func18, Try.ntmps18
    go_wp2_with (go_at_call 30; refine (HM.out _).mono ?_; rintro e w1 ⟨rfl, b1⟩; refine Hid.out ?_)
    refine Lib.hid ?_
    have HB1 := Lib.hid (below_up HB0.out b1 HB0.out.size)
    have HI1 := Lib.hid (HI.out.below b1)
    have HX1 := Lib.hid (HBX.out.up b1)
    clear b1
    go_wp2_with (go_at_call 10; refine (HNO.out _ _ HI1.out).mono ?_; rintro e w2 ⟨v2, rfl, i2, b2⟩; refine Hid.out ?_)
    refine Lib.hid ?_
    have hc2 := contains_any v2 (normS l) s w.heap.size w2 i2 (HX1.out.up b2)
    rw [HR.out] at hc2
    have HC := Lib.hid hc2
    clear hc2
    have HB2 := Lib.hid (below_up HB1.out b2 HB1.out.size)
    obtain ⟨a2, c2, rfl, hc2⟩ := i2.form
    clear b2 i2
    go_wp2_with (go_at_call 33; refine HC.out.mono ?_; rintro e w3 ⟨rfl, b3⟩; refine Hid.out ?_)
    refine Lib.hid ?_
    have HB3 := Lib.hid (below_up HB2.out b3 HB2.out.size)
    clear b3
    go_wp2
    go_ret
    exact ⟨rfl, HB3.out⟩
end Go.Proofs.Ythmcgignejofiaa
