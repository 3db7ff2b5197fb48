/- Package spans: Count, Longest, First. -/
import Derived.Test.YthmcgignejofiaaSp4
namespace Go.Proofs.Ythmcgignejofiaa
open Go Go.RowKit Go.Shelf

set_option maxRecDepth 100000 in
set_option maxHeartbeats 2000000 in
theorem scount_any (v : Value) (l : List Spn) (w : World) (h : IsS w v l) (hN : l.length ≤ 100000) :
    Calls Try.prog 22 #[v] w fun e w' => e = .returned (.int .i64 (cntS (normS l))) ∧ Below w.heap.size w w' := by
  obtain ⟨a, c, rfl, hc⟩ := h.form
  have HT := Lib.hid (snorm_any _ l w h hN)
  have HC := Lib.hid (fun x W hx => count_any x W hx)
  have hml := normS_length_le l
  have HNO := Lib.hid (norm_ok l).1
  generalize normS l = m at *
  clear h
  go_enter Try.func22, Try.ntmps22
  go_wp2_with (go_at_call 10; refine HT.out.mono ?_; rintro e w1 ⟨v1, rfl, h1, b1⟩; refine Hid.out ?_)
  refine Lib.hid ?_
  obtain ⟨a1, c1, rfl, hc1⟩ := h1.form
  have HS := Lib.hid h1
  have HB := Lib.hid b1
  clear h1 b1
  go_wp2
  go_loopw [3, 9] (fun r i wr => ∃ k : Nat, k ≤ m.length ∧ i = .int .i64 (k : Int) ∧ r = .int .i64 (cntS (m.take k)) ∧ Below w1.heap.size w1 wr) (fun _ i _ => m.length - (intOf i).toNat)
  case atStart => exact ⟨0, Nat.zero_le _, rfl, rfl, Below.refl _ _⟩
  case round =>
    obtain ⟨k, hk, rfl, rfl, hbel⟩ := hrel
    by_cases hlt : k < m.length
    · have hlti : (k : Int) < (m.length : Int) := by omega
      obtain ⟨x, hx⟩ : ∃ x, m[k]? = some x := ⟨m[k], List.getElem?_eq_getElem hlt⟩
      have hxm := HNO.out.may x (List.mem_of_getElem? hx)
      obtain ⟨b, o, e1, hrl⟩ : ∃ b o, a1 = some ⟨b, o, none⟩ ∧ b < w1.heap.size := by
        obtain ⟨_, _, _, h4⟩ := HS.out.shape
        obtain ⟨b, o, e1, e2, _⟩ := h4 (by omega)
        exact ⟨b, o, e1, e2⟩
      subst e1
      have hr := IsS.range (HS.out.below hbel) k x hx
      have c0 := rng0 hr
      have c1' := rng1 hr
      have HCX := Lib.hid (fun W => HC.out x W hxm)
      have hcb := cntS_bound (normal_take HNO.out k)
      have hnx : cntS (m.take (k + 1)) = cntS (m.take k) + (x.l - x.f + 1) := by rw [take_next hx, cntS_snoc]
      have HNX := Lib.hid hnx
      have hD : 1 ≤ x.l - x.f + 1 ∧ x.l - x.f + 1 ≤ 1048576 := by unfold mayS at hxm; omega
      have HBW := Lib.hid hbel
      clear hr hx hxm hnx hbel
      generalize cntS (m.take k) = C at *
      generalize x.l - x.f + 1 = D at *
      obtain ⟨hC1, hC2⟩ := hcb
      obtain ⟨hD1, hD2⟩ := hD
      go_wp2_with (go_at_call 32; refine (HCX.out _).mono ?_; rintro e w4 ⟨rfl, b4⟩; refine Hid.out ?_)
      refine Lib.hid ?_
      have HB4 := Lib.hid (below_up HBW.out (below_up ((Below.refl _ _).alloc (Nat.le_refl _) _) b4 (by simp)) HBW.out.size)
      clear b4
      go_wp2
      go_roundw
      case rel => exact ⟨k + 1, hlt, rfl, by rw [HNX.out], HB4.out⟩
      case measure => simp only [intOf]; omega
    · have hlti : ¬ (k : Int) < (m.length : Int) := by omega
      have HBW := Lib.hid (below_up HB.out hbel HB.out.size)
      clear hbel
      go_wp2
      go_ret
      refine ⟨?_, HBW.out⟩
      rw [List.take_of_length_le (by omega)]
      rfl
set_option maxRecDepth 100000 in
set_option maxHeartbeats 2000000 in
theorem slong_any (v : Value) (l : List Spn) (w : World) (h : IsS w v l) (hN : l.length ≤ 100000) :
    Calls Try.prog 24 #[v] w fun e w' => e = .returned (.int .i64 (longS (normS l) 0)) ∧ Below w.heap.size w w' := by
  obtain ⟨a, c, rfl, hc⟩ := h.form
  have HT := Lib.hid (snorm_any _ l w h hN)
  have HC := Lib.hid (fun x W hx => count_any x W hx)
  have hml := normS_length_le l
  have HNO := Lib.hid (norm_ok l).1
  generalize normS l = m at *
  clear h
  go_enter Try.func24, Try.ntmps24
  go_wp2_with (go_at_call 10; refine HT.out.mono ?_; rintro e w1 ⟨v1, rfl, h1, b1⟩; refine Hid.out ?_)
  refine Lib.hid ?_
  obtain ⟨a1, c1, rfl, hc1⟩ := h1.form
  have HS := Lib.hid h1
  have HB := Lib.hid b1
  clear h1 b1
  go_wp2
  go_loopw [3, 9] (fun r i wr => ∃ k : Nat, k ≤ m.length ∧ i = .int .i64 (k : Int) ∧ r = .int .i64 (longS (m.take k) 0) ∧ Below w1.heap.size w1 wr) (fun _ i _ => m.length - (intOf i).toNat)
  case atStart => exact ⟨0, Nat.zero_le _, rfl, rfl, Below.refl _ _⟩
  case round =>
    obtain ⟨k, hk, rfl, rfl, hbel⟩ := hrel
    by_cases hlt : k < m.length
    · have hlti : (k : Int) < (m.length : Int) := by omega
      obtain ⟨x, hx⟩ : ∃ x, m[k]? = some x := ⟨m[k], List.getElem?_eq_getElem hlt⟩
      have hxm := HNO.out.may x (List.mem_of_getElem? hx)
      obtain ⟨b, o, e1, hrl⟩ : ∃ b o, a1 = some ⟨b, o, none⟩ ∧ b < w1.heap.size := by
        obtain ⟨_, _, _, h4⟩ := HS.out.shape
        obtain ⟨b, o, e1, e2, _⟩ := h4 (by omega)
        exact ⟨b, o, e1, e2⟩
      subst e1
      have hr := IsS.range (HS.out.below hbel) k x hx
      have c0 := rng0 hr
      have c1' := rng1 hr
      have HCX := Lib.hid (fun W => HC.out x W hxm)
      have hnx : longS (m.take (k + 1)) 0 = max (longS (m.take k) 0) (x.l - x.f + 1) := by rw [take_next hx, longS_snoc]
      have HNX := Lib.hid hnx
      have HBW := Lib.hid hbel
      clear hr hx hxm hnx hbel
      generalize longS (m.take k) 0 = C at *
      generalize x.l - x.f + 1 = D at *
      go_wp2_with (go_at_call 32; refine (HCX.out _).mono ?_; rintro e w4 ⟨rfl, b4⟩; refine Hid.out ?_)
      refine Lib.hid ?_
      have HB4 := Lib.hid (below_up HBW.out (below_up ((Below.refl _ _).alloc (Nat.le_refl _) _) b4 (by simp)) HBW.out.size)
      clear b4
      go_wp2
      go_roundw
      case rel => exact ⟨k + 1, hlt, rfl, by rw [HNX.out], HB4.out⟩
      case measure => simp only [intOf]; omega
    · have hlti : ¬ (k : Int) < (m.length : Int) := by omega
      have HBW := Lib.hid (below_up HB.out hbel HB.out.size)
      clear hbel
      go_wp2
      go_ret
      refine ⟨?_, HBW.out⟩
      rw [List.take_of_length_le (by omega)]
      rfl
/-- What First hands back. -/
def fRes (o : Option Spn) : Value := .tuple #[sV (o.getD ⟨0, 0⟩), .bool o.isSome]
theorem built_sp0 : Try.prog.built 24 [] = some (sR ⟨0, 0⟩).toArray := by kernel_rfl
theorem built_sp2 (f l : Int) : Try.prog.built 24 [(0, .int .i64 f), (1, .int .i64 l)] = some (sR ⟨f, l⟩).toArray := by kernel_rfl
set_option maxRecDepth 100000 in
set_option maxHeartbeats 2000000 in
theorem sfirst_any (v : Value) (l : List Spn) (size : Int) (w : World) (h : IsS w v l) (hN : l.length ≤ 100000) :
    Calls Try.prog 16 #[v, .int .i64 size] w fun e w' => e = .returned (fRes (firstS size (normS l))) ∧ Below w.heap.size w w' := by
  obtain ⟨a, c, rfl, hc⟩ := h.form
  have hb : Below w.heap.size w (w.alloc (.cells #[.int .i64 0, .int .i64 0] 24)) := (Below.refl _ _).alloc (Nat.le_refl _) _
  have HB0 := Lib.hid hb
  have HT := Lib.hid (snorm_any _ l _ (h.below hb) hN)
  have HC := Lib.hid (fun x W hx => count_any x W hx)
  have HNB := Lib.hid (Bx.new w 24 [.int .i64 0, .int .i64 0])
  have hml := normS_length_le l
  have HNO := Lib.hid (norm_ok l).1
  by_cases hs : size < 1
  · rw [firstS_low hs]
    clear h hb HNO hml HT HC
    go_enter Try.func16, Try.ntmps16
    go_wp2
    exact bodyPost_ret (v := fRes none) (by simp [results, Try.results16, go_sem, fRes, sV, sR]) rfl ⟨rfl, HB0.out⟩
  · have hs1 : 1 ≤ size := by omega
    generalize normS l = m at *
    clear h hb
    go_enter Try.func16, Try.ntmps16
    go_wp2_with (go_at_call 10; refine HT.out.mono ?_; rintro e w1 ⟨v1, rfl, h1, b1⟩; refine Hid.out ?_)
    refine Lib.hid ?_
    obtain ⟨a1, c1, rfl, hc1⟩ := h1.form
    have HS := Lib.hid h1
    have HB := Lib.hid (below_up HB0.out b1 HB0.out.size)
    have HX1 := Lib.hid (HNB.out.up b1)
    have hw1 := HX1.out.lt
    clear h1 b1 HT HB0 HNB
    go_wp2
    go_loopw [14] (fun i wr => ∃ k : Nat, k ≤ m.length ∧ i = .int .i64 (k : Int) ∧ firstS size m = firstS size (m.drop k) ∧ Below w1.heap.size w1 wr) (fun i _ => m.length - (intOf i).toNat)
    case atStart => exact ⟨0, Nat.zero_le _, rfl, rfl, Below.refl _ _⟩
    case round =>
      obtain ⟨k, hk, rfl, hfs, hbel⟩ := hrel
      by_cases hlt : k < m.length
      · have hlti : (k : Int) < (m.length : Int) := by omega
        obtain ⟨x, hx⟩ : ∃ x, m[k]? = some x := ⟨m[k], List.getElem?_eq_getElem hlt⟩
        have hxm := HNO.out.may x (List.mem_of_getElem? hx)
        obtain ⟨b, o, e1, hrl⟩ : ∃ b o, a1 = some ⟨b, o, none⟩ ∧ b < w1.heap.size := by
          obtain ⟨_, _, _, h4⟩ := HS.out.shape
          obtain ⟨b, o, e1, e2, _⟩ := h4 (by omega)
          exact ⟨b, o, e1, e2⟩
        subst e1
        have hr := IsS.range (HS.out.below hbel) k x hx
        have c0 := rng0 hr
        have c1' := rng1 hr
        have HCX := Lib.hid (fun W => HC.out x W hxm)
        have hfd := firstS_drop (size := size) hx
        have HBW := Lib.hid hbel
        have hbw := hbel.size
        have HFS := Lib.hid hfs
        unfold mayS at hxm
        obtain ⟨hx1, hx2, hx3⟩ := hxm
        clear hr hx hbel hfs
        by_cases hc : size ≤ x.l - x.f + 1
        · rw [if_pos ⟨by omega, hc⟩] at hfd
          have HFD := Lib.hid hfd
          clear hfd
          have hsz2 : size ≤ 1048576 := by omega
          obtain ⟨D, hD⟩ : ∃ D, x.l - x.f + 1 = D := ⟨_, rfl⟩
          rw [hD] at HCX hc
          clear hD
          go_wp2_with (go_at_call 32; refine (HCX.out _).mono ?_; rintro e w4 ⟨rfl, b4⟩; refine Hid.out ?_)
          refine Lib.hid ?_
          have hbn : Below wr.heap.size wr (wr.alloc (.cells #[.int .i64 x.f, .int .i64 x.l] 24)) := (Below.refl _ _).alloc (Nat.le_refl _) _
          have hx4 := (Bx.new wr 24 (sR x)).up b4
          have hq4 := HX1.out.up (below_up HBW.out (below_up hbn b4 hbn.size) hbw)
          have d0 := rng0 (rangeAll hx4)
          have d1 := rng1 (rangeAll hx4)
          have g0 : w4.cell? ⟨w.heap.size, 0, none⟩ = some (.int .i64 0) := by rw [hq4.cell]; rfl
          have g1 : w4.cell? ⟨w.heap.size, 1, none⟩ = some (.int .i64 0) := by rw [hq4.cell]; rfl
          have y0 := hq4.frozen 0
          have y1 := hq4.frozen 1
          have HQ := Lib.hid (((hq4.set 0 (.int .i64 x.f)).set 1 (.int .i64 (x.f + size - 1))))
          have HBQ := Lib.hid (((below_up (below_up HB.out HBW.out HB.out.size) (below_up hbn b4 hbn.size) (Nat.le_trans HB.out.size hbw)).setCell (p := ⟨w.heap.size, 0, none⟩) (Nat.le_refl _) (.int .i64 x.f)).setCell (p := ⟨w.heap.size, 1, none⟩) (Nat.le_refl _) (.int .i64 (x.f + size - 1)))
          have hne : w.heap.size ≠ wr.heap.size := by omega
          clear b4 hbn hx4 hq4
          go_wp2
          rw [HFS.out, HFD.out]
          generalize (w4.setCell ⟨w.heap.size, 0, none⟩ (.int .i64 x.f)).setCell ⟨w.heap.size, 1, none⟩ (.int .i64 (x.f + size - 1)) = WZ at HQ HBQ ⊢
          have z0 := rng0 (x := ⟨x.f, (x.f + size - 1)⟩) (rangeAll HQ.out)
          have z1 := rng1 (x := ⟨x.f, (x.f + size - 1)⟩) (rangeAll HQ.out)
          simp only [Nat.zero_add] at z0 z1
          exact bodyPost_ret (v := fRes (some ⟨x.f, x.f + size - 1⟩)) (by simp [results, Try.results16, go_sem, fRes, sV, sR, z0, z1]) rfl ⟨rfl, HBQ.out⟩
        · rw [if_neg (by omega)] at hfd
          have HFD := Lib.hid hfd
          clear hfd
          obtain ⟨D, hD⟩ : ∃ D, x.l - x.f + 1 = D := ⟨_, rfl⟩
          rw [hD] at HCX hc
          clear hD
          go_wp2_with (go_at_call 32; refine (HCX.out _).mono ?_; rintro e w4 ⟨rfl, b4⟩; refine Hid.out ?_)
          refine Lib.hid ?_
          have HB4 := Lib.hid (below_up HBW.out (below_up ((Below.refl _ _).alloc (Nat.le_refl _) _) b4 (by simp)) HBW.out.size)
          clear b4
          go_wp2
          go_roundw
          case rel => exact ⟨k + 1, hlt, rfl, by rw [HFS.out, HFD.out], HB4.out⟩
          case measure => simp only [intOf]; omega
      · have hlti : ¬ (k : Int) < (m.length : Int) := by omega
        rw [List.drop_of_length_le (by omega)] at hfs
        have HF := Lib.hid (show firstS size m = none from hfs)
        have hq := HX1.out.up hbel
        have HBW := Lib.hid (below_up HB.out hbel HB.out.size)
        have g0 : wr.cell? ⟨w.heap.size, 0, none⟩ = some (.int .i64 0) := by rw [hq.cell]; rfl
        have g1 : wr.cell? ⟨w.heap.size, 1, none⟩ = some (.int .i64 0) := by rw [hq.cell]; rfl
        have y0 := hq.frozen 0
        have y1 := hq.frozen 1
        have HQ := Lib.hid (((hq.set 0 (.int .i64 0)).set 1 (.int .i64 0)))
        have HBQ := Lib.hid ((HBW.out.setCell (p := ⟨w.heap.size, 0, none⟩) (Nat.le_refl _) (.int .i64 0)).setCell (p := ⟨w.heap.size, 1, none⟩) (Nat.le_refl _) (.int .i64 0))
        clear hbel hfs hq
        go_wp2
        rw [HF.out]
        generalize (wr.setCell ⟨w.heap.size, 0, none⟩ (.int .i64 0)).setCell ⟨w.heap.size, 1, none⟩ (.int .i64 0) = WZ at HQ HBQ ⊢
        have z0 := rng0 (x := ⟨0, 0⟩) (rangeAll HQ.out)
        have z1 := rng1 (x := ⟨0, 0⟩) (rangeAll HQ.out)
        simp only [Nat.zero_add] at z0 z1
        exact bodyPost_ret (v := fRes none) (by simp [results, Try.results16, go_sem, fRes, sV, sR, z0, z1]) rfl ⟨rfl, HBQ.out⟩
end Go.Proofs.Ythmcgignejofiaa
