/- The document's spans: Add, Count, Longest. -/
import Derived.Test.YthmcgignejofiaaRs3
namespace Go.Proofs.Ythmcgignejofiaa
open Go Go.RowKit Go.Shelf

set_option maxRecDepth 100000 in
set_option maxHeartbeats 2000000 in
theorem radd_any (v : Value) (l : List Spn) (s : Spn) (w : World) (h : IsS w v l) (hN : l.length ≤ 100000) :
    Calls Try.prog 13 #[v, sV s] w fun e w' => ∃ v', e = .returned v' ∧ IsS w' v' (addS l s) ∧ Below w.heap.size w w' := by
  obtain ⟨a, c, rfl, hc⟩ := h.form
  have hb0 : Below w.heap.size w (w.alloc (.cells (sR s).toArray 24)) := (Below.refl _ _).alloc (Nat.le_refl _) _
  have HB0 := Lib.hid hb0
  have HX0 := Lib.hid (Bx.new w 24 (sR s))
  have HI0 := Lib.hid (h.below hb0)
  have HO0 := Lib.hid (World.ownsRow_nil (w.alloc (.cells (sR s).toArray 24)) w.heap.size 24 2)
  obtain ⟨ti, hti, htz, hts, htb⟩ := info_parts sp_infoF
  rw [show sV s = .agg (sR s).toArray from rfl]
  clear h hb0
  go_enter Try.func13, Try.ntmps13
  go_wp2_with (at_builtin; refine append_flat rfl (.tmp 6) (.tmp 7) 22 rfl w.heap.size 24 ti (sV ⟨0, 0⟩) 16 Try.underlying22 hti htz hts htb rfl (by decide) (by decide) _ 0 [] rfl HO0.out _ _ _ l rfl HI0.out (fun y _ => sR_one y) (by omega) (by simp) ?_; intro v1 w1 hown hgr; refine Hid.out ?_)
  refine Lib.hid ?_
  rw [Nat.zero_add, List.nil_append] at hown
  have hgr1 : (w.alloc (.cells (sR s).toArray 24)).grownBy w1 none := hgr
  have hx1 : Bx w1 w.heap.size 24 (sR s) := (hgr1.block _ HX0.out.lt (fun e => by cases e)).trans HX0.out
  have hb1 : Below w.heap.size w w1 := HB0.out.grown hgr1 (by simp) (fun k e => by cases e)
  have hr1 := rangeAll hx1
  have d0 := rng0 hr1
  have d1 := rng1 hr1
  simp only [Nat.zero_add] at d1
  have hb2 : Below w1.heap.size w1 (w1.alloc (.cells (sR s).toArray 24)) := (Below.refl _ _).alloc (Nat.le_refl _) _
  have HROW := Lib.hid (own_below hown hb2)
  have HBN := Lib.hid (Bx.new w1 24 (sR s))
  have HB2 := Lib.hid (below_up hb1 hb2 hb1.size)
  have hs2 : (w1.alloc (.cells (sR s).toArray 24)).heap.size = w1.heap.size + 1 := by simp
  have hs1 := hb1.size
  clear hown hgr hgr1 hx1 hb1 hr1 hb2 HX0 HB0 HI0 HO0
  go_wp2_with (first
    | (refine plV rfl (.slice (some ⟨w1.heap.size, 0, none⟩) 1 1) (exec_one_spb (.tmp 10) rfl s rfl _ rfl) ?_)
    | (at_builtin; refine wpList_append_own _ rfl _ _ 22 rfl w.heap.size 24 ti (sV ⟨0, 0⟩) 2 16 Try.underlying22 hti htz hts htb rfl (by decide) _ _ _ rfl HROW.out ⟨w1.heap.size, 0, none⟩ 1 1 (sR s) rfl rfl (fun j u hj => World.news_of_block HBN.out j u (by simpa using hj)) (sR_one _) (by unfold maxLen; omega) (by omega) (by omega) ?_; intro v2 w3 hown2 hgr2 _; refine Hid.out ?_))
  refine Lib.hid ?_
  obtain ⟨g', cap', rfl⟩ := ownsRow_succ hown2
  have hi3 : IsS w3 (.slice (some ⟨g', 0, none⟩) (l.length + 1) cap') (l ++ [s]) := IsC.of_owned (sR_all _) (by simpa using hown2)
  have HB3 := Lib.hid (HB2.out.grown hgr2 (by omega) (fun k e => owned_low HROW.out k e))
  have HNO := Lib.hid (rnorm_any _ (l ++ [s]) w3 hi3 (by simp; omega))
  clear hown2 hgr2 hi3 HROW HBN
  go_wp2_with (go_at_call 11; refine HNO.out.mono ?_; rintro e w4 ⟨v4, rfl, i4, b4⟩; refine Hid.out ?_)
  refine Lib.hid ?_
  obtain ⟨a4, c4, rfl, _⟩ := i4.form
  have HR := Lib.hid (⟨i4, below_up HB3.out b4 HB3.out.size⟩ : _ ∧ _)
  clear i4 b4
  go_wp2
  go_ret
  exact ⟨_, rfl, HR.out⟩
def HeldQ (b k : Nat) (f e : Int) (W : World) : Prop := W.cell? ⟨b, k, none⟩ = some (.int .i64 f) ∧ W.cell? ⟨b, k + 1, none⟩ = some (.int .i64 e)
set_option maxRecDepth 100000 in
set_option maxHeartbeats 2000000 in
theorem rcount_any (v : Value) (l : List Spn) (w : World) (h : IsS w v l) (hN : l.length ≤ 200000) :
    Calls Try.prog 23 #[v] w fun e w' => e = .returned (.int .i64 (cntS (normS l))) ∧ Below w.heap.size w w' := by
  obtain ⟨a, c, rfl, hc⟩ := h.form
  have HT := Lib.hid (rnorm_any _ l w h hN)
  have hml := normS_length_le l
  have HNO := Lib.hid (norm_ok l).1
  generalize normS l = m at *
  clear h
  go_enter Try.func23, Try.ntmps23
  go_wp2_with (go_at_call 11; refine HT.out.mono ?_; rintro e w1 ⟨v1, rfl, h1, b1⟩; refine Hid.out ?_)
  refine Lib.hid ?_
  obtain ⟨a1, c1, rfl, hc1⟩ := h1.form
  have HS := Lib.hid h1
  have HB := Lib.hid b1
  clear h1 b1 HT
  go_wp2
  go_loopw [4, 5] (fun r i wr => ∃ k : Nat, k ≤ m.length ∧ i = .int .i64 (k : Int) ∧ r = .int .i64 (cntS (m.take k)) ∧ Below w1.heap.size w1 wr) (fun _ i _ => m.length - (intOf i).toNat)
  case atStart => exact ⟨0, Nat.zero_le _, rfl, rfl, Below.refl _ _⟩
  case round =>
    obtain ⟨k, hk, rfl, rfl, hbel⟩ := hrel
    by_cases hlt : k < m.length
    · have hlti : (k : Int) < (m.length : Int) := by omega
      have h0k : (0 : Int) ≤ (k : Int) := by omega
      obtain ⟨x, hx⟩ : ∃ x, m[k]? = some x := ⟨m[k], List.getElem?_eq_getElem hlt⟩
      have hxm := HNO.out.may x (List.mem_of_getElem? hx)
      obtain ⟨b, o, rfl, hbl⟩ := HS.out.place (by omega)
      have hr := IsS.range (HS.out.below hbel) k x hx
      have hH : HeldQ b (o + k * 2) x.f x.l wr.drew := ⟨rng0 hr, rng1 hr⟩
      have hcb := cntS_bound (normal_take HNO.out k)
      have hnx : cntS (m.take (k + 1)) = cntS (m.take k) + (x.l - x.f + 1) := by rw [take_next hx, cntS_snoc]
      have k3 : IntKind.i64.wrap (cntS (m.take k) + (x.l - x.f + 1)) = cntS (m.take k) + (x.l - x.f + 1) := by unfold mayS at hxm; simp [IntKind.wrap, IntKind.bits, IntKind.signed]; omega
      have k1 : IntKind.i64.wrap (x.l - x.f) = x.l - x.f := by unfold mayS at hxm; simp [IntKind.wrap, IntKind.bits, IntKind.signed]; omega
      have k2 : IntKind.i64.wrap (x.l - x.f + 1) = x.l - x.f + 1 := by unfold mayS at hxm; simp [IntKind.wrap, IntKind.bits, IntKind.signed]; omega
      have HNX := Lib.hid hnx
      have HB2 := Lib.hid (below_up hbel ((Below.refl wr.heap.size wr).drew) hbel.size)
      obtain ⟨C, hC⟩ : ∃ C, cntS (m.take k) = C := ⟨_, rfl⟩
      rw [hC] at HNX k3 ⊢
      clear hr hx hxm hnx hbel hC hcb
      go_wp2
      refine wp_region_noPanic ?_
      refine wp_region_held_drew (S := HeldQ b (o + k * 2) x.f x.l) (by kernel_rfl) hH (fun hHeld => ?_)
      refine held_take (v := ?v97) 0 rfl (by kernel_rfl) (by kernel_rfl) (by kernel_rfl) (fun _ _ _ h => h) (by rfl) ?y97 (by assumption) ?_
      case y97 => (intro w hSw; unfold HeldQ at hSw; go_simp; (try with_reducible rfl); (try omega))
      simp only [List.setIfInBounds_toArray, List.set_cons_zero, List.set_cons_succ]
      refine held_take (v := ?v100) 1 rfl (by kernel_rfl) (by kernel_rfl) (by kernel_rfl) (fun _ _ _ h => h) (by rfl) ?y100 (by assumption) ?_
      case y100 => (intro w hSw; unfold HeldQ at hSw; go_simp; (try with_reducible rfl); (try omega))
      simp only [List.setIfInBounds_toArray, List.set_cons_zero, List.set_cons_succ]
      refine held_take (v := ?v103) 2 rfl (by kernel_rfl) (by kernel_rfl) (by kernel_rfl) (fun _ _ _ h => h) (by rfl) ?y103 (by assumption) ?_
      case y103 => (intro w hSw; unfold HeldQ at hSw; go_simp; (try with_reducible rfl); (try omega))
      simp only [List.setIfInBounds_toArray, List.set_cons_zero, List.set_cons_succ]
      refine held_take (v := ?v106) 3 rfl (by kernel_rfl) (by kernel_rfl) (by kernel_rfl) (fun _ _ _ h => h) (by rfl) ?y106 (by assumption) ?_
      case y106 => (intro w hSw; unfold HeldQ at hSw; go_simp; (try with_reducible rfl); (try omega))
      simp only [List.setIfInBounds_toArray, List.set_cons_zero, List.set_cons_succ]
      refine held_take (v := ?v109) 4 rfl (by kernel_rfl) (by kernel_rfl) (by kernel_rfl) (fun _ _ _ h => h) (by rfl) ?y109 (by assumption) ?_
      case y109 => (intro w hSw; unfold HeldQ at hSw; go_simp; (try with_reducible rfl); (try omega))
      simp only [List.setIfInBounds_toArray, List.set_cons_zero, List.set_cons_succ]
      refine held_take (v := ?v112) 5 rfl (by kernel_rfl) (by kernel_rfl) (by kernel_rfl) (fun _ _ _ h => h) (by rfl) ?y112 (by assumption) ?_
      case y112 => (intro w hSw; unfold HeldQ at hSw; go_simp; (try with_reducible rfl); (try omega))
      simp only [List.setIfInBounds_toArray, List.set_cons_zero, List.set_cons_succ]
      refine held_take (v := ?v115) 6 rfl (by kernel_rfl) (by kernel_rfl) (by kernel_rfl) (fun _ _ _ h => h) (by rfl) ?y115 (by assumption) ?_
      case y115 => (intro w hSw; unfold HeldQ at hSw; go_simp; (try with_reducible rfl); (try omega))
      simp only [List.setIfInBounds_toArray, List.set_cons_zero, List.set_cons_succ]
      refine held_take (v := ?v118) 7 rfl (by kernel_rfl) (by kernel_rfl) (by kernel_rfl) (fun _ _ _ h => h) (by rfl) ?y118 (by assumption) ?_
      case y118 => (intro w hSw; unfold HeldQ at hSw; go_simp; (try with_reducible rfl); (try omega))
      simp only [List.setIfInBounds_toArray, List.set_cons_zero, List.set_cons_succ]
      refine held_take (v := ?v121) 8 rfl (by kernel_rfl) (by kernel_rfl) (by kernel_rfl) (fun _ _ _ h => h) (by rfl) ?y121 (by assumption) ?_
      case y121 => (intro w hSw; unfold HeldQ at hSw; go_simp; (try with_reducible rfl); (try omega))
      simp only [List.setIfInBounds_toArray, List.set_cons_zero, List.set_cons_succ]
      refine held_take (v := ?v124) 9 rfl (by kernel_rfl) (by kernel_rfl) (by kernel_rfl) (fun _ _ _ h => h) (by rfl) ?y124 (by assumption) ?_
      case y124 => (intro w hSw; unfold HeldQ at hSw; go_simp; (try with_reducible rfl); (try omega))
      simp only [List.setIfInBounds_toArray, List.set_cons_zero, List.set_cons_succ]
      refine held_take (v := ?v127) 10 rfl (by kernel_rfl) (by kernel_rfl) (by kernel_rfl) (fun _ _ _ h => h) (by rfl) ?y127 (by assumption) ?_
      case y127 => (intro w hSw; unfold HeldQ at hSw; go_simp; (try with_reducible rfl); (try omega))
      simp only [List.setIfInBounds_toArray, List.set_cons_zero, List.set_cons_succ]
      refine held_take (v := .int .i64 (x.l - x.f)) 11 rfl (by kernel_rfl) (by kernel_rfl) (by kernel_rfl) (fun _ _ _ h => h) (by rfl) (fun W hSw => (by go_simp; (try exact k1))) (by assumption) ?_
      simp only [List.setIfInBounds_toArray, List.set_cons_zero, List.set_cons_succ]
      refine held_take (v := .int .i64 (x.l - x.f + 1)) 12 rfl (by kernel_rfl) (by kernel_rfl) (by kernel_rfl) (fun _ _ _ h => h) (by rfl) (fun W hSw => (by go_simp; (try exact k2))) (by assumption) ?_
      simp only [List.setIfInBounds_toArray, List.set_cons_zero, List.set_cons_succ]
      refine held_take (v := .int .i64 (C + (x.l - x.f + 1))) 13 rfl (by kernel_rfl) (by kernel_rfl) (by kernel_rfl) (fun _ _ _ h => h) (by rfl) (fun W hSw => (by go_simp; (try exact k3))) (by assumption) ?_
      simp only [List.setIfInBounds_toArray, List.set_cons_zero, List.set_cons_succ]
      refine held_take (v := ?v136) 14 rfl (by kernel_rfl) (by kernel_rfl) (by kernel_rfl) (fun _ _ _ h => h) (by rfl) ?y136 (by assumption) ?_
      case y136 => (intro w hSw; unfold HeldQ at hSw; go_simp; (try with_reducible rfl); (try omega))
      simp only [List.setIfInBounds_toArray, List.set_cons_zero, List.set_cons_succ]
      refine wpAnyH_done (by kernel_rfl) ?_ _
      refine NoPanic.normal ?_
      go_wp2
      go_roundw
      case rel => exact ⟨k + 1, hlt, rfl, by rw [HNX.out], HB2.out⟩
      case measure => simp only [intOf]; omega
    · have hlti : ¬ (k : Int) < (m.length : Int) := by omega
      have HBW := Lib.hid (below_up HB.out hbel HB.out.size)
      clear hbel
      go_wp2
      go_ret
      refine ⟨?_, HBW.out⟩
      rw [List.take_of_length_le (by omega)]
      rfl
set_option maxRecDepth 100000 in
set_option maxHeartbeats 2000000 in
theorem rlong_any (v : Value) (l : List Spn) (w : World) (h : IsS w v l) (hN : l.length ≤ 200000) :
    Calls Try.prog 25 #[v] w fun e w' => e = .returned (.int .i64 (longS (normS l) 0)) ∧ Below w.heap.size w w' := by
  obtain ⟨a, c, rfl, hc⟩ := h.form
  have HT := Lib.hid (rnorm_any _ l w h hN)
  have hml := normS_length_le l
  have HNO := Lib.hid (norm_ok l).1
  generalize normS l = m at *
  clear h
  go_enter Try.func25, Try.ntmps25
  go_wp2_with (go_at_call 11; refine HT.out.mono ?_; rintro e w1 ⟨v1, rfl, h1, b1⟩; refine Hid.out ?_)
  refine Lib.hid ?_
  obtain ⟨a1, c1, rfl, hc1⟩ := h1.form
  have HS := Lib.hid h1
  have HB := Lib.hid b1
  clear h1 b1 HT
  go_wp2
  go_loopw [4, 5] (fun r i wr => ∃ k : Nat, k ≤ m.length ∧ i = .int .i64 (k : Int) ∧ r = .int .i64 (longS (m.take k) 0) ∧ Below w1.heap.size w1 wr) (fun _ i _ => m.length - (intOf i).toNat)
  case atStart => exact ⟨0, Nat.zero_le _, rfl, rfl, Below.refl _ _⟩
  case round =>
    obtain ⟨k, hk, rfl, rfl, hbel⟩ := hrel
    by_cases hlt : k < m.length
    · have hlti : (k : Int) < (m.length : Int) := by omega
      have h0k : (0 : Int) ≤ (k : Int) := by omega
      obtain ⟨x, hx⟩ : ∃ x, m[k]? = some x := ⟨m[k], List.getElem?_eq_getElem hlt⟩
      have hxm := HNO.out.may x (List.mem_of_getElem? hx)
      obtain ⟨b, o, rfl, hbl⟩ := HS.out.place (by omega)
      have hr := IsS.range (HS.out.below hbel) k x hx
      have hH : HeldQ b (o + k * 2) x.f x.l wr.drew := ⟨rng0 hr, rng1 hr⟩
      have hnx : longS (m.take (k + 1)) 0 = max (longS (m.take k) 0) (x.l - x.f + 1) := by rw [take_next hx, longS_snoc]
      have k1 : IntKind.i64.wrap (x.l - x.f) = x.l - x.f := by unfold mayS at hxm; simp [IntKind.wrap, IntKind.bits, IntKind.signed]; omega
      have k2 : IntKind.i64.wrap (x.l - x.f + 1) = x.l - x.f + 1 := by unfold mayS at hxm; simp [IntKind.wrap, IntKind.bits, IntKind.signed]; omega
      have HNX := Lib.hid hnx
      have HB2 := Lib.hid (below_up hbel ((Below.refl wr.heap.size wr).drew) hbel.size)
      obtain ⟨C, hC⟩ : ∃ C, longS (m.take k) 0 = C := ⟨_, rfl⟩
      rw [hC] at HNX  ⊢
      clear hr hx hxm hnx hbel hC 
      go_wp2
      refine wp_region_noPanic ?_
      refine wp_region_held_drew (S := HeldQ b (o + k * 2) x.f x.l) (by kernel_rfl) hH (fun hHeld => ?_)
      refine held_take (v := ?v194) 0 rfl (by kernel_rfl) (by kernel_rfl) (by kernel_rfl) (fun _ _ _ h => h) (by rfl) ?y194 (by assumption) ?_
      case y194 => (intro w hSw; unfold HeldQ at hSw; go_simp; (try with_reducible rfl); (try omega))
      simp only [List.setIfInBounds_toArray, List.set_cons_zero, List.set_cons_succ]
      refine held_take (v := ?v197) 1 rfl (by kernel_rfl) (by kernel_rfl) (by kernel_rfl) (fun _ _ _ h => h) (by rfl) ?y197 (by assumption) ?_
      case y197 => (intro w hSw; unfold HeldQ at hSw; go_simp; (try with_reducible rfl); (try omega))
      simp only [List.setIfInBounds_toArray, List.set_cons_zero, List.set_cons_succ]
      refine held_take (v := ?v200) 2 rfl (by kernel_rfl) (by kernel_rfl) (by kernel_rfl) (fun _ _ _ h => h) (by rfl) ?y200 (by assumption) ?_
      case y200 => (intro w hSw; unfold HeldQ at hSw; go_simp; (try with_reducible rfl); (try omega))
      simp only [List.setIfInBounds_toArray, List.set_cons_zero, List.set_cons_succ]
      refine held_take (v := ?v203) 3 rfl (by kernel_rfl) (by kernel_rfl) (by kernel_rfl) (fun _ _ _ h => h) (by rfl) ?y203 (by assumption) ?_
      case y203 => (intro w hSw; unfold HeldQ at hSw; go_simp; (try with_reducible rfl); (try omega))
      simp only [List.setIfInBounds_toArray, List.set_cons_zero, List.set_cons_succ]
      refine held_take (v := ?v206) 4 rfl (by kernel_rfl) (by kernel_rfl) (by kernel_rfl) (fun _ _ _ h => h) (by rfl) ?y206 (by assumption) ?_
      case y206 => (intro w hSw; unfold HeldQ at hSw; go_simp; (try with_reducible rfl); (try omega))
      simp only [List.setIfInBounds_toArray, List.set_cons_zero, List.set_cons_succ]
      refine held_take (v := ?v209) 5 rfl (by kernel_rfl) (by kernel_rfl) (by kernel_rfl) (fun _ _ _ h => h) (by rfl) ?y209 (by assumption) ?_
      case y209 => (intro w hSw; unfold HeldQ at hSw; go_simp; (try with_reducible rfl); (try omega))
      simp only [List.setIfInBounds_toArray, List.set_cons_zero, List.set_cons_succ]
      refine held_take (v := ?v212) 6 rfl (by kernel_rfl) (by kernel_rfl) (by kernel_rfl) (fun _ _ _ h => h) (by rfl) ?y212 (by assumption) ?_
      case y212 => (intro w hSw; unfold HeldQ at hSw; go_simp; (try with_reducible rfl); (try omega))
      simp only [List.setIfInBounds_toArray, List.set_cons_zero, List.set_cons_succ]
      refine held_take (v := ?v215) 7 rfl (by kernel_rfl) (by kernel_rfl) (by kernel_rfl) (fun _ _ _ h => h) (by rfl) ?y215 (by assumption) ?_
      case y215 => (intro w hSw; unfold HeldQ at hSw; go_simp; (try with_reducible rfl); (try omega))
      simp only [List.setIfInBounds_toArray, List.set_cons_zero, List.set_cons_succ]
      refine held_take (v := ?v218) 8 rfl (by kernel_rfl) (by kernel_rfl) (by kernel_rfl) (fun _ _ _ h => h) (by rfl) ?y218 (by assumption) ?_
      case y218 => (intro w hSw; unfold HeldQ at hSw; go_simp; (try with_reducible rfl); (try omega))
      simp only [List.setIfInBounds_toArray, List.set_cons_zero, List.set_cons_succ]
      refine held_take (v := ?v221) 9 rfl (by kernel_rfl) (by kernel_rfl) (by kernel_rfl) (fun _ _ _ h => h) (by rfl) ?y221 (by assumption) ?_
      case y221 => (intro w hSw; unfold HeldQ at hSw; go_simp; (try with_reducible rfl); (try omega))
      simp only [List.setIfInBounds_toArray, List.set_cons_zero, List.set_cons_succ]
      refine held_take (v := ?v224) 10 rfl (by kernel_rfl) (by kernel_rfl) (by kernel_rfl) (fun _ _ _ h => h) (by rfl) ?y224 (by assumption) ?_
      case y224 => (intro w hSw; unfold HeldQ at hSw; go_simp; (try with_reducible rfl); (try omega))
      simp only [List.setIfInBounds_toArray, List.set_cons_zero, List.set_cons_succ]
      refine held_take (v := .int .i64 (x.l - x.f)) 11 rfl (by kernel_rfl) (by kernel_rfl) (by kernel_rfl) (fun _ _ _ h => h) (by rfl) (fun W hSw => (by go_simp; (try exact k1))) (by assumption) ?_
      simp only [List.setIfInBounds_toArray, List.set_cons_zero, List.set_cons_succ]
      refine held_take (v := .int .i64 (x.l - x.f + 1)) 12 rfl (by kernel_rfl) (by kernel_rfl) (by kernel_rfl) (fun _ _ _ h => h) (by rfl) (fun W hSw => (by go_simp; (try exact k2))) (by assumption) ?_
      simp only [List.setIfInBounds_toArray, List.set_cons_zero, List.set_cons_succ]
      refine held_take (v := .int .i64 (max C (x.l - x.f + 1))) 13 rfl (by kernel_rfl) (by kernel_rfl) (by kernel_rfl) (fun _ _ _ h => h) (by rfl) (fun W hSw => (by go_simp)) (by assumption) ?_
      simp only [List.setIfInBounds_toArray, List.set_cons_zero, List.set_cons_succ]
      refine held_take (v := ?v233) 14 rfl (by kernel_rfl) (by kernel_rfl) (by kernel_rfl) (fun _ _ _ h => h) (by rfl) ?y233 (by assumption) ?_
      case y233 => (intro w hSw; unfold HeldQ at hSw; go_simp; (try with_reducible rfl); (try omega))
      simp only [List.setIfInBounds_toArray, List.set_cons_zero, List.set_cons_succ]
      refine wpAnyH_done (by kernel_rfl) ?_ _
      refine NoPanic.normal ?_
      go_wp2
      go_roundw
      case rel => exact ⟨k + 1, hlt, rfl, by rw [HNX.out], HB2.out⟩
      case measure => simp only [intOf]; omega
    · have hlti : ¬ (k : Int) < (m.length : Int) := by omega
      have HBW := Lib.hid (below_up HB.out hbel HB.out.size)
      clear hbel
      go_wp2
      go_ret
      refine ⟨?_, HBW.out⟩
      rw [List.take_of_length_le (by omega)]
      rfl
end Go.Proofs.Ythmcgignejofiaa
