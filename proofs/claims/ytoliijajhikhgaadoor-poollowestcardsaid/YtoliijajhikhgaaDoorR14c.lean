/- The document's pool (footplateref14): Add. -/
import Derived.Test.YtoliijajhikhgaaDoorR14b
namespace Go.Proofs.YtoliijajhikhgaaDoor
open Go Go.RowKit

/-- A thing stands at a number. -/
def putD (D : List Th14) (i : Nat) (x : Th14) : List Th14 := if i = D.length then D ++ [x] else D.set i x
theorem putD_len (D : List Th14) (i : Nat) (x : Th14) : (putD D i x).length ≤ D.length + 1 := by
  unfold putD
  split <;> simp
theorem usX_put (D : List Th14) (x : Th14) (hx : x.u = 1) : usX (putD D (freeU (usX D)) x) = addU (usX D) := by
  unfold putD
  split
  · rename_i h
    rw [addU_app (by rw [h, usX_len])]
    simp [usX, hx]
  · rename_i h
    rw [addU_set (by rw [usX_len]; exact h)]
    simp [usX, hx]
theorem usX_set (D : List Th14) (i : Nat) (x : Th14) : usX (D.set i x) = (usX D).set i x.u := by simp [usX]
theorem rat_any (is : Bool) (room : Int) (v : Value) (D : List Th14) (i : Nat) (x : Th14) (w : World) (hC : IsC xR 10 w v D) (hD : D.length ≤ 10000) (hi : i ≤ D.length) :
    Calls Tryd.prog 33 #[p14V is room v, .int .i64 (i : Int), .agg (xR x).toArray] w fun e w' => ∃ v', e = .returned (p14V is room v') ∧ w'.ownsRow w.heap.size 50 10 v' (putD D i x).length ((putD D i x).flatMap xR) ∧ v'.oneCell' = true ∧ Below w.heap.size w w' := by
  unfold putD
  by_cases h : i = D.length
  · subst h
    rw [if_pos rfl]
    exact rat_app is room v D x w hC hD
  · rw [if_neg h, List.length_set]
    exact rat_set is room v D i x w hC hD (by omega)
theorem AtZ.use {w W : World} {l m : List Value} {x : Th14} (h : AtZ w W l x m) (u : Int) : AtZ w (W.setCell ⟨w.heap.size + 1, 9, none⟩ (.int .i64 u)) l { x with u := u } m := ⟨h.p.setOther (by omega) 9 _, h.x.set 9 _, h.r.setOther (by omega) 9 _, h.b.setCell (p := ⟨w.heap.size + 1, 9, none⟩) (Nat.le_succ _) _⟩
theorem AtZ.drew {w W : World} {l m : List Value} {x : Th14} (h : AtZ w W l x m) : AtZ w W.drew l x m := h.up (Below.refl _ _).drew
def AddS (g : Nat) (room : Int) (v : Value) (W : World) : Prop := W.rangeAt g 0 (p14R true room v) ∧ W.cell? ⟨g, 1, none⟩ = some (.int .i64 room)
set_option maxRecDepth 100000 in
set_option maxHeartbeats 8000000 in
theorem radd_full (room : Int) (v : Value) (D : List Th14) (x : Th14) (w : World) (hC : IsC xR 10 w v D) (hD : D.length ≤ 10000) (hf : (cntU (usX D) : Int) = room) :
    Calls Tryd.prog 23 #[p14V true room v, .agg (xR x).toArray] w fun e w' => e = .returned (.tuple #[p14V true room v, .int .i64 0, .int .i64 30]) ∧ Below w.heap.size w w' := by
  obtain ⟨a, cap, rfl⟩ := isc_slice hC
  have hZ := atZ_new w (p14R true room (.slice a D.length cap)) x (p14R false 0 (.slice none 0 0))
  have HL := Lib.hid (fun (W : World) (hb : Below w.heap.size w W) => rlen14 true room _ D W (hC.below hb) (by omega))
  have HZ := Lib.hid hZ
  have ez : (#[.bool false, .int .i64 0, .slice none 0 0] : Array Value) = (p14R false 0 (.slice none 0 0)).toArray := rfl
  have c0 := (hZ.p.cell 0).trans (show _ = some (.bool true) from rfl)
  rw [show p14V true room (.slice a D.length cap) = .agg (p14R true room (.slice a D.length cap)).toArray from rfl]
  have hd : AddS w.heap.size room (.slice a D.length cap) _ := ⟨rangeAll hZ.drew.p, hZ.drew.p.cell 1⟩
  have HHD := Lib.hid hd
  have HZD := Lib.hid hZ.drew
  generalize (cntU (usX D) : Int) = q at *
  have hq : (q == room) = true := by simpa using hf
  clear hC hZ hd
  go_enter Tryd.func23, Tryd.ntmps23
  go_wp2_with fail
  refine wp_region_noPanic ?_
  refine wp_region_held_drew (S := AddS w.heap.size room (.slice a D.length cap)) (by kernel_rfl) HHD.out (fun hHeld => ?_)
  generalize World.drew _ = W1 at *
  clear c0 HZ
  refine held_take (v := p14V true room (.slice a D.length cap)) 0 rfl (by kernel_rfl) (by kernel_rfl) (by kernel_rfl) (fun _ _ _ h => h) (by rfl) (fun W hSw => exec_load_any _ (.tmp 2) rfl w.heap.size 0 _ _ rfl hSw.1 Tryd.underlying32 rfl p14_info) (by assumption) ?_
  simp only [List.setIfInBounds_toArray, List.set_cons_zero, List.set_cons_succ]
  refine held_take (v := ?v57) 2 rfl (by kernel_rfl) (by kernel_rfl) (by kernel_rfl) (fun _ _ _ h => h) (by rfl) ?y57 (by assumption) ?_
  case y57 => (intro w hSw; unfold AddS at hSw; go_simp; (try with_reducible rfl); (try omega))
  simp only [List.setIfInBounds_toArray, List.set_cons_zero, List.set_cons_succ]
  refine held_take (v := ?v60) 3 rfl (by kernel_rfl) (by kernel_rfl) (by kernel_rfl) (fun _ _ _ h => h) (by rfl) ?y60 (by assumption) ?_
  case y60 => (intro w hSw; unfold AddS at hSw; go_simp; (try with_reducible rfl); (try omega))
  simp only [List.setIfInBounds_toArray, List.set_cons_zero, List.set_cons_succ]
  refine held_one 1 rfl (by kernel_rfl) (by rfl) (fun K hK => ?_)
  go_simp
  refine (HL.out _ HZD.out.b).mono ?_
  rintro e w2 ⟨rfl, b2⟩
  have HZ2 := Lib.hid (HZD.out.up b2)
  have hd2 : AddS w.heap.size room (.slice a D.length cap) w2 := ⟨rangeAll HZ2.out.p, HZ2.out.p.cell 1⟩
  refine hK.out _ _ hd2 (fun hHeld => ?_)
  clear hK K HL HHD HZD b2
  refine held_take (v := ?v71) 4 rfl (by kernel_rfl) (by kernel_rfl) (by kernel_rfl) (fun _ _ _ h => h) (by rfl) ?y71 (by assumption) ?_
  case y71 => (intro w hSw; unfold AddS at hSw; go_simp; (try with_reducible rfl); (try omega))
  simp only [List.setIfInBounds_toArray, List.set_cons_zero, List.set_cons_succ]
  refine wpAnyH_done (by kernel_rfl) ?_ _
  refine NoPanic.normal ?_
  go_wp2_with (first
    | (refine plV rfl (p14V true room (.slice a D.length cap)) (exec_load_any _ (.tmp 2) rfl w.heap.size 0 _ _ rfl (rangeAll HZ2.out.p) Tryd.underlying32 rfl p14_info) ?_)
    | (refine wpList_store_bx rfl 32 (.tmp 4) (.tmp 17) rfl (w.heap.size + 1 + 1) (p14R true room (.slice a D.length cap)) _ rfl rfl HZ2.out.r p14_info rfl (p14_one _ _ _ rfl) ?_; refine Hid.out ?_))
  refine Lib.hid ?_
  go_wp2
  exact bodyPost_ret (results_row3 Tryd.results23 _ _ (w.heap.size + 1 + 1) _ rfl (HZ2.out.r.row (p14R true room (.slice a D.length cap))) Tryd.underlying32 rfl p14_info) rfl ⟨rfl, (HZ2.out.ans (p14R true room (.slice a D.length cap))).b⟩
set_option maxRecDepth 100000 in
set_option maxHeartbeats 8000000 in
theorem radd_any (room : Int) (v : Value) (D : List Th14) (x : Th14) (w : World) (hC : IsC xR 10 w v D) (hD : D.length ≤ 9000) (hf : ¬ (cntU (usX D) : Int) = room) :
    Calls Tryd.prog 23 #[p14V true room v, .agg (xR x).toArray] w fun e w' => ∃ v', e = .returned (.tuple #[p14V true room v', .int .i64 (freeU (usX D) : Int), .int .i64 0]) ∧ w'.ownsRow w.heap.size 50 10 v' (putD D (freeU (usX D)) { x with u := 1 }).length ((putD D (freeU (usX D)) { x with u := 1 }).flatMap xR) ∧ v'.oneCell' = true ∧ Below w.heap.size w w' := by
  obtain ⟨a, cap, rfl⟩ := isc_slice hC
  have hZ := atZ_new w (p14R true room (.slice a D.length cap)) x (p14R false 0 (.slice none 0 0))
  have HL := Lib.hid (fun (W : World) (hb : Below w.heap.size w W) => rlen14 true room _ D W (hC.below hb) (by omega))
  have hfu := freeU_le (usX D)
  rw [usX_len] at hfu
  have HAT := Lib.hid (fun (W : World) (hb : Below w.heap.size w W) => rat_any true room _ D (freeU (usX D)) { x with u := 1 } W (hC.below hb) (by omega) hfu)
  have HC := Lib.hid hC
  have HZ := Lib.hid hZ
  have ez : (#[.bool false, .int .i64 0, .slice none 0 0] : Array Value) = (p14R false 0 (.slice none 0 0)).toArray := rfl
  have c0 := (hZ.p.cell 0).trans (show _ = some (.bool true) from rfl)
  rw [show p14V true room (.slice a D.length cap) = .agg (p14R true room (.slice a D.length cap)).toArray from rfl]
  have hd : AddS w.heap.size room (.slice a D.length cap) _ := ⟨rangeAll hZ.drew.p, hZ.drew.p.cell 1⟩
  have HHD := Lib.hid hd
  have HZD := Lib.hid hZ.drew
  generalize (cntU (usX D) : Int) = q at *
  have hq : (q == room) = false := by simpa using hf
  have HLOW := Lib.hid (fun (j : Nat) (y : Th14) (hy : D[j]? = some y) (hj : j < freeU (usX D)) => show 0 < y.u by rw [← usX_at hy]; exact freeU_low _ j hj)
  have HFR := Lib.hid (fun (y : Th14) (hy : D[freeU (usX D)]? = some y) => show ¬ 0 < y.u by rw [← usX_at hy]; exact freeU_at _)
  generalize freeU (usX D) = f at *
  clear hC hZ hd
  go_enter Tryd.func23, Tryd.ntmps23
  go_wp2_with fail
  refine wp_region_noPanic ?_
  refine wp_region_held_drew (S := AddS w.heap.size room (.slice a D.length cap)) (by kernel_rfl) HHD.out (fun hHeld => ?_)
  generalize World.drew _ = W1 at *
  clear c0 HZ
  refine held_take (v := p14V true room (.slice a D.length cap)) 0 rfl (by kernel_rfl) (by kernel_rfl) (by kernel_rfl) (fun _ _ _ h => h) (by rfl) (fun W hSw => exec_load_any _ (.tmp 2) rfl w.heap.size 0 _ _ rfl hSw.1 Tryd.underlying32 rfl p14_info) (by assumption) ?_
  simp only [List.setIfInBounds_toArray, List.set_cons_zero, List.set_cons_succ]
  refine held_take (v := ?v114) 2 rfl (by kernel_rfl) (by kernel_rfl) (by kernel_rfl) (fun _ _ _ h => h) (by rfl) ?y114 (by assumption) ?_
  case y114 => (intro w hSw; unfold AddS at hSw; go_simp; (try with_reducible rfl); (try omega))
  simp only [List.setIfInBounds_toArray, List.set_cons_zero, List.set_cons_succ]
  refine held_take (v := ?v117) 3 rfl (by kernel_rfl) (by kernel_rfl) (by kernel_rfl) (fun _ _ _ h => h) (by rfl) ?y117 (by assumption) ?_
  case y117 => (intro w hSw; unfold AddS at hSw; go_simp; (try with_reducible rfl); (try omega))
  simp only [List.setIfInBounds_toArray, List.set_cons_zero, List.set_cons_succ]
  refine held_one 1 rfl (by kernel_rfl) (by rfl) (fun K hK => ?_)
  go_simp
  refine (HL.out _ HZD.out.b).mono ?_
  rintro e w2 ⟨rfl, b2⟩
  have HZ2 := Lib.hid (HZD.out.up b2)
  have hd2 : AddS w.heap.size room (.slice a D.length cap) w2 := ⟨rangeAll HZ2.out.p, HZ2.out.p.cell 1⟩
  refine hK.out _ _ hd2 (fun hHeld => ?_)
  clear hK K HL HHD HZD b2
  refine held_take (v := ?v128) 4 rfl (by kernel_rfl) (by kernel_rfl) (by kernel_rfl) (fun _ _ _ h => h) (by rfl) ?y128 (by assumption) ?_
  case y128 => (intro w hSw; unfold AddS at hSw; go_simp; (try with_reducible rfl); (try omega))
  simp only [List.setIfInBounds_toArray, List.set_cons_zero, List.set_cons_succ]
  refine wpAnyH_done (by kernel_rfl) ?_ _
  refine NoPanic.normal ?_
  clear hHeld hd2
  have HC2 := Lib.hid (HC.out.below HZ2.out.b)
  have c2 := (HZ2.out.p.cell 2).trans (show _ = some (.slice a D.length cap) from rfl)
  go_wp2_with fail
  go_loopw [7] (fun r wr => ∃ j : Nat, j ≤ f ∧ r = .int .i64 (j : Int) ∧ w2 = wr) (fun r _ => f - (intOf r).toNat)
  case atStart => exact ⟨0, Nat.zero_le _, rfl, rfl⟩
  case round =>
    obtain ⟨j, hj, rfl, rfl⟩ := hrel
    by_cases hlt : j < f
    · have hjl : j < D.length := by omega
      have hlti : (j : Int) < (D.length : Int) := by omega
      have h0j : ¬ (j : Int) < 0 := by omega
      obtain ⟨y, hy⟩ : ∃ y, D[j]? = some y := ⟨_, List.getElem?_eq_getElem hjl⟩
      obtain ⟨b, k, rfl, hbw, hr⟩ := isX_at HC2.out j y hy
      have c9 : w2.cell? ⟨b, k + j * 10 + 9, none⟩ = some (.int .i64 y.u) := hr 9 _ rfl
      have hu : y.u > 0 := HLOW.out j y hy hlt
      have kj : IntKind.i64.wrap ((j : Int) + 1) = (j : Int) + 1 := by simp [IntKind.wrap, IntKind.bits, IntKind.signed]; omega
      clear hr hy
      go_wp2
      go_roundw
      case rel => exact ⟨j + 1, hlt, by go_num, by first | rfl | trivial⟩
      case measure => simp [intOf]; omega
    · obtain rfl : j = f := by omega
      have c9s : Hid (w2.cell? ⟨w.heap.size + 1, 9, none⟩ = some (.int .i64 x.u)) := (HZ2.out.x.cell 9).trans rfl
      have c9 := c9s.out
      have f9 := HZ2.out.x.frozen 9
      have HZ3 := Lib.hid (HZ2.out.use 1)
      by_cases hjl : j < D.length
      · have hlti : (j : Int) < (D.length : Int) := by omega
        have h0j : ¬ (j : Int) < 0 := by omega
        obtain ⟨y, hy⟩ : ∃ y, D[j]? = some y := ⟨_, List.getElem?_eq_getElem hjl⟩
        obtain ⟨b, k, rfl, hbw, hr⟩ := isX_at HC2.out j y hy
        have cu : w2.cell? ⟨b, k + j * 10 + 9, none⟩ = some (.int .i64 y.u) := hr 9 _ rfl
        have hu : ¬ y.u > 0 := by have := HFR.out y hy; omega
        clear hr hy
        clear HC2 HC HLOW HFR
        go_wp2_with (first
          | (refine plV rfl (p14V true room (.slice (some ⟨b, k, none⟩) D.length cap)) (exec_load_any _ (.tmp 2) rfl w.heap.size 0 _ _ rfl (rangeAll HZ3.out.p) Tryd.underlying32 rfl p14_info) ?_)
          | (refine plV rfl (.agg (xR { x with u := 1 }).toArray) (exec_load_any _ (.tmp 3) rfl (w.heap.size + 1) 0 _ _ rfl (rangeAll HZ3.out.x) Tryd.underlying50 rfl x14_info) ?_)
          | (go_at_call 33; refine (HAT.out _ HZ3.out.b).mono ?_; rintro e w4 ⟨v', rfl, hO, h1, b4⟩; refine Hid.out ?_))
        refine Lib.hid ?_
        obtain ⟨a2, n2, d2, rfl⟩ := slice_ex hO
        have HZ4 := Lib.hid (HZ3.out.up b4)
        have HO4 := Lib.hid (own_mono hO (show w.heap.size + 3 ≤ _ from HZ3.out.low))
        clear hO h1 b4 HZ3 HZ2 c2 c9 c9s f9 HAT
        go_wp2_with (refine wpList_store_bx rfl 32 (.tmp 4) (.tmp 38) rfl (w.heap.size + 1 + 1) (p14R true room (.slice a2 n2 d2)) _ rfl rfl HZ4.out.r p14_info rfl (p14_one _ _ _ rfl) ?_; refine Hid.out ?_)
        refine Lib.hid ?_
        go_wp2
        exact bodyPost_ret (results_row3 Tryd.results23 _ _ (w.heap.size + 1 + 1) _ rfl (HZ4.out.r.row (p14R true room (.slice a2 n2 d2))) Tryd.underlying32 rfl p14_info) rfl ⟨_, rfl, own_mono (own_kp HO4.out (kp_row (O := fun k => k = w.heap.size + 1 + 1) _ _ _ rfl) (fun k e q => by have := (HO4.out.lt k e).1; omega)) (by omega), rfl, (HZ4.out.ans (p14R true room (.slice a2 n2 d2))).b⟩
      · have hlti : ¬ (j : Int) < (D.length : Int) := by omega
        clear HC2 HC HLOW HFR
        go_wp2_with (first
          | (refine plV rfl (p14V true room (.slice a D.length cap)) (exec_load_any _ (.tmp 2) rfl w.heap.size 0 _ _ rfl (rangeAll HZ3.out.p) Tryd.underlying32 rfl p14_info) ?_)
          | (refine plV rfl (.agg (xR { x with u := 1 }).toArray) (exec_load_any _ (.tmp 3) rfl (w.heap.size + 1) 0 _ _ rfl (rangeAll HZ3.out.x) Tryd.underlying50 rfl x14_info) ?_)
          | (go_at_call 33; refine (HAT.out _ HZ3.out.b).mono ?_; rintro e w4 ⟨v', rfl, hO, h1, b4⟩; refine Hid.out ?_))
        refine Lib.hid ?_
        obtain ⟨a2, n2, d2, rfl⟩ := slice_ex hO
        have HZ4 := Lib.hid (HZ3.out.up b4)
        have HO4 := Lib.hid (own_mono hO (show w.heap.size + 3 ≤ _ from HZ3.out.low))
        clear hO h1 b4 HZ3 HZ2 c2 c9 c9s f9 HAT
        go_wp2_with (refine wpList_store_bx rfl 32 (.tmp 4) (.tmp 38) rfl (w.heap.size + 1 + 1) (p14R true room (.slice a2 n2 d2)) _ rfl rfl HZ4.out.r p14_info rfl (p14_one _ _ _ rfl) ?_; refine Hid.out ?_)
        refine Lib.hid ?_
        go_wp2
        exact bodyPost_ret (results_row3 Tryd.results23 _ _ (w.heap.size + 1 + 1) _ rfl (HZ4.out.r.row (p14R true room (.slice a2 n2 d2))) Tryd.underlying32 rfl p14_info) rfl ⟨_, rfl, own_mono (own_kp HO4.out (kp_row (O := fun k => k = w.heap.size + 1 + 1) _ _ _ rfl) (fun k e q => by have := (HO4.out.lt k e).1; omega)) (by omega), rfl, (HZ4.out.ans (p14R true room (.slice a2 n2 d2))).b⟩
end Go.Proofs.YtoliijajhikhgaaDoor
