/- ColonOf returns true, whatever it is given, and turns no old memory. -/
import Derived.Test.YteomoipbjkafgaaDoorCr1
namespace Go.Proofs.YteomoipbjkafgaaDoor
open Go Go.RowKit

theorem pair_two (n : Int) (h0 : 0 ≤ n) (h1 : n ≤ 65535) : Int.ofNat ((UInt8.ofNat (n / 256).toNat).toNat * 256 + (UInt8.ofNat (n % 256).toNat).toNat) = n := by
  rw [UInt8.toNat_ofNat_of_lt' (show (n / 256).toNat < 256 by omega), UInt8.toNat_ofNat_of_lt' (show (n % 256).toNat < 256 by omega)]
  show (((n / 256).toNat * 256 + (n % 256).toNat : Nat) : Int) = n
  omega
theorem grp_ofB (l : List Int) (hl : l.length = 8) (ho : okI l = true) : natsI (grpN (ofB l)) = l := by
  match l, hl with
  | [n0, n1, n2, n3, n4, n5, n6, n7], _ =>
    have h := fun k (hk : k < 8) => okI_at ho k hk
    have a0 : 0 ≤ n0 ∧ n0 ≤ 65535 := h 0 (by omega)
    have a1 : 0 ≤ n1 ∧ n1 ≤ 65535 := h 1 (by omega)
    have a2 : 0 ≤ n2 ∧ n2 ≤ 65535 := h 2 (by omega)
    have a3 : 0 ≤ n3 ∧ n3 ≤ 65535 := h 3 (by omega)
    have a4 : 0 ≤ n4 ∧ n4 ≤ 65535 := h 4 (by omega)
    have a5 : 0 ≤ n5 ∧ n5 ≤ 65535 := h 5 (by omega)
    have a6 : 0 ≤ n6 ∧ n6 ≤ 65535 := h 6 (by omega)
    have a7 : 0 ≤ n7 ∧ n7 ≤ 65535 := h 7 (by omega)
    have e : natsI (grpN (ofB [n0, n1, n2, n3, n4, n5, n6, n7])) = [Int.ofNat ((UInt8.ofNat (n0 / 256).toNat).toNat * 256 + (UInt8.ofNat (n0 % 256).toNat).toNat), Int.ofNat ((UInt8.ofNat (n1 / 256).toNat).toNat * 256 + (UInt8.ofNat (n1 % 256).toNat).toNat), Int.ofNat ((UInt8.ofNat (n2 / 256).toNat).toNat * 256 + (UInt8.ofNat (n2 % 256).toNat).toNat), Int.ofNat ((UInt8.ofNat (n3 / 256).toNat).toNat * 256 + (UInt8.ofNat (n3 % 256).toNat).toNat), Int.ofNat ((UInt8.ofNat (n4 / 256).toNat).toNat * 256 + (UInt8.ofNat (n4 % 256).toNat).toNat), Int.ofNat ((UInt8.ofNat (n5 / 256).toNat).toNat * 256 + (UInt8.ofNat (n5 % 256).toNat).toNat), Int.ofNat ((UInt8.ofNat (n6 / 256).toNat).toNat * 256 + (UInt8.ofNat (n6 % 256).toNat).toNat), Int.ofNat ((UInt8.ofNat (n7 / 256).toNat).toNat * 256 + (UInt8.ofNat (n7 % 256).toNat).toNat)] := rfl
    rw [e, pair_two n0 a0.1 a0.2, pair_two n1 a1.1 a1.2, pair_two n2 a2.1 a2.2, pair_two n3 a3.1 a3.2, pair_two n4 a4.1 a4.2, pair_two n5 a5.1 a5.2, pair_two n6 a6.1 a6.2, pair_two n7 a7.1 a7.2]
/-- What is held at the end. -/
def OfS (w : World) (g4 g6 : Nat) (D : List UInt8) (l : List Int) (W : World) : Prop := ArrT 22 W g4 D ∧ ArrT 22 W g6 D ∧ IntT 25 W w.heap.size l ∧ Below w.heap.size w W
theorem OfS.up {w : World} {g4 g6 : Nat} {D : List UInt8} {l : List Int} {W W' : World} (h : OfS w g4 g6 D l W) (hb : Below W.heap.size W W') : OfS w g4 g6 D l W' := ⟨h.1.up hb, h.2.1.up hb, h.2.2.1.up hb, below_up h.2.2.2 hb h.2.2.2.size⟩
set_option maxRecDepth 100000 in
set_option maxHeartbeats 8000000 in
theorem cof_list (l : List Int) (w : World) (hl : l.length = 8) (hr : ∀ k, k < 8 → -9223372036854775808 ≤ intAt l k ∧ intAt l k ≤ 9223372036854775807) (hE : Env w) :
    Calls Tryd.prog 5 #[intV l] w fun e w' => e = .returned (.bool true) ∧ Below w.heap.size w w' := by
  have zb : Below w.heap.size w (w.alloc (.cells (intVals l).toArray 25)) := (Below.refl _ _).alloc (Nat.le_refl _) _
  have HZ : Hid (IntT 25 (w.alloc (.cells (intVals l).toArray 25)) w.heap.size l ∧ Env (w.alloc (.cells (intVals l).toArray 25)) ∧ Below w.heap.size w (w.alloc (.cells (intVals l).toArray 25))) := ⟨intT_new w l, hE.up zb, zb⟩
  have HA := Lib.hid (fun W h => awake7_any W h)
  have HO := Lib.hid (fun W => of_any l W hl hr)
  have HRO := Lib.hid (fun W => rof_any l W hl hr)
  have hD := ofL_length l hl
  have HGR : Hid (okI l = true → ∀ W, Calls Tryd.prog 11 #[arrV (ofL l)] W fun r w' => r = .returned (intV l) ∧ Below W.heap.size W w') := fun ho W => by
    have h := groups_any (ofL l) W hD
    have e : ofL l = ofB l := by unfold ofL; rw [ho]; rfl
    rw [show natsI (grpN (ofL l)) = l by rw [e]; exact grp_ofB l hl ho] at h
    exact h
  have HL := Lib.hid hl
  rw [show intV l = .agg (intVals l).toArray from rfl]
  generalize ofL l = D at *
  generalize okI l = b at *
  have HD := Lib.hid hD
  clear hD hl hr hE zb
  go_enter Tryd.func5, Tryd.ntmps5
  go_wp2_with (go_at_call 8; refine (HA.out _ HZ.out.2.1).mono ?_; rintro e w1 ⟨rfl, b1⟩; refine Hid.out ?_)
  refine Lib.hid ?_
  have Z1 : Hid (IntT 25 w1 w.heap.size l ∧ Below w.heap.size w w1) := ⟨HZ.out.1.up b1, below_up HZ.out.2.2 b1 HZ.out.2.2.size⟩
  clear b1 HZ HA
  go_wp2_with (first | (refine wpList_load_intT rfl (.tmp 1) rfl w.heap.size l (by rw [HL.out]; exact ints8.isRow) rfl Z1.out.1 ?_) | (go_at_call 19; refine (HO.out _).mono ?_; rintro e w2 ⟨rfl, b2⟩; refine Hid.out ?_))
  refine Lib.hid ?_
  have Z2 : Hid (IntT 25 (w2.alloc (.cells (byteVals D).toArray 22)) w.heap.size l ∧ ArrT 22 (w2.alloc (.cells (byteVals D).toArray 22)) w2.heap.size D ∧ Below w.heap.size w (w2.alloc (.cells (byteVals D).toArray 22))) := by
    have hb2 := below_up Z1.out.2 b2 Z1.out.2.size
    exact ⟨(Z1.out.1.up b2).allocO _, arrT_new w2 D, hb2.alloc hb2.size _⟩
  clear b2 Z1 HO
  go_wp2_with (first | (refine wpList_store_newT rfl (.tmp 4) (.tmp 14) rfl D (by rw [HD.out]; exact arr16) _ rfl rfl (by rw [HD.out]; rfl) ?_) | (refine wpList_load_intT rfl (.tmp 1) rfl w.heap.size l (by rw [HL.out]; exact ints8.isRow) rfl Z2.out.1 ?_) | (go_at_call 20; refine (HRO.out _).mono ?_; rintro e w3 ⟨rfl, b3⟩; refine Hid.out ?_))
  refine Lib.hid ?_
  have Z3 : Hid (OfS w w2.heap.size w3.heap.size D l (w3.alloc (.cells (byteVals D).toArray 22)).drew) := by
    have hb3 := below_up Z2.out.2.2 b3 Z2.out.2.2.size
    exact ⟨(Z2.out.2.1.up b3).allocO _, arrT_new w3 D, (Z2.out.1.up b3).allocO _, (hb3.alloc hb3.size _).drew⟩
  clear b3 Z2 HRO
  go_wp2_with (first | (refine wpList_store_newT rfl (.tmp 6) (.tmp 19) rfl D (by rw [HD.out]; exact arr16) _ rfl rfl (by rw [HD.out]; rfl) ?_) | fail)
  generalize w2.heap.size = g4 at *
  generalize hg6 : w3.heap.size = g6 at *
  refine wp_region_noPanic ?_
  refine wp_region_held_drew (S := OfS w g4 g6 D l) (by kernel_rfl) Z3.out (fun hHeld => ?_)
  generalize (w3.alloc (.cells (byteVals D).toArray 22)).drew = X at hHeld ⊢
  clear Z3 hg6
  refine held_take (v := arrV D) 0 rfl (by kernel_rfl) (by kernel_rfl) (by kernel_rfl) (fun _ _ _ h => h) (by rfl) (fun W hSw => exec_load_arrT (.tmp 4) rfl g4 D (by rw [HD.out]; exact arr16) rfl hSw.1) (by assumption) ?_
  simp only [List.setIfInBounds_toArray, List.set_cons_zero, List.set_cons_succ]
  refine held_take (v := arrV D) 1 rfl (by kernel_rfl) (by kernel_rfl) (by kernel_rfl) (fun _ _ _ h => h) (by rfl) (fun W hSw => exec_load_arrT (.tmp 6) rfl g6 D (by rw [HD.out]; exact arr16) rfl hSw.2.1) (by assumption) ?_
  simp only [List.setIfInBounds_toArray, List.set_cons_zero, List.set_cons_succ]
  refine held_take (v := .bool true) 2 rfl (by kernel_rfl) (by kernel_rfl) (by kernel_rfl) (fun _ _ _ h => h) (by rfl) (fun W hSw => by rw [exec_eql_arr arr16 (.tmp 21) (.tmp 22) _ rfl D D HD.out HD.out rfl rfl, decide_eq_true rfl]) (by assumption) ?_
  simp only [List.setIfInBounds_toArray, List.set_cons_zero, List.set_cons_succ]
  cases b with
  | false =>
    refine held_take (v := ?v79) 3 rfl (by kernel_rfl) (by kernel_rfl) (by kernel_rfl) (fun _ _ _ h => h) (by rfl) ?y79 (by assumption) ?_
    case y79 => (intro w hSw; unfold OfS at hSw; go_simp; (try with_reducible rfl); (try omega))
    simp only [List.setIfInBounds_toArray, List.set_cons_zero, List.set_cons_succ]
    refine held_take (v := ?v82) 4 rfl (by kernel_rfl) (by kernel_rfl) (by kernel_rfl) (fun _ _ _ h => h) (by rfl) ?y82 (by assumption) ?_
    case y82 => (intro w hSw; unfold OfS at hSw; go_simp; (try with_reducible rfl); (try omega))
    simp only [List.setIfInBounds_toArray, List.set_cons_zero, List.set_cons_succ]
    refine held_take (v := ?v85) 5 rfl (by kernel_rfl) (by kernel_rfl) (by kernel_rfl) (fun _ _ _ h => h) (by rfl) ?y85 (by assumption) ?_
    case y85 => (intro w hSw; unfold OfS at hSw; go_simp; (try with_reducible rfl); (try omega))
    simp only [List.setIfInBounds_toArray, List.set_cons_zero, List.set_cons_succ]
    refine held_take (v := ?v88) 6 rfl (by kernel_rfl) (by kernel_rfl) (by kernel_rfl) (fun _ _ _ h => h) (by rfl) ?y88 (by assumption) ?_
    case y88 => (intro w hSw; unfold OfS at hSw; go_simp; (try with_reducible rfl); (try omega))
    simp only [List.setIfInBounds_toArray, List.set_cons_zero, List.set_cons_succ]
    refine held_take (v := ?v91) 7 rfl (by kernel_rfl) (by kernel_rfl) (by kernel_rfl) (fun _ _ _ h => h) (by rfl) ?y91 (by assumption) ?_
    case y91 => (intro w hSw; unfold OfS at hSw; go_simp; (try with_reducible rfl); (try omega))
    simp only [List.setIfInBounds_toArray, List.set_cons_zero, List.set_cons_succ]
    refine held_take (v := ?v94) 8 rfl (by kernel_rfl) (by kernel_rfl) (by kernel_rfl) (fun _ _ _ h => h) (by rfl) ?y94 (by assumption) ?_
    case y94 => (intro w hSw; unfold OfS at hSw; go_simp; (try with_reducible rfl); (try omega))
    simp only [List.setIfInBounds_toArray, List.set_cons_zero, List.set_cons_succ]
    refine held_take (v := ?v97) 9 rfl (by kernel_rfl) (by kernel_rfl) (by kernel_rfl) (fun _ _ _ h => h) (by rfl) ?y97 (by assumption) ?_
    case y97 => (intro w hSw; unfold OfS at hSw; go_simp; (try with_reducible rfl); (try omega))
    simp only [List.setIfInBounds_toArray, List.set_cons_zero, List.set_cons_succ]
    refine held_take (v := ?v100) 10 rfl (by kernel_rfl) (by kernel_rfl) (by kernel_rfl) (fun _ _ _ h => h) (by rfl) ?y100 (by assumption) ?_
    case y100 => (intro w hSw; unfold OfS at hSw; go_simp; (try with_reducible rfl); (try omega))
    simp only [List.setIfInBounds_toArray, List.set_cons_zero, List.set_cons_succ]
    refine held_take (v := ?v103) 11 rfl (by kernel_rfl) (by kernel_rfl) (by kernel_rfl) (fun _ _ _ h => h) (by rfl) ?y103 (by assumption) ?_
    case y103 => (intro w hSw; unfold OfS at hSw; go_simp; (try with_reducible rfl); (try omega))
    simp only [List.setIfInBounds_toArray, List.set_cons_zero, List.set_cons_succ]
    refine held_skip 12 rfl (by kernel_rfl) (by kernel_rfl) (by kernel_rfl) (fun _ _ _ h => h) (by rfl) (by assumption) ?_
    simp only [List.setIfInBounds_toArray, List.set_cons_zero, List.set_cons_succ]
    refine held_skip 13 rfl (by kernel_rfl) (by kernel_rfl) (by kernel_rfl) (fun _ _ _ h => h) (by rfl) (by assumption) ?_
    simp only [List.setIfInBounds_toArray, List.set_cons_zero, List.set_cons_succ]
    refine held_skip 14 rfl (by kernel_rfl) (by kernel_rfl) (by kernel_rfl) (fun _ _ _ h => h) (by rfl) (by assumption) ?_
    simp only [List.setIfInBounds_toArray, List.set_cons_zero, List.set_cons_succ]
    refine held_skip 15 rfl (by kernel_rfl) (by kernel_rfl) (by kernel_rfl) (fun _ _ _ h => h) (by rfl) (by assumption) ?_
    simp only [List.setIfInBounds_toArray, List.set_cons_zero, List.set_cons_succ]
    refine held_take (v := ?v114) 16 rfl (by kernel_rfl) (by kernel_rfl) (by kernel_rfl) (fun _ _ _ h => h) (by rfl) ?y114 (by assumption) ?_
    case y114 => (intro w hSw; unfold OfS at hSw; go_simp; (try with_reducible rfl); (try omega))
    simp only [List.setIfInBounds_toArray, List.set_cons_zero, List.set_cons_succ]
    refine held_take (v := ?v117) 17 rfl (by kernel_rfl) (by kernel_rfl) (by kernel_rfl) (fun _ _ _ h => h) (by rfl) ?y117 (by assumption) ?_
    case y117 => (intro w hSw; unfold OfS at hSw; go_simp; (try with_reducible rfl); (try omega))
    simp only [List.setIfInBounds_toArray, List.set_cons_zero, List.set_cons_succ]
    refine held_take (v := ?v120) 18 rfl (by kernel_rfl) (by kernel_rfl) (by kernel_rfl) (fun _ _ _ h => h) (by rfl) ?y120 (by assumption) ?_
    case y120 => (intro w hSw; unfold OfS at hSw; go_simp; (try with_reducible rfl); (try omega))
    simp only [List.setIfInBounds_toArray, List.set_cons_zero, List.set_cons_succ]
    refine wpAnyH_done (by kernel_rfl) ?_ _
    refine NoPanic.normal ?_
    go_wp2
    go_ret
    exact ⟨rfl, hHeld.2.2.2⟩
  | true =>
    have HGG := Lib.hid (HGR.out rfl)
    clear HGR
    refine held_take (v := ?v131) 3 rfl (by kernel_rfl) (by kernel_rfl) (by kernel_rfl) (fun _ _ _ h => h) (by rfl) ?y131 (by assumption) ?_
    case y131 => (intro w hSw; unfold OfS at hSw; go_simp; (try with_reducible rfl); (try omega))
    simp only [List.setIfInBounds_toArray, List.set_cons_zero, List.set_cons_succ]
    refine held_take (v := ?v134) 4 rfl (by kernel_rfl) (by kernel_rfl) (by kernel_rfl) (fun _ _ _ h => h) (by rfl) ?y134 (by assumption) ?_
    case y134 => (intro w hSw; unfold OfS at hSw; go_simp; (try with_reducible rfl); (try omega))
    simp only [List.setIfInBounds_toArray, List.set_cons_zero, List.set_cons_succ]
    refine held_take (v := ?v137) 5 rfl (by kernel_rfl) (by kernel_rfl) (by kernel_rfl) (fun _ _ _ h => h) (by rfl) ?y137 (by assumption) ?_
    case y137 => (intro w hSw; unfold OfS at hSw; go_simp; (try with_reducible rfl); (try omega))
    simp only [List.setIfInBounds_toArray, List.set_cons_zero, List.set_cons_succ]
    refine held_take (v := ?v140) 6 rfl (by kernel_rfl) (by kernel_rfl) (by kernel_rfl) (fun _ _ _ h => h) (by rfl) ?y140 (by assumption) ?_
    case y140 => (intro w hSw; unfold OfS at hSw; go_simp; (try with_reducible rfl); (try omega))
    simp only [List.setIfInBounds_toArray, List.set_cons_zero, List.set_cons_succ]
    refine held_take (v := ?v143) 7 rfl (by kernel_rfl) (by kernel_rfl) (by kernel_rfl) (fun _ _ _ h => h) (by rfl) ?y143 (by assumption) ?_
    case y143 => (intro w hSw; unfold OfS at hSw; go_simp; (try with_reducible rfl); (try omega))
    simp only [List.setIfInBounds_toArray, List.set_cons_zero, List.set_cons_succ]
    refine held_take (v := ?v146) 8 rfl (by kernel_rfl) (by kernel_rfl) (by kernel_rfl) (fun _ _ _ h => h) (by rfl) ?y146 (by assumption) ?_
    case y146 => (intro w hSw; unfold OfS at hSw; go_simp; (try with_reducible rfl); (try omega))
    simp only [List.setIfInBounds_toArray, List.set_cons_zero, List.set_cons_succ]
    refine held_take (v := ?v149) 9 rfl (by kernel_rfl) (by kernel_rfl) (by kernel_rfl) (fun _ _ _ h => h) (by rfl) ?y149 (by assumption) ?_
    case y149 => (intro w hSw; unfold OfS at hSw; go_simp; (try with_reducible rfl); (try omega))
    simp only [List.setIfInBounds_toArray, List.set_cons_zero, List.set_cons_succ]
    refine held_take (v := ?v152) 10 rfl (by kernel_rfl) (by kernel_rfl) (by kernel_rfl) (fun _ _ _ h => h) (by rfl) ?y152 (by assumption) ?_
    case y152 => (intro w hSw; unfold OfS at hSw; go_simp; (try with_reducible rfl); (try omega))
    simp only [List.setIfInBounds_toArray, List.set_cons_zero, List.set_cons_succ]
    refine held_take (v := ?v155) 11 rfl (by kernel_rfl) (by kernel_rfl) (by kernel_rfl) (fun _ _ _ h => h) (by rfl) ?y155 (by assumption) ?_
    case y155 => (intro w hSw; unfold OfS at hSw; go_simp; (try with_reducible rfl); (try omega))
    simp only [List.setIfInBounds_toArray, List.set_cons_zero, List.set_cons_succ]
    refine held_take (v := arrV D) 12 rfl (by kernel_rfl) (by kernel_rfl) (by kernel_rfl) (fun _ _ _ h => h) (by rfl) (fun W hSw => exec_load_arrT (.tmp 4) rfl g4 D (by rw [HD.out]; exact arr16) rfl hSw.1) (by assumption) ?_
    simp only [List.setIfInBounds_toArray, List.set_cons_zero, List.set_cons_succ]
    refine held_take (v := intV l) 14 rfl (by kernel_rfl) (by kernel_rfl) (by kernel_rfl) (fun _ _ _ h => h) (by rfl) (fun W hSw => exec_load_intR (.tmp 1) rfl w.heap.size l (by rw [HL.out]; exact ints8.isRow) rfl hSw.2.2.1.range) (by assumption) ?_
    simp only [List.setIfInBounds_toArray, List.set_cons_zero, List.set_cons_succ]
    refine held_one 13 rfl (by kernel_rfl) (by rfl) (fun K hK => ?_)
    go_simp
    refine (HGG.out _).mono ?_
    rintro e w4 ⟨rfl, b4⟩
    refine hK.out _ _ (hHeld.up b4) (fun hHeld4 => ?_)
    clear hK K hHeld b4
    refine held_take (v := .bool true) 15 rfl (by kernel_rfl) (by kernel_rfl) (by kernel_rfl) (fun _ _ _ h => h) (by rfl) (fun W hSw => by rw [exec_eql_int ints8 (.tmp 34) (.tmp 35) _ rfl l l HL.out HL.out rfl rfl, decide_eq_true rfl]) (by assumption) ?_
    simp only [List.setIfInBounds_toArray, List.set_cons_zero, List.set_cons_succ]
    refine held_take (v := ?v170) 16 rfl (by kernel_rfl) (by kernel_rfl) (by kernel_rfl) (fun _ _ _ h => h) (by rfl) ?y170 (by assumption) ?_
    case y170 => (intro w hSw; unfold OfS at hSw; go_simp; (try with_reducible rfl); (try omega))
    simp only [List.setIfInBounds_toArray, List.set_cons_zero, List.set_cons_succ]
    refine held_take (v := ?v173) 17 rfl (by kernel_rfl) (by kernel_rfl) (by kernel_rfl) (fun _ _ _ h => h) (by rfl) ?y173 (by assumption) ?_
    case y173 => (intro w hSw; unfold OfS at hSw; go_simp; (try with_reducible rfl); (try omega))
    simp only [List.setIfInBounds_toArray, List.set_cons_zero, List.set_cons_succ]
    refine held_take (v := ?v176) 18 rfl (by kernel_rfl) (by kernel_rfl) (by kernel_rfl) (fun _ _ _ h => h) (by rfl) ?y176 (by assumption) ?_
    case y176 => (intro w hSw; unfold OfS at hSw; go_simp; (try with_reducible rfl); (try omega))
    simp only [List.setIfInBounds_toArray, List.set_cons_zero, List.set_cons_succ]
    refine wpAnyH_done (by kernel_rfl) ?_ _
    refine NoPanic.normal ?_
    go_wp2
    go_ret
    exact ⟨rfl, hHeld4.2.2.2⟩
theorem cof_row (n0 n1 n2 n3 n4 n5 n6 n7 : Int) (w : World) (g0 : -9223372036854775808 ≤ n0) (h0 : n0 ≤ 9223372036854775807) (g1 : -9223372036854775808 ≤ n1) (h1 : n1 ≤ 9223372036854775807) (g2 : -9223372036854775808 ≤ n2) (h2 : n2 ≤ 9223372036854775807) (g3 : -9223372036854775808 ≤ n3) (h3 : n3 ≤ 9223372036854775807) (g4 : -9223372036854775808 ≤ n4) (h4 : n4 ≤ 9223372036854775807) (g5 : -9223372036854775808 ≤ n5) (h5 : n5 ≤ 9223372036854775807) (g6 : -9223372036854775808 ≤ n6) (h6 : n6 ≤ 9223372036854775807) (g7 : -9223372036854775808 ≤ n7) (h7 : n7 ≤ 9223372036854775807) (hE : Env w) :
    Calls Tryd.prog 5 #[.agg #[.int .i64 n0, .int .i64 n1, .int .i64 n2, .int .i64 n3, .int .i64 n4, .int .i64 n5, .int .i64 n6, .int .i64 n7]] w fun e w' => e = .returned (.bool true) ∧ Below w.heap.size w w' :=
  cof_list [n0, n1, n2, n3, n4, n5, n6, n7] w rfl (fun k hk => by
    match k, hk with
    | 0, _ => exact ⟨g0, h0⟩
    | 1, _ => exact ⟨g1, h1⟩
    | 2, _ => exact ⟨g2, h2⟩
    | 3, _ => exact ⟨g3, h3⟩
    | 4, _ => exact ⟨g4, h4⟩
    | 5, _ => exact ⟨g5, h5⟩
    | 6, _ => exact ⟨g6, h6⟩
    | 7, _ => exact ⟨g7, h7⟩) hE
end Go.Proofs.YteomoipbjkafgaaDoor
