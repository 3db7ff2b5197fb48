/- DottedTells returns true, whatever it is given, and turns no old memory. -/
import Derived.Test.YtjnejnoojpaifaaDoorLaw6Back
import Derived.Test.YtjnejnoojpaifaaDoorReg
namespace Go.Proofs.YtjnejnoojpaifaaDoor
open Go Go.RowKit

set_option maxRecDepth 100000 in
set_option maxHeartbeats 8000000 in
theorem dtells_ff (l : List UInt8) (w : World) (hl : l.length = 4) (hM : multiB l = false) (hP : plainB l = false) (htab : Lib.TabIs Tryd.prog w "internal/strconv.uint64pow10" .u64 Lib.pow10Tab) :
    Calls Tryd.prog 3 #[arrV l] w fun e w' => e = .returned (.bool true) ∧ Below w.heap.size w w' := by
  have zb : Below w.heap.size w (w.alloc (.cells (byteVals l).toArray 22)) := (Below.refl _ _).alloc (Nat.le_refl _) _
  have HZ := Lib.hid (And.intro (arrT_new (t := 22) w l) zb)
  have HA := Lib.hid (awake6_any _ (tab_below htab zb))
  have HT := Lib.hid (fun (w' : World) (hb : Below w.heap.size w w') => tab_below htab hb)
  have HS := Lib.hid (fun W h => show4_any l W hl h)
  have HRS := Lib.hid (fun W => rshow4_any l W hl)
  have hmu := fun W => multi_any l W hl
  have hrm := fun W => rmulti_any l W hl
  have hpl := fun W => plain_any l W hl
  have hrp := fun W => rplain_any l W hl
  rw [hM] at hmu hrm
  rw [hP] at hpl hrp
  have HMU := Lib.hid hmu
  have HRM := Lib.hid hrm
  have HPL := Lib.hid hpl
  have HRP := Lib.hid hrp
  have HL := Lib.hid hl
  rw [show arrV l = .agg (byteVals l).toArray from rfl]
  generalize showD l = V at *
  clear htab zb hl hmu hrm hpl hrp hM hP
  go_enter Tryd.func3, Tryd.ntmps3
  go_wp2_with (go_at_call 7; refine HA.out.mono ?_; rintro e w1 ⟨rfl, b1⟩; refine Hid.out ?_)
  refine Lib.hid ?_
  have hS0 : ArrT 22 w1 w.heap.size l ∧ Below w.heap.size w w1 := ⟨HZ.out.1.up b1, below_up HZ.out.2 b1 HZ.out.2.size⟩
  have HS0 := Lib.hid hS0
  clear hS0 b1 HZ HA
  go_wp2_with fail
  refine wp_region_noPanic ?_
  refine wp_region_held_drew (S := fun W => ArrT 22 W w.heap.size l ∧ Below w.heap.size w W) (by kernel_rfl) ⟨HS0.out.1, HS0.out.2.drew⟩ (fun hHeld0 => ?_)
  refine held_take (v := arrV l) 0 rfl (by kernel_rfl) (by kernel_rfl) (by kernel_rfl) (fun _ _ _ h => h) (by rfl) (fun W hSw => exec_load_arrT (.tmp 1) rfl w.heap.size l (by rw [HL.out]; exact arr4) rfl hSw.1) (by assumption) ?_
  simp only [List.setIfInBounds_toArray, List.set_cons_zero, List.set_cons_succ]
  refine held_take (v := arrV l) 2 rfl (by kernel_rfl) (by kernel_rfl) (by kernel_rfl) (fun _ _ _ h => h) (by rfl) (fun W hSw => exec_load_arrT (.tmp 1) rfl w.heap.size l (by rw [HL.out]; exact arr4) rfl hSw.1) (by assumption) ?_
  simp only [List.setIfInBounds_toArray, List.set_cons_zero, List.set_cons_succ]
  refine held_one 1 rfl (by kernel_rfl) (by rfl) (fun K hK => ?_)
  go_simp
  refine (HS.out _ (HT.out _ hHeld0.2)).mono ?_
  rintro e v1 ⟨rfl, b1⟩
  have hHeld1 := And.intro (hHeld0.1.up b1) (below_up hHeld0.2 b1 hHeld0.2.size)
  refine hK.out _ _ hHeld1 (fun _ => ?_)
  clear hK K
  refine held_one 3 rfl (by kernel_rfl) (by rfl) (fun K hK => ?_)
  go_simp
  refine (HRS.out _ ).mono ?_
  rintro e v2 ⟨rfl, b2⟩
  have hHeld2 := And.intro (hHeld1.1.up b2) (below_up hHeld1.2 b2 hHeld1.2.size)
  refine hK.out _ _ hHeld2 (fun _ => ?_)
  clear hK K
  refine held_take (v := ?v57) 4 rfl (by kernel_rfl) (by kernel_rfl) (by kernel_rfl) (fun _ _ _ h => h) (by rfl) ?y57 (by assumption) ?_
  case y57 => (intro w hSw; (try dsimp only at hSw); go_simp; (try with_reducible rfl); (try omega))
  simp only [List.setIfInBounds_toArray, List.set_cons_zero, List.set_cons_succ]
  refine held_take (v := ?v60) 5 rfl (by kernel_rfl) (by kernel_rfl) (by kernel_rfl) (fun _ _ _ h => h) (by rfl) ?y60 (by assumption) ?_
  case y60 => (intro w hSw; (try dsimp only at hSw); go_simp; (try with_reducible rfl); (try omega))
  simp only [List.setIfInBounds_toArray, List.set_cons_zero, List.set_cons_succ]
  refine held_take (v := arrV l) 6 rfl (by kernel_rfl) (by kernel_rfl) (by kernel_rfl) (fun _ _ _ h => h) (by rfl) (fun W hSw => exec_load_arrT (.tmp 1) rfl w.heap.size l (by rw [HL.out]; exact arr4) rfl hSw.1) (by assumption) ?_
  simp only [List.setIfInBounds_toArray, List.set_cons_zero, List.set_cons_succ]
  refine held_take (v := arrV l) 8 rfl (by kernel_rfl) (by kernel_rfl) (by kernel_rfl) (fun _ _ _ h => h) (by rfl) (fun W hSw => exec_load_arrT (.tmp 1) rfl w.heap.size l (by rw [HL.out]; exact arr4) rfl hSw.1) (by assumption) ?_
  simp only [List.setIfInBounds_toArray, List.set_cons_zero, List.set_cons_succ]
  refine held_one 7 rfl (by kernel_rfl) (by rfl) (fun K hK => ?_)
  go_simp
  refine (HMU.out _ ).mono ?_
  rintro e v3 ⟨rfl, b3⟩
  have hHeld3 := And.intro (hHeld2.1.up b3) (below_up hHeld2.2 b3 hHeld2.2.size)
  refine hK.out _ _ hHeld3 (fun _ => ?_)
  clear hK K
  refine held_one 9 rfl (by kernel_rfl) (by rfl) (fun K hK => ?_)
  go_simp
  refine (HRM.out _ ).mono ?_
  rintro e v4 ⟨rfl, b4⟩
  have hHeld4 := And.intro (hHeld3.1.up b4) (below_up hHeld3.2 b4 hHeld3.2.size)
  refine hK.out _ _ hHeld4 (fun _ => ?_)
  clear hK K
  refine held_take (v := ?v81) 10 rfl (by kernel_rfl) (by kernel_rfl) (by kernel_rfl) (fun _ _ _ h => h) (by rfl) ?y81 (by assumption) ?_
  case y81 => (intro w hSw; (try dsimp only at hSw); go_simp; (try with_reducible rfl); (try omega))
  simp only [List.setIfInBounds_toArray, List.set_cons_zero, List.set_cons_succ]
  refine held_take (v := ?v84) 11 rfl (by kernel_rfl) (by kernel_rfl) (by kernel_rfl) (fun _ _ _ h => h) (by rfl) ?y84 (by assumption) ?_
  case y84 => (intro w hSw; (try dsimp only at hSw); go_simp; (try with_reducible rfl); (try omega))
  simp only [List.setIfInBounds_toArray, List.set_cons_zero, List.set_cons_succ]
  refine held_take (v := ?v87) 12 rfl (by kernel_rfl) (by kernel_rfl) (by kernel_rfl) (fun _ _ _ h => h) (by rfl) ?y87 (by assumption) ?_
  case y87 => (intro w hSw; (try dsimp only at hSw); go_simp; (try with_reducible rfl); (try omega))
  simp only [List.setIfInBounds_toArray, List.set_cons_zero, List.set_cons_succ]
  refine held_take (v := arrV l) 13 rfl (by kernel_rfl) (by kernel_rfl) (by kernel_rfl) (fun _ _ _ h => h) (by rfl) (fun W hSw => exec_load_arrT (.tmp 1) rfl w.heap.size l (by rw [HL.out]; exact arr4) rfl hSw.1) (by assumption) ?_
  simp only [List.setIfInBounds_toArray, List.set_cons_zero, List.set_cons_succ]
  refine held_take (v := arrV l) 15 rfl (by kernel_rfl) (by kernel_rfl) (by kernel_rfl) (fun _ _ _ h => h) (by rfl) (fun W hSw => exec_load_arrT (.tmp 1) rfl w.heap.size l (by rw [HL.out]; exact arr4) rfl hSw.1) (by assumption) ?_
  simp only [List.setIfInBounds_toArray, List.set_cons_zero, List.set_cons_succ]
  refine held_one 14 rfl (by kernel_rfl) (by rfl) (fun K hK => ?_)
  go_simp
  refine (HPL.out _ ).mono ?_
  rintro e v5 ⟨rfl, b5⟩
  have hHeld5 := And.intro (hHeld4.1.up b5) (below_up hHeld4.2 b5 hHeld4.2.size)
  refine hK.out _ _ hHeld5 (fun _ => ?_)
  clear hK K
  refine held_one 16 rfl (by kernel_rfl) (by rfl) (fun K hK => ?_)
  go_simp
  refine (HRP.out _ ).mono ?_
  rintro e v6 ⟨rfl, b6⟩
  have hHeld6 := And.intro (hHeld5.1.up b6) (below_up hHeld5.2 b6 hHeld5.2.size)
  refine hK.out _ _ hHeld6 (fun _ => ?_)
  clear hK K
  refine held_take (v := ?v108) 17 rfl (by kernel_rfl) (by kernel_rfl) (by kernel_rfl) (fun _ _ _ h => h) (by rfl) ?y108 (by assumption) ?_
  case y108 => (intro w hSw; (try dsimp only at hSw); go_simp; (try with_reducible rfl); (try omega))
  simp only [List.setIfInBounds_toArray, List.set_cons_zero, List.set_cons_succ]
  refine held_take (v := ?v111) 18 rfl (by kernel_rfl) (by kernel_rfl) (by kernel_rfl) (fun _ _ _ h => h) (by rfl) ?y111 (by assumption) ?_
  case y111 => (intro w hSw; (try dsimp only at hSw); go_simp; (try with_reducible rfl); (try omega))
  simp only [List.setIfInBounds_toArray, List.set_cons_zero, List.set_cons_succ]
  refine held_take (v := ?v114) 19 rfl (by kernel_rfl) (by kernel_rfl) (by kernel_rfl) (fun _ _ _ h => h) (by rfl) ?y114 (by assumption) ?_
  case y114 => (intro w hSw; (try dsimp only at hSw); go_simp; (try with_reducible rfl); (try omega))
  simp only [List.setIfInBounds_toArray, List.set_cons_zero, List.set_cons_succ]
  refine held_take (v := arrV l) 20 rfl (by kernel_rfl) (by kernel_rfl) (by kernel_rfl) (fun _ _ _ h => h) (by rfl) (fun W hSw => exec_load_arrT (.tmp 1) rfl w.heap.size l (by rw [HL.out]; exact arr4) rfl hSw.1) (by assumption) ?_
  simp only [List.setIfInBounds_toArray, List.set_cons_zero, List.set_cons_succ]
  refine held_one 21 rfl (by kernel_rfl) (by rfl) (fun K hK => ?_)
  go_simp
  refine (HMU.out _ ).mono ?_
  rintro e v7 ⟨rfl, b7⟩
  have hHeld7 := And.intro (hHeld6.1.up b7) (below_up hHeld6.2 b7 hHeld6.2.size)
  refine hK.out _ _ hHeld7 (fun _ => ?_)
  clear hK K
  refine held_take (v := ?v126) 22 rfl (by kernel_rfl) (by kernel_rfl) (by kernel_rfl) (fun _ _ _ h => h) (by rfl) ?y126 (by assumption) ?_
  case y126 => (intro w hSw; (try dsimp only at hSw); go_simp; (try with_reducible rfl); (try omega))
  simp only [List.setIfInBounds_toArray, List.set_cons_zero, List.set_cons_succ]
  refine held_skip 23 rfl (by kernel_rfl) (by kernel_rfl) (by kernel_rfl) (fun _ _ _ h => h) (by rfl) (by assumption) ?_
  simp only [List.setIfInBounds_toArray, List.set_cons_zero, List.set_cons_succ]
  refine held_skip 24 rfl (by kernel_rfl) (by kernel_rfl) (by kernel_rfl) (fun _ _ _ h => h) (by rfl) (by assumption) ?_
  simp only [List.setIfInBounds_toArray, List.set_cons_zero, List.set_cons_succ]
  refine held_take (v := ?v133) 25 rfl (by kernel_rfl) (by kernel_rfl) (by kernel_rfl) (fun _ _ _ h => h) (by rfl) ?y133 (by assumption) ?_
  case y133 => (intro w hSw; (try dsimp only at hSw); go_simp; (try with_reducible rfl); (try omega))
  simp only [List.setIfInBounds_toArray, List.set_cons_zero, List.set_cons_succ]
  refine held_take (v := ?v136) 26 rfl (by kernel_rfl) (by kernel_rfl) (by kernel_rfl) (fun _ _ _ h => h) (by rfl) ?y136 (by assumption) ?_
  case y136 => (intro w hSw; (try dsimp only at hSw); go_simp; (try with_reducible rfl); (try omega))
  simp only [List.setIfInBounds_toArray, List.set_cons_zero, List.set_cons_succ]
  refine held_take (v := ?v139) 27 rfl (by kernel_rfl) (by kernel_rfl) (by kernel_rfl) (fun _ _ _ h => h) (by rfl) ?y139 (by assumption) ?_
  case y139 => (intro w hSw; (try dsimp only at hSw); go_simp; (try with_reducible rfl); (try omega))
  simp only [List.setIfInBounds_toArray, List.set_cons_zero, List.set_cons_succ]
  refine held_take (v := ?v142) 28 rfl (by kernel_rfl) (by kernel_rfl) (by kernel_rfl) (fun _ _ _ h => h) (by rfl) ?y142 (by assumption) ?_
  case y142 => (intro w hSw; (try dsimp only at hSw); go_simp; (try with_reducible rfl); (try omega))
  simp only [List.setIfInBounds_toArray, List.set_cons_zero, List.set_cons_succ]
  refine wpAnyH_done (by kernel_rfl) ?_ _
  refine NoPanic.normal ?_
  have HE := Lib.hid hHeld7.2
  clear hHeld0 hHeld1 hHeld2 hHeld3 hHeld4 hHeld5 hHeld6 hHeld7
  go_wp2
  go_ret
  exact ⟨rfl, HE.out⟩
set_option maxRecDepth 100000 in
set_option maxHeartbeats 8000000 in
theorem dtells_ft (l : List UInt8) (w : World) (hl : l.length = 4) (hM : multiB l = false) (hP : plainB l = true) (htab : Lib.TabIs Tryd.prog w "internal/strconv.uint64pow10" .u64 Lib.pow10Tab) :
    Calls Tryd.prog 3 #[arrV l] w fun e w' => e = .returned (.bool true) ∧ Below w.heap.size w w' := by
  have zb : Below w.heap.size w (w.alloc (.cells (byteVals l).toArray 22)) := (Below.refl _ _).alloc (Nat.le_refl _) _
  have HZ := Lib.hid (And.intro (arrT_new (t := 22) w l) zb)
  have HA := Lib.hid (awake6_any _ (tab_below htab zb))
  have HT := Lib.hid (fun (w' : World) (hb : Below w.heap.size w w') => tab_below htab hb)
  have HS := Lib.hid (fun W h => show4_any l W hl h)
  have HRS := Lib.hid (fun W => rshow4_any l W hl)
  have hmu := fun W => multi_any l W hl
  have hrm := fun W => rmulti_any l W hl
  have hpl := fun W => plain_any l W hl
  have hrp := fun W => rplain_any l W hl
  rw [hM] at hmu hrm
  rw [hP] at hpl hrp
  have HMU := Lib.hid hmu
  have HRM := Lib.hid hrm
  have HPL := Lib.hid hpl
  have HRP := Lib.hid hrp
  have HL := Lib.hid hl
  rw [show arrV l = .agg (byteVals l).toArray from rfl]
  generalize showD l = V at *
  clear htab zb hl hmu hrm hpl hrp hM hP
  go_enter Tryd.func3, Tryd.ntmps3
  go_wp2_with (go_at_call 7; refine HA.out.mono ?_; rintro e w1 ⟨rfl, b1⟩; refine Hid.out ?_)
  refine Lib.hid ?_
  have hS0 : ArrT 22 w1 w.heap.size l ∧ Below w.heap.size w w1 := ⟨HZ.out.1.up b1, below_up HZ.out.2 b1 HZ.out.2.size⟩
  have HS0 := Lib.hid hS0
  clear hS0 b1 HZ HA
  go_wp2_with fail
  refine wp_region_noPanic ?_
  refine wp_region_held_drew (S := fun W => ArrT 22 W w.heap.size l ∧ Below w.heap.size w W) (by kernel_rfl) ⟨HS0.out.1, HS0.out.2.drew⟩ (fun hHeld0 => ?_)
  refine held_take (v := arrV l) 0 rfl (by kernel_rfl) (by kernel_rfl) (by kernel_rfl) (fun _ _ _ h => h) (by rfl) (fun W hSw => exec_load_arrT (.tmp 1) rfl w.heap.size l (by rw [HL.out]; exact arr4) rfl hSw.1) (by assumption) ?_
  simp only [List.setIfInBounds_toArray, List.set_cons_zero, List.set_cons_succ]
  refine held_take (v := arrV l) 2 rfl (by kernel_rfl) (by kernel_rfl) (by kernel_rfl) (fun _ _ _ h => h) (by rfl) (fun W hSw => exec_load_arrT (.tmp 1) rfl w.heap.size l (by rw [HL.out]; exact arr4) rfl hSw.1) (by assumption) ?_
  simp only [List.setIfInBounds_toArray, List.set_cons_zero, List.set_cons_succ]
  refine held_one 1 rfl (by kernel_rfl) (by rfl) (fun K hK => ?_)
  go_simp
  refine (HS.out _ (HT.out _ hHeld0.2)).mono ?_
  rintro e v1 ⟨rfl, b1⟩
  have hHeld1 := And.intro (hHeld0.1.up b1) (below_up hHeld0.2 b1 hHeld0.2.size)
  refine hK.out _ _ hHeld1 (fun _ => ?_)
  clear hK K
  refine held_one 3 rfl (by kernel_rfl) (by rfl) (fun K hK => ?_)
  go_simp
  refine (HRS.out _ ).mono ?_
  rintro e v2 ⟨rfl, b2⟩
  have hHeld2 := And.intro (hHeld1.1.up b2) (below_up hHeld1.2 b2 hHeld1.2.size)
  refine hK.out _ _ hHeld2 (fun _ => ?_)
  clear hK K
  refine held_take (v := ?v203) 4 rfl (by kernel_rfl) (by kernel_rfl) (by kernel_rfl) (fun _ _ _ h => h) (by rfl) ?y203 (by assumption) ?_
  case y203 => (intro w hSw; (try dsimp only at hSw); go_simp; (try with_reducible rfl); (try omega))
  simp only [List.setIfInBounds_toArray, List.set_cons_zero, List.set_cons_succ]
  refine held_take (v := ?v206) 5 rfl (by kernel_rfl) (by kernel_rfl) (by kernel_rfl) (fun _ _ _ h => h) (by rfl) ?y206 (by assumption) ?_
  case y206 => (intro w hSw; (try dsimp only at hSw); go_simp; (try with_reducible rfl); (try omega))
  simp only [List.setIfInBounds_toArray, List.set_cons_zero, List.set_cons_succ]
  refine held_take (v := arrV l) 6 rfl (by kernel_rfl) (by kernel_rfl) (by kernel_rfl) (fun _ _ _ h => h) (by rfl) (fun W hSw => exec_load_arrT (.tmp 1) rfl w.heap.size l (by rw [HL.out]; exact arr4) rfl hSw.1) (by assumption) ?_
  simp only [List.setIfInBounds_toArray, List.set_cons_zero, List.set_cons_succ]
  refine held_take (v := arrV l) 8 rfl (by kernel_rfl) (by kernel_rfl) (by kernel_rfl) (fun _ _ _ h => h) (by rfl) (fun W hSw => exec_load_arrT (.tmp 1) rfl w.heap.size l (by rw [HL.out]; exact arr4) rfl hSw.1) (by assumption) ?_
  simp only [List.setIfInBounds_toArray, List.set_cons_zero, List.set_cons_succ]
  refine held_one 7 rfl (by kernel_rfl) (by rfl) (fun K hK => ?_)
  go_simp
  refine (HMU.out _ ).mono ?_
  rintro e v3 ⟨rfl, b3⟩
  have hHeld3 := And.intro (hHeld2.1.up b3) (below_up hHeld2.2 b3 hHeld2.2.size)
  refine hK.out _ _ hHeld3 (fun _ => ?_)
  clear hK K
  refine held_one 9 rfl (by kernel_rfl) (by rfl) (fun K hK => ?_)
  go_simp
  refine (HRM.out _ ).mono ?_
  rintro e v4 ⟨rfl, b4⟩
  have hHeld4 := And.intro (hHeld3.1.up b4) (below_up hHeld3.2 b4 hHeld3.2.size)
  refine hK.out _ _ hHeld4 (fun _ => ?_)
  clear hK K
  refine held_take (v := ?v227) 10 rfl (by kernel_rfl) (by kernel_rfl) (by kernel_rfl) (fun _ _ _ h => h) (by rfl) ?y227 (by assumption) ?_
  case y227 => (intro w hSw; (try dsimp only at hSw); go_simp; (try with_reducible rfl); (try omega))
  simp only [List.setIfInBounds_toArray, List.set_cons_zero, List.set_cons_succ]
  refine held_take (v := ?v230) 11 rfl (by kernel_rfl) (by kernel_rfl) (by kernel_rfl) (fun _ _ _ h => h) (by rfl) ?y230 (by assumption) ?_
  case y230 => (intro w hSw; (try dsimp only at hSw); go_simp; (try with_reducible rfl); (try omega))
  simp only [List.setIfInBounds_toArray, List.set_cons_zero, List.set_cons_succ]
  refine held_take (v := ?v233) 12 rfl (by kernel_rfl) (by kernel_rfl) (by kernel_rfl) (fun _ _ _ h => h) (by rfl) ?y233 (by assumption) ?_
  case y233 => (intro w hSw; (try dsimp only at hSw); go_simp; (try with_reducible rfl); (try omega))
  simp only [List.setIfInBounds_toArray, List.set_cons_zero, List.set_cons_succ]
  refine held_take (v := arrV l) 13 rfl (by kernel_rfl) (by kernel_rfl) (by kernel_rfl) (fun _ _ _ h => h) (by rfl) (fun W hSw => exec_load_arrT (.tmp 1) rfl w.heap.size l (by rw [HL.out]; exact arr4) rfl hSw.1) (by assumption) ?_
  simp only [List.setIfInBounds_toArray, List.set_cons_zero, List.set_cons_succ]
  refine held_take (v := arrV l) 15 rfl (by kernel_rfl) (by kernel_rfl) (by kernel_rfl) (fun _ _ _ h => h) (by rfl) (fun W hSw => exec_load_arrT (.tmp 1) rfl w.heap.size l (by rw [HL.out]; exact arr4) rfl hSw.1) (by assumption) ?_
  simp only [List.setIfInBounds_toArray, List.set_cons_zero, List.set_cons_succ]
  refine held_one 14 rfl (by kernel_rfl) (by rfl) (fun K hK => ?_)
  go_simp
  refine (HPL.out _ ).mono ?_
  rintro e v5 ⟨rfl, b5⟩
  have hHeld5 := And.intro (hHeld4.1.up b5) (below_up hHeld4.2 b5 hHeld4.2.size)
  refine hK.out _ _ hHeld5 (fun _ => ?_)
  clear hK K
  refine held_one 16 rfl (by kernel_rfl) (by rfl) (fun K hK => ?_)
  go_simp
  refine (HRP.out _ ).mono ?_
  rintro e v6 ⟨rfl, b6⟩
  have hHeld6 := And.intro (hHeld5.1.up b6) (below_up hHeld5.2 b6 hHeld5.2.size)
  refine hK.out _ _ hHeld6 (fun _ => ?_)
  clear hK K
  refine held_take (v := ?v254) 17 rfl (by kernel_rfl) (by kernel_rfl) (by kernel_rfl) (fun _ _ _ h => h) (by rfl) ?y254 (by assumption) ?_
  case y254 => (intro w hSw; (try dsimp only at hSw); go_simp; (try with_reducible rfl); (try omega))
  simp only [List.setIfInBounds_toArray, List.set_cons_zero, List.set_cons_succ]
  refine held_take (v := ?v257) 18 rfl (by kernel_rfl) (by kernel_rfl) (by kernel_rfl) (fun _ _ _ h => h) (by rfl) ?y257 (by assumption) ?_
  case y257 => (intro w hSw; (try dsimp only at hSw); go_simp; (try with_reducible rfl); (try omega))
  simp only [List.setIfInBounds_toArray, List.set_cons_zero, List.set_cons_succ]
  refine held_take (v := ?v260) 19 rfl (by kernel_rfl) (by kernel_rfl) (by kernel_rfl) (fun _ _ _ h => h) (by rfl) ?y260 (by assumption) ?_
  case y260 => (intro w hSw; (try dsimp only at hSw); go_simp; (try with_reducible rfl); (try omega))
  simp only [List.setIfInBounds_toArray, List.set_cons_zero, List.set_cons_succ]
  refine held_take (v := arrV l) 20 rfl (by kernel_rfl) (by kernel_rfl) (by kernel_rfl) (fun _ _ _ h => h) (by rfl) (fun W hSw => exec_load_arrT (.tmp 1) rfl w.heap.size l (by rw [HL.out]; exact arr4) rfl hSw.1) (by assumption) ?_
  simp only [List.setIfInBounds_toArray, List.set_cons_zero, List.set_cons_succ]
  refine held_one 21 rfl (by kernel_rfl) (by rfl) (fun K hK => ?_)
  go_simp
  refine (HMU.out _ ).mono ?_
  rintro e v7 ⟨rfl, b7⟩
  have hHeld7 := And.intro (hHeld6.1.up b7) (below_up hHeld6.2 b7 hHeld6.2.size)
  refine hK.out _ _ hHeld7 (fun _ => ?_)
  clear hK K
  refine held_take (v := ?v272) 22 rfl (by kernel_rfl) (by kernel_rfl) (by kernel_rfl) (fun _ _ _ h => h) (by rfl) ?y272 (by assumption) ?_
  case y272 => (intro w hSw; (try dsimp only at hSw); go_simp; (try with_reducible rfl); (try omega))
  simp only [List.setIfInBounds_toArray, List.set_cons_zero, List.set_cons_succ]
  refine held_skip 23 rfl (by kernel_rfl) (by kernel_rfl) (by kernel_rfl) (fun _ _ _ h => h) (by rfl) (by assumption) ?_
  simp only [List.setIfInBounds_toArray, List.set_cons_zero, List.set_cons_succ]
  refine held_skip 24 rfl (by kernel_rfl) (by kernel_rfl) (by kernel_rfl) (fun _ _ _ h => h) (by rfl) (by assumption) ?_
  simp only [List.setIfInBounds_toArray, List.set_cons_zero, List.set_cons_succ]
  refine held_take (v := ?v279) 25 rfl (by kernel_rfl) (by kernel_rfl) (by kernel_rfl) (fun _ _ _ h => h) (by rfl) ?y279 (by assumption) ?_
  case y279 => (intro w hSw; (try dsimp only at hSw); go_simp; (try with_reducible rfl); (try omega))
  simp only [List.setIfInBounds_toArray, List.set_cons_zero, List.set_cons_succ]
  refine held_take (v := ?v282) 26 rfl (by kernel_rfl) (by kernel_rfl) (by kernel_rfl) (fun _ _ _ h => h) (by rfl) ?y282 (by assumption) ?_
  case y282 => (intro w hSw; (try dsimp only at hSw); go_simp; (try with_reducible rfl); (try omega))
  simp only [List.setIfInBounds_toArray, List.set_cons_zero, List.set_cons_succ]
  refine held_take (v := ?v285) 27 rfl (by kernel_rfl) (by kernel_rfl) (by kernel_rfl) (fun _ _ _ h => h) (by rfl) ?y285 (by assumption) ?_
  case y285 => (intro w hSw; (try dsimp only at hSw); go_simp; (try with_reducible rfl); (try omega))
  simp only [List.setIfInBounds_toArray, List.set_cons_zero, List.set_cons_succ]
  refine held_take (v := ?v288) 28 rfl (by kernel_rfl) (by kernel_rfl) (by kernel_rfl) (fun _ _ _ h => h) (by rfl) ?y288 (by assumption) ?_
  case y288 => (intro w hSw; (try dsimp only at hSw); go_simp; (try with_reducible rfl); (try omega))
  simp only [List.setIfInBounds_toArray, List.set_cons_zero, List.set_cons_succ]
  refine wpAnyH_done (by kernel_rfl) ?_ _
  refine NoPanic.normal ?_
  have HE := Lib.hid hHeld7.2
  clear hHeld0 hHeld1 hHeld2 hHeld3 hHeld4 hHeld5 hHeld6 hHeld7
  go_wp2
  go_ret
  exact ⟨rfl, HE.out⟩
set_option maxRecDepth 100000 in
set_option maxHeartbeats 8000000 in
theorem dtells_tf (l : List UInt8) (w : World) (hl : l.length = 4) (hM : multiB l = true) (hP : plainB l = false) (htab : Lib.TabIs Tryd.prog w "internal/strconv.uint64pow10" .u64 Lib.pow10Tab) :
    Calls Tryd.prog 3 #[arrV l] w fun e w' => e = .returned (.bool true) ∧ Below w.heap.size w w' := by
  have zb : Below w.heap.size w (w.alloc (.cells (byteVals l).toArray 22)) := (Below.refl _ _).alloc (Nat.le_refl _) _
  have HZ := Lib.hid (And.intro (arrT_new (t := 22) w l) zb)
  have HA := Lib.hid (awake6_any _ (tab_below htab zb))
  have HT := Lib.hid (fun (w' : World) (hb : Below w.heap.size w w') => tab_below htab hb)
  have HS := Lib.hid (fun W h => show4_any l W hl h)
  have HRS := Lib.hid (fun W => rshow4_any l W hl)
  have hmu := fun W => multi_any l W hl
  have hrm := fun W => rmulti_any l W hl
  have hpl := fun W => plain_any l W hl
  have hrp := fun W => rplain_any l W hl
  rw [hM] at hmu hrm
  rw [hP] at hpl hrp
  have HMU := Lib.hid hmu
  have HRM := Lib.hid hrm
  have HPL := Lib.hid hpl
  have HRP := Lib.hid hrp
  have HL := Lib.hid hl
  rw [show arrV l = .agg (byteVals l).toArray from rfl]
  generalize showD l = V at *
  clear htab zb hl hmu hrm hpl hrp hM hP
  go_enter Tryd.func3, Tryd.ntmps3
  go_wp2_with (go_at_call 7; refine HA.out.mono ?_; rintro e w1 ⟨rfl, b1⟩; refine Hid.out ?_)
  refine Lib.hid ?_
  have hS0 : ArrT 22 w1 w.heap.size l ∧ Below w.heap.size w w1 := ⟨HZ.out.1.up b1, below_up HZ.out.2 b1 HZ.out.2.size⟩
  have HS0 := Lib.hid hS0
  clear hS0 b1 HZ HA
  go_wp2_with fail
  refine wp_region_noPanic ?_
  refine wp_region_held_drew (S := fun W => ArrT 22 W w.heap.size l ∧ Below w.heap.size w W) (by kernel_rfl) ⟨HS0.out.1, HS0.out.2.drew⟩ (fun hHeld0 => ?_)
  refine held_take (v := arrV l) 0 rfl (by kernel_rfl) (by kernel_rfl) (by kernel_rfl) (fun _ _ _ h => h) (by rfl) (fun W hSw => exec_load_arrT (.tmp 1) rfl w.heap.size l (by rw [HL.out]; exact arr4) rfl hSw.1) (by assumption) ?_
  simp only [List.setIfInBounds_toArray, List.set_cons_zero, List.set_cons_succ]
  refine held_take (v := arrV l) 2 rfl (by kernel_rfl) (by kernel_rfl) (by kernel_rfl) (fun _ _ _ h => h) (by rfl) (fun W hSw => exec_load_arrT (.tmp 1) rfl w.heap.size l (by rw [HL.out]; exact arr4) rfl hSw.1) (by assumption) ?_
  simp only [List.setIfInBounds_toArray, List.set_cons_zero, List.set_cons_succ]
  refine held_one 1 rfl (by kernel_rfl) (by rfl) (fun K hK => ?_)
  go_simp
  refine (HS.out _ (HT.out _ hHeld0.2)).mono ?_
  rintro e v1 ⟨rfl, b1⟩
  have hHeld1 := And.intro (hHeld0.1.up b1) (below_up hHeld0.2 b1 hHeld0.2.size)
  refine hK.out _ _ hHeld1 (fun _ => ?_)
  clear hK K
  refine held_one 3 rfl (by kernel_rfl) (by rfl) (fun K hK => ?_)
  go_simp
  refine (HRS.out _ ).mono ?_
  rintro e v2 ⟨rfl, b2⟩
  have hHeld2 := And.intro (hHeld1.1.up b2) (below_up hHeld1.2 b2 hHeld1.2.size)
  refine hK.out _ _ hHeld2 (fun _ => ?_)
  clear hK K
  refine held_take (v := ?v349) 4 rfl (by kernel_rfl) (by kernel_rfl) (by kernel_rfl) (fun _ _ _ h => h) (by rfl) ?y349 (by assumption) ?_
  case y349 => (intro w hSw; (try dsimp only at hSw); go_simp; (try with_reducible rfl); (try omega))
  simp only [List.setIfInBounds_toArray, List.set_cons_zero, List.set_cons_succ]
  refine held_take (v := ?v352) 5 rfl (by kernel_rfl) (by kernel_rfl) (by kernel_rfl) (fun _ _ _ h => h) (by rfl) ?y352 (by assumption) ?_
  case y352 => (intro w hSw; (try dsimp only at hSw); go_simp; (try with_reducible rfl); (try omega))
  simp only [List.setIfInBounds_toArray, List.set_cons_zero, List.set_cons_succ]
  refine held_take (v := arrV l) 6 rfl (by kernel_rfl) (by kernel_rfl) (by kernel_rfl) (fun _ _ _ h => h) (by rfl) (fun W hSw => exec_load_arrT (.tmp 1) rfl w.heap.size l (by rw [HL.out]; exact arr4) rfl hSw.1) (by assumption) ?_
  simp only [List.setIfInBounds_toArray, List.set_cons_zero, List.set_cons_succ]
  refine held_take (v := arrV l) 8 rfl (by kernel_rfl) (by kernel_rfl) (by kernel_rfl) (fun _ _ _ h => h) (by rfl) (fun W hSw => exec_load_arrT (.tmp 1) rfl w.heap.size l (by rw [HL.out]; exact arr4) rfl hSw.1) (by assumption) ?_
  simp only [List.setIfInBounds_toArray, List.set_cons_zero, List.set_cons_succ]
  refine held_one 7 rfl (by kernel_rfl) (by rfl) (fun K hK => ?_)
  go_simp
  refine (HMU.out _ ).mono ?_
  rintro e v3 ⟨rfl, b3⟩
  have hHeld3 := And.intro (hHeld2.1.up b3) (below_up hHeld2.2 b3 hHeld2.2.size)
  refine hK.out _ _ hHeld3 (fun _ => ?_)
  clear hK K
  refine held_one 9 rfl (by kernel_rfl) (by rfl) (fun K hK => ?_)
  go_simp
  refine (HRM.out _ ).mono ?_
  rintro e v4 ⟨rfl, b4⟩
  have hHeld4 := And.intro (hHeld3.1.up b4) (below_up hHeld3.2 b4 hHeld3.2.size)
  refine hK.out _ _ hHeld4 (fun _ => ?_)
  clear hK K
  refine held_take (v := ?v373) 10 rfl (by kernel_rfl) (by kernel_rfl) (by kernel_rfl) (fun _ _ _ h => h) (by rfl) ?y373 (by assumption) ?_
  case y373 => (intro w hSw; (try dsimp only at hSw); go_simp; (try with_reducible rfl); (try omega))
  simp only [List.setIfInBounds_toArray, List.set_cons_zero, List.set_cons_succ]
  refine held_take (v := ?v376) 11 rfl (by kernel_rfl) (by kernel_rfl) (by kernel_rfl) (fun _ _ _ h => h) (by rfl) ?y376 (by assumption) ?_
  case y376 => (intro w hSw; (try dsimp only at hSw); go_simp; (try with_reducible rfl); (try omega))
  simp only [List.setIfInBounds_toArray, List.set_cons_zero, List.set_cons_succ]
  refine held_take (v := ?v379) 12 rfl (by kernel_rfl) (by kernel_rfl) (by kernel_rfl) (fun _ _ _ h => h) (by rfl) ?y379 (by assumption) ?_
  case y379 => (intro w hSw; (try dsimp only at hSw); go_simp; (try with_reducible rfl); (try omega))
  simp only [List.setIfInBounds_toArray, List.set_cons_zero, List.set_cons_succ]
  refine held_take (v := arrV l) 13 rfl (by kernel_rfl) (by kernel_rfl) (by kernel_rfl) (fun _ _ _ h => h) (by rfl) (fun W hSw => exec_load_arrT (.tmp 1) rfl w.heap.size l (by rw [HL.out]; exact arr4) rfl hSw.1) (by assumption) ?_
  simp only [List.setIfInBounds_toArray, List.set_cons_zero, List.set_cons_succ]
  refine held_take (v := arrV l) 15 rfl (by kernel_rfl) (by kernel_rfl) (by kernel_rfl) (fun _ _ _ h => h) (by rfl) (fun W hSw => exec_load_arrT (.tmp 1) rfl w.heap.size l (by rw [HL.out]; exact arr4) rfl hSw.1) (by assumption) ?_
  simp only [List.setIfInBounds_toArray, List.set_cons_zero, List.set_cons_succ]
  refine held_one 14 rfl (by kernel_rfl) (by rfl) (fun K hK => ?_)
  go_simp
  refine (HPL.out _ ).mono ?_
  rintro e v5 ⟨rfl, b5⟩
  have hHeld5 := And.intro (hHeld4.1.up b5) (below_up hHeld4.2 b5 hHeld4.2.size)
  refine hK.out _ _ hHeld5 (fun _ => ?_)
  clear hK K
  refine held_one 16 rfl (by kernel_rfl) (by rfl) (fun K hK => ?_)
  go_simp
  refine (HRP.out _ ).mono ?_
  rintro e v6 ⟨rfl, b6⟩
  have hHeld6 := And.intro (hHeld5.1.up b6) (below_up hHeld5.2 b6 hHeld5.2.size)
  refine hK.out _ _ hHeld6 (fun _ => ?_)
  clear hK K
  refine held_take (v := ?v400) 17 rfl (by kernel_rfl) (by kernel_rfl) (by kernel_rfl) (fun _ _ _ h => h) (by rfl) ?y400 (by assumption) ?_
  case y400 => (intro w hSw; (try dsimp only at hSw); go_simp; (try with_reducible rfl); (try omega))
  simp only [List.setIfInBounds_toArray, List.set_cons_zero, List.set_cons_succ]
  refine held_take (v := ?v403) 18 rfl (by kernel_rfl) (by kernel_rfl) (by kernel_rfl) (fun _ _ _ h => h) (by rfl) ?y403 (by assumption) ?_
  case y403 => (intro w hSw; (try dsimp only at hSw); go_simp; (try with_reducible rfl); (try omega))
  simp only [List.setIfInBounds_toArray, List.set_cons_zero, List.set_cons_succ]
  refine held_take (v := ?v406) 19 rfl (by kernel_rfl) (by kernel_rfl) (by kernel_rfl) (fun _ _ _ h => h) (by rfl) ?y406 (by assumption) ?_
  case y406 => (intro w hSw; (try dsimp only at hSw); go_simp; (try with_reducible rfl); (try omega))
  simp only [List.setIfInBounds_toArray, List.set_cons_zero, List.set_cons_succ]
  refine held_take (v := arrV l) 20 rfl (by kernel_rfl) (by kernel_rfl) (by kernel_rfl) (fun _ _ _ h => h) (by rfl) (fun W hSw => exec_load_arrT (.tmp 1) rfl w.heap.size l (by rw [HL.out]; exact arr4) rfl hSw.1) (by assumption) ?_
  simp only [List.setIfInBounds_toArray, List.set_cons_zero, List.set_cons_succ]
  refine held_one 21 rfl (by kernel_rfl) (by rfl) (fun K hK => ?_)
  go_simp
  refine (HMU.out _ ).mono ?_
  rintro e v7 ⟨rfl, b7⟩
  have hHeld7 := And.intro (hHeld6.1.up b7) (below_up hHeld6.2 b7 hHeld6.2.size)
  refine hK.out _ _ hHeld7 (fun _ => ?_)
  clear hK K
  refine held_take (v := ?v418) 22 rfl (by kernel_rfl) (by kernel_rfl) (by kernel_rfl) (fun _ _ _ h => h) (by rfl) ?y418 (by assumption) ?_
  case y418 => (intro w hSw; (try dsimp only at hSw); go_simp; (try with_reducible rfl); (try omega))
  simp only [List.setIfInBounds_toArray, List.set_cons_zero, List.set_cons_succ]
  refine held_take (v := arrV l) 23 rfl (by kernel_rfl) (by kernel_rfl) (by kernel_rfl) (fun _ _ _ h => h) (by rfl) (fun W hSw => exec_load_arrT (.tmp 1) rfl w.heap.size l (by rw [HL.out]; exact arr4) rfl hSw.1) (by assumption) ?_
  simp only [List.setIfInBounds_toArray, List.set_cons_zero, List.set_cons_succ]
  refine held_one 24 rfl (by kernel_rfl) (by rfl) (fun K hK => ?_)
  go_simp
  refine (HPL.out _ ).mono ?_
  rintro e v8 ⟨rfl, b8⟩
  have hHeld8 := And.intro (hHeld7.1.up b8) (below_up hHeld7.2 b8 hHeld7.2.size)
  refine hK.out _ _ hHeld8 (fun _ => ?_)
  clear hK K
  refine held_take (v := ?v430) 25 rfl (by kernel_rfl) (by kernel_rfl) (by kernel_rfl) (fun _ _ _ h => h) (by rfl) ?y430 (by assumption) ?_
  case y430 => (intro w hSw; (try dsimp only at hSw); go_simp; (try with_reducible rfl); (try omega))
  simp only [List.setIfInBounds_toArray, List.set_cons_zero, List.set_cons_succ]
  refine held_take (v := ?v433) 26 rfl (by kernel_rfl) (by kernel_rfl) (by kernel_rfl) (fun _ _ _ h => h) (by rfl) ?y433 (by assumption) ?_
  case y433 => (intro w hSw; (try dsimp only at hSw); go_simp; (try with_reducible rfl); (try omega))
  simp only [List.setIfInBounds_toArray, List.set_cons_zero, List.set_cons_succ]
  refine held_take (v := ?v436) 27 rfl (by kernel_rfl) (by kernel_rfl) (by kernel_rfl) (fun _ _ _ h => h) (by rfl) ?y436 (by assumption) ?_
  case y436 => (intro w hSw; (try dsimp only at hSw); go_simp; (try with_reducible rfl); (try omega))
  simp only [List.setIfInBounds_toArray, List.set_cons_zero, List.set_cons_succ]
  refine held_take (v := ?v439) 28 rfl (by kernel_rfl) (by kernel_rfl) (by kernel_rfl) (fun _ _ _ h => h) (by rfl) ?y439 (by assumption) ?_
  case y439 => (intro w hSw; (try dsimp only at hSw); go_simp; (try with_reducible rfl); (try omega))
  simp only [List.setIfInBounds_toArray, List.set_cons_zero, List.set_cons_succ]
  refine wpAnyH_done (by kernel_rfl) ?_ _
  refine NoPanic.normal ?_
  have HE := Lib.hid hHeld8.2
  clear hHeld0 hHeld1 hHeld2 hHeld3 hHeld4 hHeld5 hHeld6 hHeld7 hHeld8
  go_wp2
  go_ret
  exact ⟨rfl, HE.out⟩
theorem dtells_walk (n0 n1 n2 n3 : Int) (w : World) (g0 : 0 ≤ n0) (h0 : n0 ≤ 255) (g1 : 0 ≤ n1) (h1 : n1 ≤ 255) (g2 : 0 ≤ n2) (h2 : n2 ≤ 255) (g3 : 0 ≤ n3) (h3 : n3 ≤ 255) (htab : Lib.TabIs Tryd.prog w "internal/strconv.uint64pow10" .u64 Lib.pow10Tab) :
    Calls Tryd.prog 3 #[.agg #[.int .u8 n0, .int .u8 n1, .int .u8 n2, .int .u8 n3]] w fun e w' => e = .returned (.bool true) ∧ Below w.heap.size w w' := by
  obtain ⟨l, hl, e⟩ := four_of n0 n1 n2 n3 g0 h0 g1 h1 g2 h2 g3 h3
  rw [e]
  have hmp := multi_plain l
  cases hM : multiB l
  · cases hP : plainB l
    · exact dtells_ff l w hl hM hP htab
    · exact dtells_ft l w hl hM hP htab
  · cases hP : plainB l
    · exact dtells_tf l w hl hM hP htab
    · rw [hM, hP] at hmp
      cases hmp
end Go.Proofs.YtjnejnoojpaifaaDoor
