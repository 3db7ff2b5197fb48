/- ColonTells returns true, whatever it is given, and turns no old memory. -/
import Derived.Test.YteomoipbjkafgaaDoorCr2
import Derived.Test.YteomoipbjkafgaaDoorLaw7Back
namespace Go.Proofs.YteomoipbjkafgaaDoor
open Go Go.RowKit

set_option maxRecDepth 100000 in
set_option maxHeartbeats 8000000 in
theorem ctells_list (a : List UInt8) (w : World) (ha : a.length = 16) (hE : Env w) :
    Calls Tryd.prog 3 #[arrV a] w fun e w' => e = .returned (.bool true) ∧ Below w.heap.size w w' := by
  have zb : Below w.heap.size w (w.alloc (.cells (byteVals a).toArray 22)) := (Below.refl _ _).alloc (Nat.le_refl _) _
  have HZ : Hid (BackS w a (w.alloc (.cells (byteVals a).toArray 22))) := ⟨arrT_new w a, hE.up zb, zb⟩
  have HA := Lib.hid (fun W h => awake7_any W h)
  have HS := Lib.hid (fun W h => show_any a W h ha)
  have HRS := Lib.hid (fun W => rshow_any a W ha)
  have HG := Lib.hid (fun W => groups_any a W ha)
  have HRG := Lib.hid (fun W => rgroups_any a W ha)
  have HM := Lib.hid (fun W => cmulti_any a W ha)
  have HRM := Lib.hid (fun W => rcmulti_any a W ha)
  have HP := Lib.hid (fun W => cplain_any a W ha)
  have HRP := Lib.hid (fun W => rcplain_any a W ha)
  have HL := Lib.hid ha
  have HNL : Hid ((natsI (grpN a)).length = 8) := by show _ = _; rw [natsI_length, grpN_length]
  rw [show arrV a = .agg (byteVals a).toArray from rfl]
  generalize showA a = V at *
  generalize natsI (grpN a) = G at *
  generalize multi7 a = M at *
  generalize plain7 a = P at *
  clear hE zb ha
  go_enter Tryd.func3, Tryd.ntmps3
  go_wp2_with (go_at_call 8; refine (HA.out _ HZ.out.2.1).mono ?_; rintro e w1 ⟨rfl, b1⟩; refine Hid.out ?_)
  refine Lib.hid ?_
  have hS0 := HZ.out.up b1
  have HS0 := Lib.hid hS0
  clear hS0 b1 HZ HA
  go_wp2_with fail
  refine wp_region_noPanic ?_
  refine wp_region_held_drew (S := BackS w a) (by kernel_rfl) ⟨HS0.out.1, ⟨HS0.out.2.1.max, HS0.out.2.1.maxLt, HS0.out.2.1.tz, HS0.out.2.1.tzLt⟩, HS0.out.2.2.drew⟩ (fun hHeld0 => ?_)
  refine held_take (v := arrV a) 0 rfl (by kernel_rfl) (by kernel_rfl) (by kernel_rfl) (fun _ _ _ h => h) (by rfl) (fun W hSw => exec_load_arrT (.tmp 1) rfl w.heap.size a (by rw [HL.out]; exact arr16) rfl hSw.1) (by assumption) ?_
  simp only [List.setIfInBounds_toArray, List.set_cons_zero, List.set_cons_succ]
  refine held_take (v := arrV a) 2 rfl (by kernel_rfl) (by kernel_rfl) (by kernel_rfl) (fun _ _ _ h => h) (by rfl) (fun W hSw => exec_load_arrT (.tmp 1) rfl w.heap.size a (by rw [HL.out]; exact arr16) rfl hSw.1) (by assumption) ?_
  simp only [List.setIfInBounds_toArray, List.set_cons_zero, List.set_cons_succ]
  refine held_one 1 rfl (by kernel_rfl) (by rfl) (fun K hK => ?_)
  go_simp
  refine (HS.out _ hHeld0.2.1).mono ?_
  rintro e v1 ⟨rfl, b1⟩
  have hHeld1 := hHeld0.up b1
  refine hK.out _ _ hHeld1 (fun _ => ?_)
  clear hK K b1
  refine held_one 3 rfl (by kernel_rfl) (by rfl) (fun K hK => ?_)
  go_simp
  refine (HRS.out _).mono ?_
  rintro e v2 ⟨rfl, b2⟩
  have hHeld2 := hHeld1.up b2
  refine hK.out _ _ hHeld2 (fun _ => ?_)
  clear hK K b2
  refine held_take (v := ?v56) 4 rfl (by kernel_rfl) (by kernel_rfl) (by kernel_rfl) (fun _ _ _ h => h) (by rfl) ?y56 (by assumption) ?_
  case y56 => (intro w hSw; unfold BackS at hSw; go_simp; (try with_reducible rfl); (try omega))
  simp only [List.setIfInBounds_toArray, List.set_cons_zero, List.set_cons_succ]
  refine held_take (v := ?v59) 5 rfl (by kernel_rfl) (by kernel_rfl) (by kernel_rfl) (fun _ _ _ h => h) (by rfl) ?y59 (by assumption) ?_
  case y59 => (intro w hSw; unfold BackS at hSw; go_simp; (try with_reducible rfl); (try omega))
  simp only [List.setIfInBounds_toArray, List.set_cons_zero, List.set_cons_succ]
  refine held_take (v := arrV a) 6 rfl (by kernel_rfl) (by kernel_rfl) (by kernel_rfl) (fun _ _ _ h => h) (by rfl) (fun W hSw => exec_load_arrT (.tmp 1) rfl w.heap.size a (by rw [HL.out]; exact arr16) rfl hSw.1) (by assumption) ?_
  simp only [List.setIfInBounds_toArray, List.set_cons_zero, List.set_cons_succ]
  refine held_take (v := arrV a) 8 rfl (by kernel_rfl) (by kernel_rfl) (by kernel_rfl) (fun _ _ _ h => h) (by rfl) (fun W hSw => exec_load_arrT (.tmp 1) rfl w.heap.size a (by rw [HL.out]; exact arr16) rfl hSw.1) (by assumption) ?_
  simp only [List.setIfInBounds_toArray, List.set_cons_zero, List.set_cons_succ]
  refine held_one 7 rfl (by kernel_rfl) (by rfl) (fun K hK => ?_)
  go_simp
  refine (HG.out _).mono ?_
  rintro e v3 ⟨rfl, b3⟩
  have hHeld3 := hHeld2.up b3
  refine hK.out _ _ hHeld3 (fun _ => ?_)
  clear hK K b3
  refine held_one 9 rfl (by kernel_rfl) (by rfl) (fun K hK => ?_)
  go_simp
  refine (HRG.out _).mono ?_
  rintro e v4 ⟨rfl, b4⟩
  have hHeld4 := hHeld3.up b4
  refine hK.out _ _ hHeld4 (fun _ => ?_)
  clear hK K b4
  refine held_take (v := .bool true) 10 rfl (by kernel_rfl) (by kernel_rfl) (by kernel_rfl) (fun _ _ _ h => h) (by rfl) (fun W hSw => by rw [exec_eql_int ints8 (.tmp 14) (.tmp 16) _ rfl G G HNL.out HNL.out rfl rfl, decide_eq_true rfl]) (by assumption) ?_
  simp only [List.setIfInBounds_toArray, List.set_cons_zero, List.set_cons_succ]
  refine held_take (v := ?v82) 11 rfl (by kernel_rfl) (by kernel_rfl) (by kernel_rfl) (fun _ _ _ h => h) (by rfl) ?y82 (by assumption) ?_
  case y82 => (intro w hSw; unfold BackS at hSw; go_simp; (try with_reducible rfl); (try omega))
  simp only [List.setIfInBounds_toArray, List.set_cons_zero, List.set_cons_succ]
  refine held_take (v := ?v85) 12 rfl (by kernel_rfl) (by kernel_rfl) (by kernel_rfl) (fun _ _ _ h => h) (by rfl) ?y85 (by assumption) ?_
  case y85 => (intro w hSw; unfold BackS at hSw; go_simp; (try with_reducible rfl); (try omega))
  simp only [List.setIfInBounds_toArray, List.set_cons_zero, List.set_cons_succ]
  refine held_take (v := arrV a) 13 rfl (by kernel_rfl) (by kernel_rfl) (by kernel_rfl) (fun _ _ _ h => h) (by rfl) (fun W hSw => exec_load_arrT (.tmp 1) rfl w.heap.size a (by rw [HL.out]; exact arr16) rfl hSw.1) (by assumption) ?_
  simp only [List.setIfInBounds_toArray, List.set_cons_zero, List.set_cons_succ]
  refine held_take (v := arrV a) 15 rfl (by kernel_rfl) (by kernel_rfl) (by kernel_rfl) (fun _ _ _ h => h) (by rfl) (fun W hSw => exec_load_arrT (.tmp 1) rfl w.heap.size a (by rw [HL.out]; exact arr16) rfl hSw.1) (by assumption) ?_
  simp only [List.setIfInBounds_toArray, List.set_cons_zero, List.set_cons_succ]
  refine held_one 14 rfl (by kernel_rfl) (by rfl) (fun K hK => ?_)
  go_simp
  refine (HM.out _).mono ?_
  rintro e v5 ⟨rfl, b5⟩
  have hHeld5 := hHeld4.up b5
  refine hK.out _ _ hHeld5 (fun _ => ?_)
  clear hK K b5
  refine held_one 16 rfl (by kernel_rfl) (by rfl) (fun K hK => ?_)
  go_simp
  refine (HRM.out _).mono ?_
  rintro e v6 ⟨rfl, b6⟩
  have hHeld6 := hHeld5.up b6
  refine hK.out _ _ hHeld6 (fun _ => ?_)
  clear hK K b6
  refine held_take (v := ?v106) 17 rfl (by kernel_rfl) (by kernel_rfl) (by kernel_rfl) (fun _ _ _ h => h) (by rfl) ?y106 (by assumption) ?_
  case y106 => (intro w hSw; unfold BackS at hSw; go_simp; (try with_reducible rfl); (try omega))
  simp only [List.setIfInBounds_toArray, List.set_cons_zero, List.set_cons_succ]
  refine held_take (v := ?v109) 18 rfl (by kernel_rfl) (by kernel_rfl) (by kernel_rfl) (fun _ _ _ h => h) (by rfl) ?y109 (by assumption) ?_
  case y109 => (intro w hSw; unfold BackS at hSw; go_simp; (try with_reducible rfl); (try omega))
  simp only [List.setIfInBounds_toArray, List.set_cons_zero, List.set_cons_succ]
  refine held_take (v := ?v112) 19 rfl (by kernel_rfl) (by kernel_rfl) (by kernel_rfl) (fun _ _ _ h => h) (by rfl) ?y112 (by assumption) ?_
  case y112 => (intro w hSw; unfold BackS at hSw; go_simp; (try with_reducible rfl); (try omega))
  simp only [List.setIfInBounds_toArray, List.set_cons_zero, List.set_cons_succ]
  refine held_take (v := arrV a) 20 rfl (by kernel_rfl) (by kernel_rfl) (by kernel_rfl) (fun _ _ _ h => h) (by rfl) (fun W hSw => exec_load_arrT (.tmp 1) rfl w.heap.size a (by rw [HL.out]; exact arr16) rfl hSw.1) (by assumption) ?_
  simp only [List.setIfInBounds_toArray, List.set_cons_zero, List.set_cons_succ]
  refine held_take (v := arrV a) 22 rfl (by kernel_rfl) (by kernel_rfl) (by kernel_rfl) (fun _ _ _ h => h) (by rfl) (fun W hSw => exec_load_arrT (.tmp 1) rfl w.heap.size a (by rw [HL.out]; exact arr16) rfl hSw.1) (by assumption) ?_
  simp only [List.setIfInBounds_toArray, List.set_cons_zero, List.set_cons_succ]
  refine held_one 21 rfl (by kernel_rfl) (by rfl) (fun K hK => ?_)
  go_simp
  refine (HP.out _).mono ?_
  rintro e v7 ⟨rfl, b7⟩
  have hHeld7 := hHeld6.up b7
  refine hK.out _ _ hHeld7 (fun _ => ?_)
  clear hK K b7
  refine held_one 23 rfl (by kernel_rfl) (by rfl) (fun K hK => ?_)
  go_simp
  refine (HRP.out _).mono ?_
  rintro e v8 ⟨rfl, b8⟩
  have hHeld8 := hHeld7.up b8
  refine hK.out _ _ hHeld8 (fun _ => ?_)
  clear hK K b8
  refine held_take (v := ?v133) 24 rfl (by kernel_rfl) (by kernel_rfl) (by kernel_rfl) (fun _ _ _ h => h) (by rfl) ?y133 (by assumption) ?_
  case y133 => (intro w hSw; unfold BackS at hSw; go_simp; (try with_reducible rfl); (try omega))
  simp only [List.setIfInBounds_toArray, List.set_cons_zero, List.set_cons_succ]
  refine held_take (v := ?v136) 25 rfl (by kernel_rfl) (by kernel_rfl) (by kernel_rfl) (fun _ _ _ h => h) (by rfl) ?y136 (by assumption) ?_
  case y136 => (intro w hSw; unfold BackS at hSw; go_simp; (try with_reducible rfl); (try omega))
  simp only [List.setIfInBounds_toArray, List.set_cons_zero, List.set_cons_succ]
  refine held_take (v := ?v139) 26 rfl (by kernel_rfl) (by kernel_rfl) (by kernel_rfl) (fun _ _ _ h => h) (by rfl) ?y139 (by assumption) ?_
  case y139 => (intro w hSw; unfold BackS at hSw; go_simp; (try with_reducible rfl); (try omega))
  simp only [List.setIfInBounds_toArray, List.set_cons_zero, List.set_cons_succ]
  refine wpAnyH_done (by kernel_rfl) ?_ _
  refine NoPanic.normal ?_
  go_wp2
  go_ret
  exact ⟨rfl, hHeld8.2.2⟩
theorem ctells_row (n0 n1 n2 n3 n4 n5 n6 n7 n8 n9 n10 n11 n12 n13 n14 n15 : Int) (w : World) (g0 : 0 ≤ n0) (h0 : n0 ≤ 255) (g1 : 0 ≤ n1) (h1 : n1 ≤ 255) (g2 : 0 ≤ n2) (h2 : n2 ≤ 255) (g3 : 0 ≤ n3) (h3 : n3 ≤ 255) (g4 : 0 ≤ n4) (h4 : n4 ≤ 255) (g5 : 0 ≤ n5) (h5 : n5 ≤ 255) (g6 : 0 ≤ n6) (h6 : n6 ≤ 255) (g7 : 0 ≤ n7) (h7 : n7 ≤ 255) (g8 : 0 ≤ n8) (h8 : n8 ≤ 255) (g9 : 0 ≤ n9) (h9 : n9 ≤ 255) (g10 : 0 ≤ n10) (h10 : n10 ≤ 255) (g11 : 0 ≤ n11) (h11 : n11 ≤ 255) (g12 : 0 ≤ n12) (h12 : n12 ≤ 255) (g13 : 0 ≤ n13) (h13 : n13 ≤ 255) (g14 : 0 ≤ n14) (h14 : n14 ≤ 255) (g15 : 0 ≤ n15) (h15 : n15 ≤ 255) (hE : Env w) :
    Calls Tryd.prog 3 #[.agg #[.int .u8 n0, .int .u8 n1, .int .u8 n2, .int .u8 n3, .int .u8 n4, .int .u8 n5, .int .u8 n6, .int .u8 n7, .int .u8 n8, .int .u8 n9, .int .u8 n10, .int .u8 n11, .int .u8 n12, .int .u8 n13, .int .u8 n14, .int .u8 n15]] w fun e w' => e = .returned (.bool true) ∧ Below w.heap.size w w' := by
  obtain ⟨l, hl, e⟩ := sixteen_of n0 n1 n2 n3 n4 n5 n6 n7 n8 n9 n10 n11 n12 n13 n14 n15 g0 h0 g1 h1 g2 h2 g3 h3 g4 h4 g5 h5 g6 h6 g7 h7 g8 h8 g9 h9 g10 h10 g11 h11 g12 h12 g13 h13 g14 h14 g15 h15
  rw [e]
  exact ctells_list l w hl hE
end Go.Proofs.YteomoipbjkafgaaDoor
