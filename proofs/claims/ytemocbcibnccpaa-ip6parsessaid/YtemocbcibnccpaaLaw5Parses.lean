/- Ip6Parses: the walk. -/
import Derived.Test.YtemocbcibnccpaaAw5
import Derived.Test.YtemocbcibnccpaaSx2
namespace Go.Proofs.Ytemocbcibnccpaa
open Go Go.RowKit

set_option maxRecDepth 100000 in
set_option maxHeartbeats 4000000 in
theorem parses6_walk (a : Option Addr) (n cap : Nat) (l : List UInt8) (w : World) (hv : IsB w (.slice a n cap) l) :
    Calls Try.prog 3 #[.slice a n cap] w fun e w' => e = .returned (.bool true) ∧ Below w.heap.size w w' := by
  obtain ⟨rfl, q1, m1, -⟩ := hv.cells
  have HA := Lib.hid (awake5_any w)
  have HV := Lib.hid hv
  clear hv
  by_cases hbig : 2000 < l.length
  · unfold maxLen at m1
    go_enter Try.func3, Try.ntmps3
    go_wp2_with (go_at_call 7; refine HA.out.mono ?_; rintro e w1 ⟨rfl, b1⟩)
    go_ret
    exact ⟨rfl, b1⟩
  have hl : l.length ≤ 2000 := by omega
  clear hbig
  have HP := Lib.hid (fun W (h : IsB W (.slice a l.length cap) l) => parse6_any a l.length cap l W h (by omega))
  have HRP := Lib.hid (fun W => rparse6_any l W (by omega))
  have HBd := Lib.hid (fun W (h : IsB W (.slice a l.length cap) l) => body6_any a l.length cap l W h (by omega))
  have HRB := Lib.hid (fun W => rbody6_any l W (by omega))
  have HW := Lib.hid (ip6H_wide l)
  generalize ip6H l = H at *
  generalize ip6C l = C at *
  generalize ip6B l = B at *
  go_enter Try.func3, Try.ntmps3
  go_wp2_with (go_at_call 7; refine HA.out.mono ?_; rintro e w1 ⟨rfl, b1⟩; refine Hid.out ?_)
  refine Lib.hid ?_
  have i1 := HV.out.below b1
  have HI1 := Lib.hid i1
  have B1 := Lib.hid b1
  clear b1 i1
  go_wp2_with (go_at_call 8; refine (HP.out _ HI1.out).mono ?_; rintro e w2 ⟨rfl, b2⟩; refine Hid.out ?_)
  refine Lib.hid ?_
  have g3 := b2.alloc b2.size (.cells H.cells 26)
  have hg3 := heap_alloc_new w2 (.cells H.cells 26)
  have hv3 := (HI1.out.below g3).conv (P := Try.prog) Try.underlying22 Try.underlying5 Try.underlying9
  have G3 := Lib.hid g3
  have HG3 := Lib.hid hg3
  clear g3 hg3 b2
  go_wp2_with (first | (refine wpList_store_new6 rfl (.tmp 4) (.tmp 17) rfl H HW.out _ rfl rfl rfl ?_) | (go_at_call 9; refine (HRP.out _).mono ?_; rintro e w4 ⟨rfl, b4⟩; refine Hid.out ?_))
  refine Lib.hid ?_
  have g5 : Below w1.heap.size w1 (w4.alloc (.cells H.cells 26)) := (below_up G3.out b4 G3.out.size).alloc (Nat.le_trans G3.out.size b4.size) _
  have hg5 := (Below.heap_alloc w4 (.cells H.cells 26) w2.heap.size (Nat.lt_of_lt_of_le (Array.getElem?_eq_some_iff.1 HG3.out).1 b4.size)).trans ((b4.block w2.heap.size (Array.getElem?_eq_some_iff.1 HG3.out).1).trans HG3.out)
  have hp5 := heap_alloc_new w4 (.cells H.cells 26)
  clear b4 hv3
  go_wp2_with (refine wpList_store_new6 rfl (.tmp 6) (.tmp 23) rfl H HW.out _ rfl rfl rfl ?_)
  generalize (w4.alloc (.cells H.cells 26)) = w5 at *
  have HS : Hid (∀ W, Below w5.heap.size w5 W → Below w5.heap.size w5 W ∧ W.heap[w2.heap.size]? = some (.cells H.cells 26 (0, 0)) ∧ W.heap[w4.heap.size]? = some (.cells H.cells 26 (0, 0)) ∧ (convert 22 9 (.slice a l.length cap)).run Try.prog W = .ok (.string ⟨l.toArray⟩) W) := by
    intro W hb
    exact ⟨hb, (hb.block _ (Array.getElem?_eq_some_iff.1 hg5).1).trans hg5, (hb.block _ (Array.getElem?_eq_some_iff.1 hp5).1).trans hp5, ((HI1.out.below g5).below hb).conv Try.underlying22 Try.underlying5 Try.underlying9⟩
  have HI5 := Lib.hid (HI1.out.below g5)
  have HB5 := Lib.hid (below_up B1.out g5 B1.out.size)
  clear hg5 hp5 g5 HG3 G3 HI1 B1
  refine wp_region_noPanic ?_
  refine wp_region_held_drew (S := fun W => Below w5.heap.size w5 W ∧ W.heap[w2.heap.size]? = some (.cells H.cells 26 (0, 0)) ∧ W.heap[w4.heap.size]? = some (.cells H.cells 26 (0, 0)) ∧ (convert 22 9 (.slice a l.length cap)).run Try.prog W = .ok (.string ⟨l.toArray⟩) W) (by kernel_rfl) (HS.out _ (Below.refl _ _).drew) (fun hHeld => ?_)
  refine held_take (v := H.val) 0 rfl (by kernel_rfl) (by kernel_rfl) (by kernel_rfl) (fun _ _ _ h => h) (by rfl) (fun W hSw => exec_load_hdr6 (.tmp 4) rfl w2.heap.size H HW.out rfl hSw.2.1) (by assumption) ?_
  simp only [List.setIfInBounds_toArray, List.set_cons_zero, List.set_cons_succ]
  refine held_take (v := H.val) 1 rfl (by kernel_rfl) (by kernel_rfl) (by kernel_rfl) (fun _ _ _ h => h) (by rfl) (fun W hSw => exec_load_hdr6 (.tmp 6) rfl w4.heap.size H HW.out rfl hSw.2.2.1) (by assumption) ?_
  simp only [List.setIfInBounds_toArray, List.set_cons_zero, List.set_cons_succ]
  refine held_take (v := .bool true) 2 rfl (by kernel_rfl) (by kernel_rfl) (by kernel_rfl) (fun _ _ _ h => h) (by rfl) (fun W _ => exec_eql_hdr6 25 26 _ rfl H HW.out rfl rfl) (by assumption) ?_
  simp only [List.setIfInBounds_toArray, List.set_cons_zero, List.set_cons_succ]
  refine held_take (v := ?v67) 3 rfl (by kernel_rfl) (by kernel_rfl) (by kernel_rfl) (fun _ _ _ h => h) (by rfl) ?y67 (by assumption) ?_
  case y67 => (intro w hSw; (try dsimp only at hSw); go_simp; (try with_reducible rfl); (try omega))
  simp only [List.setIfInBounds_toArray, List.set_cons_zero, List.set_cons_succ]
  refine held_take (v := ?v70) 4 rfl (by kernel_rfl) (by kernel_rfl) (by kernel_rfl) (fun _ _ _ h => h) (by rfl) ?y70 (by assumption) ?_
  case y70 => (intro w hSw; (try dsimp only at hSw); go_simp; (try with_reducible rfl); (try omega))
  simp only [List.setIfInBounds_toArray, List.set_cons_zero, List.set_cons_succ]
  refine held_take (v := ?v73) 5 rfl (by kernel_rfl) (by kernel_rfl) (by kernel_rfl) (fun _ _ _ h => h) (by rfl) ?y73 (by assumption) ?_
  case y73 => (intro w hSw; (try dsimp only at hSw); go_simp; (try with_reducible rfl); (try omega))
  simp only [List.setIfInBounds_toArray, List.set_cons_zero, List.set_cons_succ]
  refine held_take (v := ?v76) 6 rfl (by kernel_rfl) (by kernel_rfl) (by kernel_rfl) (fun _ _ _ h => h) (by rfl) ?y76 (by assumption) ?_
  case y76 => (intro w hSw; (try dsimp only at hSw); go_simp; (try with_reducible rfl); (try omega))
  simp only [List.setIfInBounds_toArray, List.set_cons_zero, List.set_cons_succ]
  refine held_take (v := ?v79) 7 rfl (by kernel_rfl) (by kernel_rfl) (by kernel_rfl) (fun _ _ _ h => h) (by rfl) ?y79 (by assumption) ?_
  case y79 => (intro w hSw; (try dsimp only at hSw); go_simp; (try with_reducible rfl); (try omega))
  simp only [List.setIfInBounds_toArray, List.set_cons_zero, List.set_cons_succ]
  refine held_take (v := ?v82) 8 rfl (by kernel_rfl) (by kernel_rfl) (by kernel_rfl) (fun _ _ _ h => h) (by rfl) ?y82 (by assumption) ?_
  case y82 => (intro w hSw; (try dsimp only at hSw); go_simp; (try with_reducible rfl); (try omega))
  simp only [List.setIfInBounds_toArray, List.set_cons_zero, List.set_cons_succ]
  refine held_take (v := ?v85) 9 rfl (by kernel_rfl) (by kernel_rfl) (by kernel_rfl) (fun _ _ _ h => h) (by rfl) ?y85 (by assumption) ?_
  case y85 => (intro w hSw; (try dsimp only at hSw); go_simp; (try with_reducible rfl); (try omega))
  simp only [List.setIfInBounds_toArray, List.set_cons_zero, List.set_cons_succ]
  refine held_take (v := ?v88) 12 rfl (by kernel_rfl) (by kernel_rfl) (by kernel_rfl) (fun _ _ _ h => h) (by rfl) ?y88 (by assumption) ?_
  case y88 => (intro w hSw; (try dsimp only at hSw); go_simp; (try with_reducible rfl); (try omega))
  simp only [List.setIfInBounds_toArray, List.set_cons_zero, List.set_cons_succ]
  refine held_take (v := ?v91) 13 rfl (by kernel_rfl) (by kernel_rfl) (by kernel_rfl) (fun _ _ _ h => h) (by rfl) ?y91 (by assumption) ?_
  case y91 => (intro w hSw; (try dsimp only at hSw); go_simp; (try with_reducible rfl); (try omega))
  simp only [List.setIfInBounds_toArray, List.set_cons_zero, List.set_cons_succ]
  refine held_one 10 rfl (by kernel_rfl) (by rfl) (fun K hK => ?_)
  go_simp
  refine (HBd.out _ (HI5.out.below (Below.refl _ _).drew)).mono ?_
  rintro e w6 ⟨⟨a6, n6, c6, rfl, i6⟩, b6⟩
  have g6 : Below w5.heap.size w5 w6 := below_up (Below.refl _ _).drew b6 (Nat.le_refl _)
  refine hK.out _ _ (HS.out _ g6) (fun hHeld6 => ?_)
  clear hK K hHeld b6
  refine wpAnyH_more (fun W => (convert 22 9 (.slice a6 n6 c6)).run Try.prog W = .ok (.string ⟨B.toArray⟩) W ∧ Below w5.heap.size w5 W) (fun W h => HS.out _ h.2) _ _ _ _ ?_
  have hHeld7 := And.intro (i6.conv (P := Try.prog) Try.underlying22 Try.underlying5 Try.underlying9) g6
  clear hHeld6
  refine held_take (v := ?v104) 11 rfl (by kernel_rfl) (by kernel_rfl) (by kernel_rfl) (fun _ _ _ h => h) (by rfl) ?y104 (by assumption) ?_
  case y104 => (intro w hSw; (try dsimp only at hSw); go_simp; (try with_reducible rfl); (try omega))
  simp only [List.setIfInBounds_toArray, List.set_cons_zero, List.set_cons_succ]
  refine held_one 14 rfl (by kernel_rfl) (by rfl) (fun K hK => ?_)
  go_simp
  refine (HRB.out _).mono ?_
  rintro e w8 ⟨rfl, b8⟩
  have g8 : Below w5.heap.size w5 w8 := below_up g6 b8 g6.size
  refine hK.out _ _ ⟨(i6.below b8).conv Try.underlying22 Try.underlying5 Try.underlying9, g8⟩ (fun hHeld8 => ?_)
  clear hK K hHeld7
  refine held_take (v := ?v114) 15 rfl (by kernel_rfl) (by kernel_rfl) (by kernel_rfl) (fun _ _ _ h => h) (by rfl) ?y114 (by assumption) ?_
  case y114 => (intro w hSw; (try dsimp only at hSw); go_simp; (try with_reducible rfl); (try omega))
  simp only [List.setIfInBounds_toArray, List.set_cons_zero, List.set_cons_succ]
  refine held_take (v := ?v117) 16 rfl (by kernel_rfl) (by kernel_rfl) (by kernel_rfl) (fun _ _ _ h => h) (by rfl) ?y117 (by assumption) ?_
  case y117 => (intro w hSw; (try dsimp only at hSw); go_simp; (try with_reducible rfl); (try omega))
  simp only [List.setIfInBounds_toArray, List.set_cons_zero, List.set_cons_succ]
  refine held_take (v := ?v120) 17 rfl (by kernel_rfl) (by kernel_rfl) (by kernel_rfl) (fun _ _ _ h => h) (by rfl) ?y120 (by assumption) ?_
  case y120 => (intro w hSw; (try dsimp only at hSw); go_simp; (try with_reducible rfl); (try omega))
  simp only [List.setIfInBounds_toArray, List.set_cons_zero, List.set_cons_succ]
  refine wpAnyH_done (by kernel_rfl) ?_ _
  refine NoPanic.normal ?_
  clear hHeld8
  go_wp2
  go_ret
  exact ⟨rfl, below_up HB5.out g8 HB5.out.size⟩
end Go.Proofs.Ytemocbcibnccpaa
