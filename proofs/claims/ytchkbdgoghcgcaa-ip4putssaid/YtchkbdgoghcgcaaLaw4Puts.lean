/- Ip4Puts: the walk. -/
import Derived.Test.YtchkbdgoghcgcaaAw4
namespace Go.Proofs.Ytchkbdgoghcgcaa
open Go Go.RowKit

set_option maxRecDepth 100000 in
set_option maxHeartbeats 4000000 in
theorem puts4_walk (h : Hdr) (a : Option Addr) (n cap : Nat) (l : List UInt8) (w : World) (hid : h.id ≤ 65535) (hv : IsB w (.slice a n cap) l) :
    Calls Try.prog 4 #[h.val, .slice a n cap] w fun e w' => e = .returned (.bool true) ∧ Below w.heap.size w w' := by
  obtain ⟨rfl, q1, m1, -⟩ := hv.cells
  have hsz : (⟨h.opt.toArray⟩ : ByteArray).size = h.opt.length := by simp [ByteArray.size]
  have b0 : Below w.heap.size w (w.alloc (.cells h.cells 27)) := (Below.refl _ _).alloc (Nat.le_refl _) _
  have hg0 := heap_alloc_new w (.cells h.cells 27)
  have HA := Lib.hid (awake4_any (w.alloc (.cells h.cells 27)))
  have HC : Hid (∀ W, Below (w.alloc (.cells h.cells 27)).heap.size (w.alloc (.cells h.cells 27)) W → W.heap[w.heap.size]? = some (.cells h.cells 27 (0, 0)) ∧ W.cell? ⟨w.heap.size, 16, none⟩ = some (.string ⟨h.opt.toArray⟩) ∧ IsB W (.slice a l.length cap) l ∧ Below w.heap.size w W) := by
    intro W hb
    have h1 := (hb.block w.heap.size (by simp)).trans hg0
    exact ⟨h1, hdr_cell h1 16, (hv.below b0).below hb, below_up b0 hb b0.size⟩
  rw [show h.val = .agg h.cells from rfl]
  unfold maxLen at m1
  clear hv b0 hg0
  by_cases hbig : 100 < h.opt.length ∨ 70000 < l.length
  · have hb2 : 100 < (h.opt.length : Int) ∨ (¬ 100 < (h.opt.length : Int) ∧ 70000 < (l.length : Int)) := by omega
    clear hbig
    generalize h.opt.length = M at *
    rcases hb2 with hb2 | ⟨hb3, hb2⟩
    all_goals
      go_enter Try.func4, Try.ntmps4
      go_wp2_with (go_at_call 9; refine HA.out.mono ?_; rintro e w1 ⟨rfl, b1⟩; refine Hid.out ?_)
      refine Lib.hid ?_
      obtain ⟨-, d16, -, e1⟩ := HC.out _ b1
      have E1 := Lib.hid e1
      clear e1 b1
      go_wp2
      go_ret
      exact ⟨rfl, E1.out⟩
  have ho : h.opt.length ≤ 100 := by omega
  have hl : l.length ≤ 70000 := by omega
  have ho2 : (h.opt.length : Int) ≤ 100 := by omega
  have hl2 : (l.length : Int) ≤ 70000 := by omega
  clear hbig
  have HP := Lib.hid (fun W (i : IsB W (.slice a l.length cap) l) => put4_any h a l.length cap l W hid i (by omega))
  have HRP := Lib.hid (fun W => rput4_any h l W hid (by omega))
  have HS := Lib.hid (fun W => size_any h W (by omega))
  have HRS := Lib.hid (fun W => rsize_any h W (by omega))
  generalize putC4 h l.length = C at *
  generalize putP4 h l = P at *
  generalize h.size = Z at *
  generalize h.opt.length = M at *
  go_enter Try.func4, Try.ntmps4
  go_wp2_with (go_at_call 9; refine HA.out.mono ?_; rintro e w1 ⟨rfl, b1⟩; refine Hid.out ?_)
  refine Lib.hid ?_
  obtain ⟨hg1, d16, i1, e1⟩ := HC.out _ b1
  have HG1 := Lib.hid hg1
  have HI1 := Lib.hid i1
  have B1 := Lib.hid b1
  clear b1 e1 i1 hg1
  go_wp2_with (first | (refine wpList_load_hdr rfl (.tmp 2) rfl w.heap.size h rfl HG1.out ?_) | (go_at_call 14; refine (HP.out _ HI1.out).mono ?_; rintro e w2 ⟨⟨a2, n2, c2, rfl, i2⟩, b2⟩; refine Hid.out ?_))
  refine Lib.hid ?_
  have B2 := Lib.hid (below_up B1.out b2 B1.out.size)
  obtain ⟨hg2, -, j2, -⟩ := HC.out _ B2.out
  have hv2 := j2.conv (P := Try.prog) Try.underlying22 Try.underlying5 Try.underlying9
  have HG2 := Lib.hid hg2
  have HI2 := Lib.hid i2
  clear b2 hg2 j2 i2 d16 HG1
  go_wp2_with (first | (refine wpList_load_hdr rfl (.tmp 2) rfl w.heap.size h rfl HG2.out ?_) | (go_at_call 15; refine (HRP.out _).mono ?_; rintro e w3 ⟨rfl, b3⟩; refine Hid.out ?_))
  refine Lib.hid ?_
  have B3 := Lib.hid (below_up B2.out b3 B2.out.size)
  have HI3 := Lib.hid (HI2.out.below b3)
  clear b3 hv2 HG2 HI2
  have HSt : Hid (∀ W, Below w3.heap.size w3 W → W.heap[w.heap.size]? = some (.cells h.cells 27 (0, 0)) ∧ (convert 22 9 (.slice a2 n2 c2)).run Try.prog W = .ok (.string ⟨P.toArray⟩) W) := by
    intro W hb
    exact ⟨(HC.out _ (below_up B3.out hb B3.out.size)).1, (HI3.out.below hb).conv Try.underlying22 Try.underlying5 Try.underlying9⟩
  go_wp2_with fail
  refine wp_region_noPanic ?_
  refine wp_region_held_drew (S := fun W => W.heap[w.heap.size]? = some (.cells h.cells 27 (0, 0)) ∧ (convert 22 9 (.slice a2 n2 c2)).run Try.prog W = .ok (.string ⟨P.toArray⟩) W) (by kernel_rfl) (HSt.out _ (Below.refl _ _).drew) (fun hHeld => ?_)
  refine held_take (v := ?v76) 0 rfl (by kernel_rfl) (by kernel_rfl) (by kernel_rfl) (fun _ _ _ h => h) (by rfl) ?y76 (by assumption) ?_
  case y76 => (intro w hSw; (try dsimp only at hSw); go_simp; (try with_reducible rfl); (try omega))
  simp only [List.setIfInBounds_toArray, List.set_cons_zero, List.set_cons_succ]
  refine held_take (v := ?v79) 1 rfl (by kernel_rfl) (by kernel_rfl) (by kernel_rfl) (fun _ _ _ h => h) (by rfl) ?y79 (by assumption) ?_
  case y79 => (intro w hSw; (try dsimp only at hSw); go_simp; (try with_reducible rfl); (try omega))
  simp only [List.setIfInBounds_toArray, List.set_cons_zero, List.set_cons_succ]
  refine held_take (v := ?v82) 2 rfl (by kernel_rfl) (by kernel_rfl) (by kernel_rfl) (fun _ _ _ h => h) (by rfl) ?y82 (by assumption) ?_
  case y82 => (intro w hSw; (try dsimp only at hSw); go_simp; (try with_reducible rfl); (try omega))
  simp only [List.setIfInBounds_toArray, List.set_cons_zero, List.set_cons_succ]
  refine held_take (v := ?v85) 3 rfl (by kernel_rfl) (by kernel_rfl) (by kernel_rfl) (fun _ _ _ h => h) (by rfl) ?y85 (by assumption) ?_
  case y85 => (intro w hSw; (try dsimp only at hSw); go_simp; (try with_reducible rfl); (try omega))
  simp only [List.setIfInBounds_toArray, List.set_cons_zero, List.set_cons_succ]
  refine held_take (v := ?v88) 4 rfl (by kernel_rfl) (by kernel_rfl) (by kernel_rfl) (fun _ _ _ h => h) (by rfl) ?y88 (by assumption) ?_
  case y88 => (intro w hSw; (try dsimp only at hSw); go_simp; (try with_reducible rfl); (try omega))
  simp only [List.setIfInBounds_toArray, List.set_cons_zero, List.set_cons_succ]
  refine held_take (v := ?v91) 5 rfl (by kernel_rfl) (by kernel_rfl) (by kernel_rfl) (fun _ _ _ h => h) (by rfl) ?y91 (by assumption) ?_
  case y91 => (intro w hSw; (try dsimp only at hSw); go_simp; (try with_reducible rfl); (try omega))
  simp only [List.setIfInBounds_toArray, List.set_cons_zero, List.set_cons_succ]
  refine held_take (v := ?v94) 6 rfl (by kernel_rfl) (by kernel_rfl) (by kernel_rfl) (fun _ _ _ h => h) (by rfl) ?y94 (by assumption) ?_
  case y94 => (intro w hSw; (try dsimp only at hSw); go_simp; (try with_reducible rfl); (try omega))
  simp only [List.setIfInBounds_toArray, List.set_cons_zero, List.set_cons_succ]
  refine held_take (v := ?v97) 7 rfl (by kernel_rfl) (by kernel_rfl) (by kernel_rfl) (fun _ _ _ h => h) (by rfl) ?y97 (by assumption) ?_
  case y97 => (intro w hSw; (try dsimp only at hSw); go_simp; (try with_reducible rfl); (try omega))
  simp only [List.setIfInBounds_toArray, List.set_cons_zero, List.set_cons_succ]
  refine held_take (v := ?v100) 8 rfl (by kernel_rfl) (by kernel_rfl) (by kernel_rfl) (fun _ _ _ h => h) (by rfl) ?y100 (by assumption) ?_
  case y100 => (intro w hSw; (try dsimp only at hSw); go_simp; (try with_reducible rfl); (try omega))
  simp only [List.setIfInBounds_toArray, List.set_cons_zero, List.set_cons_succ]
  refine held_take (v := ?v103) 9 rfl (by kernel_rfl) (by kernel_rfl) (by kernel_rfl) (fun _ _ _ h => h) (by rfl) ?y103 (by assumption) ?_
  case y103 => (intro w hSw; (try dsimp only at hSw); go_simp; (try with_reducible rfl); (try omega))
  simp only [List.setIfInBounds_toArray, List.set_cons_zero, List.set_cons_succ]
  refine held_take (v := h.val) 10 rfl (by kernel_rfl) (by kernel_rfl) (by kernel_rfl) (fun _ _ _ h => h) (by rfl) (fun W hSw => exec_load_hdr (.tmp 2) rfl w.heap.size h rfl hSw.1) (by assumption) ?_
  simp only [List.setIfInBounds_toArray, List.set_cons_zero, List.set_cons_succ]
  refine held_take (v := h.val) 12 rfl (by kernel_rfl) (by kernel_rfl) (by kernel_rfl) (fun _ _ _ h => h) (by rfl) (fun W hSw => exec_load_hdr (.tmp 2) rfl w.heap.size h rfl hSw.1) (by assumption) ?_
  simp only [List.setIfInBounds_toArray, List.set_cons_zero, List.set_cons_succ]
  refine held_one 11 rfl (by kernel_rfl) (by rfl) (fun K hK => ?_)
  go_simp
  refine (HS.out _).mono ?_
  rintro e w4 ⟨rfl, b4⟩
  have g4 : Below w3.heap.size w3 w4 := below_up (Below.refl _ _).drew b4 (Nat.le_refl _)
  refine hK.out _ _ (HSt.out _ g4) (fun hHeld4 => ?_)
  clear hK K hHeld b4
  refine held_one 13 rfl (by kernel_rfl) (by rfl) (fun K hK => ?_)
  go_simp
  refine (HRS.out _).mono ?_
  rintro e w5 ⟨rfl, b5⟩
  have g5 : Below w3.heap.size w3 w5 := below_up g4 b5 g4.size
  refine hK.out _ _ (HSt.out _ g5) (fun hHeld5 => ?_)
  clear hK K hHeld4 b5
  refine held_take (v := ?v124) 14 rfl (by kernel_rfl) (by kernel_rfl) (by kernel_rfl) (fun _ _ _ h => h) (by rfl) ?y124 (by assumption) ?_
  case y124 => (intro w hSw; (try dsimp only at hSw); go_simp; (try with_reducible rfl); (try omega))
  simp only [List.setIfInBounds_toArray, List.set_cons_zero, List.set_cons_succ]
  refine held_take (v := ?v127) 15 rfl (by kernel_rfl) (by kernel_rfl) (by kernel_rfl) (fun _ _ _ h => h) (by rfl) ?y127 (by assumption) ?_
  case y127 => (intro w hSw; (try dsimp only at hSw); go_simp; (try with_reducible rfl); (try omega))
  simp only [List.setIfInBounds_toArray, List.set_cons_zero, List.set_cons_succ]
  refine held_take (v := ?v130) 16 rfl (by kernel_rfl) (by kernel_rfl) (by kernel_rfl) (fun _ _ _ h => h) (by rfl) ?y130 (by assumption) ?_
  case y130 => (intro w hSw; (try dsimp only at hSw); go_simp; (try with_reducible rfl); (try omega))
  simp only [List.setIfInBounds_toArray, List.set_cons_zero, List.set_cons_succ]
  refine wpAnyH_done (by kernel_rfl) ?_ _
  refine NoPanic.normal ?_
  clear hHeld5
  go_wp2
  go_ret
  exact ⟨rfl, (HC.out _ (below_up B3.out g5 B3.out.size)).2.2.2⟩
end Go.Proofs.Ytchkbdgoghcgcaa
