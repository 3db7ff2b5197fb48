/- The live example of layer 4's statements holds. -/
import Derived.Test.YtchkbdgoghcgcaaIpE
namespace Go.Proofs.Ytchkbdgoghcgcaa
open Go Go.RowKit

def exH : Hdr := ⟨0, 0, 0, true, false, 0, 64, 17, 192, 168, 0, 1, 192, 168, 0, 199, []⟩
def exZ : List UInt8 := List.replicate 95 0
def exP : List UInt8 := putP4 exH exZ
def exL : Hdr := ⟨0, 115, 0, true, false, 0, 64, 17, 192, 168, 0, 1, 192, 168, 0, 199, []⟩
theorem exL_set : exH.cells.setIfInBounds 1 (.int .i64 115) = exL.cells := rfl
theorem exP_length : exP.length = 115 := by kernel_rfl
theorem ex4_put (a : Option Addr) (n cap : Nat) (w : World) (h : IsB w (.slice a n cap) exZ) :
    Calls Try.prog 14 #[exH.val, .slice a n cap] w fun r w' => (∃ a' cap', r = .returned (.tuple #[.slice a' 115 cap', .int .i64 0]) ∧ IsB w' (.slice a' 115 cap') exP) ∧ Below w.heap.size w w' := by
  have := put4_any exH a n cap exZ w (by decide) h (by decide)
  rw [show putC4 exH exZ.length = 0 by kernel_rfl] at this
  refine this.mono ?_
  rintro r w' ⟨⟨a', n', c', rfl, hB⟩, hb⟩
  obtain ⟨hn, -⟩ := hB.cells
  have h115 : n' = 115 := hn.trans (by kernel_rfl)
  subst h115
  exact ⟨⟨a', c', rfl, hB⟩, hb⟩
theorem ex4_parse (a : Option Addr) (n cap : Nat) (w : World) (h : IsB w (.slice a n cap) exP) :
    Calls Try.prog 10 #[.slice a n cap] w fun r w' => r = .returned (.tuple #[exL.val, .int .i64 0]) ∧ Below w.heap.size w w' := by
  have := parse_any a n cap exP w h (by rw [show exP.length = 115 by kernel_rfl]; omega)
  rw [show ip4C exP = 0 by kernel_rfl, show ip4H exP = exL by kernel_rfl] at this
  exact this
theorem ex4_ttl (a : Option Addr) (n cap : Nat) (w : World) (h : IsB w (.slice a n cap) exP) :
    Calls Try.prog 18 #[.slice a n cap, .int .u8 63] w fun r w' => (∃ a' cap', r = .returned (.tuple #[.slice a' 115 cap', .int .i64 0]) ∧ IsB w' (.slice a' 115 cap') (ttlA exP 63)) ∧ Below w.heap.size w w' := by
  have := ttl_any a n cap exP 63 63 w rfl h (by rw [show exP.length = 115 by kernel_rfl]; omega)
  rw [show ip4C exP = 0 by kernel_rfl] at this
  refine this.mono ?_
  rintro r w' ⟨⟨a', n', c', rfl, hB⟩, hb⟩
  obtain ⟨hn, -⟩ := hB.cells
  have h115 : n' = 115 := hn.trans (by kernel_rfl)
  subst h115
  exact ⟨⟨a', c', rfl, hB⟩, hb⟩
theorem ex4_body (a : Option Addr) (n cap : Nat) (w : World) (h : IsB w (.slice a n cap) exP) :
    Calls Try.prog 12 #[.slice a n cap] w fun r w' => (∃ a' cap', r = .returned (.slice a' 95 cap')) ∧ Below w.heap.size w w' := by
  refine (body_any a n cap exP w h (by rw [show exP.length = 115 by kernel_rfl]; omega)).mono ?_
  rintro r w' ⟨⟨a', n', c', rfl, hB⟩, hb⟩
  obtain ⟨hn, -⟩ := hB.cells
  have h95 : n' = 95 := hn.trans (by kernel_rfl)
  subst h95
  exact ⟨⟨a', c', rfl⟩, hb⟩

set_option maxRecDepth 100000 in
set_option maxHeartbeats 4000000 in
theorem awake4_any (w : World) :
    Calls Try.prog 9 #[] w fun e w' => e = .returned (.bool true) ∧ Below w.heap.size w w' := by
  go_enter Try.func9, Try.ntmps9
  go_wp2_with (refine wpList_store_new rfl (.tmp 1) (.tmp 10) rfl exH _ rfl rfl rfl ?_)
  have hg1 := heap_alloc_new w (.cells exH.cells 27)
  have hb1 : Below w.heap.size w (w.alloc (.cells exH.cells 27)) := (Below.refl _ _).alloc (Nat.le_refl _) _
  generalize (w.alloc (.cells exH.cells 27)) = w1 at *
  refine wp_region_noPanic ?_
  refine wp_region_held_drew (S := fun W => W.heap[w.heap.size]? = some (.cells exH.cells 27 (0, 0)) ∧ Below w.heap.size w W) (by kernel_rfl) ⟨hg1, hb1.drew⟩ (fun hHeld => ?_)
  refine held_take (v := exH.val) 0 rfl (by kernel_rfl) (by kernel_rfl) (by kernel_rfl) (fun _ _ _ h => h) (by rfl) (fun W hSw => exec_load_hdr (.tmp 1) rfl w.heap.size exH rfl hSw.1) (by assumption) ?_
  simp only [List.setIfInBounds_toArray, List.set_cons_zero, List.set_cons_succ]
  obtain ⟨i0, hi, hz0, hz1, hz2⟩ := info_parts info5
  obtain ⟨w2, hm0, ho0, hgr⟩ := run_make_full (P := Try.prog) w1.drew w1.heap.size 22 5 i0 (.int .u8 0) 1 Try.underlying22 hi hz0 hz1 .i64 .i64 95 (by rw [hz2]; omega) (by unfold maxLen; omega) (Nat.le_refl _)
  have hm : (Instr.makeSlice 22 (.int .i64 95) (.int .i64 95)).run Try.prog w1.drew = .ok (.slice (some ⟨w1.heap.size, 0, none⟩) 95 95) w2 := hm0
  rw [show (madeCells (Value.int IntKind.u8 0).cells (95 * 1)).toList = byteVals exZ by kernel_rfl] at ho0
  have i2 : IsB w2 (.slice (some ⟨w1.heap.size, 0, none⟩) 95 95) exZ := IsB.of_owned ho0
  have b12 : Below w1.heap.size w1 w2 := (Below.refl _ _).drew.grown hgr (Nat.le_refl _) (fun k h => by cases h)
  have hg2 := (b12.block w.heap.size (Array.getElem?_eq_some_iff.1 hg1).1).trans hg1
  have hb2 := below_up hb1 b12 hb1.size
  clear hm0 ho0 hgr hi hz0 hz1 hz2 i0
  refine held_one 1 rfl (by kernel_rfl) (by rfl) (fun K hK => ?_)
  go_simp
  refine hK.out _ _ ⟨hg2, hb2⟩ (fun hHeld2 => ?_)
  clear hK K hHeld hm
  refine held_one 2 rfl (by kernel_rfl) (by rfl) (fun K hK => ?_)
  go_simp
  refine (ex4_put _ _ _ _ i2).mono ?_
  rintro e w3 ⟨⟨a3, c3, rfl, i3⟩, b3⟩
  have hg3 := (b3.block w.heap.size (Array.getElem?_eq_some_iff.1 hg2).1).trans hg2
  have hb3 := below_up hb2 b3 hb2.size
  refine hK.out _ _ ⟨hg3, hb3⟩ (fun hHeld3 => ?_)
  clear hK K hHeld2
  refine held_take (v := ?v79) 3 rfl (by kernel_rfl) (by kernel_rfl) (by kernel_rfl) (fun _ _ _ h => h) (by rfl) ?y79 (by assumption) ?_
  case y79 => (intro w hSw; (try dsimp only at hSw); go_simp; (try with_reducible rfl); (try omega))
  simp only [List.setIfInBounds_toArray, List.set_cons_zero, List.set_cons_succ]
  refine held_take (v := ?v82) 4 rfl (by kernel_rfl) (by kernel_rfl) (by kernel_rfl) (fun _ _ _ h => h) (by rfl) ?y82 (by assumption) ?_
  case y82 => (intro w hSw; (try dsimp only at hSw); go_simp; (try with_reducible rfl); (try omega))
  simp only [List.setIfInBounds_toArray, List.set_cons_zero, List.set_cons_succ]
  refine held_take (v := ?v85) 5 rfl (by kernel_rfl) (by kernel_rfl) (by kernel_rfl) (fun _ _ _ h => h) (by rfl) ?y85 (by assumption) ?_
  case y85 => (intro w hSw; (try dsimp only at hSw); go_simp; (try with_reducible rfl); (try omega))
  simp only [List.setIfInBounds_toArray, List.set_cons_zero, List.set_cons_succ]
  refine held_take (v := ?v88) 6 rfl (by kernel_rfl) (by kernel_rfl) (by kernel_rfl) (fun _ _ _ h => h) (by rfl) ?y88 (by assumption) ?_
  case y88 => (intro w hSw; (try dsimp only at hSw); go_simp; (try with_reducible rfl); (try omega))
  simp only [List.setIfInBounds_toArray, List.set_cons_zero, List.set_cons_succ]
  refine held_take (v := ?v91) 7 rfl (by kernel_rfl) (by kernel_rfl) (by kernel_rfl) (fun _ _ _ h => h) (by rfl) ?y91 (by assumption) ?_
  case y91 => (intro w hSw; (try dsimp only at hSw); go_simp; (try with_reducible rfl); (try omega))
  simp only [List.setIfInBounds_toArray, List.set_cons_zero, List.set_cons_succ]
  refine wpAnyH_done (by kernel_rfl) ?_ _
  refine NoPanic.normal ?_
  have HI3 := Lib.hid i3
  have HP3 := Lib.hid (ex4_parse _ _ _ _ i3)
  have HG3 := Lib.hid hg3
  have HB3 := Lib.hid hb3
  clear hHeld3 i2 b12 hg2 hb2 b3 hg1 hb1 i3 hg3 hb3
  go_wp2_with (go_at_call 10; refine HP3.out.mono ?_; rintro e w4 ⟨rfl, b4⟩; refine Hid.out ?_)
  refine Lib.hid ?_
  have hg4 := (b4.block w.heap.size (Array.getElem?_eq_some_iff.1 HG3.out).1).trans HG3.out
  have hb4 := below_up HB3.out b4 HB3.out.size
  have hg5 := (Below.heap_alloc w4 (.cells exL.cells 27) _ (Array.getElem?_eq_some_iff.1 hg4).1).trans hg4
  have hgp5 := heap_alloc_new w4 (.cells exL.cells 27)
  have b45 : Below w4.heap.size w4 (w4.alloc (.cells exL.cells 27)) := (Below.refl _ _).alloc (Nat.le_refl _) _
  have hb5 := below_up hb4 b45 hb4.size
  have hne : w4.heap.size ≠ w.heap.size := by have := (Array.getElem?_eq_some_iff.1 hg4).1; omega
  have c1 : (w4.alloc (.cells exL.cells 27)).cell? ⟨w.heap.size, 1, none⟩ = some (.int .i64 0) := (hdr_cell hg5 1).trans rfl
  have fz : (w4.alloc (.cells exL.cells 27)).frozen? ⟨w.heap.size, 1, none⟩ = false := frozen_of_row _ w.heap.size 1 _ _ hg5
  have HI5 := Lib.hid ((HI3.out.below b4).below b45)
  have HG5 := Lib.hid hg5
  have HGP5 := Lib.hid hgp5
  have HB5 := Lib.hid hb5
  have HNe := Lib.hid hne
  clear hg4 hb4 hg5 hgp5 b45 hb5 hne b4 HI3 HG3 HB3 HP3
  have HT : Hid (∀ W, IsB W (.slice a3 115 c3) exP → _) := fun W h => ex4_ttl a3 115 c3 W h
  have HI6 : Hid (IsB ((w4.alloc (.cells exL.cells 27)).setCell ⟨w.heap.size, 1, none⟩ (.int .i64 115)) (.slice a3 115 c3) exP) := ((isX_of_long HI5.out HG5.out (by rw [exP_length]; show 17 < 115; omega)).but (But.setCell _ _ _ _)).isB
  go_wp2_with (first | (refine wpList_store_new rfl (.tmp 4) (.tmp 20) rfl exL _ rfl rfl rfl ?_) | (go_at_call 18; refine (HT.out _ HI6.out).mono ?_; rintro e w7 ⟨⟨a7, c7, rfl, i7⟩, b7⟩; refine Hid.out ?_))
  refine Lib.hid ?_
  have hg6 := hdr_set HG5.out 1 _ exL_set
  have hgp6 : ((w4.alloc (.cells exL.cells 27)).setCell ⟨w.heap.size, 1, none⟩ (.int .i64 115)).heap[w4.heap.size]? = _ := (Below.heap_setCell _ _ _ _ HNe.out).trans HGP5.out
  have hb6 := HB5.out.setCell (p := ⟨w.heap.size, 1, none⟩) (Nat.le_refl _) (.int .i64 115)
  have HI6' := HI6.out
  clear c1 fz
  generalize ((w4.alloc (.cells exL.cells 27)).setCell ⟨w.heap.size, 1, none⟩ (.int .i64 115)) = w6 at *
  have hg7 := (b7.block w.heap.size (Array.getElem?_eq_some_iff.1 hg6).1).trans hg6
  have hgp7 := (b7.block w4.heap.size (Array.getElem?_eq_some_iff.1 hgp6).1).trans hgp6
  have hb7 := below_up hb6 b7 hb6.size
  have i3 := HI6'.below b7
  obtain ⟨aa, cc, he, q3, m3, p3⟩ := id i3
  simp only [Value.slice.injEq] at he
  obtain ⟨rfl, -, rfl⟩ := he
  obtain ⟨bb, oo, rfl, hbb, hcb⟩ := p3 (by rw [exP_length]; omega)
  have d10 : w7.cell? ⟨bb, oo + 10, none⟩ = some (.int .u8 184) := (hcb 10 (by rw [exP_length]; omega)).trans (by kernel_rfl)
  have d11 : w7.cell? ⟨bb, oo + 11, none⟩ = some (.int .u8 97) := (hcb 11 (by rw [exP_length]; omega)).trans (by kernel_rfl)
  have hl7 : (ttlA exP 63).length = 115 := by kernel_rfl
  have HI7 := Lib.hid i7
  obtain ⟨ab, cd, he, q7, m7, p7⟩ := id i7
  simp only [Value.slice.injEq] at he
  obtain ⟨rfl, -, rfl⟩ := he
  obtain ⟨bc, oc, rfl, hbc, hcc⟩ := p7 (by rw [hl7]; omega)
  have HC7 : Hid (∀ W, Below w7.heap.size w7 W → W.cell? ⟨bc, oc + 8, none⟩ = some (.int .u8 63) ∧ W.cell? ⟨bc, oc + 10, none⟩ = some (.int .u8 185)) := by
    intro W hb
    exact ⟨(hb.cell (p := ⟨bc, oc + 8, none⟩) hbc).trans ((hcc 8 (by rw [hl7]; omega)).trans (by kernel_rfl)), (hb.cell (p := ⟨bc, oc + 10, none⟩) hbc).trans ((hcc 10 (by rw [hl7]; omega)).trans (by kernel_rfl))⟩
  have HBd := Lib.hid (ex4_body _ _ _ _ i3)
  have HG7 := Lib.hid hg7
  have HGP7 := Lib.hid hgp7
  have HB7 := Lib.hid hb7
  have HSz := Lib.hid (fun W => size_any exL W (by decide))
  rw [show ((exL.size : Nat) : Int) = 20 from rfl] at HSz
  clear HI5 HG5 HGP5 HB5 HNe HT HI6 HI6' hg6 hgp6 hb6 b7 hg7 hgp7 hb7 i3 i7 hcb hcc p3 p7 q3 m3 q7 m7 hl7
  go_wp2_with (first | (refine wpList_load_hdrG rfl (.tmp 4) rfl w4.heap.size exL rfl HGP7.out ?_) | (refine wpList_load_hdrG rfl (.tmp 1) rfl w.heap.size exL rfl HG7.out ?_) | (refine wpList_eql_hdrG rfl 48 49 _ rfl exL rfl rfl ?_) | (go_at_call 12; refine HBd.out.mono ?_; rintro e w8 ⟨⟨a8, c8, rfl⟩, b8⟩; refine Hid.out ?_))
  refine Lib.hid ?_
  have HG8 := Lib.hid ((b8.block w.heap.size (Array.getElem?_eq_some_iff.1 HG7.out).1).trans HG7.out)
  have B8 := Lib.hid b8
  clear b8
  go_wp2_with (first | (refine wpList_load_hdrG rfl (.tmp 1) rfl w.heap.size exL rfl HG8.out ?_) | (go_at_call 16; refine (HSz.out _).mono ?_; rintro e w9 ⟨rfl, b9⟩; refine Hid.out ?_))
  refine Lib.hid ?_
  have g9 := below_up B8.out b9 B8.out.size
  have hb9 := below_up HB7.out g9 HB7.out.size
  obtain ⟨f8, f10⟩ := HC7.out w9 g9
  have HB9 := Lib.hid hb9
  clear g9 hb9 b9
  go_wp2
  go_ret
  exact ⟨rfl, HB9.out⟩
end Go.Proofs.Ytchkbdgoghcgcaa
