/- The live example of the statements of stage 5. Proved: it is true. -/
import Derived.Test.YtemocbcibnccpaaSixE
import Derived.Test.YtemocbcibnccpaaSix6
import Derived.Test.YtemocbcibnccpaaApart
namespace Go.Proofs.Ytemocbcibnccpaa
open Go Go.RowKit

def exH6 : Hdr6 := ⟨1, 2, 0, 58, 64, [0, 0, 0, 0, 0, 0, 0, 0, 0, 0, 0, 0, 0, 0, 0, 0], [0, 0, 0, 0, 0, 0, 0, 0, 0, 0, 0, 0, 0, 0, 0, 0]⟩
def exL6 : Hdr6 := { exH6 with len := 3 }
def exP6 : List UInt8 := put6 exH6 [7, 8, 9]
theorem exH6_wide : exH6.wide := ⟨rfl, rfl⟩
theorem exL6_wide : exL6.wide := ⟨rfl, rfl⟩
theorem exP6_length : exP6.length = 43 := by kernel_rfl
theorem ex6_put (a : Option Addr) (n cap : Nat) (w : World) (h : IsB w (.slice a n cap) [7, 8, 9]) :
    Calls Try.prog 12 #[exH6.val, .slice a n cap] w fun r w' => (∃ a' cap', r = .returned (.tuple #[.slice a' 43 cap', .int .i64 0]) ∧ IsB w' (.slice a' 43 cap') exP6) ∧ Below w.heap.size w w' := by
  refine (put6_any exH6 exH6_wide a n cap _ w h (by simp)).mono ?_
  rintro r w' ⟨⟨a', n', c', rfl, hB⟩, hb⟩
  rw [show putP6 exH6 [7, 8, 9] = exP6 by kernel_rfl] at hB
  obtain ⟨hn, -⟩ := hB.cells
  rw [exP6_length] at hn
  subst hn
  exact ⟨⟨a', c', by rw [show putC6 exH6 ([7, 8, 9] : List UInt8).length = 0 by kernel_rfl], hB⟩, hb⟩
theorem ex6_parse (a : Option Addr) (n cap : Nat) (w : World) (h : IsB w (.slice a n cap) exP6) :
    Calls Try.prog 8 #[.slice a n cap] w fun r w' => r = .returned (.tuple #[exL6.val, .int .i64 0]) ∧ Below w.heap.size w w' := by
  refine (parse6_any a n cap exP6 w h (by rw [exP6_length]; omega)).mono ?_
  rintro r w' ⟨rfl, hb⟩
  exact ⟨by rw [show ip6H exP6 = exL6 by kernel_rfl, show ip6C exP6 = 0 by kernel_rfl], hb⟩
theorem ex6_ttl (a : Option Addr) (n cap : Nat) (w : World) (h : IsB w (.slice a n cap) exP6) :
    Calls Try.prog 14 #[.slice a n cap, .int .u8 63] w fun r w' => (∃ a' cap', r = .returned (.tuple #[.slice a' 43 cap', .int .i64 0]) ∧ IsB w' (.slice a' 43 cap') (ttlA6 exP6 63)) ∧ Below w.heap.size w w' := by
  refine (ttl6_any a n cap exP6 63 63 w rfl h (by rw [exP6_length]; omega)).mono ?_
  rintro r w' ⟨⟨a', n', c', rfl, hB⟩, hb⟩
  obtain ⟨hn, -⟩ := hB.cells
  rw [show (ttlA6 exP6 63).length = 43 by kernel_rfl] at hn
  subst hn
  exact ⟨⟨a', c', by rw [show ip6C exP6 = 0 by kernel_rfl], hB⟩, hb⟩
theorem ex6_body (a : Option Addr) (n cap : Nat) (w : World) (h : IsB w (.slice a n cap) exP6) :
    Calls Try.prog 10 #[.slice a n cap] w fun r w' => (∃ a' n' cap', r = .returned (.slice a' n' cap') ∧ IsB w' (.slice a' n' cap') [7, 8, 9]) ∧ Below w.heap.size w w' := by
  refine (body6_any a n cap exP6 w h (by rw [exP6_length]; omega)).mono ?_
  rw [show ip6B exP6 = [7, 8, 9] by kernel_rfl]
  rintro r w' hx
  exact hx

set_option maxRecDepth 100000 in
set_option maxHeartbeats 4000000 in
theorem awake5_any (w : World) :
    Calls Try.prog 7 #[] w fun e w' => e = .returned (.bool true) ∧ Below w.heap.size w w' := by
  have G1 := Lib.hid (heap_alloc_new w (.cells exH6.cells 26))
  have B1 : Hid (∀ o, Below w.heap.size w ((w.alloc (.cells exH6.cells 26)).alloc o)) := fun o => ((Below.refl _ _).alloc (Nat.le_refl _) _).alloc (by simp) _
  have HP := Lib.hid (fun W (i : IsB W _ _) => ex6_put (some ⟨w.heap.size + 1, 0, none⟩) 3 3 W i)
  have hib := isB_built (w.alloc (.cells exH6.cells 26)) [7, 8, 9] _ rfl (by simp)
  rw [World.size_alloc] at hib
  have HI := Lib.hid hib
  clear hib
  go_enter Try.func7, Try.ntmps7
  go_wp2_with (first | (refine wpList_store_new6 rfl (.tmp 1) (.tmp 8) rfl exH6 exH6_wide _ rfl rfl rfl ?_) | (refine wpList_load_hdr6 rfl (.tmp 1) rfl w.heap.size exH6 exH6_wide rfl G1.out ?_) | (go_at_call 12; refine (HP.out _ HI.out).mono ?_; rintro e w2 ⟨⟨a2, c2, rfl, i2⟩, b2⟩; refine Hid.out ?_))
  refine Lib.hid ?_
  have hb2 : Below w.heap.size w w2 := below_up (B1.out _) b2 (B1.out _).size
  have hg2 : w2.heap[w.heap.size]? = some (.cells exH6.cells 26 (0, 0)) := (b2.block w.heap.size (by simp; omega)).trans ((Below.heap_alloc _ _ _ (by simp)).trans G1.out)
  have HP2 := Lib.hid (ex6_parse _ _ _ _ i2)
  have HI2 := Lib.hid i2
  have HG2 := Lib.hid hg2
  have HB2 := Lib.hid hb2
  clear b2 i2 hg2 hb2 G1 B1 HP HI
  go_wp2_with (go_at_call 8; refine HP2.out.mono ?_; rintro e w3 ⟨rfl, b3⟩; refine Hid.out ?_)
  refine Lib.hid ?_
  have hg3 := (b3.block w.heap.size (Array.getElem?_eq_some_iff.1 HG2.out).1).trans HG2.out
  have hb3 := below_up HB2.out b3 HB2.out.size
  have b34 : Below w3.heap.size w3 (w3.alloc (.cells exL6.cells 26)) := (Below.refl _ _).alloc (Nat.le_refl _) _
  have hg4 := (b34.block w.heap.size (Array.getElem?_eq_some_iff.1 hg3).1).trans hg3
  have hp4 := heap_alloc_new w3 (.cells exL6.cells 26)
  have hb4 := below_up hb3 b34 hb3.size
  have i4 := (HI2.out.below b3).below b34
  have hne : w3.heap.size ≠ w.heap.size := by have := (Array.getElem?_eq_some_iff.1 hg3).1; omega
  have c2' : (w3.alloc (.cells exL6.cells 26)).cell? ⟨w.heap.size, 2, none⟩ = some (.int .i64 0) := (hdr6_cell hg4 2).trans rfl
  have fz : (w3.alloc (.cells exL6.cells 26)).frozen? ⟨w.heap.size, 2, none⟩ = false := frozen_of_row _ w.heap.size 2 _ _ hg4
  have i5 : IsB ((w3.alloc (.cells exL6.cells 26)).setCell ⟨w.heap.size, 2, none⟩ (.int .i64 3)) (.slice a2 43 c2) exP6 := ((isX_of_long i4 hg4 (by rw [exP6_length, hdr6_size exH6_wide]; omega)).but (But.setCell _ _ _ _)).isB
  have g5 := hdr6_set (h' := exL6) hg4 2 (.int .i64 3) rfl
  have p5 : ((w3.alloc (.cells exL6.cells 26)).setCell ⟨w.heap.size, 2, none⟩ (.int .i64 3)).heap[w3.heap.size]? = _ := (Below.heap_setCell _ _ _ _ hne).trans hp4
  have hb5 := hb4.setCell (p := ⟨w.heap.size, 2, none⟩) (Nat.le_refl _) (.int .i64 3)
  have HT := Lib.hid (ex6_ttl _ _ _ _ i5)
  have G5 := Lib.hid g5
  have P5 := Lib.hid p5
  have B5 := Lib.hid hb5
  have I5 := Lib.hid i5
  clear hg3 hb3 b34 hg4 hp4 hb4 i4 hne i5 g5 p5 hb5 b3 HP2 HI2 HG2 HB2
  go_wp2_with (first | (refine wpList_store_new6 rfl (.tmp 4) (.tmp 18) rfl exL6 exL6_wide _ rfl rfl rfl ?_) | (go_at_call 14; refine HT.out.mono ?_; rintro e w7 ⟨⟨a7, c7, rfl, i7⟩, b7⟩; refine Hid.out ?_))
  refine Lib.hid ?_
  have hg7 := (b7.block w.heap.size (Array.getElem?_eq_some_iff.1 G5.out).1).trans G5.out
  have hp7 := (b7.block w3.heap.size (Array.getElem?_eq_some_iff.1 P5.out).1).trans P5.out
  have hb7 := below_up B5.out b7 B5.out.size
  have i3 := I5.out.below b7
  have hcv := (i3.head (k := 8) (by rw [exP6_length]; omega)).conv (P := Try.prog) Try.underlying22 Try.underlying5 Try.underlying9
  rw [show exP6.take 8 = [96, 16, 0, 2, 0, 3, 58, 64] by kernel_rfl] at hcv
  have hcap : (8 : Nat) ≤ c2 := by have := i3.cells.2.1; rw [exP6_length] at this; omega
  have hcap8 : (8 : Int) ≤ (c2 : Int) := by omega
  have HBd := Lib.hid (ex6_body _ _ _ _ i3)
  have hl7 : (ttlA6 exP6 63).length = 43 := by kernel_rfl
  obtain ⟨bb, oo, rfl, hn7, hbb, hr7⟩ := range_of_isB i7 (by rw [hl7]; omega)
  have HC7 : Hid (∀ W, Below w7.heap.size w7 W → W.cell? ⟨bb, oo + 7, none⟩ = some (.int .u8 63)) := by
    intro W hb
    exact (hb.cell (p := ⟨bb, oo + 7, none⟩) hbb).trans (hr7 7 _ (by kernel_rfl))
  have G7 := Lib.hid hg7
  have P7 := Lib.hid hp7
  have B7 := Lib.hid hb7
  clear hg7 hp7 hb7 b7 i3 i7 hr7 HT G5 P5 B5 I5 hl7 hcap c2' fz hn7
  go_wp2_with (first | (refine wpList_load_hdr6G rfl (.tmp 4) rfl w3.heap.size exL6 exL6_wide rfl P7.out ?_) | (refine wpList_load_hdr6G rfl (.tmp 1) rfl w.heap.size exL6 exL6_wide rfl G7.out ?_) | (refine wpList_eql_hdr6G rfl 40 41 _ rfl exL6 exL6_wide rfl rfl ?_) | (go_at_call 10; refine HBd.out.mono ?_; rintro e w8 ⟨⟨a8, n8, c8, rfl, i8⟩, b8⟩; refine Hid.out ?_))
  refine Lib.hid ?_
  have hcw := i8.conv (P := Try.prog) Try.underlying22 Try.underlying5 Try.underlying9
  have f7 := HC7.out w8 b8
  have B8 := Lib.hid (below_up B7.out b8 B7.out.size)
  clear i8 b8 HC7 hcv
  go_wp2
  go_ret
  exact ⟨rfl, B8.out⟩
end Go.Proofs.Ytemocbcibnccpaa
