/- Ip6Puts: the walk. -/
import Derived.Test.YtemocbcibnccpaaAw5
import Derived.Test.YtemocbcibnccpaaSx4
namespace Go.Proofs.Ytemocbcibnccpaa
open Go Go.RowKit

set_option maxRecDepth 100000 in
set_option maxHeartbeats 4000000 in
theorem puts6_walk (h : Hdr6) (a : Option Addr) (n cap : Nat) (l : List UInt8) (a' : Option Addr) (n' cap' : Nat) (l' : List UInt8) (w : World) (f : h.wide) (hv : IsB w (.slice a n cap) l) (hv' : IsB w (.slice a' n' cap') l') :
    Calls Try.prog 4 #[h.val, .slice a n cap, .slice a' n' cap'] w fun e w' => e = .returned (.bool true) ∧ Below w.heap.size w w' := by
  obtain ⟨rfl, q1, m1, -⟩ := hv.cells
  obtain ⟨rfl, q2, m2, -⟩ := hv'.cells
  have b0 : Below w.heap.size w (w.alloc (.cells h.cells 26)) := (Below.refl _ _).alloc (Nat.le_refl _) _
  have hg0 := heap_alloc_new w (.cells h.cells 26)
  have HA := Lib.hid (awake5_any (w.alloc (.cells h.cells 26)))
  have HC : Hid (∀ W, Below (w.alloc (.cells h.cells 26)).heap.size (w.alloc (.cells h.cells 26)) W → W.heap[w.heap.size]? = some (.cells h.cells 26 (0, 0)) ∧ W.cell? ⟨w.heap.size, 4, none⟩ = some (.int .u8 (h.ttl.toNat : Int)) ∧ IsB W (.slice a l.length cap) l ∧ IsB W (.slice a' l'.length cap') l' ∧ Below w.heap.size w W) := by
    intro W hb
    have h1 := (hb.block w.heap.size (by simp)).trans hg0
    exact ⟨h1, (hdr6_cell h1 4).trans rfl, (hv.below b0).below hb, (hv'.below b0).below hb, below_up b0 hb b0.size⟩
  rw [show h.val = .agg h.cells from rfl]
  unfold maxLen at m1 m2
  clear hv hv' b0 hg0
  by_cases hbig : 70000 < l.length ∨ 2000 < l'.length
  · have hb2 : 70000 < (l.length : Int) ∨ (¬ 70000 < (l.length : Int) ∧ 2000 < (l'.length : Int)) := by omega
    clear hbig
    rcases hb2 with hb2 | ⟨hb3, hb2⟩
    all_goals
      go_enter Try.func4, Try.ntmps4
      go_wp2_with (go_at_call 7; refine HA.out.mono ?_; rintro e w1 ⟨rfl, b1⟩; refine Hid.out ?_)
      refine Lib.hid ?_
      obtain ⟨-, -, -, -, e1⟩ := HC.out _ b1
      have E1 := Lib.hid e1
      clear e1 b1
      go_wp2
      go_ret
      exact ⟨rfl, E1.out⟩
  have hl : (l.length : Int) ≤ 70000 := by omega
  have hl' : (l'.length : Int) ≤ 2000 := by omega
  clear hbig
  have HF := Lib.hid f
  have HP := Lib.hid (fun W (i : IsB W (.slice a l.length cap) l) => put6_any h f a l.length cap l W i (by omega))
  have HRP := Lib.hid (fun W => rput6_any h f l W (by omega))
  have HT := Lib.hid (fun W (i : IsB W (.slice a' l'.length cap') l') => ttl6_any a' l'.length cap' l' _ h.ttl W rfl i (by omega))
  have HRT := Lib.hid (fun W => rttl6_any l' _ h.ttl W rfl (by omega))
  generalize putC6 h l.length = C at *
  generalize putP6 h l = P at *
  generalize ip6C l' = C' at *
  generalize ttlA6 l' h.ttl = P' at *
  generalize (h.ttl.toNat : Int) = tt at *
  clear f
  go_enter Try.func4, Try.ntmps4
  go_wp2_with (go_at_call 7; refine HA.out.mono ?_; rintro e w1 ⟨rfl, b1⟩; refine Hid.out ?_)
  refine Lib.hid ?_
  obtain ⟨hg1, -, i1, -, -⟩ := HC.out _ b1
  have HG1 := Lib.hid hg1
  have HI1 := Lib.hid i1
  have B1 := Lib.hid b1
  clear b1 i1 hg1
  go_wp2_with (first | (refine wpList_load_hdr6 rfl (.tmp 3) rfl w.heap.size h HF.out rfl HG1.out ?_) | (go_at_call 12; refine (HP.out _ HI1.out).mono ?_; rintro e w2 ⟨⟨a2, n2, c2, rfl, i2⟩, b2⟩; refine Hid.out ?_))
  refine Lib.hid ?_
  have B2 := Lib.hid (below_up B1.out b2 B1.out.size)
  obtain ⟨hg2, -, j2, -, -⟩ := HC.out _ B2.out
  have hv2 := j2.conv (P := Try.prog) Try.underlying22 Try.underlying5 Try.underlying9
  have HG2 := Lib.hid hg2
  have HI2 := Lib.hid i2
  clear b2 hg2 j2 i2 HG1
  go_wp2_with (first | (refine wpList_load_hdr6 rfl (.tmp 3) rfl w.heap.size h HF.out rfl HG2.out ?_) | (go_at_call 13; refine (HRP.out _).mono ?_; rintro e w3 ⟨rfl, b3⟩; refine Hid.out ?_))
  refine Lib.hid ?_
  have B3 := Lib.hid (below_up B2.out b3 B2.out.size)
  have HI3 := Lib.hid (HI2.out.below b3)
  obtain ⟨-, d3, -, j3, -⟩ := HC.out _ B3.out
  have HJ3 := Lib.hid j3
  clear b3 hv2 HG2 HI2 j3
  go_wp2_with (go_at_call 14; refine (HT.out _ HJ3.out).mono ?_; rintro e w4 ⟨⟨a4, n4, c4, rfl, i4⟩, b4⟩; refine Hid.out ?_)
  refine Lib.hid ?_
  have B4 := Lib.hid (below_up B3.out b4 B3.out.size)
  have HI4 := Lib.hid (HI3.out.below b4)
  have HK4 := Lib.hid i4
  obtain ⟨-, d4, -, j4, -⟩ := HC.out _ B4.out
  have hv4 := j4.conv (P := Try.prog) Try.underlying22 Try.underlying5 Try.underlying9
  clear b4 i4 d3 HI3 HJ3 j4
  go_wp2_with (go_at_call 15; refine (HRT.out _).mono ?_; rintro e w5 ⟨rfl, b5⟩; refine Hid.out ?_)
  refine Lib.hid ?_
  have v1 := (HI4.out.below b5).conv (P := Try.prog) Try.underlying22 Try.underlying5 Try.underlying9
  have v2 := (HK4.out.below b5).conv (P := Try.prog) Try.underlying22 Try.underlying5 Try.underlying9
  have B5 := Lib.hid (HC.out _ (below_up B4.out b5 B4.out.size)).2.2.2.2
  clear b5 d4 hv4
  go_wp2
  go_ret
  exact ⟨rfl, B5.out⟩
end Go.Proofs.Ytemocbcibnccpaa
