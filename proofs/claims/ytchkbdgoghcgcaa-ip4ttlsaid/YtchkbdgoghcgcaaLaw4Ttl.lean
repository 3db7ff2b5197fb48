/- Ip4Ttl: the walk. -/
import Derived.Test.YtchkbdgoghcgcaaAw4
namespace Go.Proofs.Ytchkbdgoghcgcaa
open Go Go.RowKit

set_option maxHeartbeats 4000000 in
theorem ttl4_walk (a : Option Addr) (n cap : Nat) (l : List UInt8) (q : Int) (w : World) (hv : IsB w (.slice a n cap) l) (hq0 : 0 ≤ q) (hq1 : q ≤ 255) :
    Calls Try.prog 5 #[.slice a n cap, .int .u8 q] w fun e w' => e = .returned (.bool true) ∧ Below w.heap.size w w' := by
  obtain ⟨rfl, q1, m1, -⟩ := hv.cells
  have HA := Lib.hid (awake4_any w)
  have HV := Lib.hid hv
  clear hv
  by_cases hbig : 2000 < l.length
  · unfold maxLen at m1
    go_enter Try.func5, Try.ntmps5
    go_wp2_with (go_at_call 9; refine HA.out.mono ?_; rintro e w1 ⟨rfl, b1⟩)
    go_ret
    exact ⟨rfl, b1⟩
  have hl : l.length ≤ 2000 := by omega
  clear hbig
  obtain ⟨t, ht⟩ : ∃ t : UInt8, q = (t.toNat : Int) := ⟨UInt8.ofNat q.toNat, by rw [UInt8.toNat_ofNat_of_lt' (show q.toNat < 256 by omega)]; omega⟩
  have HT := Lib.hid (fun W (h : IsB W (.slice a l.length cap) l) => ttl_any a l.length cap l q t W ht h (by omega))
  have HRT := Lib.hid (fun W => rttl_any l q t W ht (by omega))
  generalize ttlA l t = T at *
  generalize ip4C l = C at *
  clear ht
  go_enter Try.func5, Try.ntmps5
  go_wp2_with (go_at_call 9; refine HA.out.mono ?_; rintro e w1 ⟨rfl, b1⟩; refine Hid.out ?_)
  refine Lib.hid ?_
  have HI1 := Lib.hid (HV.out.below b1)
  have B1 := Lib.hid b1
  clear b1
  go_wp2_with (go_at_call 18; refine (HT.out _ HI1.out).mono ?_; rintro e w2 ⟨⟨a2, n2, c2, rfl, i2⟩, b2⟩; refine Hid.out ?_)
  refine Lib.hid ?_
  have hv2 := (HI1.out.below b2).conv (P := Try.prog) Try.underlying22 Try.underlying5 Try.underlying9
  have B2 := Lib.hid (below_up B1.out b2 B1.out.size)
  have HI2 := Lib.hid i2
  clear b2 i2
  go_wp2_with (go_at_call 19; refine (HRT.out _).mono ?_; rintro e w3 ⟨rfl, b3⟩; refine Hid.out ?_)
  refine Lib.hid ?_
  have hv3 := (HI2.out.below b3).conv (P := Try.prog) Try.underlying22 Try.underlying5 Try.underlying9
  have B3 := Lib.hid (below_up B2.out b3 B2.out.size)
  clear b3 hv2
  go_wp2
  go_ret
  exact ⟨rfl, B3.out⟩
end Go.Proofs.Ytchkbdgoghcgcaa
