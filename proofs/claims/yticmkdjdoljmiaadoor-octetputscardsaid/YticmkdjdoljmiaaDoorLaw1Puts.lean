/- OctetPuts returns true, whatever it is given, and turns no old memory. -/
import Derived.Test.YticmkdjdoljmiaaDoorRef2
namespace Go.Proofs.YticmkdjdoljmiaaDoor
open Go Go.RowKit

/-- A number that a uint64 holds (the numeral kept from the walk). -/
structure U64 (m : Nat) : Prop where
  out : (m : Int) < 18446744073709551616

set_option maxHeartbeats 2000000 in
theorem puts_walk (a : Option Addr) (n cap : Nat) (l : List UInt8) (t m : Int) (w : World) (hv : IsB w (.slice a n cap) l) (_ht0 : -9223372036854775808 ≤ t) (_ht1 : t ≤ 9223372036854775807) (hm0 : 0 ≤ m) (hm1 : m ≤ 18446744073709551615)
    (htab : Lib.TabIs Tryd.prog w "internal/strconv.uint64pow10" .u64 Lib.pow10Tab) :
    Calls Tryd.prog 4 #[.slice a n cap, .int .i64 t, .int .u64 m] w fun e w' => e = .returned (.bool true) ∧ Below w.heap.size w w' := by
  have HA := Lib.hid (awake_any w htab)
  obtain ⟨rfl, hcap, hmax, _⟩ := hv.cells
  obtain ⟨m, rfl⟩ := Int.eq_ofNat_of_zero_le hm0
  have HM : U64 m := ⟨by omega⟩
  clear htab hm0 hm1 _ht0 _ht1
  by_cases hbig : 300 < l.length
  · go_enter Tryd.func4, Tryd.ntmps4
    go_wp2_with (go_at_call 9; refine HA.out.mono ?_; rintro e w1 ⟨rfl, b1⟩)
    go_ret
    exact ⟨rfl, b1⟩
  · go_enter Tryd.func4, Tryd.ntmps4
    go_wp2_with (go_at_call 9; refine HA.out.mono ?_; rintro e w1 ⟨rfl, b1⟩; refine Hid.out ?_)
    refine Lib.hid ?_
    have hv1 := hv.below b1
    have c1 := hv1.conv Tryd.underlying22 Tryd.underlying5 Tryd.underlying9
    have HV := Lib.hid hv
    clear hv1 hv
    go_wp2
    go_loopw [9] (fun i wr => ∃ z : Int, -1 ≤ z ∧ z ≤ 10 ∧ i = .int .i64 z ∧ Below w.heap.size w wr) (fun i _ => (10 - intOf i).toNat)
    case atStart => exact ⟨-1, by omega, by omega, rfl, b1⟩
    case round =>
      obtain ⟨z, hz0, hz1, rfl, hbw⟩ := hrel
      clear c1
      by_cases hlt : z < 10
      · have P := Lib.hid (put_any a l.length cap l t z m wr (HV.out.below hbw) (by omega) HM.out)
        have R := Lib.hid (fun W => rput_l l t z m W (by omega) HM.out)
        generalize putL l t z m = pl at *
        generalize inP l t z m = pb at *
        go_wp2_with (go_at_call 14; refine P.out.mono ?_; rintro e w2 ⟨⟨a2, n2, k2, rfl, i2⟩, b2⟩; refine Hid.out ?_)
        refine Lib.hid ?_
        go_wp2_with (go_at_call 15; refine (R.out _).mono ?_; rintro e w3 ⟨rfl, b3⟩; refine Hid.out ?_)
        refine Lib.hid ?_
        have hb2 := below_up hbw b2 hbw.size
        have hb3 := below_up hb2 b3 hb2.size
        have c2 := (i2.below b3).conv Tryd.underlying22 Tryd.underlying5 Tryd.underlying9
        have c3 := (HV.out.below hb3).conv Tryd.underlying22 Tryd.underlying5 Tryd.underlying9
        clear b2 b3 hb2 i2 hbw P R
        go_wp2
        go_roundw
        case rel => exact ⟨z + 1, by omega, by omega, rfl, hb3⟩
        case measure => simp [intOf]; omega
      · go_wp2
        go_ret
        exact ⟨rfl, hbw⟩
end Go.Proofs.YticmkdjdoljmiaaDoor
