/- OctetGets returns true, whatever it is given, and turns no old memory. -/
import Derived.Test.YticmkdjdoljmiaaDoorRef1
namespace Go.Proofs.YticmkdjdoljmiaaDoor
open Go Go.RowKit

set_option maxHeartbeats 2000000 in
theorem gets_walk (a : Option Addr) (n cap : Nat) (l : List UInt8) (t s : Int) (w : World) (hv : IsB w (.slice a n cap) l) (_ht0 : -9223372036854775808 ≤ t) (_ht1 : t ≤ 9223372036854775807) (_hs0 : -9223372036854775808 ≤ s) (_hs1 : s ≤ 9223372036854775807)
    (htab : Lib.TabIs Tryd.prog w "internal/strconv.uint64pow10" .u64 Lib.pow10Tab) :
    Calls Tryd.prog 3 #[.slice a n cap, .int .i64 t, .int .i64 s] w fun e w' => e = .returned (.bool true) ∧ Below w.heap.size w w' := by
  have HA := Lib.hid (awake_any w htab)
  obtain ⟨rfl, hcap, hmax, _⟩ := hv.cells
  have hlm : l.length ≤ maxLen := Nat.le_trans hcap hmax
  unfold maxLen at hlm
  clear htab
  by_cases hbig : 300 < l.length
  · go_enter Tryd.func3, Tryd.ntmps3
    go_wp2_with (go_at_call 9; refine HA.out.mono ?_; rintro e w1 ⟨rfl, b1⟩)
    go_ret
    exact ⟨rfl, b1⟩
  · go_enter Tryd.func3, Tryd.ntmps3
    go_wp2_with (go_at_call 9; refine HA.out.mono ?_; rintro e w1 ⟨rfl, b1⟩)
    have hv1 := hv.below b1
    have c1 := hv1.conv Tryd.underlying22 Tryd.underlying5 Tryd.underlying9
    have G := get_any a l.length cap l t s w1 hv1
    have RG := rget_l l t s w1 (by omega)
    have C := Lib.hid (cut_any a l.length cap l t s w1 hv1 (by omega))
    have RC := fun W => rcut_l l t s W (by omega)
    have HRC := Lib.hid RC
    have HRG := Lib.hid RG
    have HG := Lib.hid G
    have HV := Lib.hid hv1
    clear hv1 G RG RC hv
    generalize getN l t s = gn at *
    generalize inG l t s = gb at *
    generalize cutL l t s = cl at *
    generalize inC l t s = cb at *
    refine HG.out.mono ?_
    rintro e w' ⟨rfl, rfl⟩
    go_wp2_with (first | (go_at_call 11; refine HRG.out.mono ?_; rintro e w' ⟨rfl, rfl⟩) | (go_at_call 12; refine C.out.mono ?_; rintro e w2 ⟨⟨a2, n2, k2, rfl, i2⟩, b2⟩; refine Hid.out ?_))
    refine Lib.hid ?_
    have hv2 := HV.out.below b2
    have c2 := hv2.conv Tryd.underlying22 Tryd.underlying5 Tryd.underlying9
    have c3 := i2.conv Tryd.underlying22 Tryd.underlying5 Tryd.underlying9
    have b3 := below_up b1 b2 b1.size
    clear hv2 i2 c1 b1 b2
    go_wp2_with (go_at_call 13; refine (HRC.out _).mono ?_; rintro e w' ⟨rfl, rfl⟩)
    go_ret
    exact ⟨by simp, b3⟩
end Go.Proofs.YticmkdjdoljmiaaDoor
