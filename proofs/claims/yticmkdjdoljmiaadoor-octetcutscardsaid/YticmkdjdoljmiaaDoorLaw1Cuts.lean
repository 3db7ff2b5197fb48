/- OctetCuts returns true, whatever it is given, and turns no old memory. -/
import Derived.Test.YticmkdjdoljmiaaDoorAwake
namespace Go.Proofs.YticmkdjdoljmiaaDoor
open Go Go.RowKit

theorem cut_in (a : Option Addr) (n cap : Nat) (l : List UInt8) (t s : Int) (w : World) (hv : IsB w (.slice a n cap) l) (hlim : l.length ≤ 1000000) (h0 : 0 ≤ t) (h1 : 0 ≤ s) (h2 : t + s ≤ l.length) :
    Calls Tryd.prog 12 #[.slice a n cap, .int .i64 t, .int .i64 s] w fun e w' => ∃ a' cap' L, e = .returned (.tuple #[.slice a' L.length cap', .bool true]) ∧ IsB w' (.slice a' L.length cap') L ∧ Below w.heap.size w w' ∧ Hid (L = (l.drop t.toNat).take s.toNat) ∧ (L.length : Int) = s := by
  refine (cut_any a n cap l t s w hv hlim).mono ?_
  rintro e w' ⟨⟨a', n', cap', rfl, hi⟩, hb⟩
  have e1 : inC l t s = true := decide_eq_true ⟨h0, h1, h2⟩
  have e2 : cutL l t s = (l.drop t.toNat).take s.toNat := by unfold cutL; rw [if_pos e1]
  rw [e1]
  rw [e2] at hi
  obtain ⟨rfl, _⟩ := hi.cells
  exact ⟨a', cap', _, rfl, hi, hb, rfl, by simp; omega⟩
theorem cut_out (a : Option Addr) (n cap : Nat) (l : List UInt8) (t s : Int) (w : World) (hv : IsB w (.slice a n cap) l) (hlim : l.length ≤ 1000000) (h2 : ¬ (0 ≤ t ∧ 0 ≤ s ∧ t + s ≤ l.length)) :
    Calls Tryd.prog 12 #[.slice a n cap, .int .i64 t, .int .i64 s] w fun e w' => ∃ a' n' cap', e = .returned (.tuple #[.slice a' n' cap', .bool false]) ∧ Below w.heap.size w w' := by
  refine (cut_any a n cap l t s w hv hlim).mono ?_
  rintro e w' ⟨⟨a', n', cap', rfl, _⟩, hb⟩
  have e1 : inC l t s = false := decide_eq_false h2
  rw [e1]
  exact ⟨a', n', cap', rfl, hb⟩

set_option maxHeartbeats 2000000 in
theorem cuts_walk (a : Option Addr) (n cap : Nat) (l : List UInt8) (t s : Int) (w : World) (hv : IsB w (.slice a n cap) l) (ht0 : 0 ≤ t) (ht1 : t ≤ 255) (hs0 : 0 ≤ s) (hs1 : s ≤ 255)
    (htab : Lib.TabIs Tryd.prog w "internal/strconv.uint64pow10" .u64 Lib.pow10Tab) :
    Calls Tryd.prog 8 #[.slice a n cap, .int .u8 t, .int .u8 s] w fun e w' => e = .returned (.bool true) ∧ Below w.heap.size w w' := by
  have HA := Lib.hid (awake_any w htab)
  obtain ⟨rfl, hcap, hmax, _⟩ := hv.cells
  have hlm : l.length ≤ maxLen := Nat.le_trans hcap hmax
  unfold maxLen at hlm
  clear htab
  by_cases hbig : 200 < l.length
  · go_enter Tryd.func8, Tryd.ntmps8
    go_wp2_with (go_at_call 9; refine HA.out.mono ?_; rintro e w1 ⟨rfl, b1⟩)
    go_ret
    exact ⟨rfl, b1⟩
  · go_enter Tryd.func8, Tryd.ntmps8
    go_wp2_with (go_at_call 9; refine HA.out.mono ?_; rintro e w1 ⟨rfl, b1⟩)
    have hv1 := hv.below b1
    obtain ⟨k, hk⟩ : ∃ k, min t (l.length : Int) = k := ⟨_, rfl⟩
    have k0 : 0 ≤ k := by omega
    have k1 : k ≤ l.length := by omega
    rw [hk]
    clear hk hv
    refine (cut_in _ _ _ l 0 k w1 hv1 (by omega) (by omega) k0 (by omega)).mono ?_
    rintro e w2 ⟨a2, c2, X, rfl, i2, b2, HX, lX⟩
    have hv2 := hv1.below b2
    have b3 := below_up b1 b2 b1.size
    clear b1 b2 hv1
    go_wp2_with (go_at_call 12; refine (cut_in _ _ _ l _ _ w2 hv2 (by omega) (by omega) (by omega) (by omega)).mono ?_; rintro e w3 ⟨a3, c3, Y, rfl, i3, b4, HY, lY⟩; refine Hid.out ?_)
    refine Lib.hid ?_
    have hv3 := hv2.below b4
    have i2 := i2.below b4
    have b5 := below_up b3 b4 b3.size
    clear b3 b4 hv2
    go_wp2_with fail
    obtain ⟨m, hm⟩ : ∃ m, min s ((l.length : Int) - k) = m := ⟨_, rfl⟩
    have m0 : 0 ≤ m := by omega
    have m1 : m ≤ l.length - k := by omega
    rw [hm]
    clear hm
    refine (cut_in _ _ _ Y _ m w3 i3 (by omega) (by omega) m0 (by omega)).mono ?_
    rintro e w4 ⟨a4, c4, Z, rfl, i4, b6, HZ, lZ⟩
    have hv4 := hv3.below b6
    have i2 := i2.below b6
    have i3 := i3.below b6
    have b7 := below_up b5 b6 b5.size
    clear b5 b6 hv3
    go_wp2_with (go_at_call 12; refine (cut_in _ _ _ l _ _ w4 hv4 (by omega) (by omega) (by omega) (by omega)).mono ?_; rintro e w5 ⟨a5, c5, V, rfl, i5, b8, HV, lV⟩; refine Hid.out ?_)
    refine Lib.hid ?_
    have hv5 := hv4.below b8
    have i2 := i2.below b8
    have i3 := i3.below b8
    have i4 := i4.below b8
    have b9 := below_up b7 b8 b7.size
    clear b7 b8 hv4
    go_wp2_with (go_at_call 12; refine (cut_out _ _ _ l _ _ w5 hv5 (by omega) (by omega)).mono ?_; rintro e w6 ⟨a6, n6, c6, rfl, b10⟩; refine Hid.out ?_)
    refine Lib.hid ?_
    have b11 := below_up b9 b10 b9.size
    have v0 := (hv5.below b10).conv Tryd.underlying22 Tryd.underlying5 Tryd.underlying9
    have v2 := (i2.below b10).conv Tryd.underlying22 Tryd.underlying5 Tryd.underlying9
    have v3 := (i3.below b10).conv Tryd.underlying22 Tryd.underlying5 Tryd.underlying9
    have v4 := (i4.below b10).conv Tryd.underlying22 Tryd.underlying5 Tryd.underlying9
    have v5 := (i5.below b10).conv Tryd.underlying22 Tryd.underlying5 Tryd.underlying9
    have HS : Hid (X ++ Y = l) := by
      show X ++ Y = l
      have e1 := HX.out
      have e2 := HY.out
      rw [e1, e2, List.take_of_length_le (show (l.drop k.toNat).length ≤ ((l.length : Int) - k).toNat by simp; omega)]
      simp
    have HE : Hid (Z = V) := by
      show Z = V
      have e1 := HZ.out
      have e2 := HV.out
      have e3 := HY.out
      rw [List.take_of_length_le (show (l.drop k.toNat).length ≤ ((l.length : Int) - k).toNat by simp; omega)] at e3
      rw [e1, e2, e3, List.drop_drop]
      congr 2
      omega
    have heq : ((⟨X.toArray⟩ : ByteArray) ++ ⟨Y.toArray⟩).toList = l := by
      rw [ByteArray.mk_append_mk, ByteArray.toList_eq]; exact HS.out
    have hzv := HE.out
    subst hzv
    clear i2 i3 i4 i5 hv5 b9 b10
    go_wp2
    go_ret
    exact ⟨rfl, b11⟩
end Go.Proofs.YticmkdjdoljmiaaDoor
