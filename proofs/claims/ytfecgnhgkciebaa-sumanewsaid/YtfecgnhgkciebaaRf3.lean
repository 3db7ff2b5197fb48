/- The document's own answers for layer 2: Pseudo. -/
import Derived.Test.YtfecgnhgkciebaaRf2
namespace Go.Proofs.Ytfecgnhgkciebaa
open Go Go.RowKit

set_option maxHeartbeats 2000000 in
theorem rpseudo_any (s d : List UInt8) (q : Int) (p : UInt8) (z : Int) (w : World) (hq : q = (p.toNat : Int)) (_hs : s.length ≤ 1000) (_hd : d.length ≤ 1000) :
    Calls Try.prog 17 #[.string ⟨s.toArray⟩, .string ⟨d.toArray⟩, .int .i64 q, .int .i64 z] w fun e w' => e = .returned (.string ⟨(pseudoL s d p z).toArray⟩) ∧ Below w.heap.size w w' := by
  have hq0 : 0 ≤ q := by omega
  have hq1 : q ≤ 255 := by have := UInt8.toNat_lt p; omega
  have hconv := conv_one w q p hq
  have bel : Below w.heap.size w (w.alloc (.cells #[.int .u8 q] 5)) := (Below.refl _ _).alloc (Nat.le_refl _) _
  clear hq
  by_cases hne : s.length ≠ d.length
  · rw [pseudo_none s d p z (by omega) (by omega)]
    have hn : ((s.length : Int) != (d.length : Int)) = true := by simp; omega
    clear hne bel
    go_enter Try.func17, Try.ntmps17
    go_wp2
    go_ret
    exact ⟨rfl, Below.refl _ _⟩
  have hn : ((s.length : Int) != (d.length : Int)) = false := by simp; omega
  by_cases hz0 : z < 0
  · rw [pseudo_neg s d p z hz0]
    clear hne bel
    go_enter Try.func17, Try.ntmps17
    go_wp2
    go_ret
    exact ⟨rfl, Below.refl _ _⟩
  have hz1 : 0 ≤ z := by omega
  obtain ⟨z, rfl⟩ := Int.eq_ofNat_of_zero_le hz1
  by_cases h4 : s.length = 4
  · have hd4 : d.length = 4 := by omega
    rw [pseudo4 s d p z h4 hd4 hz1]
    by_cases hf : (z : Int) < 65536
    · rw [if_pos hf, Int.toNat_natCast]
      have HB := Lib.hid (rbytes_any z 2 (w.alloc (.cells #[.int .u8 q] 5)) (by omega) (by omega))
      rw [show ((2 : Nat) : Int) = 2 from rfl] at HB
      have hlen := lowB_length 2 z
      generalize lowB 2 z = y at *
      have HBel := Lib.hid bel
      clear bel hne hn _hs _hd
      go_enter Try.func17, Try.ntmps17
      go_wp2_with (go_at_call 24; refine HB.out.mono ?_; rintro e w2 ⟨rfl, hb2⟩)
      go_ret
      refine ⟨?_, below_up HBel.out hb2 HBel.out.size⟩
      rw [← ByteArray.mk_append_mk, ← ByteArray.mk_append_mk, ← ByteArray.mk_append_mk, ← ByteArray.mk_append_mk]
      rfl
    · rw [if_neg hf]
      have hfb : decide ((z : Int) < 65536) = false := decide_eq_false hf
      have HBel := Lib.hid bel
      clear bel hne hn _hs _hd hf
      go_enter Try.func17, Try.ntmps17
      go_wp2
      go_ret
      exact ⟨rfl, HBel.out⟩
  by_cases h16 : s.length = 16
  · have hd16 : d.length = 16 := by omega
    rw [pseudo16 s d p z h16 hd16 hz1]
    by_cases hf : (z : Int) < 4294967296
    · rw [if_pos hf, Int.toNat_natCast]
      have HB := Lib.hid (rbytes_any z 4 (w.alloc (.cells #[.int .u8 q] 5)) (by omega) (by omega))
      rw [show ((4 : Nat) : Int) = 4 from rfl] at HB
      have hlen := lowB_length 4 z
      have hfb : decide ((z : Int) < 4294967296) = true := decide_eq_true hf
      have hw : IntKind.u64.wrap (z : Int) = z := by rw [IntKind.wrap_u64]; omega
      generalize lowB 4 z = y at *
      have HBel := Lib.hid bel
      clear bel hne hn _hs _hd h4 hf
      go_enter Try.func17, Try.ntmps17
      go_wp2_with (go_at_call 24; refine HB.out.mono ?_; rintro e w2 ⟨rfl, hb2⟩)
      go_ret
      refine ⟨?_, below_up HBel.out hb2 HBel.out.size⟩
      rw [← ByteArray.mk_append_mk, ← ByteArray.mk_append_mk, ← ByteArray.mk_append_mk, ← ByteArray.mk_append_mk]
      rfl
    · rw [if_neg hf]
      have hfb : decide ((z : Int) < 4294967296) = false := decide_eq_false hf
      have HBel := Lib.hid bel
      clear bel hne hn _hs _hd hf h4
      go_enter Try.func17, Try.ntmps17
      go_wp2
      go_ret
      exact ⟨rfl, HBel.out⟩
  · rw [pseudo_none s d p z (by omega) (by omega)]
    have hx4 : ((s.length : Int) == 4) = false := by simp; omega
    have hx16 : ((s.length : Int) == 16) = false := by simp; omega
    have HBel := Lib.hid bel
    clear bel hne h4 h16
    go_enter Try.func17, Try.ntmps17
    go_wp2
    go_ret
    exact ⟨rfl, HBel.out⟩
end Go.Proofs.Ytfecgnhgkciebaa
