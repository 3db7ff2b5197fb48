/- The document's own answers for layer 1: Digit, Hex. -/
import Derived.Test.YtfecgnhgkciebaaRef2
namespace Go.Proofs.Ytfecgnhgkciebaa
open Go Go.RowKit

/-- What the document's Digit answers. -/
def rdig (r : Int) : Int := if digB r 16 then digV r 16 else -1
theorem rdig_yes (r d : Int) (h : digW r 16 = d) (hd : d < 16) : rdig r = d := by
  have := digit_fin r 16 d h hd
  unfold rdig; rw [if_pos this.1, this.2]

set_option maxHeartbeats 1000000 in
theorem rdigit_any (r : Int) (w : World) (h0 : 0 ≤ r) (h1 : r ≤ 255) :
    Calls Try.prog 25 #[.int .u8 r] w fun e w' => e = .returned (.int .i64 (rdig r)) ∧ w = w' := by
  by_cases c1 : 48 ≤ r ∧ r ≤ 57
  · have e := rdig_yes r (r - 48) (by unfold digW; rw [if_pos c1]) (by omega)
    rw [e]
    obtain ⟨c1, c2⟩ := c1
    clear e
    go_enter Try.func25, Try.ntmps25
    go_wp2
    go_ret
    exact ⟨rfl, rfl⟩
  by_cases c2 : 97 ≤ r ∧ r ≤ 102
  · have e := rdig_yes r (r - 97 + 10) (by unfold digW; rw [if_neg c1, if_pos c2]) (by omega)
    rw [e]
    obtain ⟨c2, c4⟩ := c2
    have c5 : ¬ r ≤ 57 := by omega
    clear e c1
    go_enter Try.func25, Try.ntmps25
    go_wp2
    go_ret
    exact ⟨rfl, rfl⟩
  by_cases c3 : 65 ≤ r ∧ r ≤ 70
  · have e := rdig_yes r (r - 65 + 10) (by unfold digW; rw [if_neg c1, if_neg c2, if_pos c3]) (by omega)
    rw [e]
    obtain ⟨c3, c6⟩ := c3
    have c5 : ¬ r ≤ 57 := by omega
    have c7 : ¬ 97 ≤ r := by omega
    clear e c1 c2
    go_enter Try.func25, Try.ntmps25
    go_wp2
    go_ret
    exact ⟨rfl, rfl⟩
  have e : rdig r = -1 := by
    unfold rdig
    rw [(digit_none r 16 (by unfold digW; rw [if_neg c1, if_neg c2, if_neg c3]; omega)).1]
    rfl
  rw [e]
  clear e
  go_enter Try.func25, Try.ntmps25
  go_wp2
  all_goals first | (exfalso; omega) | (go_ret; exact ⟨rfl, rfl⟩)

/-- One sign of the row of digits. -/
theorem digs16_piece : ∀ i : Fin 16, (digs16.data.toList.drop i.val).take 1 = [hexDig i.val] := by decide
theorem digs16_extract (y : Nat) (h : y < 16) : (⟨#[48, 49, 50, 51, 52, 53, 54, 55, 56, 57, 97, 98, 99, 100, 101, 102]⟩ : ByteArray).extract y (y + 1) = ⟨[hexDig y].toArray⟩ := by
  show digs16.extract y (y + 1) = _
  rw [extract_mk, show y + 1 - y = 1 by omega, digs16_piece ⟨y, h⟩]

theorem rdig_no {r : Int} (h : digB r 16 = false) : rdig r = -1 := by unfold rdig; rw [h]; rfl
theorem rdig_ok {r : Int} (h : digB r 16 = true) : rdig r = digV r 16 := by unfold rdig; rw [if_pos h]

set_option maxHeartbeats 2000000 in
theorem runhex_any (s : ByteArray) (w : World) (hs : s.size ≤ 1000000) :
    Calls Try.prog 18 #[.string s] w fun e w' => e = .returned (.tuple #[.string ⟨(unhexL s.data.toList).toArray⟩, .bool (unhexB s.data.toList)]) ∧ Below w.heap.size w w' := by
  generalize hl : s.data.toList = l at *
  have hll : l.length = s.size := by rw [← hl]; rfl
  have hb : ∀ k (h : k < s.size), (s[k].toNat : Int) = byteAt l k := fun k h => by rw [← hl]; exact str_at s k h
  have HB := Lib.hid hb
  have HLL := Lib.hid hll
  clear hb hl hll
  go_enter Try.func18, Try.ntmps18
  go_wp2
  go_loopw [4, 5] (fun v i wr => ∃ j : Nat, 2 * j ≤ s.size ∧ i = .int .i64 ((2 * j : Nat) : Int) ∧ v = .string ⟨(pairs (l.take (2 * j))).toArray⟩ ∧ (l.take (2 * j)).all isHex = true ∧ Below w.heap.size w wr) (fun _ i _ => s.size - (intOf i).toNat)
  case atStart => exact ⟨0, Nat.zero_le _, rfl, rfl, rfl, Below.refl _ _⟩
  case round =>
    obtain ⟨j, hj, rfl, rfl, hall, hbw⟩ := hrel
    have HALL := Lib.hid hall
    clear hall
    obtain ⟨k, hk⟩ : ∃ k, 2 * j = k := ⟨_, rfl⟩
    rw [hk] at hj HALL ⊢
    have HK := Lib.hid hk
    clear hk
    by_cases hlt : k < s.size
    · have hkl : k < l.length := by rw [HLL.out]; exact hlt
      by_cases hodd : k + 1 = s.size
      · have hB := unhexB_odd (l := l) (by rw [HLL.out]; have := HK.out; omega)
        have HNo := Lib.hid hB
        have he : ((k : Int) + 1 == (s.size : Int)) = true := by rw [beq_iff_eq]; omega
        clear hB hodd
        generalize pairs (l.take k) = q at *
        go_wp2
        go_ret2
        rw [HNo.out, unhexL_no HNo.out]
        exact ⟨rfl, hbw⟩
      · have he : ((k : Int) + 1 == (s.size : Int)) = false := by rw [beq_eq_false_iff_ne]; omega
        have hlt2 : k + 1 < s.size := by omega
        have hkl2 : k + 1 < l.length := by rw [HLL.out]; exact hlt2
        have hs0 := HB.out k hlt
        have hs1 := HB.out (k + 1) hlt2
        have b0 := byteAt_nonneg l k
        have b1 := byteAt_le l k
        have d0 := byteAt_nonneg l (k + 1)
        have d1 := byteAt_le l (k + 1)
        have R0 := Lib.hid (fun W => rdigit_any (byteAt l k) W b0 b1)
        have R1 := Lib.hid (fun W => rdigit_any (byteAt l (k + 1)) W d0 d1)
        have hlen : (pairs (l.take k)).length ≤ 1000000 := by rw [pairs_length, List.length_take]; omega
        cases hh0 : digB (byteAt l k) 16
        · rw [rdig_no hh0] at R0
          have HNo := Lib.hid (unhexB_sign k hkl hh0)
          clear hh0 hodd
          generalize pairs (l.take k) = q at *
          generalize rdig (byteAt l (k + 1)) = r1 at *
          generalize byteAt l k = x0 at *
          generalize byteAt l (k + 1) = x1 at *
          go_wp2_with (go_at_call 25; refine (R0.out _).mono ?_; rintro e w' ⟨rfl, rfl⟩; refine Hid.out ?_)
          refine Lib.hid ?_
          go_wp2_with (go_at_call 25; refine (R1.out _).mono ?_; rintro e w' ⟨rfl, rfl⟩)
          go_ret2
          rw [HNo.out, unhexL_no HNo.out]
          exact ⟨rfl, hbw⟩
        · have q0 := digV16_bd (byteAt l k)
          rw [rdig_ok hh0] at R0
          obtain ⟨q00, q01⟩ := q0
          cases hh1 : digB (byteAt l (k + 1)) 16
          · rw [rdig_no hh1] at R1
            have HNo := Lib.hid (unhexB_sign (k + 1) hkl2 hh1)
            clear hh0 hodd hh1
            generalize pairs (l.take k) = q at *
            generalize digV (byteAt l k) 16 = r0 at *
            generalize byteAt l k = x0 at *
            generalize byteAt l (k + 1) = x1 at *
            go_wp2_with (go_at_call 25; refine (R0.out _).mono ?_; rintro e w' ⟨rfl, rfl⟩; refine Hid.out ?_)
            refine Lib.hid ?_
            go_wp2_with (go_at_call 25; refine (R1.out _).mono ?_; rintro e w' ⟨rfl, rfl⟩)
            go_ret2
            rw [HNo.out, unhexL_no HNo.out]
            exact ⟨rfl, hbw⟩
          · have q1 := digV16_bd (byteAt l (k + 1))
            rw [rdig_ok hh1] at R1
            obtain ⟨q10, q11⟩ := q1
            have hal2 : (l.take (2 * (j + 1))).all isHex = true := by
              have h := all_take_succ l k hkl HALL.out (p := isHex) (by unfold isHex; rw [byteAt] at hh0; exact hh0)
              have h := all_take_succ l (k + 1) hkl2 h (p := isHex) (by unfold isHex; rw [byteAt] at hh1; exact hh1)
              rw [show 2 * (j + 1) = k + 1 + 1 by have := HK.out; omega]
              exact h
            have hpr : pairs (l.take (2 * (j + 1))) = pairs (l.take k) ++ [UInt8.ofNat (16 * (digV (byteAt l k) 16).toNat + (digV (byteAt l (k + 1)) 16).toNat)] := by
              rw [show 2 * (j + 1) = k + 1 + 1 by have := HK.out; omega, take_succ_snoc l (k + 1) hkl2, take_succ_snoc l k hkl, List.append_assoc]
              rw [show ([l.getD k 0] ++ [l.getD (k + 1) 0] : List UInt8) = [l.getD k 0, l.getD (k + 1) 0] from rfl, pairs_snoc _ _ _ (by rw [List.length_take]; have := HK.out; omega)]
              rfl
            have HAL := Lib.hid hal2
            have HPR := Lib.hid hpr
            have hconv := conv_one wr (16 * digV (byteAt l k) 16 + digV (byteAt l (k + 1)) 16) (UInt8.ofNat (16 * (digV (byteAt l k) 16).toNat + (digV (byteAt l (k + 1)) 16).toNat)) (by rw [UInt8.toNat_ofNat_of_lt' (show 16 * (digV (byteAt l k) 16).toNat + (digV (byteAt l (k + 1)) 16).toNat < 256 by omega)]; omega)
            clear hal2 hpr hh0 hh1 hodd
            generalize pairs (l.take k) = q at *
            generalize digV (byteAt l k) 16 = r0 at *
            generalize digV (byteAt l (k + 1)) 16 = r1 at *
            generalize byteAt l k = x0 at *
            generalize byteAt l (k + 1) = x1 at *
            generalize UInt8.ofNat (16 * r0.toNat + r1.toNat) = ub at *
            go_wp2_with (go_at_call 25; refine (R0.out _).mono ?_; rintro e w' ⟨rfl, rfl⟩; refine Hid.out ?_)
            refine Lib.hid ?_
            go_wp2_with (go_at_call 25; refine (R1.out _).mono ?_; rintro e w' ⟨rfl, rfl⟩)
            go_roundw
            case rel => exact ⟨j + 1, by have := HK.out; omega, by have := HK.out; exact congrArg (Value.int .i64) (by omega), by rw [HPR.out]; exact congrArg Value.string (ByteArray.mk_append_mk q [ub]), HAL.out, hbw.alloc hbw.size _⟩
            case measure => simp [intOf]; omega
    · have hB : unhexB l = true := by
        unfold unhexB
        have h := HALL.out
        rw [List.take_of_length_le (by rw [HLL.out]; omega)] at h
        rw [h, decide_eq_true (by rw [HLL.out]; have := HK.out; omega)]
        rfl
      have HBB := Lib.hid hB
      have hP : pairs (l.take k) = unhexL l := by
        unfold unhexL
        rw [if_pos hB, List.take_of_length_le (by rw [HLL.out]; omega)]
      rw [hP]
      clear hB hP
      go_wp2
      go_ret2
      rw [HBB.out]
      exact ⟨rfl, hbw⟩

end Go.Proofs.Ytfecgnhgkciebaa
