/- The document's own answers for layer 1: Digit, Hex. -/
import Derived.Test.YteomoipbjkafgaaDoorRef2
namespace Go.Proofs.YteomoipbjkafgaaDoor
open Go Go.RowKit

/-- What the document's Digit answers. -/
def rdig (r : Int) : Int := if digB r 16 then digV r 16 else -1
theorem rdig_yes (r d : Int) (h : digW r 16 = d) (hd : d < 16) : rdig r = d := by
  have := digit_fin r 16 d h hd
  unfold rdig; rw [if_pos this.1, this.2]

set_option maxHeartbeats 1000000 in
theorem rdigit_any (r : Int) (w : World) (h0 : 0 ≤ r) (h1 : r ≤ 255) :
    Calls Tryd.prog 45 #[.int .u8 r] w fun e w' => e = .returned (.int .i64 (rdig r)) ∧ w = w' := by
  by_cases c1 : 48 ≤ r ∧ r ≤ 57
  · have e := rdig_yes r (r - 48) (by unfold digW; rw [if_pos c1]) (by omega)
    rw [e]
    obtain ⟨c1, c2⟩ := c1
    clear e
    go_enter Tryd.func45, Tryd.ntmps45
    go_wp2
    go_ret
    exact ⟨rfl, rfl⟩
  by_cases c2 : 97 ≤ r ∧ r ≤ 102
  · have e := rdig_yes r (r - 97 + 10) (by unfold digW; rw [if_neg c1, if_pos c2]) (by omega)
    rw [e]
    obtain ⟨c2, c4⟩ := c2
    have c5 : ¬ r ≤ 57 := by omega
    clear e c1
    go_enter Tryd.func45, Tryd.ntmps45
    go_wp2
    go_ret
    exact ⟨rfl, rfl⟩
  by_cases c3 : 65 ≤ r ∧ r ≤ 70
  · have e := rdig_yes r (r - 65 + 10) (by unfold digW; rw [if_neg c1, if_neg c2, if_pos c3]) (by omega)
    rw [e]
    obtain ⟨c3, c6⟩ := c3
    have c5 : ¬ r ≤ 57 := by omega
    have c7 : ¬ 97 ≤ r := by omega
    clear e c1 c2
    go_enter Tryd.func45, Tryd.ntmps45
    go_wp2
    go_ret
    exact ⟨rfl, rfl⟩
  have e : rdig r = -1 := by
    unfold rdig
    rw [(digit_none r 16 (by unfold digW; rw [if_neg c1, if_neg c2, if_neg c3]; omega)).1]
    rfl
  rw [e]
  clear e
  go_enter Tryd.func45, Tryd.ntmps45
  go_wp2
  all_goals first | (exfalso; omega) | (go_ret; exact ⟨rfl, rfl⟩)

/-- One sign of the row of digits. -/
theorem digs16_piece : ∀ i : Fin 16, (digs16.data.toList.drop i.val).take 1 = [hexDig i.val] := by decide
theorem digs16_extract (y : Nat) (h : y < 16) : (⟨#[48, 49, 50, 51, 52, 53, 54, 55, 56, 57, 97, 98, 99, 100, 101, 102]⟩ : ByteArray).extract y (y + 1) = ⟨[hexDig y].toArray⟩ := by
  show digs16.extract y (y + 1) = _
  rw [extract_mk, show y + 1 - y = 1 by omega, digs16_piece ⟨y, h⟩]

set_option maxHeartbeats 1000000 in
theorem rhex_any (s : ByteArray) (w : World) (hs : s.size ≤ 1000000) :
    Calls Tryd.prog 21 #[.string s] w fun e w' => e = .returned (.string ⟨(hexL s.data.toList).toArray⟩) ∧ Below w.heap.size w w' := by
  generalize hl : s.data.toList = l at *
  have hll : l.length = s.size := by rw [← hl]; rfl
  have hb : ∀ k (h : k < s.size), (s[k].toNat : Int) = byteAt l k := fun k h => by rw [← hl]; exact str_at s k h
  have HB := Lib.hid hb
  have HLL := Lib.hid hll
  clear hb hl hll
  go_enter Tryd.func21, Tryd.ntmps21
  go_wp2
  go_loopw [4, 5] (fun v i wr => ∃ k : Nat, k ≤ s.size ∧ i = .int .i64 k ∧ v = .string ⟨(hexL (l.take k)).toArray⟩ ∧ Below w.heap.size w wr) (fun _ i _ => s.size - (intOf i).toNat)
  case atStart => exact ⟨0, Nat.zero_le _, rfl, rfl, Below.refl _ _⟩
  case round =>
    obtain ⟨k, hk, rfl, rfl, hbw⟩ := hrel
    by_cases hlt : k < s.size
    · have hkl : k < l.length := by rw [HLL.out]; exact hlt
      have hsk := HB.out k hlt
      have b0 := byteAt_nonneg l k
      have b1 := byteAt_le l k
      have HS := Lib.hid (hexL_take_succ l k hkl)
      have hlen : (hexL (l.take k)).length ≤ 2000000 := by rw [hexL_length, List.length_take]; omega
      have x1 := digs16_extract ((byteAt l k).toNat / 16) (by omega)
      have x2 := digs16_extract ((byteAt l k).toNat % 16) (by omega)
      generalize hexL (l.take k) = q at *
      generalize hx : byteAt l k = x at *
      obtain ⟨x, rfl⟩ := Int.eq_ofNat_of_zero_le b0
      simp only [Int.toNat_natCast] at x1 x2 HS
      clear hx
      go_wp2
      go_quiet (fail)
      go_wp2
      go_roundw
      case rel => exact ⟨k + 1, by omega, by go_num, by rw [HS.out]; exact congrArg Value.string (by rw [ByteArray.mk_append_mk [hexDig (x / 16)] [hexDig (x % 16)], ByteArray.mk_append_mk]; rfl), below_drewN hbw nq⟩
      case measure => simp [intOf]; omega
    · go_wp2
      go_ret
      rw [List.take_of_length_le (by rw [HLL.out]; omega)]
      exact ⟨rfl, hbw⟩

theorem rdig_no {r : Int} (h : digB r 16 = false) : rdig r = -1 := by unfold rdig; rw [h]; rfl
theorem rdig_ok {r : Int} (h : digB r 16 = true) : rdig r = digV r 16 := by unfold rdig; rw [if_pos h]

theorem rhex_l (l : List UInt8) (w : World) (hs : l.length ≤ 1000000) :
    Calls Tryd.prog 21 #[.string ⟨l.toArray⟩] w fun e w' => e = .returned (.string ⟨(hexL l).toArray⟩) ∧ Below w.heap.size w w' := rhex_any ⟨l.toArray⟩ w hs
end Go.Proofs.YteomoipbjkafgaaDoor
