/- Cut and Get of package octet. -/
import Derived.Test.YtemocbcibnccpaaOct2
namespace Go.Proofs.Ytemocbcibnccpaa
open Go Go.RowKit

def inC (l : List UInt8) (t s : Int) : Bool := decide (0 ≤ t ∧ 0 ≤ s ∧ t + s ≤ l.length)
def cutL (l : List UInt8) (t s : Int) : List UInt8 := if inC l t s then (l.drop t.toNat).take s.toNat else []

theorem IsB.shape {w : World} {v : Value} {l : List UInt8} (h : IsB w v l) : ∃ a n cap, v = .slice a n cap := by
  obtain ⟨a, cap, rfl, _⟩ := h
  exact ⟨_, _, _, rfl⟩

set_option maxHeartbeats 400000 in
theorem cut_any (a : Option Addr) (n cap : Nat) (l : List UInt8) (t s : Int) (w : World) (hv : IsB w (.slice a n cap) l) (hlim : l.length ≤ 1000000) :
    Calls Try.prog 19 #[.slice a n cap, .int .i64 t, .int .i64 s] w fun e w' => (∃ a' n' cap', e = .returned (.tuple #[.slice a' n' cap', .bool (inC l t s)]) ∧ IsB w' (.slice a' n' cap') (cutL l t s)) ∧ Below w.heap.size w w' := by
  obtain ⟨rfl, h1, h2, h3⟩ := hv.cells
  by_cases hin : 0 ≤ t ∧ 0 ≤ s ∧ t + s ≤ l.length
  · have e1 : inC l t s = true := decide_eq_true hin
    have e2 : cutL l t s = (l.drop t.toNat).take s.toNat := by unfold cutL; rw [if_pos e1]
    obtain ⟨ht, hs, hle⟩ := hin
    have hcut := hv.cut (at' := t.toNat) (size := s.toNat) (by omega)
    rw [e1, e2]
    have hlen : ((l.drop t.toNat).take s.toNat).length = s.toNat := by simp; omega
    generalize (l.drop t.toNat).take s.toNat = q at *
    generalize hA : (if t.toNat + s.toNat = t.toNat then a else a.map (·.add t.toNat)) = a2 at *
    have hp := part_yes a l.length cap t s w h1 h2 ht hs hle
    rw [hA] at hp
    have HP := Lib.hid hp
    have HF := Lib.hid (fresh_any _ _ _ _ w hcut (by omega))
    have HL := Lib.hid hlen
    clear hp hA hcut e1 e2 h3 hlen
    go_enter Try.func19, Try.ntmps19
    go_wp2_with (first | (go_at_call 28; refine HP.out.mono ?_; rintro e w' ⟨rfl, rfl⟩) | (go_at_call 29; refine HF.out.mono ?_; rintro e w' ⟨rfl, hr, hb⟩))
    go_ret2
    have hq : q.length ≤ maxLen := by have := HL.out; unfold maxLen at *; omega
    exact ⟨⟨_, _, _, rfl, IsB.of_row hr hq⟩, hb⟩
  · have e1 : inC l t s = false := decide_eq_false hin
    have e2 : cutL l t s = [] := by unfold cutL; rw [e1]; rfl
    rw [e1, e2]
    have HP := Lib.hid (part_no a l.length cap t s w h1 h2 hin)
    clear e1 e2 h3 hin
    go_enter Try.func19, Try.ntmps19
    go_wp2_with (go_at_call 28; refine HP.out.mono ?_; rintro e w' ⟨rfl, rfl⟩)
    go_ret2
    exact ⟨⟨_, _, _, rfl, IsB.nil _⟩, Below.refl _ _⟩

def inG (l : List UInt8) (t s : Int) : Bool := decide (0 ≤ t ∧ 1 ≤ s ∧ s ≤ 8 ∧ t + s ≤ l.length)
def getN (l : List UInt8) (t s : Int) : Nat := if inG l t s then numOf ((l.drop t.toNat).take s.toNat) else 0

set_option maxHeartbeats 400000 in
theorem get_any (a : Option Addr) (n cap : Nat) (l : List UInt8) (t s : Int) (w : World) (hv : IsB w (.slice a n cap) l) :
    Calls Try.prog 25 #[.slice a n cap, .int .i64 t, .int .i64 s] w fun e w' => e = .returned (.tuple #[.int .u64 (getN l t s : Nat), .bool (inG l t s)]) ∧ w = w' := by
  obtain ⟨rfl, h1, h2, h3⟩ := hv.cells
  by_cases hin : 0 ≤ t ∧ 1 ≤ s ∧ s ≤ 8 ∧ t + s ≤ l.length
  · have e1 : inG l t s = true := decide_eq_true hin
    have e2 : getN l t s = numOf ((l.drop t.toNat).take s.toNat) := by unfold getN; rw [if_pos e1]
    obtain ⟨ht, hs, hs8, hle⟩ := hin
    have hcut := hv.cut (at' := t.toNat) (size := s.toNat) (by omega)
    rw [e1, e2]
    have hlen : ((l.drop t.toNat).take s.toNat).length = s.toNat := by simp; omega
    generalize (l.drop t.toNat).take s.toNat = q at *
    have HP := Lib.hid (field_yes a l.length cap t s w h1 h2 ht hs hs8 hle)
    rw [if_neg (by omega)] at hcut
    obtain ⟨a2, cap2, he, hq1, hq2, hq3⟩ := hcut
    obtain ⟨b, off, ha2, hlt, hc⟩ := hq3 (by omega)
    simp only [Value.slice.injEq] at he
    obtain ⟨he1, he2, rfl⟩ := he
    rw [ha2] at he1
    obtain ⟨k0, hk0⟩ : ∃ k0 : Nat, s.toNat = k0 := ⟨_, rfl⟩
    rw [he1, hk0] at HP
    have hk8 : k0 ≤ 8 := by omega
    rw [hlen, hk0] at hc
    rw [hk0] at hlen
    have HL := Lib.hid hlen
    clear e1 e2 h3 he1 he2 ha2 hq3 hq1 hq2 hk0 hle hs hs8 ht hlen
    go_enter Try.func25, Try.ntmps25
    go_wp2_with (go_at_call 30; refine HP.out.mono ?_; rintro e w' ⟨rfl, rfl⟩)
    go_loop [10, 12, 24] (fun n _ i => ∃ k : Nat, k ≤ k0 ∧ i = .int .i64 k ∧ n = .int .u64 (numOf (q.take k) : Nat)) (fun _ _ i => k0 - (intOf i).toNat)
    case atStart => exact ⟨0, Nat.zero_le _, rfl, rfl⟩
    case round =>
      obtain ⟨k, hk, rfl, rfl⟩ := hrel
      by_cases hlt2 : k < k0
      · have hck := hc k hlt2
        have b0 := byteAt_nonneg q k
        have b1 := byteAt_le q k
        go_wp2
        go_round
        case rel => exact ⟨k + 1, by omega, by go_num, by rw [or_byte _ _ (numOf_take_lt q k 7 (by omega)) b0 b1, numOf_take_succ q k (by rw [HL.out]; omega)]⟩
        case measure => simp [intOf]; omega
      · go_wp2
        go_ret2
        exact ⟨by rw [List.take_of_length_le (by rw [HL.out]; omega)]; rfl, rfl⟩
  · have e1 : inG l t s = false := decide_eq_false hin
    have e2 : getN l t s = 0 := by unfold getN; rw [e1]; rfl
    rw [e1, e2]
    have HP := Lib.hid (field_no a l.length cap t s w h1 h2 hin)
    clear e1 e2 h3 hin
    go_enter Try.func25, Try.ntmps25
    go_wp2_with (go_at_call 30; refine HP.out.mono ?_; rintro e w' ⟨rfl, rfl⟩)
    go_ret2
    exact ⟨rfl, rfl⟩

end Go.Proofs.Ytemocbcibnccpaa
