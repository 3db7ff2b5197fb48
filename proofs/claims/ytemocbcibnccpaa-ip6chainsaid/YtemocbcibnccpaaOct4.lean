/- fits and Put of package octet. -/
import Derived.Test.YtemocbcibnccpaaOct3
namespace Go.Proofs.Ytemocbcibnccpaa
open Go Go.RowKit

def fitB (m : Nat) (s : Int) : Bool := decide (m < 256 ^ s.toNat)

theorem fit_div (m : Nat) (s : Int) (D : Nat) (hD : 256 ^ s.toNat = D) (h0 : 0 < D) : ((m : Int) / (D : Int) == 0) = fitB m s := by
  unfold fitB
  rw [hD, Bool.eq_iff_iff, beq_iff_eq, decide_eq_true_iff]
  constructor
  · intro h
    rcases Nat.lt_or_ge m D with h1 | h1
    · exact h1
    · exfalso
      have : 0 < m / D := Nat.div_pos h1 h0
      omega
  · intro h
    have : m / D = 0 := Nat.div_eq_of_lt h
    omega
theorem ret_bool {a b : Bool} (h : a = b) : Ending.returned (.bool a) = .returned (.bool b) := by rw [h]

set_option maxHeartbeats 400000 in
theorem fits_any (m : Nat) (s : Int) (w : World) (_hm : (m : Int) < 18446744073709551616) (h1 : 1 ≤ s) (h8 : s ≤ 8) :
    Calls Try.prog 31 #[.int .u64 m, .int .i64 s] w fun e w' => e = .returned (.bool (fitB m s)) ∧ w = w' := by
  have hs : s = 1 ∨ s = 2 ∨ s = 3 ∨ s = 4 ∨ s = 5 ∨ s = 6 ∨ s = 7 ∨ s = 8 := by omega
  rcases hs with rfl | rfl | rfl | rfl | rfl | rfl | rfl | rfl
  all_goals
    go_enter Try.func31, Try.ntmps31
    go_wp2
    go_ret
  · exact ⟨ret_bool (fit_div m 1 256 (by decide) (by decide)), rfl⟩
  · exact ⟨ret_bool (fit_div m 2 65536 (by decide) (by decide)), rfl⟩
  · exact ⟨ret_bool (fit_div m 3 16777216 (by decide) (by decide)), rfl⟩
  · exact ⟨ret_bool (fit_div m 4 4294967296 (by decide) (by decide)), rfl⟩
  · exact ⟨ret_bool (fit_div m 5 1099511627776 (by decide) (by decide)), rfl⟩
  · exact ⟨ret_bool (fit_div m 6 281474976710656 (by decide) (by decide)), rfl⟩
  · exact ⟨ret_bool (fit_div m 7 72057594037927936 (by decide) (by decide)), rfl⟩
  · exact ⟨ret_bool (fit_div m 8 18446744073709551616 (by decide) (by decide)), rfl⟩

def inP (l : List UInt8) (t s : Int) (m : Nat) : Bool := inG l t s && fitB m s
def putL (l : List UInt8) (t s : Int) (m : Nat) : List UInt8 := if inP l t s m then curL l t.toNat s.toNat m s.toNat else []

set_option maxHeartbeats 1000000 in
theorem put_row (a : Option Addr) (n cap : Nat) (l : List UInt8) (t s : Int) (m : Nat) (w : World) (hv : IsB w (.slice a n cap) l) (hlim : l.length ≤ 1000000) (hm : (m : Int) < 18446744073709551616)
    (ht : 0 ≤ t) (hs : 1 ≤ s) (hs8 : s ≤ 8) (hle : t + s ≤ l.length) (hfit : fitB m s = true) :
    Calls Try.prog 20 #[.slice a n cap, .int .i64 t, .int .i64 s, .int .u64 m] w fun e w' => e = .returned (.tuple #[.slice (some ⟨w.heap.size, 0, none⟩) l.length l.length, .bool true]) ∧ RowIs w' w.heap.size (curL l t.toNat s.toNat m s.toNat) ∧ Below w.heap.size w w' := by
  obtain ⟨rfl, h1, h2, h3⟩ := hv.cells
  have HP := Lib.hid (field_yes a l.length cap t s w h1 h2 ht hs hs8 hle)
  have HF := Lib.hid (fresh_any a l.length cap l w hv hlim)
  have HT := Lib.hid (fits_any m s w hm hs hs8)
  rw [hfit] at HT
  have hml : l.length ≤ maxLen := Nat.le_trans h1 h2
  clear h3
  go_enter Try.func20, Try.ntmps20
  go_wp2_with (first | (go_at_call 30; refine HP.out.mono ?_; rintro e w' ⟨rfl, rfl⟩) | (go_at_call 31; refine HT.out.mono ?_; rintro e w' ⟨rfl, rfl⟩) | (go_at_call 29; refine HF.out.mono ?_; rintro e w1 ⟨rfl, hr, hb⟩; refine Hid.out ?_))
  refine Lib.hid ?_
  have hrow : RowIs w1 w.heap.size l := hr
  clear hr HP HF HT
  have HP2 := Lib.hid (field_yes (some ⟨w.heap.size, 0, none⟩) l.length l.length t s w1 (Nat.le_refl _) hml ht hs hs8 hle)
  obtain ⟨t, rfl⟩ := Int.eq_ofNat_of_zero_le ht
  obtain ⟨s, rfl⟩ := Int.eq_ofNat_of_zero_le (show 0 ≤ s by omega)
  simp only [Option.map_some, plain_add, Int.toNat_natCast, Nat.zero_add] at HP2
  have hle' : t + s ≤ l.length := by omega
  have hs' : 1 ≤ s := by omega
  have hs8' : s ≤ 8 := by omega
  go_wp2_with (go_at_call 30; refine HP2.out.mono ?_; rintro e w' ⟨rfl, rfl⟩)
  go_loopw [3, 15] (fun n i wr => ∃ k : Nat, k ≤ s ∧ i = .int .i64 ((k : Int) - 1) ∧ n = .int .u64 ((m / 256 ^ (s - k) : Nat) : Int) ∧ RowIs wr w.heap.size (curL l t s m (s - k)) ∧ Below w.heap.size w wr) (fun _ i _ => (intOf i + 1).toNat)
  case atStart => exact ⟨s, Nat.le_refl _, rfl, by rw [Nat.sub_self, Nat.pow_zero, Nat.div_one], by rw [Nat.sub_self, curL_zero]; exact hrow, hb⟩
  case round =>
    obtain ⟨k, hk, rfl, rfl, hrw, hbw⟩ := hrel
    rcases k with _ | k
    · go_wp2
      go_ret2
      rw [Nat.sub_zero] at hrw
      exact ⟨rfl, hrw, hbw⟩
    · have hcl := curL_length l t s m (s - (k + 1)) hle' (by omega)
      have hcell := hrw.cell (t + k) (by omega)
      have hfr := hrw.frozen (t + k)
      have hset := curL_set l t s m (s - (k + 1)) hle' (by omega)
      rw [show t + (s - 1 - (s - (k + 1))) = t + k by omega, show s - (k + 1) + 1 = s - k by omega] at hset
      have hpow : m / 256 ^ (s - k) = m / 256 ^ (s - (k + 1)) / 256 := by
        rw [show s - k = s - (k + 1) + 1 by omega, Nat.pow_succ, Nat.div_div_eq_div_mul]
      have hst := fun x => hrw.store (t + k) ((x % 256 : Nat) : Int) (UInt8.ofNat (x % 256)) (by rw [toNat_ofNat_mod])
      have HS := Lib.hid hst
      have HE := Lib.hid hset
      have HW := Lib.hid hpow
      clear hst hset hpow hcl
      generalize m / 256 ^ (s - (k + 1)) = x at *
      go_wp2
      go_roundw
      case rel => exact ⟨k, by omega, rfl, by rw [HW.out]; rfl, by rw [← HE.out]; exact HS.out x, hbw.setCell (Nat.le_refl _) _⟩
      case measure => simp [intOf]

theorem put_yes (a : Option Addr) (n cap : Nat) (l : List UInt8) (t s : Int) (m : Nat) (w : World) (hv : IsB w (.slice a n cap) l) (hlim : l.length ≤ 1000000) (hm : (m : Int) < 18446744073709551616)
    (ht : 0 ≤ t) (hs : 1 ≤ s) (hs8 : s ≤ 8) (hle : t + s ≤ l.length) (hfit : fitB m s = true) :
    Calls Try.prog 20 #[.slice a n cap, .int .i64 t, .int .i64 s, .int .u64 m] w fun e w' => (∃ a' n' cap', e = .returned (.tuple #[.slice a' n' cap', .bool true]) ∧ IsB w' (.slice a' n' cap') (curL l t.toNat s.toNat m s.toNat)) ∧ Below w.heap.size w w' := by
  refine (put_row a n cap l t s m w hv hlim hm ht hs hs8 hle hfit).mono ?_
  rintro e w' ⟨rfl, hr, hb⟩
  have hcl := curL_length l t.toNat s.toNat m s.toNat (by omega) (Nat.le_refl _)
  have hi := hr.isB (by rw [hcl]; unfold maxLen; omega)
  rw [hcl] at hi
  exact ⟨⟨_, _, _, rfl, hi⟩, hb⟩

theorem put_no1 (a : Option Addr) (n cap : Nat) (l : List UInt8) (t s : Int) (m : Nat) (w : World) (hv : IsB w (.slice a n cap) l) (hin : ¬ (0 ≤ t ∧ 1 ≤ s ∧ s ≤ 8 ∧ t + s ≤ l.length)) :
    Calls Try.prog 20 #[.slice a n cap, .int .i64 t, .int .i64 s, .int .u64 m] w fun e w' => e = .returned (.tuple #[.slice none 0 0, .bool false]) ∧ w = w' := by
  obtain ⟨rfl, h1, h2, h3⟩ := hv.cells
  have HP := Lib.hid (field_no a l.length cap t s w h1 h2 hin)
  clear hin h3
  go_enter Try.func20, Try.ntmps20
  go_wp2_with (go_at_call 30; refine HP.out.mono ?_; rintro e w' ⟨rfl, rfl⟩)
  go_ret2
  exact ⟨rfl, rfl⟩

theorem put_no2 (a : Option Addr) (n cap : Nat) (l : List UInt8) (t s : Int) (m : Nat) (w : World) (hv : IsB w (.slice a n cap) l) (hm : (m : Int) < 18446744073709551616)
    (ht : 0 ≤ t) (hs : 1 ≤ s) (hs8 : s ≤ 8) (hle : t + s ≤ l.length) (hfit : fitB m s = false) :
    Calls Try.prog 20 #[.slice a n cap, .int .i64 t, .int .i64 s, .int .u64 m] w fun e w' => e = .returned (.tuple #[.slice none 0 0, .bool false]) ∧ w = w' := by
  obtain ⟨rfl, h1, h2, h3⟩ := hv.cells
  have HP := Lib.hid (field_yes a l.length cap t s w h1 h2 ht hs hs8 hle)
  have HT := Lib.hid (fits_any m s w hm hs hs8)
  rw [hfit] at HT
  clear h3
  go_enter Try.func20, Try.ntmps20
  go_wp2_with (first | (go_at_call 30; refine HP.out.mono ?_; rintro e w' ⟨rfl, rfl⟩) | (go_at_call 31; refine HT.out.mono ?_; rintro e w' ⟨rfl, rfl⟩))
  go_ret2
  exact ⟨rfl, rfl⟩

/-- Put, whatever it is given. -/
theorem put_any (a : Option Addr) (n cap : Nat) (l : List UInt8) (t s : Int) (m : Nat) (w : World) (hv : IsB w (.slice a n cap) l) (hlim : l.length ≤ 1000000) (hm : (m : Int) < 18446744073709551616) :
    Calls Try.prog 20 #[.slice a n cap, .int .i64 t, .int .i64 s, .int .u64 m] w fun e w' => (∃ a' n' cap', e = .returned (.tuple #[.slice a' n' cap', .bool (inP l t s m)]) ∧ IsB w' (.slice a' n' cap') (putL l t s m)) ∧ Below w.heap.size w w' := by
  by_cases hin : 0 ≤ t ∧ 1 ≤ s ∧ s ≤ 8 ∧ t + s ≤ l.length
  · have e1 : inG l t s = true := decide_eq_true hin
    obtain ⟨ht, hs, hs8, hle⟩ := hin
    cases hfit : fitB m s
    · have e2 : inP l t s m = false := by unfold inP; rw [hfit, Bool.and_false]
      have e3 : putL l t s m = [] := by unfold putL; rw [e2]; rfl
      rw [e2, e3]
      refine (put_no2 a n cap l t s m w hv hm ht hs hs8 hle hfit).mono ?_
      rintro e w' ⟨rfl, rfl⟩
      exact ⟨⟨_, _, _, rfl, IsB.nil _⟩, Below.refl _ _⟩
    · have e2 : inP l t s m = true := by unfold inP; rw [hfit, e1]; rfl
      have e3 : putL l t s m = curL l t.toNat s.toNat m s.toNat := by unfold putL; rw [e2]; rfl
      rw [e2, e3]
      exact put_yes a n cap l t s m w hv hlim hm ht hs hs8 hle hfit
  · have e1 : inG l t s = false := decide_eq_false hin
    have e2 : inP l t s m = false := by unfold inP; rw [e1]; rfl
    have e3 : putL l t s m = [] := by unfold putL; rw [e2]; rfl
    rw [e2, e3]
    refine (put_no1 a n cap l t s m w hv hin).mono ?_
    rintro e w' ⟨rfl, rfl⟩
    exact ⟨⟨_, _, _, rfl, IsB.nil _⟩, Below.refl _ _⟩
end Go.Proofs.Ytemocbcibnccpaa
