/- The document's own answers for layer 2: Fold, Raw, Of, Turn, Pseudo. Proved: what each returns (texts of at most a million bytes). -/
import Derived.Test.YtchkbdgoghcgcaaSum2
import Derived.Test.YtchkbdgoghcgcaaRef3
namespace Go.Proofs.Ytchkbdgoghcgcaa
open Go Go.RowKit

set_option maxHeartbeats 400000 in
theorem rfold_any (n : Nat) (w : World) (hn : n ≤ 200000000000) :
    Calls Try.prog 38 #[.int .i64 n] w fun e w' => e = .returned (.int .i64 (fold16 n)) ∧ w = w' := by
  go_enter Try.func38, Try.ntmps38
  go_wp2
  go_loop [0] (fun v => ∃ m : Nat, m ≤ 200000000000 ∧ v = .int .i64 m ∧ Hid (fold16 m = fold16 n)) (fun v => (intOf v).toNat)
  case atStart => exact ⟨n, hn, rfl, rfl⟩
  case round =>
    obtain ⟨m, hm, rfl, HM⟩ := hrel
    by_cases hgt : 65535 < m
    · have HS := Lib.hid (fold16_step m hgt)
      go_wp2
      go_round
      case rel => exact ⟨m % 65536 + m / 65536, by omega, by go_num, HS.out.trans HM.out⟩
      case measure => simp [intOf]; omega
    · have HS := Lib.hid (fold16_small m (by omega))
      go_wp2
      go_ret
      exact ⟨ret_int (by rw [← HM.out, HS.out]), rfl⟩

theorem wsum_take_even (l : List UInt8) (k : Nat) (h : k < l.length) (h2 : k % 2 = 0) : wsum false (l.take (k + 1)) = wsum false (l.take k) + (byteAt l k).toNat * 256 := by
  rw [wsum_take_succ l k false h, lows_even, List.length_take, Nat.min_eq_left (by omega), if_pos h2]
  rfl
theorem wsum_take_odd (l : List UInt8) (k : Nat) (h : k < l.length) (h2 : ¬ k % 2 = 0) : wsum false (l.take (k + 1)) = wsum false (l.take k) + (byteAt l k).toNat := by
  rw [wsum_take_succ l k false h, lows_even, List.length_take, Nat.min_eq_left (by omega), if_neg h2]
  rfl

set_option maxHeartbeats 1000000 in
theorem rraw_any (s : ByteArray) (w : World) (hs : s.size ≤ 1000000) :
    Calls Try.prog 24 #[.string s] w fun e w' => e = .returned (.int .i64 (fold16 (wsum false s.data.toList))) ∧ w = w' := by
  generalize hl : s.data.toList = l at *
  have hll : l.length = s.size := by rw [← hl]; rfl
  have hb : ∀ k (h : k < s.size), (s[k].toNat : Int) = byteAt l k := fun k h => by rw [← hl]; exact str_at s k h
  have HB := Lib.hid hb
  have HLL := Lib.hid hll
  clear hb hl hll
  go_enter Try.func24, Try.ntmps24
  go_wp2
  go_loop [3, 4] (fun n i => ∃ k : Nat, k ≤ s.size ∧ i = .int .i64 k ∧ n = .int .i64 (wsum false (l.take k) : Nat)) (fun _ i => s.size - (intOf i).toNat)
  case atStart => exact ⟨0, Nat.zero_le _, rfl, rfl⟩
  case round =>
    obtain ⟨k, hk, rfl, rfl⟩ := hrel
    have hw := wsum_le (l.take k) false
    rw [List.length_take] at hw
    have hw2 : wsum false (l.take k) ≤ 100000000000 := by omega
    clear hw
    by_cases hlt : k < s.size
    · have hkl : k < l.length := by rw [HLL.out]; exact hlt
      have hsk := HB.out k hlt
      have b0 := byteAt_nonneg l k
      have b1 := byteAt_le l k
      by_cases h2 : k % 2 = 0
      · have HS := Lib.hid (wsum_take_even l k hkl h2)
        have h2' : (k : Int) % 2 = 0 := by omega
        clear h2
        generalize wsum false (l.take k) = T at *
        generalize byteAt l k = x at *
        go_wp2
        go_round
        case rel => exact ⟨k + 1, by omega, by go_num, by rw [HS.out]; go_num⟩
        case measure => simp [intOf]; omega
      · have HS := Lib.hid (wsum_take_odd l k hkl h2)
        have h2' : ¬ (k : Int) % 2 = 0 := by omega
        clear h2
        generalize wsum false (l.take k) = T at *
        generalize byteAt l k = x at *
        go_wp2
        go_round
        case rel => exact ⟨k + 1, by omega, by go_num, by rw [HS.out]; go_num⟩
        case measure => simp [intOf]; omega
    · have HF := Lib.hid (rfold_any (wsum false (l.take k)) w (by omega))
      have HL2 : Hid (l.take k = l) := List.take_of_length_le (by rw [HLL.out]; omega)
      generalize hT : wsum false (l.take k) = T at *
      have HT := Lib.hid hT
      clear hT
      go_wp2_with (go_at_call 38; refine HF.out.mono ?_; rintro e w' ⟨rfl, rfl⟩)
      go_ret
      exact ⟨ret_int (by rw [← HT.out, HL2.out]), rfl⟩

set_option maxHeartbeats 400000 in
theorem rof_any (s : ByteArray) (w : World) (hs : s.size ≤ 1000000) :
    Calls Try.prog 31 #[.string s] w fun e w' => e = .returned (.int .i64 ((65535 - fold16 (wsum false s.data.toList) : Nat) : Int)) ∧ w = w' := by
  have HF := Lib.hid (rraw_any s w hs)
  have hle := fold16_le (wsum false s.data.toList)
  generalize fold16 (wsum false s.data.toList) = T at *
  go_enter Try.func31, Try.ntmps31
  go_wp2_with (go_at_call 24; refine HF.out.mono ?_; rintro e w' ⟨rfl, rfl⟩)
  go_ret
  exact ⟨ret_int (by omega), rfl⟩

set_option maxHeartbeats 400000 in
theorem rturn_any (c o n : Nat) (w : World) (hc : c ≤ 65535) (ho : o ≤ 65535) (hn : n ≤ 65535) :
    Calls Try.prog 34 #[.int .i64 c, .int .i64 o, .int .i64 n] w fun e w' => e = .returned (.int .i64 (turnN c o n)) ∧ w = w' := by
  have HF := Lib.hid (rfold_any (65535 - c + (65535 - o) + n) w (by omega))
  have hle := fold16_le (65535 - c + (65535 - o) + n)
  unfold turnN
  generalize hT : fold16 (65535 - c + (65535 - o) + n) = T at *
  clear hT
  rw [show ((65535 - c + (65535 - o) + n : Nat) : Int) = (65535 : Int) - c + 65535 - o + n by omega] at HF
  go_enter Try.func34, Try.ntmps34
  go_wp2_with (go_at_call 38; refine HF.out.mono ?_; rintro e w' ⟨rfl, rfl⟩)
  go_ret
  exact ⟨ret_int (by omega), rfl⟩

theorem putL_tail (a b c : List UInt8) (t s : Int) (z : Nat) (ht : t = a.length) (hs : s = b.length) (h1 : 1 ≤ s) (h8 : s ≤ 8) :
    putL (a ++ (b ++ c)) t s z = if z < 256 ^ b.length then a ++ (lowB b.length z ++ c) else [] := by
  subst ht hs
  have e1 : inG (a ++ (b ++ c)) a.length b.length = true := decide_eq_true ⟨by omega, h1, h8, by simp; omega⟩
  unfold putL inP
  rw [e1, Bool.true_and]
  unfold fitB
  rw [Int.toNat_natCast]
  by_cases hz : z < 256 ^ b.length
  · rw [decide_eq_true hz, if_pos rfl, if_pos hz]
    unfold curL
    rw [Int.toNat_natCast, Nat.sub_self, Nat.add_zero, List.take_left]
    congr 2
    rw [← List.append_assoc, List.drop_append_of_le_length (by simp), ← List.length_append, List.drop_length]
    rfl
  · rw [decide_eq_false hz, if_neg hz]
    rfl
theorem pseudo4 (s d : List UInt8) (p : UInt8) (z : Int) (hs : s.length = 4) (hd : d.length = 4) (hz : 0 ≤ z) : pseudoL s d p z = if z < 65536 then s ++ d ++ [0] ++ [p] ++ lowB 2 z.toNat else [] := by
  unfold pseudoL
  rw [if_pos ⟨hs, hd⟩]
  unfold sizedL
  rw [if_neg (by omega), show s ++ (d ++ [0, p, 0, 0]) = (s ++ d ++ [0] ++ [p]) ++ ([0, 0] ++ []) by simp, putL_tail _ _ _ _ _ _ (by simp; omega) (by simp) (by decide) (by decide), List.append_nil]
  by_cases h : z < 65536
  · rw [if_pos h, if_pos (by simp; omega)]; rfl
  · rw [if_neg h, if_neg (by simp; omega)]
theorem pseudo16 (s d : List UInt8) (p : UInt8) (z : Int) (hs : s.length = 16) (hd : d.length = 16) (hz : 0 ≤ z) : pseudoL s d p z = if z < 4294967296 then s ++ d ++ lowB 4 z.toNat ++ [0, 0, 0] ++ [p] else [] := by
  unfold pseudoL
  rw [if_neg (by omega), if_pos ⟨hs, hd⟩]
  unfold sizedL
  rw [if_neg (by omega), show s ++ (d ++ [0, 0, 0, 0, 0, 0, 0, p]) = (s ++ d) ++ ([0, 0, 0, 0] ++ ([0, 0, 0] ++ [p])) by simp, putL_tail _ _ _ _ _ _ (by simp; omega) (by simp) (by decide) (by decide)]
  by_cases h : z < 4294967296
  · rw [if_pos h, if_pos (by simp; omega)]; simp
  · rw [if_neg h, if_neg (by simp; omega)]
theorem pseudo_neg (s d : List UInt8) (p : UInt8) (z : Int) (hz : z < 0) : pseudoL s d p z = [] := by
  unfold pseudoL sizedL
  rw [if_pos hz, if_pos hz]
  split
  · rfl
  · split <;> rfl
theorem pseudo_none (s d : List UInt8) (p : UInt8) (z : Int) (h4 : ¬ (s.length = 4 ∧ d.length = 4)) (h16 : ¬ (s.length = 16 ∧ d.length = 16)) : pseudoL s d p z = [] := by
  unfold pseudoL
  rw [if_neg h4, if_neg h16]
end Go.Proofs.Ytchkbdgoghcgcaa
