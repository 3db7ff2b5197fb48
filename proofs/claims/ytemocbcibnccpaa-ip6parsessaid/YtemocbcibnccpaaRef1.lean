/- The document's own answers for layer 1: there, Cut, Get. -/
import Derived.Test.YtemocbcibnccpaaAwake
import Derived.Lib.Strings
namespace Go.Proofs.Ytemocbcibnccpaa
open Go Go.RowKit

theorem extract_mk (s : ByteArray) (a b : Nat) : s.extract a b = ⟨((s.data.toList.drop a).take (b - a)).toArray⟩ := by
  have h := Lib.extract_data s a b
  cases hx : s.extract a b with
  | mk d =>
    rw [hx] at h
    congr 1
    rw [← h]

set_option maxHeartbeats 400000 in
theorem there_any (s : ByteArray) (t z : Int) (w : World) (hs : s.size ≤ 1000000) :
    Calls Try.prog 33 #[.string s, .int .i64 t, .int .i64 z] w fun e w' => e = .returned (.bool (inC s.data.toList t z)) ∧ w = w' := by
  have hsz := str_size s
  by_cases h0 : 0 ≤ t
  · by_cases h1 : 0 ≤ z
    · by_cases h2 : t ≤ s.size
      · by_cases h3 : z ≤ s.size - t
        · have e1 : inC s.data.toList t z = true := decide_eq_true ⟨h0, h1, by rw [hsz]; omega⟩
          rw [e1]
          clear e1 hsz
          go_enter Try.func33, Try.ntmps33
          go_wp2
          go_ret
          exact ⟨by simp, rfl⟩
        · have e1 : inC s.data.toList t z = false := decide_eq_false (by rw [hsz]; omega)
          rw [e1]
          clear e1 hsz
          go_enter Try.func33, Try.ntmps33
          go_wp2
          go_ret
          exact ⟨by simp, rfl⟩
      · have e1 : inC s.data.toList t z = false := decide_eq_false (by rw [hsz]; omega)
        rw [e1]
        clear e1 hsz
        go_enter Try.func33, Try.ntmps33
        go_wp2
        all_goals
          go_ret
          exact ⟨by simp, rfl⟩
    · have e1 : inC s.data.toList t z = false := decide_eq_false (by omega)
      rw [e1]
      clear e1 hsz
      go_enter Try.func33, Try.ntmps33
      go_wp2
      all_goals
        go_ret
        exact ⟨by simp, rfl⟩
  · have e1 : inC s.data.toList t z = false := decide_eq_false (by omega)
    rw [e1]
    clear e1 hsz
    go_enter Try.func33, Try.ntmps33
    go_wp2
    all_goals
      go_ret
      exact ⟨by simp, rfl⟩

theorem inG_iff (l : List UInt8) (t z : Int) : inG l t z = (inC l t z && (decide (1 ≤ z) && decide (z ≤ 8))) := by
  unfold inG inC
  rw [Bool.eq_iff_iff]
  simp only [Bool.and_eq_true, decide_eq_true_iff]
  omega

set_option maxHeartbeats 1000000 in
theorem rget_any (s : ByteArray) (t z : Int) (w : World) (hs : s.size ≤ 1000000) :
    Calls Try.prog 27 #[.string s, .int .i64 t, .int .i64 z] w fun e w' => e = .returned (.tuple #[.int .u64 (getN s.data.toList t z : Nat), .bool (inG s.data.toList t z)]) ∧ w = w' := by
  have HT := Lib.hid (there_any s t z w hs)
  have hI := inG_iff s.data.toList t z
  cases hin : inC s.data.toList t z
  · have e1 : inG s.data.toList t z = false := by rw [hI, hin]; rfl
    have e2 : getN s.data.toList t z = 0 := by unfold getN; rw [e1]; rfl
    rw [e1, e2]
    rw [hin] at HT
    clear hI hin e1 e2
    go_enter Try.func27, Try.ntmps27
    go_wp2_with (go_at_call 33; refine HT.out.mono ?_; rintro e w' ⟨rfl, rfl⟩)
    go_ret2
    exact ⟨rfl, rfl⟩
  · rw [hin] at HT
    by_cases hz : 1 ≤ z ∧ z ≤ 8
    · have e1 : inG s.data.toList t z = true := by rw [hI, hin, decide_eq_true hz.1, decide_eq_true hz.2]; rfl
      have e2 : getN s.data.toList t z = numOf ((s.data.toList.drop t.toNat).take z.toNat) := by unfold getN; rw [if_pos e1]
      obtain ⟨h0, h1, h2⟩ := of_decide_eq_true hin
      rw [str_size] at h2
      obtain ⟨t, rfl⟩ := Int.eq_ofNat_of_zero_le h0
      obtain ⟨z, rfl⟩ := Int.eq_ofNat_of_zero_le h1
      obtain ⟨hz1, hz8⟩ := hz
      rw [e1, e2]
      have hat : ∀ k, k < z → ∃ h : t + k < s.size, (s[t + k].toNat : Int) = byteAt ((s.data.toList.drop t).take z) k := by
        intro k hk
        refine ⟨by omega, ?_⟩
        rw [byteAt_take _ _ _ hk, byteAt_drop]
        exact str_at s (t + k) (by omega)
      have hql : ((s.data.toList.drop t).take z).length = z := by simp; have := str_size s; simp at this; omega
      simp only [Int.toNat_natCast]
      generalize (s.data.toList.drop t).take z = q at *
      have HA := Lib.hid hat
      have HQ := Lib.hid hql
      clear hI hin e1 e2 hat hql
      go_enter Try.func27, Try.ntmps27
      go_wp2_with (go_at_call 33; refine HT.out.mono ?_; rintro e w' ⟨rfl, rfl⟩)
      go_loop [9, 10] (fun n i => ∃ k : Nat, k ≤ z ∧ i = .int .i64 k ∧ n = .int .u64 (numOf (q.take k) : Nat)) (fun _ i => z - (intOf i).toNat)
      case atStart => exact ⟨0, Nat.zero_le _, rfl, rfl⟩
      case round =>
        obtain ⟨k, hk, rfl, rfl⟩ := hrel
        by_cases hlt : k < z
        · obtain ⟨hb, hbv⟩ := HA.out k hlt
          have hsucc := numOf_take_succ q k (by rw [HQ.out]; exact hlt)
          have hbd := numOf_take_lt q k 7 (by omega)
          have b0 := byteAt_nonneg q k
          have b1 := byteAt_le q k
          have HS := Lib.hid hsucc
          have e7 : 256 ^ 7 = 72057594037927936 := by decide
          rw [e7] at hbd
          clear hsucc e7
          generalize numOf (q.take k) = m at *
          go_wp2
          go_round
          case rel => exact ⟨k + 1, by omega, by go_num, by rw [HS.out]; exact congrArg (Value.int .u64) (by omega)⟩
          case measure => simp [intOf]; omega
        · go_wp2
          go_ret2
          exact ⟨by rw [List.take_of_length_le (by rw [HQ.out]; omega)]; rfl, rfl⟩
    · have e1 : inG s.data.toList t z = false := by
        rw [hI, hin, Bool.true_and, Bool.and_eq_false_iff]
        rcases Int.lt_or_le z 1 with h | h
        · exact .inl (decide_eq_false (by omega))
        · exact .inr (decide_eq_false (by omega))
      have e2 : getN s.data.toList t z = 0 := by unfold getN; rw [e1]; rfl
      rw [e1, e2]
      clear hI hin e1 e2
      by_cases hz1 : z < 1
      · go_enter Try.func27, Try.ntmps27
        go_wp2_with (go_at_call 33; refine HT.out.mono ?_; rintro e w' ⟨rfl, rfl⟩)
        go_ret2
        exact ⟨rfl, rfl⟩
      · have hz8 : 8 < z := by omega
        go_enter Try.func27, Try.ntmps27
        go_wp2_with (go_at_call 33; refine HT.out.mono ?_; rintro e w' ⟨rfl, rfl⟩)
        go_ret2
        exact ⟨rfl, rfl⟩

theorem rget_l (l : List UInt8) (t z : Int) (w : World) (hs : l.length ≤ 1000000) :
    Calls Try.prog 27 #[.string ⟨l.toArray⟩, .int .i64 t, .int .i64 z] w fun e w' => e = .returned (.tuple #[.int .u64 (getN l t z : Nat), .bool (inG l t z)]) ∧ w = w' := rget_any ⟨l.toArray⟩ t z w hs
end Go.Proofs.Ytemocbcibnccpaa
