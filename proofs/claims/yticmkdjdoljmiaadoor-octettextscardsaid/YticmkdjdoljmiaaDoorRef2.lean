/- The document's own answers for layer 1: Bytes, Put. -/
import Derived.Test.YticmkdjdoljmiaaDoorRef1
import Derived.Deep.QuietTactic
import Derived.BigQuiet
namespace Go.Proofs.YticmkdjdoljmiaaDoor
open Go Go.RowKit

theorem conv_one (W : World) (x : Int) (b : UInt8) (hx : x = (b.toNat : Int)) : (convert 22 9 (.slice (some ⟨W.heap.size, 0, none⟩) 1 1)).run Tryd.prog (W.alloc (.cells #[.int .u8 x] 5)) = .ok (.string ⟨[b].toArray⟩) (W.alloc (.cells #[.int .u8 x] 5)) := by
  subst hx
  exact (isB_built W [b] _ rfl (by simp)).conv Tryd.underlying22 Tryd.underlying5 Tryd.underlying9

set_option maxHeartbeats 1000000 in
theorem rbytes_any (m z : Nat) (w : World) (hm : (m : Int) < 18446744073709551616) (hz : z ≤ 8) :
    Calls Tryd.prog 29 #[.int .u64 m, .int .i64 z] w fun e w' => e = .returned (.string ⟨(lowB z m).toArray⟩) ∧ Below w.heap.size w w' := by
  go_enter Tryd.func29, Tryd.ntmps29
  go_wp2
  go_loopw [0, 5, 6] (fun n s i wr => ∃ k : Nat, k ≤ z ∧ i = .int .i64 k ∧ n = .int .u64 ((m / 256 ^ k : Nat) : Int) ∧ s = .string ⟨(lowB k m).toArray⟩ ∧ Below w.heap.size w wr) (fun _ _ i _ => z - (intOf i).toNat)
  case atStart => exact ⟨0, Nat.zero_le _, rfl, by simp, rfl, Below.refl _ _⟩
  case round =>
    obtain ⟨k, hk, rfl, rfl, rfl, hbw⟩ := hrel
    by_cases hlt : k < z
    · have hpow : m / 256 ^ (k + 1) = m / 256 ^ k / 256 := by rw [Nat.pow_succ, Nat.div_div_eq_div_mul]
      have HW := Lib.hid hpow
      have hlen := lowB_length k m
      have hlow : lowB (k + 1) m = [UInt8.ofNat (m / 256 ^ k % 256)] ++ lowB k m := rfl
      have HL := Lib.hid hlow
      have hml : m / 256 ^ k ≤ m := Nat.div_le_self _ _
      have hle : (lowB k m).length ≤ 8 := by omega
      clear hpow hlow hlen
      generalize m / 256 ^ k = y at *
      generalize lowB k m = q at *
      have hconv := conv_one wr ((y : Int) % 256) (UInt8.ofNat (y % 256)) (by rw [toNat_ofNat_mod]; omega)
      go_wp2
      go_roundw
      case rel => exact ⟨k + 1, by omega, by go_num, by rw [HW.out]; rfl, by rw [HL.out]; exact congrArg Value.string (ByteArray.mk_append_mk [UInt8.ofNat (y % 256)] q), hbw.alloc hbw.size _⟩
      case measure => simp [intOf]; omega
    · go_wp2
      go_ret
      have : k = z := by omega
      subst this
      exact ⟨rfl, hbw⟩

theorem inP_no {l : List UInt8} {t z : Int} {m : Nat} (h : inG l t z = false) : inP l t z m = false ∧ putL l t z m = [] := by
  have e : inP l t z m = false := by unfold inP; rw [h]; rfl
  exact ⟨e, by unfold putL; rw [e]; rfl⟩

set_option maxHeartbeats 1000000 in
theorem rput_any (s : ByteArray) (t z : Int) (m : Nat) (w : World) (hs : s.size ≤ 1000000) (hm : (m : Int) < 18446744073709551616) :
    Calls Tryd.prog 15 #[.string s, .int .i64 t, .int .i64 z, .int .u64 m] w fun e w' => e = .returned (.tuple #[.string ⟨(putL s.data.toList t z m).toArray⟩, .bool (inP s.data.toList t z m)]) ∧ Below w.heap.size w w' := by
  have HT := Lib.hid (there_any s t z w hs)
  have hI := inG_iff s.data.toList t z
  cases hin : inC s.data.toList t z
  · have e1 : inG s.data.toList t z = false := by rw [hI, hin]; rfl
    rw [(inP_no e1).1, (inP_no e1).2]
    rw [hin] at HT
    clear hI hin e1
    go_enter Tryd.func15, Tryd.ntmps15
    go_wp2_with (go_at_call 25; refine HT.out.mono ?_; rintro e w' ⟨rfl, rfl⟩)
    go_ret2
    exact ⟨rfl, Below.refl _ _⟩
  · rw [hin] at HT
    by_cases hz : 1 ≤ z ∧ z ≤ 8
    · have e1 : inG s.data.toList t z = true := by rw [hI, hin, decide_eq_true hz.1, decide_eq_true hz.2]; rfl
      obtain ⟨h0, h1, h2⟩ := of_decide_eq_true hin
      rw [str_size] at h2
      obtain ⟨t, rfl⟩ := Int.eq_ofNat_of_zero_le h0
      obtain ⟨z, rfl⟩ := Int.eq_ofNat_of_zero_le h1
      obtain ⟨hz1, hz8⟩ := hz
      have HB := Lib.hid (rbytes_any m z w hm (by omega))
      have hlen := lowB_length z m
      have hg1 : inG (lowB z m) 0 z = true := decide_eq_true ⟨by omega, hz1, hz8, by rw [hlen]; omega⟩
      have hg2 : getN (lowB z m) 0 z = m % 256 ^ z := by
        unfold getN
        rw [if_pos hg1, ← numOf_lowB]
        simp only [Int.toNat_natCast]
        rw [List.take_of_length_le (by simp [hlen])]
        rfl
      have hG : ∀ W, Calls Tryd.prog 11 #[.string ⟨(lowB z m).toArray⟩, .int .i64 0, .int .i64 z] W fun e w' => e = .returned (.tuple #[.int .u64 ((m % 256 ^ z : Nat) : Int), .bool true]) ∧ W = w' := fun W => by
        have := rget_l (lowB z m) 0 z W (by omega)
        rw [hg1, hg2] at this
        exact this
      have HG := Lib.hid hG
      clear hG hm
      cases hfit : fitB m z
      · have e2 : inP s.data.toList t z m = false := by unfold inP; rw [hfit, Bool.and_false]
        have e3 : putL s.data.toList t z m = [] := by unfold putL; rw [e2]; rfl
        rw [e2, e3]
        have hne : (((m % 256 ^ z : Nat) : Int) != (m : Int)) = true := by
          have h := of_decide_eq_false hfit
          rw [Int.toNat_natCast] at h
          have h3 : m % 256 ^ z < 256 ^ z := Nat.mod_lt _ (Nat.pow_pos (by decide))
          rw [bne_iff_ne]
          omega
        clear hI hin e1 e2 e3 hlen hg1 hg2 hfit
        generalize m % 256 ^ z = y at *
        go_enter Tryd.func15, Tryd.ntmps15
        go_wp2_with (first | (go_at_call 25; refine HT.out.mono ?_; rintro e w' ⟨rfl, rfl⟩) | (go_at_call 29; refine HB.out.mono ?_; rintro e w1 ⟨rfl, b1⟩) | (go_at_call 11; refine (HG.out _).mono ?_; rintro e w' ⟨rfl, rfl⟩))
        go_ret2
        exact ⟨rfl, b1⟩
      · have e2 : inP s.data.toList t z m = true := by unfold inP; rw [hfit, e1]; rfl
        have e3 : putL s.data.toList t z m = curL s.data.toList t z m z := by unfold putL; rw [if_pos e2]; rfl
        rw [e2, e3]
        have hmod : m % 256 ^ z = m := Nat.mod_eq_of_lt (by have := of_decide_eq_true hfit; rwa [Int.toNat_natCast] at this)
        rw [hmod] at HG
        have x1 : s.extract 0 t = ⟨(s.data.toList.take t).toArray⟩ := by rw [extract_mk]; simp
        have x2 : s.extract (t + z) s.size = ⟨(s.data.toList.drop (t + z)).toArray⟩ := by
          rw [extract_mk, List.take_of_length_le (by simp)]
        have HR : Hid ((s.extract 0 t ++ ⟨(lowB z m).toArray⟩) ++ s.extract (t + z) s.size = ⟨(curL s.data.toList t z m z).toArray⟩) := by
          show _ = _
          rw [x1, x2, ByteArray.mk_append_mk, ByteArray.mk_append_mk]
          unfold curL
          simp
        clear hI hin e1 e2 e3 hg1 hg2 hfit hmod x1 x2
        generalize lowB z m = q at *
        go_enter Tryd.func15, Tryd.ntmps15
        go_wp2_with (first | (go_at_call 25; refine HT.out.mono ?_; rintro e w' ⟨rfl, rfl⟩) | (go_at_call 29; refine HB.out.mono ?_; rintro e w1 ⟨rfl, b1⟩) | (go_at_call 11; refine (HG.out _).mono ?_; rintro e w' ⟨rfl, rfl⟩))
        go_quiet (fail)
        go_wp2
        go_ret2
        rw [← HR.out]
        exact ⟨rfl, below_drewN b1 nq⟩
    · have e1 : inG s.data.toList t z = false := by
        rw [hI, hin, Bool.true_and, Bool.and_eq_false_iff]
        rcases Int.lt_or_le z 1 with h | h
        · exact .inl (decide_eq_false (by omega))
        · exact .inr (decide_eq_false (by omega))
      rw [(inP_no e1).1, (inP_no e1).2]
      clear hI hin e1
      by_cases hz1 : z < 1
      · go_enter Tryd.func15, Tryd.ntmps15
        go_wp2_with (go_at_call 25; refine HT.out.mono ?_; rintro e w' ⟨rfl, rfl⟩)
        go_ret2
        exact ⟨rfl, Below.refl _ _⟩
      · have hz8 : 8 < z := by omega
        go_enter Tryd.func15, Tryd.ntmps15
        go_wp2_with (go_at_call 25; refine HT.out.mono ?_; rintro e w' ⟨rfl, rfl⟩)
        go_ret2
        exact ⟨rfl, Below.refl _ _⟩

theorem rput_l (l : List UInt8) (t z : Int) (m : Nat) (w : World) (hs : l.length ≤ 1000000) (hm : (m : Int) < 18446744073709551616) :
    Calls Tryd.prog 15 #[.string ⟨l.toArray⟩, .int .i64 t, .int .i64 z, .int .u64 m] w fun e w' => e = .returned (.tuple #[.string ⟨(putL l t z m).toArray⟩, .bool (inP l t z m)]) ∧ Below w.heap.size w w' := rput_any ⟨l.toArray⟩ t z m w hs hm
end Go.Proofs.YticmkdjdoljmiaaDoor
