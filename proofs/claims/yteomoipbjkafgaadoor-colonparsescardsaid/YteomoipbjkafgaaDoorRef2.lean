/- The document's own answers for layer 1: Bytes, Put. -/
import Derived.Test.YteomoipbjkafgaaDoorRef1
import Derived.Deep.QuietTactic
import Derived.BigQuiet
namespace Go.Proofs.YteomoipbjkafgaaDoor
open Go Go.RowKit

theorem conv_one (W : World) (x : Int) (b : UInt8) (hx : x = (b.toNat : Int)) : (convert 35 9 (.slice (some ⟨W.heap.size, 0, none⟩) 1 1)).run Tryd.prog (W.alloc (.cells #[.int .u8 x] 5)) = .ok (.string ⟨[b].toArray⟩) (W.alloc (.cells #[.int .u8 x] 5)) := by
  subst hx
  exact (isB_built W [b] _ rfl (by simp)).conv Tryd.underlying35 Tryd.underlying5 Tryd.underlying9

set_option maxHeartbeats 1000000 in
theorem rbytes_any (m z : Nat) (w : World) (hm : (m : Int) < 18446744073709551616) (hz : z ≤ 8) :
    Calls Tryd.prog 31 #[.int .u64 m, .int .i64 z] w fun e w' => e = .returned (.string ⟨(lowB z m).toArray⟩) ∧ Below w.heap.size w w' := by
  go_enter Tryd.func31, Tryd.ntmps31
  go_wp2
  go_loopw [0, 5, 6] (fun n s i wr => ∃ k : Nat, k ≤ z ∧ i = .int .i64 k ∧ n = .int .u64 ((m / 256 ^ k : Nat) : Int) ∧ s = .string ⟨(lowB k m).toArray⟩ ∧ Below w.heap.size w wr) (fun _ _ i _ => z - (intOf i).toNat)
  case atStart => exact ⟨0, Nat.zero_le _, rfl, by simp, rfl, Below.refl _ _⟩
  case round =>
    obtain ⟨k, hk, rfl, rfl, rfl, hbw⟩ := hrel
    by_cases hlt : k < z
    · have hpow : m / 256 ^ (k + 1) = m / 256 ^ k / 256 := by rw [Nat.pow_succ, Nat.div_div_eq_div_mul]
      have HW := Lib.hid hpow
      have hlen := lowB_length k m
      have hlow : lowB (k + 1) m = [UInt8.ofNat (m / 256 ^ k % 256)] ++ lowB k m := rfl
      have HL := Lib.hid hlow
      have hml : m / 256 ^ k ≤ m := Nat.div_le_self _ _
      have hle : (lowB k m).length ≤ 8 := by omega
      clear hpow hlow hlen
      generalize m / 256 ^ k = y at *
      generalize lowB k m = q at *
      have hconv := conv_one wr ((y : Int) % 256) (UInt8.ofNat (y % 256)) (by rw [toNat_ofNat_mod]; omega)
      go_wp2
      go_roundw
      case rel => exact ⟨k + 1, by omega, by go_num, by rw [HW.out]; rfl, by rw [HL.out]; exact congrArg Value.string (ByteArray.mk_append_mk [UInt8.ofNat (y % 256)] q), hbw.alloc hbw.size _⟩
      case measure => simp [intOf]; omega
    · go_wp2
      go_ret
      have : k = z := by omega
      subst this
      exact ⟨rfl, hbw⟩

theorem inP_no {l : List UInt8} {t z : Int} {m : Nat} (h : inG l t z = false) : inP l t z m = false ∧ putL l t z m = [] := by
  have e : inP l t z m = false := by unfold inP; rw [h]; rfl
  exact ⟨e, by unfold putL; rw [e]; rfl⟩

end Go.Proofs.YteomoipbjkafgaaDoor
