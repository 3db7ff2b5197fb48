/- Unpack of package entry. Proved: what it returns, for every row of bytes. -/
import Derived.Test.YtljpndkgfjndbaaEnt1
namespace Go.Proofs.Ytljpndkgfjndbaa
open Go Go.RowKit

/-- The entry that bytes begin with. -/
def unpE (l : List UInt8) : Ent := if 4 ≤ l.length then entOf (numOf (l.take 4)) else entZero
def unpC (l : List UInt8) : Int := if 4 ≤ l.length then 0 else 10
theorem get4 (l : List UInt8) (h : 4 ≤ l.length) : inG l 0 4 = true ∧ getN l 0 4 = numOf (l.take 4) := by
  have e1 : inG l 0 4 = true := decide_eq_true ⟨by omega, by omega, by omega, by omega⟩
  exact ⟨e1, by unfold getN; rw [e1]; rfl⟩
theorem get4_no (l : List UInt8) (h : ¬ 4 ≤ l.length) : inG l 0 4 = false ∧ getN l 0 4 = 0 := by
  have e1 : inG l 0 4 = false := decide_eq_false (by omega)
  exact ⟨e1, by unfold getN; rw [e1]; rfl⟩
theorem num4_lt (l : List UInt8) : numOf (l.take 4) < 4294967296 := by
  have := numOf_take_lt l 4 4 (Nat.le_refl _)
  omega
theorem ent_and7 (m : Nat) (h : m < 4294967296) : bits .and .u64 ((m : Int) / 512) 7 % 256 = ((m / 512 % 8 : Nat) : Int) := by
  rw [u64_and _ _ (by omega) (by omega) (by omega) (by omega)]
  have e1 : ((m : Int) / 512).toNat = m / 512 := by omega
  have e2 : (7 : Int).toNat = 2 ^ 3 - 1 := rfl
  rw [e1, e2, Nat.and_two_pow_sub_one_eq_mod]
  omega
theorem ent_and1 (m : Nat) (h : m < 4294967296) : (bits .and .u64 ((m : Int) / 256) 1 == 1) = decide (m / 256 % 2 = 1) := by
  rw [u64_and _ _ (by omega) (by omega) (by omega) (by omega)]
  have e1 : ((m : Int) / 256).toNat = m / 256 := by omega
  have e2 : (1 : Int).toNat = 2 ^ 1 - 1 := rfl
  rw [e1, e2, Nat.and_two_pow_sub_one_eq_mod, Bool.eq_iff_iff, beq_iff_eq, decide_eq_true_iff]
  omega

set_option maxHeartbeats 1000000 in
theorem unpack_yes (a : Option Addr) (n cap : Nat) (l : List UInt8) (w : World) (hv : IsB w (.slice a n cap) l) (h4 : 4 ≤ l.length) :
    Calls Try.prog 11 #[.slice a n cap] w fun x w' => x = .returned (.tuple #[(entOf (numOf (l.take 4))).val, .int .i64 0]) ∧ Below w.heap.size w w' := by
  have HG := Lib.hid (fun W (hb : Below w.heap.size w W) => get_any a n cap l 0 4 W (hv.below hb))
  rw [(get4 l h4).1, (get4 l h4).2] at HG
  have hm := num4_lt l
  generalize numOf (l.take 4) = m at *
  unfold Ent.val entOf
  clear hv h4
  go_enter Try.func11, Try.ntmps11
  go_wp2_with (go_at_call 22; refine (HG.out _ ((Below.refl _ _).alloc (Nat.le_refl _) _)).mono ?_; rintro e w2 ⟨rfl, rfl⟩)
  refine bodyPost_ret (v := .tuple #[.agg #[.int .i64 ((m : Int) / 4096), .int .u8 (bits .and .u64 ((m : Int) / 512) 7 % 256), .bool (bits .and .u64 ((m : Int) / 256) 1 == 1), .int .u8 ((m : Int) % 256)], .int .i64 0]) (by simp [results, Try.results11, go_sem]) rfl ⟨?_, (Below.refl _ _).alloc (Nat.le_refl _) _⟩
  rw [ent_and7 m hm, ent_and1 m hm]
  rfl

set_option maxHeartbeats 1000000 in
theorem unpack_no (a : Option Addr) (n cap : Nat) (l : List UInt8) (w : World) (hv : IsB w (.slice a n cap) l) (h4 : ¬ 4 ≤ l.length) :
    Calls Try.prog 11 #[.slice a n cap] w fun x w' => x = .returned (.tuple #[entZero.val, .int .i64 10]) ∧ Below w.heap.size w w' := by
  have HG := Lib.hid (fun W (hb : Below w.heap.size w W) => get_any a n cap l 0 4 W (hv.below hb))
  rw [(get4_no l h4).1, (get4_no l h4).2] at HG
  unfold Ent.val entZero
  clear hv h4
  go_enter Try.func11, Try.ntmps11
  go_wp2_with (go_at_call 22; refine (HG.out _ ((Below.refl _ _).alloc (Nat.le_refl _) _)).mono ?_; rintro e w2 ⟨rfl, rfl⟩)
  refine bodyPost_ret (v := .tuple #[.agg #[.int .i64 0, .int .u8 0, .bool false, .int .u8 0], .int .i64 10]) (by simp [results, Try.results11, go_sem]) rfl ⟨rfl, (Below.refl _ _).alloc (Nat.le_refl _) _⟩

theorem unpack_any (a : Option Addr) (n cap : Nat) (l : List UInt8) (w : World) (hv : IsB w (.slice a n cap) l) :
    Calls Try.prog 11 #[.slice a n cap] w fun x w' => x = .returned (.tuple #[(unpE l).val, .int .i64 (unpC l)]) ∧ Below w.heap.size w w' := by
  unfold unpE unpC
  by_cases h : 4 ≤ l.length
  · rw [if_pos h, if_pos h]; exact unpack_yes a n cap l w hv h
  · rw [if_neg h, if_neg h]; exact unpack_no a n cap l w hv h
end Go.Proofs.Ytljpndkgfjndbaa
