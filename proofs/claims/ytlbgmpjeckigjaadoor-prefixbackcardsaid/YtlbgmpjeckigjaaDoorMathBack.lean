/- Plain facts: what is put is got; digits of 16 are read as what they show. -/
import Derived.Test.YtlbgmpjeckigjaaDoorMathDecs
import Derived.Test.YtlbgmpjeckigjaaDoorOct
namespace Go.Proofs.YtlbgmpjeckigjaaDoor
open Go

theorem hexDig_fin : ∀ i : Fin 16, isHex (hexDig i.val) = true ∧ hexV (hexDig i.val) = i.val := by decide
theorem hexDig_ok (n : Nat) (h : n < 16) : isHex (hexDig n) = true ∧ hexV (hexDig n) = n := hexDig_fin ⟨n, h⟩
theorem hexL_cons (b : UInt8) (l : List UInt8) : hexL (b :: l) = hexDig (b.toNat / 16) :: hexDig (b.toNat % 16) :: hexL l := by simp [hexL]
theorem all_hexL (l : List UInt8) : (hexL l).all isHex = true := by
  induction l with
  | nil => rfl
  | cons b l ih =>
    have hb := UInt8.toNat_lt b
    rw [hexL_cons, List.all_cons, List.all_cons, ih, (hexDig_ok _ (by omega)).1, (hexDig_ok _ (by omega)).1]
    rfl
theorem pairs_hexL (l : List UInt8) : pairs (hexL l) = l := by
  induction l with
  | nil => rfl
  | cons b l ih =>
    have hb := UInt8.toNat_lt b
    rw [hexL_cons, pairs, ih, (hexDig_ok (b.toNat / 16) (by omega)).2, (hexDig_ok (b.toNat % 16) (by omega)).2, show 16 * (b.toNat / 16) + b.toNat % 16 = b.toNat by omega]
    simp
theorem unhex_hex (l : List UInt8) : unhexB (hexL l) = true ∧ unhexL (hexL l) = l := by
  have h : unhexB (hexL l) = true := by
    unfold unhexB
    rw [all_hexL, hexL_length, decide_eq_true (by omega)]
    rfl
  exact ⟨h, by unfold unhexL; rw [if_pos h, pairs_hexL]⟩
theorem take_left_of {A B : List UInt8} {k : Nat} (h : A.length = k) : (A ++ B).take k = A := by subst h; exact List.take_left
theorem drop_left_of {A B : List UInt8} {k : Nat} (h : A.length = k) : (A ++ B).drop k = B := by subst h; exact List.drop_left
theorem curL_whole (l : List UInt8) (t s m : Nat) : curL l t s m s = l.take t ++ (lowB s m ++ l.drop (t + s)) := by
  unfold curL; rw [Nat.sub_self, Nat.add_zero]
theorem curL_take (l : List UInt8) (t s m : Nat) (h : t + s ≤ l.length) : (curL l t s m s).take t = l.take t := by
  rw [curL_whole, take_left_of (by simp; omega)]
theorem curL_drop (l : List UInt8) (t s m : Nat) (h : t + s ≤ l.length) : (curL l t s m s).drop (t + s) = l.drop (t + s) := by
  rw [curL_whole, ← List.append_assoc, drop_left_of (by simp [lowB_length]; omega)]
theorem curL_mid (l : List UInt8) (t s m : Nat) (h : t + s ≤ l.length) : ((curL l t s m s).drop t).take s = lowB s m := by
  rw [curL_whole, drop_left_of (by simp; omega), take_left_of (lowB_length s m)]
theorem get_put (l : List UInt8) (t s : Int) (m : Nat) (h0 : 0 ≤ t) (h1 : 1 ≤ s) (h8 : s ≤ 8) (h : t + s ≤ l.length) (hf : fitB m s = true) :
    inG (curL l t.toNat s.toNat m s.toNat) t s = true ∧ getN (curL l t.toNat s.toNat m s.toNat) t s = m := by
  have hl := curL_length l t.toNat s.toNat m s.toNat (by omega) (Nat.le_refl _)
  have hg : inG (curL l t.toNat s.toNat m s.toNat) t s = true := decide_eq_true ⟨h0, h1, h8, by rw [hl]; exact h⟩
  refine ⟨hg, ?_⟩
  unfold getN
  rw [if_pos hg, curL_mid _ _ _ _ (by omega), numOf_lowB]
  exact Nat.mod_eq_of_lt (of_decide_eq_true hf)
end Go.Proofs.YtlbgmpjeckigjaaDoor
