/- Plain facts on decimal digits, of no program. -/
import Derived.Test.YteomoipbjkafgaaDoorMath
namespace Go.Proofs.YteomoipbjkafgaaDoor
open Go

def isDec (b : UInt8) : Bool := decide (48 ≤ b.toNat ∧ b.toNat ≤ 57)
def decStep (n : Int) (b : UInt8) : Int := n * 10 + ((b.toNat : Int) - 48)
def decV (l : List UInt8) : Int := l.foldl decStep 0
theorem decV_take_succ (l : List UInt8) (k : Nat) (h : k < l.length) : decV (l.take (k + 1)) = decV (l.take k) * 10 + (byteAt l k - 48) := by
  rw [take_succ_snoc l k h]; simp [decV, decStep, byteAt]
theorem dec_fold_ge : ∀ (l : List UInt8) (n : Int), l.all isDec = true → 0 ≤ n → n ≤ l.foldl decStep n
  | [], n, _, _ => by simp
  | b :: l, n, h, h0 => by
    simp only [List.all_cons, Bool.and_eq_true] at h
    have hb := of_decide_eq_true h.1
    have h1 : n ≤ decStep n b := by unfold decStep; omega
    have := dec_fold_ge l (decStep n b) h.2 (by omega)
    rw [List.foldl_cons]
    omega
theorem decV_nonneg (l : List UInt8) (h : l.all isDec = true) : 0 ≤ decV l := dec_fold_ge l 0 h (by omega)
theorem all_take {p : UInt8 → Bool} (l : List UInt8) (k : Nat) (h : l.all p = true) : (l.take k).all p = true := by
  rw [List.all_eq_true] at *
  intro x hx
  exact h x (List.mem_of_mem_take hx)
theorem all_drop {p : UInt8 → Bool} (l : List UInt8) (k : Nat) (h : l.all p = true) : (l.drop k).all p = true := by
  rw [List.all_eq_true] at *
  intro x hx
  exact h x (List.mem_of_mem_drop hx)
theorem decV_take_le (l : List UInt8) (k : Nat) (h : l.all isDec = true) : decV (l.take k) ≤ decV l := by
  have e : decV l = (l.drop k).foldl decStep (decV (l.take k)) := by
    unfold decV
    rw [← List.foldl_append, List.take_append_drop]
  rw [e]
  exact dec_fold_ge _ _ (all_drop l k h) (decV_nonneg _ (all_take l k h))
theorem isDec_iff (b : UInt8) : isDec b = true ↔ 48 ≤ (b.toNat : Int) ∧ (b.toNat : Int) ≤ 57 := by unfold isDec; rw [decide_eq_true_iff]; omega
theorem all_take_succ {p : UInt8 → Bool} (l : List UInt8) (k : Nat) (hk : k < l.length) (h : (l.take k).all p = true) (hp : p (l.getD k 0) = true) : (l.take (k + 1)).all p = true := by
  rw [take_succ_snoc l k hk, List.all_append, h]
  simp only [List.all_cons, List.all_nil, hp, Bool.and_self]
theorem all_at {p : UInt8 → Bool} (l : List UInt8) (k : Nat) (hk : k < l.length) (h : l.all p = true) : p (l.getD k 0) = true := by
  rw [List.all_eq_true] at h
  have : l.getD k 0 = l[k] := by simp [List.getD, hk]
  rw [this]
  exact h _ (List.getElem_mem hk)

/-- Is l the digits of a number from 0 to most? -/
def numB (l : List UInt8) (most : Int) : Bool := !l.isEmpty && !(decide (1 < l.length) && decide (byteAt l 0 = 48)) && l.all isDec && decide (decV l ≤ most)
def numV (l : List UInt8) (most : Int) : Int := if numB l most then decV l else 0
theorem numV_no {l : List UInt8} {most : Int} (h : numB l most = false) : numV l most = 0 := by unfold numV; rw [h]; rfl
theorem numV_yes {l : List UInt8} {most : Int} (h : numB l most = true) : numV l most = decV l := by unfold numV; rw [if_pos h]
theorem numB_empty (most : Int) : numB [] most = false := rfl
theorem numB_zero {l : List UInt8} {most : Int} (h1 : 1 < l.length) (h2 : byteAt l 0 = 48) : numB l most = false := by
  unfold numB; rw [decide_eq_true h1, decide_eq_true h2]; simp
theorem numB_sign {l : List UInt8} {most : Int} (k : Nat) (hk : k < l.length) (h : ¬ (48 ≤ byteAt l k ∧ byteAt l k ≤ 57)) : numB l most = false := by
  have : l.all isDec = false := by
    rw [Bool.eq_false_iff]
    intro ha
    have := all_at l k hk ha
    rw [isDec_iff] at this
    exact h this
  unfold numB; rw [this]; simp
theorem numB_great {l : List UInt8} {most : Int} (k : Nat) (h : most < decV (l.take k)) : numB l most = false := by
  cases ha : l.all isDec
  · unfold numB; rw [ha]; simp
  · have := decV_take_le l k ha
    unfold numB; rw [decide_eq_false (show ¬ decV l ≤ most by omega)]; simp
theorem numB_yes {l : List UInt8} {most : Int} (h0 : l ≠ []) (h1 : ¬ (1 < l.length ∧ byteAt l 0 = 48)) (h2 : l.all isDec = true) (h3 : decV l ≤ most) : numB l most = true := by
  have e1 : l.isEmpty = false := by cases l with | nil => exact absurd rfl h0 | cons _ _ => rfl
  have e2 : (decide (1 < l.length) && decide (byteAt l 0 = 48)) = false := by
    rw [Bool.eq_false_iff]; intro h; rw [Bool.and_eq_true, decide_eq_true_iff, decide_eq_true_iff] at h; exact h1 h
  unfold numB; rw [e1, e2, h2, decide_eq_true h3]; rfl
end Go.Proofs.YteomoipbjkafgaaDoor
