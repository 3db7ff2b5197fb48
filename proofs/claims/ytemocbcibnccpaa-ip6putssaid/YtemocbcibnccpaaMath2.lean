/- Plain facts on sums of words and on folding them, of no program. -/
import Derived.Test.YtemocbcibnccpaaMath
namespace Go.Proofs.Ytemocbcibnccpaa
open Go

/-- The sum of the words of bytes; lo: the next byte is the lower one of its word. -/
def wsum : Bool → List UInt8 → Nat
  | _, [] => 0
  | lo, b :: l => (if lo then b.toNat else b.toNat * 256) + wsum (!lo) l
/-- Whether the next byte is the lower one behind these. -/
def lows : Bool → List UInt8 → Bool
  | lo, [] => lo
  | lo, _ :: l => lows (!lo) l
theorem wsum_append : ∀ (a b : List UInt8) (lo : Bool), wsum lo (a ++ b) = wsum lo a + wsum (lows lo a) b
  | [], b, lo => by simp [wsum, lows]
  | x :: a, b, lo => by
    show _ + wsum (!lo) (a ++ b) = _ + wsum (!lo) a + wsum (lows (!lo) a) b
    rw [wsum_append a b (!lo)]
    omega
theorem lows_append : ∀ (a b : List UInt8) (lo : Bool), lows lo (a ++ b) = lows (lows lo a) b
  | [], _, _ => rfl
  | _ :: a, b, lo => lows_append a b (!lo)
theorem lows_even : ∀ (a : List UInt8) (lo : Bool), lows lo a = if a.length % 2 = 0 then lo else !lo
  | [], lo => rfl
  | [x], lo => by simp [lows]
  | x :: y :: a, lo => by
    show lows (!!lo) a = _
    rw [lows_even a (!!lo), Bool.not_not]
    have : (x :: y :: a).length % 2 = a.length % 2 := by simp only [List.length_cons]; omega
    rw [this]
theorem wsum_le : ∀ (l : List UInt8) (lo : Bool), wsum lo l ≤ 65280 * l.length
  | [], _ => by simp [wsum]
  | x :: l, lo => by
    have h := wsum_le l (!lo)
    have hx := UInt8.toNat_lt x
    show (if lo then x.toNat else x.toNat * 256) + wsum (!lo) l ≤ _
    rw [List.length_cons]
    split <;> omega
theorem wsum_take_succ (l : List UInt8) (k : Nat) (lo : Bool) (h : k < l.length) :
    wsum lo (l.take (k + 1)) = wsum lo (l.take k) + (if lows lo (l.take k) then (byteAt l k).toNat else (byteAt l k).toNat * 256) := by
  rw [take_succ_snoc l k h, wsum_append]
  show _ + ((if _ then _ else _) + 0) = _
  simp [byteAt]
theorem lows_take_succ (l : List UInt8) (k : Nat) (lo : Bool) (h : k < l.length) : lows lo (l.take (k + 1)) = !lows lo (l.take k) := by
  rw [take_succ_snoc l k h, lows_append]
  rfl

/-- A number, folded. -/
def fold16 (n : Nat) : Nat := if n = 0 then 0 else (n - 1) % 65535 + 1
theorem fold16_le (n : Nat) : fold16 n ≤ 65535 := by unfold fold16; split <;> omega
theorem fold16_small (n : Nat) (h : n ≤ 65535) : fold16 n = n := by unfold fold16; split <;> omega
theorem fold16_step (n : Nat) (h : 65535 < n) : fold16 (n % 65536 + n / 65536) = fold16 n := by
  unfold fold16
  have h1 : ¬ n = 0 := by omega
  have h2 : ¬ (n % 65536 + n / 65536 = 0) := by omega
  rw [if_neg h1, if_neg h2]
  omega
theorem fold_less (n : Nat) (h : 65535 < n) : n % 65536 + n / 65536 < n := by omega
theorem fold16_eq (a b : Nat) (h : a % 65535 = b % 65535) (hz : a = 0 ↔ b = 0) : fold16 a = fold16 b := by
  unfold fold16
  by_cases h0 : a = 0
  · rw [if_pos h0, if_pos (hz.1 h0)]
  · rw [if_neg h0, if_neg (fun h => h0 (hz.2 h))]
    omega
theorem fold16_mod (a : Nat) : fold16 a % 65535 = a % 65535 := by unfold fold16; split <;> omega
theorem fold16_zero (a : Nat) : fold16 a = 0 ↔ a = 0 := by unfold fold16; split <;> omega
theorem fold16_max (a : Nat) : fold16 a = 65535 ↔ a ≠ 0 ∧ a % 65535 = 0 := by unfold fold16; split <;> omega

/-- A checksum where two bytes were others. -/
def turnN (c o n : Nat) : Nat := 65535 - fold16 (65535 - c + (65535 - o) + n)

/-- All rows in one, up to row k. -/
theorem flat_take_succ (ls : List (List UInt8)) (k : Nat) (h : k < ls.length) : (ls.take (k + 1)).flatten = (ls.take k).flatten ++ ls[k] := by
  rw [List.take_succ_eq_append_getElem h, List.flatten_append]; simp only [List.flatten_cons, List.flatten_nil, List.append_nil]
theorem flat_len_le (ls : List (List UInt8)) (k : Nat) : ((ls.take k).flatten).length ≤ ls.flatten.length := by
  conv => rhs; rw [← List.take_append_drop k ls, List.flatten_append, List.length_append]
  omega
theorem flat_len_get (ls : List (List UInt8)) (k : Nat) (h : k < ls.length) : ((ls.take k).flatten).length + (ls[k]).length ≤ ls.flatten.length := by
  have := flat_len_le ls (k + 1)
  rw [flat_take_succ ls k h, List.length_append] at this
  exact this
end Go.Proofs.Ytemocbcibnccpaa
