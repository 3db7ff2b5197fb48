/- Number and Digits of package octet. -/
import Derived.Test.YtemocbcibnccpaaOct5
import Derived.Test.YtemocbcibnccpaaMathDec
namespace Go.Proofs.Ytemocbcibnccpaa
open Go Go.RowKit

theorem str_at (s : ByteArray) (k : Nat) (h : k < s.size) : (s[k].toNat : Int) = byteAt s.data.toList k := by
  have e : s[k] = s.data.toList.getD k 0 := by
    have hk : k < s.data.toList.length := by simpa using h
    rw [List.getD, List.getElem?_eq_getElem hk]
    rfl
  rw [byteAt, e]
theorem dig10_yes (r : Int) (h0 : 48 ≤ r) (h1 : r ≤ 57) : digB r 10 = true ∧ digV r 10 = r - 48 :=
  digit_fin r 10 (r - 48) (by unfold digW; rw [if_pos ⟨h0, h1⟩]) (by omega)
theorem dig10_no (r : Int) (h : ¬ (48 ≤ r ∧ r ≤ 57)) : digB r 10 = false ∧ digV r 10 = 0 := by
  refine digit_none r 10 ?_
  unfold digW
  rw [if_neg h]
  split
  · omega
  · split <;> omega
theorem decode_not (s : ByteArray) (k : Nat) (h : k < s.size) (p : Int → Prop) (hp : ∀ r, 128 ≤ r → p r) (hb : p (byteAt s.data.toList k)) : p ((Utf8.decode s k).1 : Nat) := by
  by_cases ha : (s[k]'h).toNat < 128
  · rw [decode_ascii s k h ha, str_at]; exact hb
  · exact hp _ (by have := (decode_high s k h (by omega)).1; omega)
theorem tdiv_neg10 (x : Int) (h : x < 0) : x.tdiv 10 = -((-x) / 10) := by
  have e : x.tdiv 10 = -((-x).tdiv 10) := by rw [Int.neg_tdiv]; omega
  rw [e, Int.tdiv_eq_ediv_of_nonneg (by omega)]
theorem str_size (s : ByteArray) : s.data.toList.length = s.size := rfl

end Go.Proofs.Ytemocbcibnccpaa
