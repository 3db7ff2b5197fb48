/- The document's own answers for layer 1: there, Cut, Get. -/
import Derived.Test.YteomoipbjkafgaaDoorAwake
import Derived.Lib.Strings
namespace Go.Proofs.YteomoipbjkafgaaDoor
open Go Go.RowKit

theorem extract_mk (s : ByteArray) (a b : Nat) : s.extract a b = ⟨((s.data.toList.drop a).take (b - a)).toArray⟩ := by
  have h := Lib.extract_data s a b
  cases hx : s.extract a b with
  | mk d =>
    rw [hx] at h
    congr 1
    rw [← h]

theorem inG_iff (l : List UInt8) (t z : Int) : inG l t z = (inC l t z && (decide (1 ≤ z) && decide (z ≤ 8))) := by
  unfold inG inC
  rw [Bool.eq_iff_iff]
  simp only [Bool.and_eq_true, decide_eq_true_iff]
  omega

end Go.Proofs.YteomoipbjkafgaaDoor
