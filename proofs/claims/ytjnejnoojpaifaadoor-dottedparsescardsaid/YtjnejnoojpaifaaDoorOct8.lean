/- Unhex of package octet. -/
import Derived.Test.YtjnejnoojpaifaaDoorOct7
namespace Go.Proofs.YtjnejnoojpaifaaDoor
open Go Go.RowKit

theorem made_zeros (n : Nat) : (madeCells (Value.int IntKind.u8 0).cells (n * 1)).toList = byteVals (List.replicate n 0) := by
  apply List.ext_getElem
  · simp [byteVals, size_madeCells]
  · intro i h1 h2
    simp [madeCells, byteVals, Value.cells, Nat.mod_one]

theorem RowIs.iterAt {w : World} {g : Nat} {c : List UInt8} (h : RowIs w g c) {k : Nat} (hk : g ≠ k) (s : ByteArray) (p : Nat) : RowIs (w.iterAt k s p) g c := by
  unfold RowIs; rw [Lib.iterAt_other w k g s p hk]; exact h
theorem unhexL_no {l : List UInt8} (h : unhexB l = false) : unhexL l = [] := by unfold unhexL; rw [h]; rfl
theorem unhexB_odd {l : List UInt8} (h : ¬ l.length % 2 = 0) : unhexB l = false := by unfold unhexB; rw [decide_eq_false h]; rfl
theorem unhexB_sign {l : List UInt8} (k : Nat) (hk : k < l.length) (h : digB (byteAt l k) 16 = false) : unhexB l = false := by
  have : l.all isHex = false := by
    rw [Bool.eq_false_iff]
    intro ha
    have h2 := all_at l k hk ha
    unfold isHex at h2
    rw [byteAt] at h
    rw [h] at h2
    cases h2
  unfold unhexB; rw [this]; simp
theorem dig16_hi (r : Int) (h : 128 ≤ r) : digB r 16 = false := by
  refine (digit_none r 16 ?_).1
  unfold digW
  rw [if_neg (by omega), if_neg (by omega), if_neg (by omega)]
  omega

end Go.Proofs.YtjnejnoojpaifaaDoor
