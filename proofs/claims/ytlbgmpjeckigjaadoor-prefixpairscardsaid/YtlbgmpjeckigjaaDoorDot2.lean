/- Multi and Plain of package dotted, and of the document. Proved: what each returns. -/
import Derived.Test.YtlbgmpjeckigjaaDoorDot1
namespace Go.Proofs.YtlbgmpjeckigjaaDoor
open Go Go.RowKit

def multiB (l : List UInt8) : Bool := (decide (224 ≤ byteAt l 0) && decide (byteAt l 0 ≤ 239)) || decide (l = [255, 255, 255, 255])
def plainB (l : List UInt8) : Bool := byteAt l 0 != 0 && byteAt l 0 != 127 && decide (byteAt l 0 ≤ 223)
theorem multi_plain (l : List UInt8) : (multiB l && plainB l) = false := by
  unfold multiB plainB
  by_cases h : byteAt l 0 ≤ 223
  · have h1 : ¬ 224 ≤ byteAt l 0 := by omega
    have h2 : ¬ l = [255, 255, 255, 255] := fun e => by
      subst e
      exact absurd h (by decide)
    simp [h1, h2]
  · simp [h]
end Go.Proofs.YtlbgmpjeckigjaaDoor
