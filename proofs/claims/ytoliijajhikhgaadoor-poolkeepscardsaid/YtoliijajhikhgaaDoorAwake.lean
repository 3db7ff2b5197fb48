/- The live examples of layer 1's statements hold. -/
import Derived.Test.YtoliijajhikhgaaDoorOct
namespace Go.Proofs.YtoliijajhikhgaaDoor
open Go Go.RowKit

theorem isB_built (w : World) (l : List UInt8) (cs : Array Value) (hcs : cs = (byteVals l).toArray) (hm : l.length ≤ 1000) :
    IsB (w.alloc (.cells cs 5)) (.slice (some ⟨w.heap.size, 0, none⟩) l.length l.length) l := by
  subst hcs
  exact IsB.of_row (heap_alloc_new w _) (by unfold maxLen; omega)
theorem built123 : (#[Value.int .u8 1, .int .u8 2, .int .u8 3] : Array Value) = (byteVals [1, 2, 3]).toArray := rfl
theorem below_up {B : Nat} {w w1 w2 : World} (h : Below B w w1) (h2 : Below w1.heap.size w1 w2) (hB : B ≤ w1.heap.size) : Below B w w2 := h.trans (h2.mono hB)

end Go.Proofs.YtoliijajhikhgaaDoor
