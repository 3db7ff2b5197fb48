/- The live examples of layer 1's statements hold. -/
import Derived.Test.YtemocbcibnccpaaOct8
namespace Go.Proofs.Ytemocbcibnccpaa
open Go Go.RowKit

theorem isB_built (w : World) (l : List UInt8) (cs : Array Value) (hcs : cs = (byteVals l).toArray) (hm : l.length ≤ 1000) :
    IsB (w.alloc (.cells cs 5)) (.slice (some ⟨w.heap.size, 0, none⟩) l.length l.length) l := by
  subst hcs
  exact IsB.of_row (heap_alloc_new w _) (by unfold maxLen; omega)
theorem built123 : (#[Value.int .u8 1, .int .u8 2, .int .u8 3] : Array Value) = (byteVals [1, 2, 3]).toArray := rfl
theorem below_up {B : Nat} {w w1 w2 : World} (h : Below B w w1) (h2 : Below w1.heap.size w1 w2) (hB : B ≤ w1.heap.size) : Below B w w2 := h.trans (h2.mono hB)

theorem ex_get (w : World) (a : Option Addr) (n cap : Nat) (h : IsB w (.slice a n cap) [1, 2, 3]) :
    Calls Try.prog 25 #[.slice a n cap, .int .i64 1, .int .i64 2] w fun e w' => e = .returned (.tuple #[.int .u64 515, .bool true]) ∧ w = w' := by
  have := get_any a n cap [1, 2, 3] 1 2 w h
  rw [show getN [1, 2, 3] 1 2 = 515 by decide, show inG [1, 2, 3] 1 2 = true by decide] at this
  exact this
theorem ex_put (w : World) (a : Option Addr) (n cap : Nat) (h : IsB w (.slice a n cap) [1, 2, 3]) :
    Calls Try.prog 20 #[.slice a n cap, .int .i64 0, .int .i64 2, .int .u64 772] w fun e w' => (∃ a' n' cap', e = .returned (.tuple #[.slice a' n' cap', .bool true]) ∧ IsB w' (.slice a' n' cap') [3, 4, 3]) ∧ Below w.heap.size w w' := by
  have := put_any a n cap [1, 2, 3] 0 2 772 w h (by decide) (by decide)
  rw [show putL [1, 2, 3] 0 2 772 = [3, 4, 3] by decide, show inP [1, 2, 3] 0 2 772 = true by decide] at this
  exact this
theorem ex_cut (w : World) (a : Option Addr) (n cap : Nat) (h : IsB w (.slice a n cap) [1, 2, 3]) :
    Calls Try.prog 19 #[.slice a n cap, .int .i64 2, .int .i64 1] w fun e w' => (∃ a' n' cap', e = .returned (.tuple #[.slice a' n' cap', .bool true]) ∧ IsB w' (.slice a' n' cap') [3]) ∧ Below w.heap.size w w' := by
  have := cut_any a n cap [1, 2, 3] 2 1 w h (by decide)
  rw [show cutL [1, 2, 3] 2 1 = [3] by decide, show inC [1, 2, 3] 2 1 = true by decide] at this
  exact this
end Go.Proofs.Ytemocbcibnccpaa
