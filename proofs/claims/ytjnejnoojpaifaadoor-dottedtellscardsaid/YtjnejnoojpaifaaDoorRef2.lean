/- The document's own answers for layer 1: Bytes, Put. -/
import Derived.Test.YtjnejnoojpaifaaDoorRef1
import Derived.Deep.QuietTactic
import Derived.BigQuiet
namespace Go.Proofs.YtjnejnoojpaifaaDoor
open Go Go.RowKit

theorem conv_one (W : World) (x : Int) (b : UInt8) (hx : x = (b.toNat : Int)) : (convert 33 9 (.slice (some ⟨W.heap.size, 0, none⟩) 1 1)).run Tryd.prog (W.alloc (.cells #[.int .u8 x] 5)) = .ok (.string ⟨[b].toArray⟩) (W.alloc (.cells #[.int .u8 x] 5)) := by
  subst hx
  exact (isB_built W [b] _ rfl (by simp)).conv Tryd.underlying33 Tryd.underlying5 Tryd.underlying9

theorem inP_no {l : List UInt8} {t z : Int} {m : Nat} (h : inG l t z = false) : inP l t z m = false ∧ putL l t z m = [] := by
  have e : inP l t z m = false := by unfold inP; rw [h]; rfl
  exact ⟨e, by unfold putL; rw [e]; rfl⟩

end Go.Proofs.YtjnejnoojpaifaaDoor
