/- '[]byte(s)', of a text and of a constant. -/
import Derived.Test.YtemocbcibnccpaaAwake
import Derived.Laws.IdiomStrings
import Derived.Lib.SlBytesConst
namespace Go.Proofs.Ytemocbcibnccpaa
open Go Go.RowKit

/-- '[]byte(s)'. -/
theorem conv_bytes (w : World) (l : List UInt8) (hm : l.length ≤ 1000000) : ∃ a cap w', (convert 9 22 (.string ⟨l.toArray⟩)).run Try.prog w = .ok (.slice a l.length cap) w' ∧ IsB w' (.slice a l.length cap) l ∧ Below w.heap.size w w' := by
  have h := run_bytes_of_string (P := Try.prog) w 9 22 5 ⟨l.toArray⟩ Try.underlying9 Try.underlying22 Try.underlying5
  have hs : (⟨l.toArray⟩ : ByteArray).size = l.length := by simp [ByteArray.size]
  rw [hs] at h
  have hG := grownCap_ge w l.length 0 5
  have hG63 := grownCap_le_maxLen w l.length 0 5 (by unfold maxLen; omega)
  refine ⟨_, _, _, h, ⟨_, _, rfl, hG, hG63, fun hp => ⟨w.heap.size, 0, rfl, by simp, fun i hi => ?_⟩⟩, (Below.refl _ _).drew.alloc (Nat.le_refl _) _⟩
  rw [cell_of_row _ w.heap.size (0 + i) _ _ _ (heap_alloc_new w.drew _), Nat.zero_add, bytesRow_at _ _ _ (by simpa using hi)]
  simp [byteAt, List.getD, hi]

/-- '[]byte("..")' of a constant. -/
theorem conv_const (W : World) (l : List UInt8) (cs : Array Value) (hcs : cs = (byteVals l).toArray) (n : Nat) (hn : n = l.length) (hm : l.length ≤ 1000) :
    ∃ W', (convert 22 22 (.slice (some ⟨W.heap.size, 0, none⟩) n n)).run Try.prog (W.alloc (.cells cs 5)) = .ok (.slice (some ⟨W.heap.size, 0, none⟩) n n) W' ∧ IsB W' (.slice (some ⟨W.heap.size, 0, none⟩) n n) l ∧ Below W.heap.size W W' := by
  subst hn hcs
  refine ⟨_, Lib.run_convert_bytes_const W 22 5 _ _ _ Try.underlying22 Try.underlying5, IsB.of_row (heap_alloc_new W _) (by unfold maxLen; omega), (Below.refl _ _).alloc (Nat.le_refl _) _⟩

def abcL : List UInt8 := [97, 98, 99]
theorem abc_conv (W : World) : ∃ W', (convert 22 22 (.slice (some ⟨W.heap.size, 0, none⟩) 3 3)).run Try.prog (W.alloc (.cells #[.int .u8 97, .int .u8 98, .int .u8 99] 5)) = .ok (.slice (some ⟨W.heap.size, 0, none⟩) 3 3) W' ∧ IsB W' (.slice (some ⟨W.heap.size, 0, none⟩) 3 3) abcL ∧ Below W.heap.size W W' :=
  conv_const W abcL _ rfl 3 rfl (by decide)
end Go.Proofs.Ytemocbcibnccpaa
