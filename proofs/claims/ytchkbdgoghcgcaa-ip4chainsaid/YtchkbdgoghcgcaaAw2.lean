/- The live examples of layer 2's statements hold. -/
import Derived.Test.YtchkbdgoghcgcaaRf3
import Derived.Laws.IdiomStrings
import Derived.Lib.SlBytesConst
namespace Go.Proofs.Ytchkbdgoghcgcaa
open Go Go.RowKit

/-- '[]byte(s)'. -/
theorem conv_bytes (w : World) (l : List UInt8) (hm : l.length ≤ 1000000) : ∃ a cap w', (convert 9 22 (.string ⟨l.toArray⟩)).run Try.prog w = .ok (.slice a l.length cap) w' ∧ IsB w' (.slice a l.length cap) l ∧ Below w.heap.size w w' := by
  have h := run_bytes_of_string (P := Try.prog) w 9 22 5 ⟨l.toArray⟩ Try.underlying9 Try.underlying22 Try.underlying5
  have hs : (⟨l.toArray⟩ : ByteArray).size = l.length := by simp [ByteArray.size]
  rw [hs] at h
  have hG := grownCap_ge w l.length 0 5
  have hG63 := grownCap_le_maxLen w l.length 0 5 (by unfold maxLen; omega)
  refine ⟨_, _, _, h, ⟨_, _, rfl, hG, hG63, fun hp => ⟨w.heap.size, 0, rfl, by simp, fun i hi => ?_⟩⟩, (Below.refl _ _).drew.alloc (Nat.le_refl _) _⟩
  rw [cell_of_row _ w.heap.size (0 + i) _ _ _ (heap_alloc_new w.drew _), Nat.zero_add, bytesRow_at _ _ _ (by simpa using hi)]
  simp [byteAt, List.getD, hi]

/-- '[]byte("..")' of a constant. -/
theorem conv_const (W : World) (l : List UInt8) (cs : Array Value) (hcs : cs = (byteVals l).toArray) (n : Nat) (hn : n = l.length) (hm : l.length ≤ 1000) :
    ∃ W', (convert 22 22 (.slice (some ⟨W.heap.size, 0, none⟩) n n)).run Try.prog (W.alloc (.cells cs 5)) = .ok (.slice (some ⟨W.heap.size, 0, none⟩) n n) W' ∧ IsB W' (.slice (some ⟨W.heap.size, 0, none⟩) n n) l ∧ Below W.heap.size W W' := by
  subst hn hcs
  refine ⟨_, Lib.run_convert_bytes_const W 22 5 _ _ _ Try.underlying22 Try.underlying5, IsB.of_row (heap_alloc_new W _) (by unfold maxLen; omega), (Below.refl _ _).alloc (Nat.le_refl _) _⟩

def exB : List UInt8 := [69, 0, 0, 115, 0, 0, 64, 0, 64, 17, 0, 0, 192, 168, 0, 1, 192, 168, 0, 199]
def exS : ByteArray := ⟨#[52, 53, 48, 48, 48, 48, 55, 51, 48, 48, 48, 48, 52, 48, 48, 48, 52, 48, 49, 49, 48, 48, 48, 48, 99, 48, 97, 56, 48, 48, 48, 49, 99, 48, 97, 56, 48, 48, 99, 55]⟩
theorem ex2_of (v : Value) (w : World) (h : IsRows w v [exB]) : Calls Try.prog 45 #[v] w fun e w' => e = .returned (.int .u16 47201) ∧ Below w.heap.size w w' := by
  have := of_any v [exB] w h (by decide)
  rw [show ((65535 - fold16 (wsum false [exB].flatten) : Nat) : Int) = 47201 by decide] at this
  exact this
theorem ex2_check1 (v : Value) (w : World) (h : IsRows w v [exB]) : Calls Try.prog 21 #[v] w fun e w' => e = .returned (.bool false) ∧ Below w.heap.size w w' := by
  have := check_any v [exB] w h (by decide)
  rw [show ((fold16 (wsum false [exB].flatten) : Int) == 65535) = false by decide] at this
  exact this
theorem ex2_check2 (v : Value) (w : World) (h : IsRows w v [exB, [184, 97]]) : Calls Try.prog 21 #[v] w fun e w' => e = .returned (.bool true) ∧ Below w.heap.size w w' := by
  have := check_any v [exB, [184, 97]] w h (by decide)
  rw [show ((fold16 (wsum false [exB, [184, 97]].flatten) : Int) == 65535) = true by decide] at this
  exact this
theorem isRows_nil (w : World) : IsRows w (.slice none 0 0) [] := ⟨none, 0, rfl, Nat.le_refl _, by unfold maxLen; omega, fun h => by simp at h⟩
theorem ex2_raw (w : World) : Calls Try.prog 36 #[.slice none 0 0] w fun e w' => e = .returned (.int .u16 0) ∧ Below w.heap.size w w' := raw_any (.slice none 0 0) [] w (isRows_nil w) (by decide)
theorem ex2_turn (w : World) : Calls Try.prog 32 #[.int .u16 1, .int .u16 2, .int .u16 2] w fun e w' => e = .returned (.int .u16 1) ∧ w = w' := by
  have := turn_any 1 2 2 w (by decide) (by decide) (by decide)
  rw [show ((turnN 1 2 2 : Nat) : Int) = 1 by decide] at this
  exact this

end Go.Proofs.Ytchkbdgoghcgcaa
