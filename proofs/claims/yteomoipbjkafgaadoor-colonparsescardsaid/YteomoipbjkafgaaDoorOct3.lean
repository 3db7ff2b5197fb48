/- Cut and Get of package octet. -/
import Derived.Test.YteomoipbjkafgaaDoorOct2
namespace Go.Proofs.YteomoipbjkafgaaDoor
open Go Go.RowKit

def inC (l : List UInt8) (t s : Int) : Bool := decide (0 ≤ t ∧ 0 ≤ s ∧ t + s ≤ l.length)
def cutL (l : List UInt8) (t s : Int) : List UInt8 := if inC l t s then (l.drop t.toNat).take s.toNat else []

theorem IsB.shape {w : World} {v : Value} {l : List UInt8} (h : IsB w v l) : ∃ a n cap, v = .slice a n cap := by
  obtain ⟨a, cap, rfl, _⟩ := h
  exact ⟨_, _, _, rfl⟩

def inG (l : List UInt8) (t s : Int) : Bool := decide (0 ≤ t ∧ 1 ≤ s ∧ s ≤ 8 ∧ t + s ≤ l.length)
def getN (l : List UInt8) (t s : Int) : Nat := if inG l t s then numOf ((l.drop t.toNat).take s.toNat) else 0

end Go.Proofs.YteomoipbjkafgaaDoor
