/- fits and Put of package octet. -/
import Derived.Test.YteomoipbjkafgaaDoorOct3
namespace Go.Proofs.YteomoipbjkafgaaDoor
open Go Go.RowKit

def fitB (m : Nat) (s : Int) : Bool := decide (m < 256 ^ s.toNat)

theorem fit_div (m : Nat) (s : Int) (D : Nat) (hD : 256 ^ s.toNat = D) (h0 : 0 < D) : ((m : Int) / (D : Int) == 0) = fitB m s := by
  unfold fitB
  rw [hD, Bool.eq_iff_iff, beq_iff_eq, decide_eq_true_iff]
  constructor
  · intro h
    rcases Nat.lt_or_ge m D with h1 | h1
    · exact h1
    · exfalso
      have : 0 < m / D := Nat.div_pos h1 h0
      omega
  · intro h
    have : m / D = 0 := Nat.div_eq_of_lt h
    omega
theorem ret_bool {a b : Bool} (h : a = b) : Ending.returned (.bool a) = .returned (.bool b) := by rw [h]

def inP (l : List UInt8) (t s : Int) (m : Nat) : Bool := inG l t s && fitB m s
def putL (l : List UInt8) (t s : Int) (m : Nat) : List UInt8 := if inP l t s m then curL l t.toNat s.toNat m s.toNat else []

end Go.Proofs.YteomoipbjkafgaaDoor
