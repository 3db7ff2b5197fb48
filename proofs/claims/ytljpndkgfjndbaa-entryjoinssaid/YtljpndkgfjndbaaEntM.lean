/- Label stack entries: their numbers, their bytes. No conditions. -/
import Derived.Test.YtljpndkgfjndbaaMath
namespace Go.Proofs.Ytljpndkgfjndbaa
open Go

/-- An entry: its four parts. -/
structure Ent where
  L : Int
  C : Int
  B : Bool
  T : Int
/-- What its types say of the small parts. -/
structure Ent.ok (e : Ent) : Prop where
  c0 : 0 ≤ e.C
  c1 : e.C ≤ 255
  t0 : 0 ≤ e.T
  t1 : e.T ≤ 255
/-- It may be packed. -/
def Ent.good (e : Ent) : Bool := decide (0 ≤ e.L ∧ e.L ≤ 1048575 ∧ e.C ≤ 7)
/-- Its 32 bits. -/
def Ent.num (e : Ent) : Nat := e.L.toNat * 4096 + e.C.toNat * 512 + e.T.toNat + (if e.B then 256 else 0)
def Ent.bytes (e : Ent) : List UInt8 := lowB 4 e.num
def packC (e : Ent) : Int := if e.good then 0 else 1
def packB (e : Ent) : List UInt8 := if e.good then e.bytes else []
def Ent.setB (e : Ent) (b : Bool) : Ent := { e with B := b }
/-- The entry of 32 bits. -/
def entOf (n : Nat) : Ent := ⟨(n / 4096 : Nat), (n / 512 % 8 : Nat), decide (n / 256 % 2 = 1), (n % 256 : Nat)⟩
def entZero : Ent := ⟨0, 0, false, 0⟩

theorem Ent.num_lt {e : Ent} (h : e.ok) (g : e.good = true) : e.num < 4294967296 := by
  have g := of_decide_eq_true g
  have := h.c0; have := h.t0; have := h.t1
  unfold Ent.num
  split <;> omega
theorem entOf_num {e : Ent} (h : e.ok) (g : e.good = true) : entOf e.num = e := by
  have g := of_decide_eq_true g
  have := h.c0; have := h.t0; have := h.t1
  obtain ⟨L, C, B, T⟩ := e
  simp only at *
  obtain ⟨L, rfl⟩ := Int.eq_ofNat_of_zero_le g.1
  obtain ⟨C, rfl⟩ := Int.eq_ofNat_of_zero_le ‹0 ≤ C›
  obtain ⟨T, rfl⟩ := Int.eq_ofNat_of_zero_le ‹0 ≤ T›
  unfold entOf Ent.num
  simp only [Int.toNat_natCast, Ent.mk.injEq]
  cases B
  · refine ⟨by simp only [Bool.false_eq_true, if_false]; omega, by simp only [Bool.false_eq_true, if_false]; omega, ?_, by simp only [Bool.false_eq_true, if_false]; omega⟩
    apply decide_eq_false
    simp only [Bool.false_eq_true, if_false]; omega
  · refine ⟨by simp only [if_true]; omega, by simp only [if_true]; omega, ?_, by simp only [if_true]; omega⟩
    apply decide_eq_true
    simp only [if_true]; omega
theorem entOf_ok (n : Nat) : (entOf n).ok := by
  constructor <;> simp only [entOf] <;> omega
theorem entOf_good (n : Nat) (h : n < 4294967296) : (entOf n).good = true := by
  apply decide_eq_true
  simp only [entOf]; omega
theorem num_entOf (n : Nat) : (entOf n).num = n := by
  unfold Ent.num entOf
  simp only [Int.toNat_natCast]
  by_cases hb : n / 256 % 2 = 1
  · rw [if_pos (decide_eq_true hb)]; omega
  · rw [if_neg (by simpa using hb)]; omega
end Go.Proofs.Ytljpndkgfjndbaa
