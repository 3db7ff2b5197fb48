/- Headers of IPv6 as lists of bytes: what is put is told again, of no program. -/
import Derived.Test.YtemocbcibnccpaaM4
namespace Go.Proofs.Ytemocbcibnccpaa
open Go

structure Hdr6 where
  cls : UInt8
  flow : Int
  len : Int
  next : UInt8
  ttl : UInt8
  src : List UInt8
  dst : List UInt8
structure Hdr6.fit (h : Hdr6) : Prop where
  f0 : 0 ≤ h.flow
  f1 : h.flow ≤ 1048575
  s : h.src.length = 16
  d : h.dst.length = 16
def Hdr6.first (h : Hdr6) : Nat := 1610612736 + h.cls.toNat * 1048576 + h.flow.toNat
def put6 (h : Hdr6) (body : List UInt8) : List UInt8 := lowB 4 h.first ++ lowB 2 body.length ++ [h.next, h.ttl] ++ h.src ++ h.dst ++ body
def ip6N (l : List UInt8) : Nat := numOf (l.take 4)
def ip6C (l : List UInt8) : Int := if l.length < 40 then 10 else if ip6N l / 268435456 ≠ 6 then 12 else if l.length < wordAt l 4 + 40 then 13 else 0
def ip6R (l : List UInt8) : Hdr6 := ⟨UInt8.ofNat (ip6N l / 1048576 % 256), (ip6N l % 1048576 : Nat), (wordAt l 4 : Nat), l.getD 6 0, l.getD 7 0, (l.drop 8).take 16, (l.drop 24).take 16⟩
def ip6B (l : List UInt8) : List UInt8 := if ip6C l = 0 then (l.drop 40).take (wordAt l 4) else []
def ttl6 (l : List UInt8) (t : UInt8) : List UInt8 := l.take 7 ++ t :: l.drop 8
theorem first_lt {h : Hdr6} (f : h.fit) : h.first < 4294967296 := by
  have := UInt8.toNat_lt h.cls; have := f.f0; have := f.f1
  unfold Hdr6.first; omega
theorem put6_length {h : Hdr6} (f : h.fit) (body : List UInt8) : (put6 h body).length = 40 + body.length := by
  unfold put6
  simp only [List.length_append, lowB_length, List.length_cons, List.length_nil, f.s, f.d]
theorem put6_eight (h : Hdr6) (body m : List UInt8) : put6 h body ++ m = lowB 4 h.first ++ (hiB body.length :: loB body.length :: h.next :: h.ttl :: (h.src ++ (h.dst ++ (body ++ m)))) := by
  unfold put6
  simp only [List.append_assoc, lowB_two, List.cons_append, List.nil_append]
theorem ip6_put {h : Hdr6} (f : h.fit) (body m : List UInt8) (hb : body.length ≤ 65535) :
    ip6C (put6 h body ++ m) = 0 ∧ ip6R (put6 h body ++ m) = { h with len := (body.length : Int) } ∧ ip6B (put6 h body ++ m) = body := by
  have hn := first_lt f
  have hcl := UInt8.toNat_lt h.cls
  have f0 := f.f0
  have f1 := f.f1
  have e1 : ip6N (put6 h body ++ m) = h.first := by
    unfold ip6N
    rw [put6_eight, List.take_append_of_le_length (by rw [lowB_length]; omega), List.take_of_length_le (by rw [lowB_length]; omega), numOf_lowB, Nat.mod_eq_of_lt (by omega)]
  have ew : wordAt (put6 h body ++ m) 4 = body.length := by
    rw [put6_eight]
    exact hilo body.length hb
  have el : (put6 h body ++ m).length = 40 + body.length + m.length := by rw [List.length_append, put6_length f]
  have e8 : (put6 h body ++ m).drop 8 = h.src ++ (h.dst ++ (body ++ m)) := by rw [put6_eight]; rfl
  have e24 : (put6 h body ++ m).drop 24 = h.dst ++ (body ++ m) := by
    rw [show (24 : Nat) = 8 + 16 from rfl, ← List.drop_drop, e8, List.drop_append, List.drop_eq_nil_of_le (by rw [f.s]; omega), f.s]
    rfl
  have e40 : (put6 h body ++ m).drop 40 = body ++ m := by
    rw [show (40 : Nat) = 24 + 16 from rfl, ← List.drop_drop, e24, List.drop_append, List.drop_eq_nil_of_le (by rw [f.d]; omega), f.d]
    rfl
  have hC : ip6C (put6 h body ++ m) = 0 := by
    unfold ip6C
    rw [if_neg (by omega), e1, if_neg (by unfold Hdr6.first; omega), ew, el, if_neg (by omega)]
  refine ⟨hC, ?_, ?_⟩
  · unfold ip6R
    rw [e1, ew, e8, e24, List.take_append_of_le_length (by rw [f.s]; omega), List.take_of_length_le (by rw [f.s]; omega), List.take_append_of_le_length (by rw [f.d]; omega), List.take_of_length_le (by rw [f.d]; omega)]
    have a1 : UInt8.ofNat (h.first / 1048576 % 256) = h.cls := by
      apply UInt8.toNat.inj
      rw [toNat_ofNat_mod]
      unfold Hdr6.first; omega
    have a2 : ((h.first % 1048576 : Nat) : Int) = h.flow := by unfold Hdr6.first; omega
    rw [a1, a2, put6_eight]
    rfl
  · unfold ip6B
    rw [if_pos hC, ew, e40, List.take_left]
theorem ttl6_put (h : Hdr6) (body m : List UInt8) (t : UInt8) : ttl6 (put6 h body ++ m) t = put6 { h with ttl := t } body ++ m := by
  unfold ttl6
  rw [put6_eight, put6_eight]
  rfl
end Go.Proofs.Ytemocbcibnccpaa
