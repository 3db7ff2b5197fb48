/- Plain facts on a word of bytes that becomes another one, of no program. -/
import Derived.Test.YtemocbcibnccpaaMath2
namespace Go.Proofs.Ytemocbcibnccpaa
open Go

/-- The word at an even place. -/
def wordAt (l : List UInt8) (k : Nat) : Nat := (l.getD k 0).toNat * 256 + (l.getD (k + 1) 0).toNat
def setWord (l : List UInt8) (k : Nat) (x y : UInt8) : List UInt8 := (l.set k x).set (k + 1) y
theorem setWord_length (l : List UInt8) (k : Nat) (x y : UInt8) : (setWord l k x y).length = l.length := by simp [setWord]
theorem wsum_setWord : ∀ (l : List UInt8) (j : Nat) (x y : UInt8), 2 * j + 1 < l.length → wsum false (setWord l (2 * j) x y) + wordAt l (2 * j) = wsum false l + (x.toNat * 256 + y.toNat)
  | [], _, _, _, h => by simp at h
  | [_], _, _, _, h => by simp at h
  | p :: q :: r, 0, x, y, _ => by
    show (if false then x.toNat else x.toNat * 256) + ((if (!false) then y.toNat else y.toNat * 256) + wsum (!!false) r) + (p.toNat * 256 + q.toNat) = (if false then p.toNat else p.toNat * 256) + ((if (!false) then q.toNat else q.toNat * 256) + wsum (!!false) r) + _
    simp
    omega
  | p :: q :: r, j + 1, x, y, h => by
    have ih := wsum_setWord r j x y (by simp only [List.length_cons] at h; omega)
    have e1 : setWord (p :: q :: r) (2 * (j + 1)) x y = p :: q :: setWord r (2 * j) x y := rfl
    have e2 : wordAt (p :: q :: r) (2 * (j + 1)) = wordAt r (2 * j) := rfl
    rw [e1, e2]
    show (if false then p.toNat else p.toNat * 256) + ((if (!false) then q.toNat else q.toNat * 256) + wsum (!!false) (setWord r (2 * j) x y)) + wordAt r (2 * j) = (if false then p.toNat else p.toNat * 256) + ((if (!false) then q.toNat else q.toNat * 256) + wsum (!!false) r) + _
    simp
    omega
theorem wordAt_le (l : List UInt8) (k : Nat) : wordAt l k ≤ 65535 := by
  unfold wordAt
  have h1 := UInt8.toNat_lt (l.getD k 0)
  have h2 := UInt8.toNat_lt (l.getD (k + 1) 0)
  omega
theorem wordAt_le_sum (l : List UInt8) (j : Nat) (h : 2 * j + 1 < l.length) : wordAt l (2 * j) ≤ wsum false l := by
  have := wsum_setWord l j 0 0 h
  simp at this
  omega
theorem wsum_pos : ∀ (l : List UInt8) (lo : Bool), l.any (fun b => b != 0) = true → 0 < wsum lo l
  | [], _, h => by simp at h
  | b :: l, lo, h => by
    show 0 < (if lo then b.toNat else b.toNat * 256) + wsum (!lo) l
    rw [List.any_cons, Bool.or_eq_true] at h
    rcases h with h | h
    · have hb : b.toNat ≠ 0 := fun e => by
        have : b = 0 := UInt8.toNat_inj.1 e
        subst this
        simp at h
      split <;> omega
    · have := wsum_pos l (!lo) h
      omega
theorem any_take_succ (l : List UInt8) (k : Nat) (h : k < l.length) : (l.take (k + 1)).any (fun b => b != 0) = ((l.take k).any (fun b => b != 0) || (byteAt l k != 0)) := by
  rw [take_succ_snoc l k h, List.any_append]
  congr 1
  have e : byteAt l k = ((l.getD k 0).toNat : Int) := rfl
  rw [e]
  generalize l.getD k 0 = b
  simp only [List.any_cons, List.any_nil, Bool.or_false]
  by_cases hb : b = 0
  · subst hb; rfl
  · have h1 : (b != 0) = true := by simpa using hb
    have h2 : ((b.toNat : Int) != 0) = true := by
      have : b.toNat ≠ 0 := fun e => hb (UInt8.toNat_inj.1 e)
      simp; omega
    rw [h1, h2]

/-- With its checksum in it what was summed is right. -/
theorem right_sum (T : Nat) : fold16 (T + (65535 - fold16 T)) = 65535 := by
  rw [fold16_max]
  unfold fold16
  split <;> omega
theorem wordAt_set (l : List UInt8) (k : Nat) (x y : UInt8) (h : k + 1 < l.length) : wordAt (setWord l k x y) k = x.toNat * 256 + y.toNat := by
  unfold wordAt setWord
  have e1 : ((l.set k x).set (k + 1) y).getD k 0 = x := by
    rw [List.getD, List.getElem?_set_ne (by omega), List.getElem?_set_self (by omega)]; rfl
  have e2 : ((l.set k x).set (k + 1) y).getD (k + 1) 0 = y := by
    rw [List.getD, List.getElem?_set_self (by simp; omega)]; rfl
  rw [e1, e2]
theorem word_parts (c : Nat) (h : c ≤ 65535) : (UInt8.ofNat (c / 256)).toNat * 256 + (UInt8.ofNat (c % 256)).toNat = c := by
  rw [UInt8.toNat_ofNat_of_lt' (show c / 256 < 256 by omega), UInt8.toNat_ofNat_of_lt' (show c % 256 < 256 by omega)]; omega
theorem right_final (l : List UInt8) (j c : Nat) (h : 2 * j + 1 < l.length) (hc : 65535 - fold16 (wsum false (setWord l (2 * j) 0 0)) = c) :
    fold16 (wsum false (setWord (setWord l (2 * j) 0 0) (2 * j) (UInt8.ofNat (c / 256)) (UInt8.ofNat (c % 256)))) = 65535 := by
  have h1 := wsum_setWord (setWord l (2 * j) 0 0) j (UInt8.ofNat (c / 256)) (UInt8.ofNat (c % 256)) (by rw [setWord_length]; exact h)
  rw [wordAt_set l (2 * j) 0 0 h, word_parts c (by omega)] at h1
  have h2 : wsum false (setWord (setWord l (2 * j) 0 0) (2 * j) (UInt8.ofNat (c / 256)) (UInt8.ofNat (c % 256))) = wsum false (setWord l (2 * j) 0 0) + (65535 - fold16 (wsum false (setWord l (2 * j) 0 0))) := by
    rw [hc]; simpa using h1
  rw [h2, right_sum]
/-- The turned checksum is that anew. -/
theorem turn_sum (S S' o n : Nat) (h : S' + o = S + n) (ho2 : o ≤ 65535) (h0 : 0 < S') :
    65535 - fold16 (65535 - (65535 - fold16 S) + (65535 - o) + n) = 65535 - fold16 S' := by
  have hle := fold16_le S
  have hm := fold16_mod S
  have hz := fold16_zero S
  congr 1
  refine fold16_eq _ _ ?_ ?_
  · omega
  · constructor
    · intro h1
      omega
    · intro h1
      omega
end Go.Proofs.Ytemocbcibnccpaa
