/- Plain facts on bytes and numbers, of no program. -/
import Derived.Laws.BitsAllLaws
import Derived.Laws.Entries
namespace Go.Proofs.YtoliijajhikhgaaDoor
open Go

/-- The byte of l at place i, as a number. -/
def byteAt (l : List UInt8) (i : Nat) : Int := ((l.getD i 0).toNat : Int)
theorem byteAt_nonneg (l : List UInt8) (i : Nat) : 0 ≤ byteAt l i := by unfold byteAt; omega
theorem byteAt_le (l : List UInt8) (i : Nat) : byteAt l i ≤ 255 := by
  unfold byteAt; have := UInt8.toNat_lt (l.getD i 0); omega
theorem byteAt_drop (l : List UInt8) (k i : Nat) : byteAt (l.drop k) i = byteAt l (k + i) := by simp [byteAt, List.getD]
theorem byteAt_take (l : List UInt8) (k i : Nat) (h : i < k) : byteAt (l.take k) i = byteAt l i := by simp [byteAt, List.getD, h]
theorem byteAt_get (l : List UInt8) (i : Nat) (h : i < l.length) : byteAt l i = (l[i].toNat : Int) := by simp [byteAt, List.getD, h]

/-- The number of bytes, the highest one first. -/
def numOf (l : List UInt8) : Nat := l.foldl (fun n x => n * 256 + x.toNat) 0
theorem numOf_snoc (l : List UInt8) (x : UInt8) : numOf (l ++ [x]) = numOf l * 256 + x.toNat := by simp [numOf]
theorem fold_lt : ∀ (l : List UInt8) (n : Nat), l.foldl (fun n x => n * 256 + x.toNat) n + 1 ≤ (n + 1) * 256 ^ l.length
  | [], n => by simp
  | x :: l, n => by
    have h := fold_lt l (n * 256 + x.toNat)
    have hx := UInt8.toNat_lt x
    rw [List.foldl_cons, List.length_cons, Nat.pow_succ]
    have h2 : (n * 256 + x.toNat + 1) * 256 ^ l.length ≤ ((n + 1) * 256) * 256 ^ l.length := Nat.mul_le_mul_right _ (by omega)
    have h3 : ((n + 1) * 256) * 256 ^ l.length = (n + 1) * (256 ^ l.length * 256) := by rw [Nat.mul_assoc, Nat.mul_comm 256]
    omega
theorem numOf_lt (l : List UInt8) : numOf l < 256 ^ l.length := by
  have := fold_lt l 0
  unfold numOf
  omega
theorem take_succ_snoc (l : List UInt8) (k : Nat) (h : k < l.length) : l.take (k + 1) = l.take k ++ [l.getD k 0] := by
  rw [List.take_succ_eq_append_getElem h]; simp [List.getD, h]
theorem numOf_take_succ (l : List UInt8) (k : Nat) (h : k < l.length) : numOf (l.take (k + 1)) = numOf (l.take k) * 256 + (byteAt l k).toNat := by
  rw [take_succ_snoc l k h, numOf_snoc]; simp [byteAt]
theorem numOf_take_lt (l : List UInt8) (k m : Nat) (h : k ≤ m) : numOf (l.take k) < 256 ^ m := by
  have h1 := numOf_lt (l.take k)
  have h2 : (l.take k).length ≤ m := by simp; omega
  exact Nat.lt_of_lt_of_le h1 (Nat.pow_le_pow_right (by omega) h2)
theorem or_byte (m : Nat) (x : Int) (hm : m < 256 ^ 7) (h0 : 0 ≤ x) (h1 : x ≤ 255) : bits .or .u64 (IntKind.u64.wrap ((m : Int) * 256)) x = ((m * 256 + x.toNat : Nat) : Int) := by
  have e7 : 256 ^ 7 = 72057594037927936 := by decide
  rw [e7] at hm
  rw [IntKind.wrap_u64, Int.emod_eq_of_lt (by omega) (by omega), u64_or _ _ (by omega) (by omega) h0 (by omega)]
  have e1 : ((m : Int) * 256).toNat = m * 256 := by omega
  rw [e1, nat_join 8 _ _ (by omega) (by omega)]

/-- The lowest j bytes of a number, the highest one first. -/
def lowB : Nat → Nat → List UInt8
  | 0, _ => []
  | j + 1, m => UInt8.ofNat (m / 256 ^ j % 256) :: lowB j m
theorem lowB_length : ∀ j m, (lowB j m).length = j
  | 0, _ => rfl
  | j + 1, m => by simp [lowB, lowB_length j m]
/-- A row on its way: its last j places of s at t are those of m already. -/
def curL (l : List UInt8) (t s m j : Nat) : List UInt8 := l.take (t + (s - j)) ++ (lowB j m ++ l.drop (t + s))
theorem curL_length (l : List UInt8) (t s m j : Nat) (h : t + s ≤ l.length) (hj : j ≤ s) : (curL l t s m j).length = l.length := by
  simp [curL, lowB_length]; omega
theorem curL_zero (l : List UInt8) (t s m : Nat) : curL l t s m 0 = l := by simp [curL, lowB]
theorem curL_set (l : List UInt8) (t s m j : Nat) (h : t + s ≤ l.length) (hj : j < s) :
    (curL l t s m j).set (t + (s - 1 - j)) (UInt8.ofNat (m / 256 ^ j % 256)) = curL l t s m (j + 1) := by
  unfold curL
  have e1 : t + (s - j) = (t + (s - 1 - j)) + 1 := by omega
  have e2 : t + (s - (j + 1)) = t + (s - 1 - j) := by omega
  have e3 : t + (s - 1 - j) < l.length := by omega
  rw [e1, e2, List.take_succ_eq_append_getElem e3, List.append_assoc, List.set_append_right _ _ (by simp; omega)]
  have e4 : t + (s - 1 - j) - (l.take (t + (s - 1 - j))).length = 0 := by simp; omega
  rw [e4]
  simp [lowB]
theorem toNat_ofNat_mod (x : Nat) : (UInt8.ofNat (x % 256)).toNat = x % 256 := by
  simp

/-! Digits of 16. -/
def hexDig (n : Nat) : UInt8 := if n < 10 then UInt8.ofNat (48 + n) else UInt8.ofNat (87 + n)
def hexL (l : List UInt8) : List UInt8 := l.flatMap fun b => [hexDig (b.toNat / 16), hexDig (b.toNat % 16)]
theorem hexL_length (l : List UInt8) : (hexL l).length = 2 * l.length := by
  induction l with
  | nil => rfl
  | cons b l ih => simp only [hexL, List.flatMap_cons, List.length_append, List.length_cons, List.length_nil] at *; omega
theorem hexL_take_succ (l : List UInt8) (k : Nat) (h : k < l.length) :
    hexL (l.take (k + 1)) = hexL (l.take k) ++ [hexDig ((byteAt l k).toNat / 16), hexDig ((byteAt l k).toNat % 16)] := by
  rw [take_succ_snoc l k h]; simp [hexL, byteAt]
theorem and_15 (x : Int) (h0 : 0 ≤ x) (h1 : x ≤ 255) : bits .and .u8 x 15 = x % 16 := by
  rw [u8_and x 15 h0 (by omega) (by omega) (by omega)]
  have e : (15 : Int).toNat = 15 := rfl
  rw [e, nat_mask4]
  omega

/-! What a sign is worth as a digit. -/
def digW (r base : Int) : Int := if 48 ≤ r ∧ r ≤ 57 then r - 48 else if 97 ≤ r ∧ r ≤ 102 then r - 97 + 10 else if 65 ≤ r ∧ r ≤ 70 then r - 65 + 10 else base
def digB (r base : Int) : Bool := decide (digW r base < base)
def digV (r base : Int) : Int := if digB r base then digW r base else 0

theorem digit_fin (r base : Int) (d : Int) (h : digW r base = d) (hd : d < base) : digB r base = true ∧ digV r base = d := by
  have h1 : digB r base = true := by unfold digB; rw [h]; exact decide_eq_true hd
  exact ⟨h1, by unfold digV; rw [if_pos h1, h]⟩
theorem digit_none (r base : Int) (h : base ≤ digW r base) : digB r base = false ∧ digV r base = 0 := by
  have h1 : digB r base = false := by unfold digB; exact decide_eq_false (by omega)
  exact ⟨h1, by unfold digV; rw [h1]; rfl⟩

def isHex (b : UInt8) : Bool := digB (b.toNat : Int) 16
def hexV (b : UInt8) : Nat := (digV (b.toNat : Int) 16).toNat
theorem digV16_bd (r : Int) : 0 ≤ digV r 16 ∧ digV r 16 ≤ 15 := by
  unfold digV digB
  split
  · rename_i h
    have h := of_decide_eq_true h
    unfold digW at *
    split at h
    · rename_i c; rw [if_pos c]; omega
    · rename_i c1
      rw [if_neg c1]
      split at h
      · rename_i c; rw [if_pos c]; omega
      · rename_i c2
        rw [if_neg c2]
        split at h
        · rename_i c; rw [if_pos c]; omega
        · omega
  · omega
theorem hexV_lt (b : UInt8) : hexV b < 16 := by have := digV16_bd (b.toNat : Int); unfold hexV; omega

def pairs : List UInt8 → List UInt8
  | a :: b :: r => UInt8.ofNat (16 * hexV a + hexV b) :: pairs r
  | _ => []
def unhexB (l : List UInt8) : Bool := decide (l.length % 2 = 0) && l.all isHex
def unhexL (l : List UInt8) : List UInt8 := if unhexB l then pairs l else []
theorem pairs_snoc : ∀ (l : List UInt8) (x y : UInt8), l.length % 2 = 0 → pairs (l ++ [x, y]) = pairs l ++ [UInt8.ofNat (16 * hexV x + hexV y)]
  | [], _, _, _ => rfl
  | [_], _, _, h => by simp at h
  | a :: b :: r, x, y, h => by
    have h2 : r.length % 2 = 0 := by simp only [List.length_cons] at h; omega
    show UInt8.ofNat (16 * hexV a + hexV b) :: pairs (r ++ [x, y]) = _
    rw [pairs_snoc r x y h2]
    rfl
theorem pairs_length : ∀ (l : List UInt8), (pairs l).length = l.length / 2
  | [] => rfl
  | [_] => by simp [pairs]
  | a :: b :: r => by
    show (pairs r).length + 1 = _
    rw [pairs_length r]
    simp only [List.length_cons]
    omega

/-- The row on its way, when k digits are read. -/
def uhRow (l : List UInt8) (n : Nat) : Nat → List UInt8
  | 0 => List.replicate n 0
  | k + 1 => (uhRow l n k).set (k / 2) (UInt8.ofNat ((byteAt (uhRow l n k) (k / 2)).toNat * 16 % 256 + hexV (l.getD k 0)))
theorem uhRow_length (l : List UInt8) (n : Nat) : ∀ k, (uhRow l n k).length = n
  | 0 => by simp [uhRow]
  | k + 1 => by simp [uhRow, uhRow_length l n k]
theorem uhRow_even (l : List UInt8) (n : Nat) (hn : 2 * n ≤ l.length) : ∀ j, j ≤ n → uhRow l n (2 * j) = pairs (l.take (2 * j)) ++ List.replicate (n - j) 0
  | 0, _ => by simp [uhRow, pairs]
  | j + 1, hj => by
    have ih := uhRow_even l n hn j (by omega)
    have e0 : 2 * (j + 1) = 2 * j + 1 + 1 := by omega
    have d0 : 2 * j / 2 = j := by omega
    have d1 : (2 * j + 1) / 2 = j := by omega
    have hP : (pairs (l.take (2 * j))).length = j := by rw [pairs_length]; simp; omega
    have hr : List.replicate (n - j) (0 : UInt8) = 0 :: List.replicate (n - (j + 1)) 0 := by
      rw [show n - j = (n - (j + 1)) + 1 by omega]; rfl
    have set1 : ∀ (P : List UInt8) (x y : UInt8) (R : List UInt8), P.length = j → (P ++ x :: R).set j y = P ++ y :: R := by
      intro P x y R h
      rw [List.set_append_right _ _ (by omega), h, Nat.sub_self]
      rfl
    have at1 : ∀ (P : List UInt8) (x : UInt8) (R : List UInt8), P.length = j → byteAt (P ++ x :: R) j = (x.toNat : Int) := by
      intro P x R h
      have : (P ++ x :: R).getD j 0 = x := by
        rw [List.getD, List.getElem?_append_right (by omega), h, Nat.sub_self]
        rfl
      rw [byteAt, this]
    have tk : l.take (2 * (j + 1)) = l.take (2 * j) ++ [l.getD (2 * j) 0, l.getD (2 * j + 1) 0] := by
      rw [e0, take_succ_snoc l (2 * j + 1) (by omega), take_succ_snoc l (2 * j) (by omega)]
      simp
    have h0 := hexV_lt (l.getD (2 * j) 0)
    rw [tk, pairs_snoc _ _ _ (by simp; omega), e0]
    show (((uhRow l n (2 * j)).set (2 * j / 2) _)).set ((2 * j + 1) / 2) (UInt8.ofNat ((byteAt ((uhRow l n (2 * j)).set (2 * j / 2) _) ((2 * j + 1) / 2)).toNat * 16 % 256 + _)) = _
    rw [d0, d1, ih, hr, at1 _ _ _ hP, set1 _ _ _ _ hP, at1 _ _ _ hP, set1 _ _ _ _ hP]
    simp only [List.append_assoc, List.cons_append, List.nil_append]
    congr 2
    rw [Int.toNat_natCast, Int.toNat_natCast]
    have z : (0 : UInt8).toNat * 16 % 256 = 0 := rfl
    rw [z, Nat.zero_add, UInt8.toNat_ofNat_of_lt' (show hexV (l.getD (2 * j) 0) < 256 by omega)]
    congr 1
    omega
theorem uh_or (x d : Int) (h0 : 0 ≤ x) (h1 : x ≤ 255) (h2 : 0 ≤ d) (h3 : d ≤ 15) : bits .or .u8 (x * 16 % 256) d = ((x.toNat * 16 % 256 + d.toNat : Nat) : Int) := by
  rw [u8_or _ _ (by omega) (by omega) h2 (by omega)]
  have e1 : (x * 16 % 256).toNat = x.toNat * 16 % 256 := by omega
  rw [e1, nat_join 4 _ _ (by omega) (by omega)]

theorem numOf_cons (x : UInt8) (l : List UInt8) : numOf (x :: l) = x.toNat * 256 ^ l.length + numOf l := by
  have gen : ∀ (l : List UInt8) (n : Nat), l.foldl (fun n x => n * 256 + x.toNat) n = n * 256 ^ l.length + l.foldl (fun n x => n * 256 + x.toNat) 0 := by
    intro l
    induction l with
    | nil => intro n; simp
    | cons y l ih =>
      intro n
      rw [List.foldl_cons, List.foldl_cons, ih (n * 256 + y.toNat), ih (0 * 256 + y.toNat), List.length_cons, Nat.pow_succ, Nat.zero_mul, Nat.zero_add, Nat.add_mul, Nat.mul_assoc, Nat.mul_comm 256, Nat.add_assoc]
  show (x :: l).foldl _ 0 = _
  rw [List.foldl_cons, gen l (0 * 256 + x.toNat), Nat.zero_mul, Nat.zero_add]
  rfl
theorem numOf_lowB : ∀ j m, numOf (lowB j m) = m % 256 ^ j
  | 0, m => by simp [lowB, numOf, Nat.mod_one]
  | j + 1, m => by
    rw [lowB, numOf_cons, numOf_lowB j m, lowB_length, toNat_ofNat_mod, Nat.pow_succ, Nat.mod_mul, Nat.mul_comm, Nat.add_comm]
end Go.Proofs.YtoliijajhikhgaaDoor
