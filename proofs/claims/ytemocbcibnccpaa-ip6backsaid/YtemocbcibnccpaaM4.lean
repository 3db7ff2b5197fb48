/- Headers of IPv4 as lists of bytes: what is put is told again, of no program. -/
import Derived.Test.YtemocbcibnccpaaMath3
namespace Go.Proofs.Ytemocbcibnccpaa
open Go

structure Hdr where
  tos : UInt8
  len : Int
  id : Nat
  keep : Bool
  more : Bool
  off : Int
  ttl : UInt8
  proto : UInt8
  s0 : UInt8
  s1 : UInt8
  s2 : UInt8
  s3 : UInt8
  d0 : UInt8
  d1 : UInt8
  d2 : UInt8
  d3 : UInt8
  opt : List UInt8
def hdrZero : Hdr := ⟨0, 0, 0, false, false, 0, 0, 0, 0, 0, 0, 0, 0, 0, 0, 0, []⟩
/-- What Put asks of a header, beside its length. -/
structure Hdr.fit (h : Hdr) : Prop where
  o1 : h.opt.length ≤ 40
  o2 : h.opt.length % 4 = 0
  f0 : 0 ≤ h.off
  f1 : h.off ≤ 8191
def Hdr.size (h : Hdr) : Nat := 20 + h.opt.length
def Hdr.flags (h : Hdr) : Nat := h.off.toNat + (if h.keep then 16384 else 0) + (if h.more then 8192 else 0)
def frontL (h : Hdr) (all : Nat) : List UInt8 := [UInt8.ofNat (64 + h.size / 4), h.tos] ++ lowB 2 all ++ lowB 2 h.id ++ lowB 2 h.flags ++ [h.ttl, h.proto]
def backL (h : Hdr) : List UInt8 := [h.s0, h.s1, h.s2, h.s3, h.d0, h.d1, h.d2, h.d3] ++ h.opt
def hsum (h : Hdr) (all : Nat) : Nat := 65535 - fold16 (wsum false (frontL h all ++ backL h))
def hdrL (h : Hdr) (all : Nat) : List UInt8 := frontL h all ++ lowB 2 (hsum h all) ++ backL h
def pktL (h : Hdr) (body : List UInt8) : List UInt8 := hdrL h (h.size + body.length) ++ body
theorem hsum_le (h : Hdr) (all : Nat) : hsum h all ≤ 65535 := by unfold hsum; omega
theorem hdrL_length (h : Hdr) (all : Nat) : (hdrL h all).length = h.size := by
  unfold hdrL frontL backL Hdr.size
  simp only [List.length_append, lowB_length, List.length_cons, List.length_nil]
  omega
theorem pktL_length (h : Hdr) (body : List UInt8) : (pktL h body).length = h.size + body.length := by
  rw [pktL, List.length_append, hdrL_length]

def hiB (m : Nat) : UInt8 := UInt8.ofNat (m / 256 ^ 1 % 256)
def loB (m : Nat) : UInt8 := UInt8.ofNat (m / 256 ^ 0 % 256)
theorem lowB_two (m : Nat) : lowB 2 m = [hiB m, loB m] := rfl
theorem hiB_toNat (m : Nat) (h : m ≤ 65535) : (hiB m).toNat = m / 256 := by
  unfold hiB
  rw [toNat_ofNat_mod, Nat.pow_one]
  omega
theorem loB_toNat (m : Nat) : (loB m).toNat = m % 256 := by
  unfold loB
  rw [toNat_ofNat_mod, Nat.pow_zero, Nat.div_one]
theorem hilo (m : Nat) (h : m ≤ 65535) : (hiB m).toNat * 256 + (loB m).toNat = m := by
  rw [hiB_toNat m h, loB_toNat]; omega
/-- The header, byte by byte. -/
theorem hdrL_bytes (h : Hdr) (all : Nat) : hdrL h all =
    UInt8.ofNat (64 + h.size / 4) :: h.tos :: hiB all :: loB all :: hiB h.id :: loB h.id :: hiB h.flags :: loB h.flags :: h.ttl :: h.proto :: hiB (hsum h all) :: loB (hsum h all) ::
      h.s0 :: h.s1 :: h.s2 :: h.s3 :: h.d0 :: h.d1 :: h.d2 :: h.d3 :: h.opt := rfl

/-! What is told of bytes. -/
def hlenN (l : List UInt8) : Nat := 4 * ((l.getD 0 0).toNat % 16)
def ip4C (l : List UInt8) : Int :=
  if l.length < 20 then 10 else if (l.getD 0 0).toNat / 16 ≠ 4 then 12 else if hlenN l < 20 ∨ l.length < hlenN l ∨ wordAt l 2 < hlenN l ∨ l.length < wordAt l 2 then 13
  else if fold16 (wsum false (l.take (hlenN l))) ≠ 65535 then 14 else 0
def ip4R (l : List UInt8) : Hdr :=
  ⟨l.getD 1 0, (wordAt l 2 : Nat), wordAt l 4, decide (wordAt l 6 / 16384 % 2 = 1), decide (wordAt l 6 / 8192 % 2 = 1), (wordAt l 6 % 8192 : Nat), l.getD 8 0, l.getD 9 0,
    l.getD 12 0, l.getD 13 0, l.getD 14 0, l.getD 15 0, l.getD 16 0, l.getD 17 0, l.getD 18 0, l.getD 19 0, (l.take (hlenN l)).drop 20⟩
def ip4H (l : List UInt8) : Hdr := if ip4C l = 0 then ip4R l else hdrZero
def ip4B (l : List UInt8) : List UInt8 := if ip4C l = 0 then (l.take (wordAt l 2)).drop (hlenN l) else []
def ttlL (l : List UInt8) (t : UInt8) : List UInt8 := l.take 8 ++ [t, l.getD 9 0] ++ lowB 2 (turnN (wordAt l 10) (wordAt l 8) (256 * t.toNat + (l.getD 9 0).toNat)) ++ l.drop 12

theorem flags_le {h : Hdr} (f : h.fit) : h.flags ≤ 32767 := by
  have := f.f0; have := f.f1
  unfold Hdr.flags
  split <;> split <;> omega
theorem flags_keep {h : Hdr} (f : h.fit) : decide (h.flags / 16384 % 2 = 1) = h.keep := by
  have := f.f0; have := f.f1
  unfold Hdr.flags
  cases h.keep <;> cases h.more <;> simp <;> omega
theorem flags_more {h : Hdr} (f : h.fit) : decide (h.flags / 8192 % 2 = 1) = h.more := by
  have := f.f0; have := f.f1
  unfold Hdr.flags
  cases h.keep <;> cases h.more <;> simp <;> omega
theorem flags_off {h : Hdr} (f : h.fit) : ((h.flags % 8192 : Nat) : Int) = h.off := by
  have := f.f0; have := f.f1
  unfold Hdr.flags
  cases h.keep <;> cases h.more <;> simp <;> omega
theorem size_le {h : Hdr} (f : h.fit) : h.size ≤ 60 := by have := f.o1; unfold Hdr.size; omega
theorem size_four {h : Hdr} (f : h.fit) : 4 * (h.size / 4) = h.size := by have := f.o2; unfold Hdr.size; omega
theorem first_byte {h : Hdr} (f : h.fit) : (UInt8.ofNat (64 + h.size / 4)).toNat = 64 + h.size / 4 := by
  have := size_le f
  exact UInt8.toNat_ofNat_of_lt' (show 64 + h.size / 4 < 256 by omega)

/-- The sum of a header with its checksum in it. -/
theorem wsum_front (h : Hdr) (all : Nat) (x y : UInt8) : wsum false (frontL h all ++ [x, y] ++ backL h) = wsum false (frontL h all ++ backL h) + (x.toNat * 256 + y.toNat) := by
  have hl : (frontL h all).length = 10 := by unfold frontL; simp [lowB_length]
  have e1 : lows false (frontL h all) = false := by rw [lows_even, hl]; rfl
  rw [wsum_append, wsum_append, wsum_append, lows_append, e1]
  have e2 : lows false [x, y] = false := rfl
  have e3 : wsum false [x, y] = x.toNat * 256 + y.toNat := by simp [wsum]
  rw [e2, e3]
  omega
theorem hdr_right (h : Hdr) (all : Nat) : fold16 (wsum false (hdrL h all)) = 65535 := by
  have := wsum_front h all (hiB (hsum h all)) (loB (hsum h all))
  rw [hilo _ (hsum_le h all)] at this
  show fold16 (wsum false (frontL h all ++ [hiB (hsum h all), loB (hsum h all)] ++ backL h)) = 65535
  rw [this]
  exact right_sum _

/-- What is put is told, whatever stands behind it. -/
theorem ip4_put {h : Hdr} (f : h.fit) (hid : h.id ≤ 65535) (all : Nat) (ha : all ≤ 65535) (hs : h.size ≤ all) (m : List UInt8) (hm : all ≤ h.size + m.length) :
    ip4C (hdrL h all ++ m) = 0 ∧ ip4R (hdrL h all ++ m) = { h with len := (all : Int) } ∧ hlenN (hdrL h all ++ m) = h.size ∧ wordAt (hdrL h all ++ m) 2 = all := by
  have h1 := first_byte f
  have h2 := size_le f
  have h3 := size_four f
  have e0 : (hdrL h all ++ m).getD 0 0 = UInt8.ofNat (64 + h.size / 4) := rfl
  have ehl : hlenN (hdrL h all ++ m) = h.size := by
    unfold hlenN
    rw [e0, h1]
    have : h.size / 4 < 16 := by omega
    omega
  have ew : wordAt (hdrL h all ++ m) 2 = all := hilo all ha
  have e4 : wordAt (hdrL h all ++ m) 4 = h.id := hilo h.id hid
  have e6 : wordAt (hdrL h all ++ m) 6 = h.flags := hilo h.flags (by have := flags_le f; omega)
  have el : (hdrL h all ++ m).length = h.size + m.length := by rw [List.length_append, hdrL_length]
  have et : (hdrL h all ++ m).take h.size = hdrL h all := by
    rw [List.take_append_of_le_length (by rw [hdrL_length]; exact Nat.le_refl _), List.take_of_length_le (by rw [hdrL_length]; exact Nat.le_refl _)]
  have h20 : 20 ≤ h.size := by unfold Hdr.size; omega
  refine ⟨?_, ?_, ehl, ew⟩
  · unfold ip4C
    rw [if_neg (by omega), if_neg (by rw [e0, h1]; omega), if_neg (by rw [ehl, ew, el]; omega), ehl, et, if_neg (by rw [hdr_right]; simp)]
  · unfold ip4R
    rw [ehl, et, ew, e4, e6, flags_keep f, flags_more f, flags_off f]
    rfl
theorem ip4_body {h : Hdr} (f : h.fit) (hid : h.id ≤ 65535) (body m : List UInt8) (ha : h.size + body.length ≤ 65535) : ip4B (pktL h body ++ m) = body := by
  have := ip4_put f hid (h.size + body.length) ha (by omega) (body ++ m) (by simp)
  rw [← List.append_assoc] at this
  change ip4C (pktL h body ++ m) = 0 ∧ ip4R (pktL h body ++ m) = _ ∧ hlenN (pktL h body ++ m) = h.size ∧ wordAt (pktL h body ++ m) 2 = _ at this
  unfold ip4B
  rw [if_pos this.1, this.2.2.1, this.2.2.2, List.take_append_of_le_length (by rw [pktL_length]; omega), List.take_of_length_le (by rw [pktL_length]; omega), pktL, List.drop_append, List.drop_eq_nil_of_le (by rw [hdrL_length]; omega), hdrL_length, Nat.sub_self, List.drop_zero, List.nil_append]

/-- Another time to live. -/
theorem front_sum (h : Hdr) (all : Nat) (t : UInt8) : wsum false (frontL { h with ttl := t } all ++ backL { h with ttl := t }) + (256 * h.ttl.toNat + h.proto.toNat) = wsum false (frontL h all ++ backL h) + (256 * t.toNat + h.proto.toNat) := by
  have e : ∀ x, frontL { h with ttl := x } all ++ backL { h with ttl := x } = ([UInt8.ofNat (64 + h.size / 4), h.tos] ++ lowB 2 all ++ lowB 2 h.id ++ lowB 2 h.flags) ++ ([x, h.proto] ++ backL h) := fun x => by
    show ([UInt8.ofNat (64 + h.size / 4), h.tos] ++ lowB 2 all ++ lowB 2 h.id ++ lowB 2 h.flags ++ [x, h.proto]) ++ backL h = _
    rw [List.append_assoc]
  have e2 := e h.ttl
  rw [show ({ h with ttl := h.ttl } : Hdr) = h from rfl] at e2
  rw [e t, e2]
  generalize hA : [UInt8.ofNat (64 + h.size / 4), h.tos] ++ lowB 2 all ++ lowB 2 h.id ++ lowB 2 h.flags = A
  have hl : A.length = 8 := by rw [← hA]; simp [lowB_length]
  have e1 : lows false A = false := by rw [lows_even, hl]; rfl
  have e3 : ∀ x, wsum false ([x, h.proto] ++ backL h) = x.toNat * 256 + h.proto.toNat + wsum false (backL h) := fun x => by
    rw [wsum_append, show lows false [x, h.proto] = false from rfl]
    simp [wsum]
  rw [wsum_append A, wsum_append A, e1, e3, e3]
  omega
theorem front_pos {h : Hdr} (f : h.fit) (all : Nat) : 0 < wsum false (frontL h all ++ backL h) := by
  have h1 := first_byte f
  show 0 < (if false then (UInt8.ofNat (64 + h.size / 4)).toNat else (UInt8.ofNat (64 + h.size / 4)).toNat * 256) + _
  rw [if_neg (by simp), h1]
  omega
theorem ttl_put {h : Hdr} (f : h.fit) (all : Nat) (m : List UInt8) (t : UInt8) : ttlL (hdrL h all ++ m) t = hdrL { h with ttl := t } all ++ m := by
  have e8 : wordAt (hdrL h all ++ m) 8 = 256 * h.ttl.toNat + h.proto.toNat := by
    show h.ttl.toNat * 256 + h.proto.toNat = _
    omega
  have e10 : wordAt (hdrL h all ++ m) 10 = hsum h all := hilo _ (hsum_le h all)
  have e9 : (hdrL h all ++ m).getD 9 0 = h.proto := rfl
  have hp := UInt8.toNat_lt h.proto
  have hq := UInt8.toNat_lt h.ttl
  have ft : ({ h with ttl := t } : Hdr).fit := ⟨f.o1, f.o2, f.f0, f.f1⟩
  have hs : turnN (hsum h all) (256 * h.ttl.toNat + h.proto.toNat) (256 * t.toNat + h.proto.toNat) = hsum { h with ttl := t } all := by
    unfold turnN hsum
    exact turn_sum _ _ _ _ (front_sum h all t) (by omega) (front_pos ft all)
  unfold ttlL
  rw [e8, e9, e10, hs]
  rfl

/-! One bit more. -/
theorem xor_bit : ∀ x : Fin 256, ∀ j : Fin 8, (x.val ^^^ 2 ^ j.val = x.val + 2 ^ j.val ∨ (x.val ^^^ 2 ^ j.val) + 2 ^ j.val = x.val) ∧ x.val ^^^ 2 ^ j.val < 256 := by decide +kernel
theorem xor_high : ∀ x : Fin 16, ∀ j : Fin 8, 4 ≤ j.val → ((64 + x.val) ^^^ 2 ^ j.val) / 16 ≠ 4 := by decide +kernel
def wt (lo : Bool) : Nat := if lo then 1 else 256
theorem wsum_set : ∀ (l : List UInt8) (i : Nat) (y : UInt8) (lo : Bool), i < l.length → ∃ d, (d = 1 ∨ d = 256) ∧ wsum lo (l.set i y) + d * (l.getD i 0).toNat = wsum lo l + d * y.toNat
  | [], _, _, _, h => by simp at h
  | x :: l, 0, y, lo, _ => by
    refine ⟨wt lo, by unfold wt; cases lo <;> simp, ?_⟩
    show (if lo then y.toNat else y.toNat * 256) + wsum (!lo) l + wt lo * x.toNat = (if lo then x.toNat else x.toNat * 256) + wsum (!lo) l + wt lo * y.toNat
    unfold wt
    cases lo <;> simp <;> omega
  | x :: l, i + 1, y, lo, h => by
    obtain ⟨d, hd, e⟩ := wsum_set l i y (!lo) (by simpa using h)
    refine ⟨d, hd, ?_⟩
    show (if lo then x.toNat else x.toNat * 256) + wsum (!lo) (l.set i y) + d * (l.getD i 0).toNat = (if lo then x.toNat else x.toNat * 256) + wsum (!lo) l + d * y.toNat
    omega
theorem sum_turned (l : List UInt8) (i j : Nat) (hi : i < l.length) (hj : j < 8) (y : UInt8) (hy : y.toNat = (l.getD i 0).toNat ^^^ 2 ^ j) (hs : fold16 (wsum false l) = 65535) : fold16 (wsum false (l.set i y)) ≠ 65535 := by
  obtain ⟨d, hd, e⟩ := wsum_set l i y false hi
  have hx := (xor_bit ⟨_, UInt8.toNat_lt (l.getD i 0)⟩ ⟨j, hj⟩).1
  simp only at hx
  rw [← hy] at hx
  have hp : 2 ^ j ≤ 128 ∧ 1 ≤ 2 ^ j := by
    have : j = 0 ∨ j = 1 ∨ j = 2 ∨ j = 3 ∨ j = 4 ∨ j = 5 ∨ j = 6 ∨ j = 7 := by omega
    rcases this with rfl | rfl | rfl | rfl | rfl | rfl | rfl | rfl <;> decide
  rw [fold16_max] at hs
  intro hc
  rw [fold16_max] at hc
  generalize 2 ^ j = p at *
  generalize y.toNat = Y at *
  generalize (l.getD i 0).toNat = X at *
  rcases hd with rfl | rfl <;> omega
theorem getD_set_ne (l : List UInt8) (i k : Nat) (y : UInt8) (h : i ≠ k) : (l.set i y).getD k 0 = l.getD k 0 := by
  rw [List.getD, List.getD, List.getElem?_set_ne h]
theorem getD_set_self (l : List UInt8) (i : Nat) (y : UInt8) (h : i < l.length) : (l.set i y).getD i 0 = y := by
  rw [List.getD, List.getElem?_set_self h]; rfl
/-- A packet of which one bit of the header is another one. -/
theorem ip4_turned {h : Hdr} (f : h.fit) (hid : h.id ≤ 65535) (body : List UInt8) (ha : h.size + body.length ≤ 65535) (i j : Nat) (hi : i < h.size) (hj : j < 8) (y : UInt8) (hy : y.toNat = ((pktL h body).getD i 0).toNat ^^^ 2 ^ j) :
    (i = 0 → 4 ≤ j → ip4C ((pktL h body).set i y) = 12) ∧ (0 < i → i ≠ 2 → i ≠ 3 → ip4C ((pktL h body).set i y) = 14) ∧ (i = 2 ∨ i = 3 → ip4C ((pktL h body).set i y) = 13 ∨ ip4C ((pktL h body).set i y) = 14) := by
  have hp := ip4_put f hid (h.size + body.length) ha (by omega) body (Nat.le_refl _)
  change ip4C (pktL h body) = 0 ∧ ip4R (pktL h body) = _ ∧ hlenN (pktL h body) = h.size ∧ wordAt (pktL h body) 2 = _ at hp
  obtain ⟨-, -, hhl, hw⟩ := hp
  have hl : (pktL h body).length = h.size + body.length := pktL_length h body
  have h20 : 20 ≤ h.size := by unfold Hdr.size; omega
  have b0 : ((pktL h body).getD 0 0).toNat = 64 + h.size / 4 := first_byte f
  have hsz := size_le f
  have hl2 : ((pktL h body).set i y).length = h.size + body.length := by rw [List.length_set, hl]
  have htk : ((pktL h body).set i y).take h.size = (hdrL h (h.size + body.length)).set i y := by
    rw [List.take_set, pktL, List.take_append_of_le_length (by rw [hdrL_length]; exact Nat.le_refl _), List.take_of_length_le (by rw [hdrL_length]; exact Nat.le_refl _)]
  have hbad : fold16 (wsum false ((hdrL h (h.size + body.length)).set i y)) ≠ 65535 := by
    refine sum_turned _ i j (by rw [hdrL_length]; exact hi) hj y ?_ (hdr_right h _)
    rw [hy, pktL, List.getD, List.getD, List.getElem?_append_left (by rw [hdrL_length]; exact hi)]
  have hpos : 0 < i → ((pktL h body).set i y).getD 0 0 = (pktL h body).getD 0 0 := fun h0 => getD_set_ne _ _ _ _ (by omega)
  have hhl2 : 0 < i → hlenN ((pktL h body).set i y) = h.size := fun h0 => by
    unfold hlenN at *
    rw [hpos h0, hhl]
  refine ⟨fun h0 h4 => ?_, fun h0 h2 h3 => ?_, fun h23 => ?_⟩
  · subst h0
    have hv := xor_high ⟨h.size / 4, by omega⟩ ⟨j, hj⟩ h4
    simp only at hv
    rw [b0] at hy
    unfold ip4C
    rw [hl2, if_neg (by omega), getD_set_self _ _ _ (by omega), if_pos (by rw [hy]; exact hv)]
  · have hw2 : wordAt ((pktL h body).set i y) 2 = h.size + body.length := by
      unfold wordAt at *
      rw [getD_set_ne _ _ _ _ (by omega), getD_set_ne _ _ _ _ (by omega), hw]
    unfold ip4C
    rw [hl2, if_neg (by omega), hpos h0, b0, if_neg (by omega), hhl2 h0, hw2, if_neg (by omega), htk, if_pos hbad]
  · have h0 : 0 < i := by omega
    unfold ip4C
    rw [hl2, if_neg (by omega), hpos h0, b0, if_neg (by omega), hhl2 h0, htk]
    by_cases hc : h.size < 20 ∨ h.size + body.length < h.size ∨ wordAt ((pktL h body).set i y) 2 < h.size ∨ h.size + body.length < wordAt ((pktL h body).set i y) 2
    · rw [if_pos hc]; exact .inl rfl
    · rw [if_neg hc, if_pos hbad]; exact .inr rfl
end Go.Proofs.Ytemocbcibnccpaa
