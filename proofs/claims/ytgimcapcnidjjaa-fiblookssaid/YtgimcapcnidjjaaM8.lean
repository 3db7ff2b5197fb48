/- Prefixes: addresses of sixteen bytes bit by bit, of no program. -/
import Derived.Test.YtgimcapcnidjjaaMath
namespace Go.Proofs.Ytgimcapcnidjjaa
open Go

/-- Bit i of an address, the highest one of its first byte first. -/
def bitL (l : List UInt8) (i : Nat) : Bool := (l.getD (i / 8) 0).toNat.testBit (7 - i % 8)
/-- A byte's first k bits. -/
def maskB (x : UInt8) (k : Nat) : UInt8 := UInt8.ofNat (x.toNat / 2 ^ (8 - k) * 2 ^ (8 - k))
/-- An address's first n bits. -/
def maskL (l : List UInt8) (n : Nat) : List UInt8 := (List.range 16).map fun k => maskB (l.getD k 0) (min 8 (n - 8 * k))
theorem maskL_length (l : List UInt8) (n : Nat) : (maskL l n).length = 16 := by simp [maskL]
theorem maskB_toNat (x : UInt8) (k : Nat) : (maskB x k).toNat = x.toNat / 2 ^ (8 - k) * 2 ^ (8 - k) := by
  have h := UInt8.toNat_lt x
  have h2 : x.toNat / 2 ^ (8 - k) * 2 ^ (8 - k) ≤ x.toNat := Nat.div_mul_le_self _ _
  exact UInt8.toNat_ofNat_of_lt' (show x.toNat / 2 ^ (8 - k) * 2 ^ (8 - k) < 256 by omega)
theorem maskB_bit (x : UInt8) (k j : Nat) (hj : j < 8) : (maskB x k).toNat.testBit (7 - j) = (decide (j < k) && x.toNat.testBit (7 - j)) := by
  rw [maskB_toNat, Nat.mul_comm, Nat.testBit_two_pow_mul, Nat.testBit_div_two_pow]
  by_cases hk : j < k
  · rw [decide_eq_true hk, decide_eq_true (by omega), Nat.sub_add_cancel (by omega)]
  · rw [decide_eq_false hk, decide_eq_false (by omega)]
    rfl
theorem maskL_bit (l : List UInt8) (n i : Nat) (hi : i < 128) : bitL (maskL l n) i = (decide (i < n) && bitL l i) := by
  have h1 : (maskL l n).getD (i / 8) 0 = maskB (l.getD (i / 8) 0) (min 8 (n - 8 * (i / 8))) := by
    unfold maskL
    rw [List.getD, List.getElem?_map, List.getElem?_range (by omega)]
    rfl
  unfold bitL
  rw [h1, maskB_bit _ _ _ (by omega)]
  congr 1
  apply decide_eq_decide.2
  omega
theorem byte_ext {x y : UInt8} (h : ∀ j, j < 8 → x.toNat.testBit j = y.toNat.testBit j) : x = y := by
  apply UInt8.toNat.inj
  apply Nat.eq_of_testBit_eq
  intro j
  by_cases hj : j < 8
  · exact h j hj
  · have hx := UInt8.toNat_lt x
    have hy := UInt8.toNat_lt y
    have h2 : 2 ^ 8 ≤ 2 ^ j := Nat.pow_le_pow_right (by omega) (by omega)
    rw [Nat.testBit_lt_two_pow (by omega), Nat.testBit_lt_two_pow (by omega)]
/-- An address is told by its bits. -/
theorem addr_ext {l m : List UInt8} (hl : l.length = 16) (hm : m.length = 16) (h : ∀ i : Nat, i < 128 → bitL l i = bitL m i) : l = m := by
  apply List.ext_getElem (by omega)
  intro k h1 h2
  apply byte_ext
  intro j hj
  have := h (8 * k + (7 - j)) (by omega)
  unfold bitL at this
  rw [show (8 * k + (7 - j)) / 8 = k by omega, show 7 - (8 * k + (7 - j)) % 8 = j by omega] at this
  simpa [List.getD, h1, h2] using this

structure Pfx where
  six : Bool
  addr : List UInt8
  len : Int
def mostP (six : Bool) : Int := if six then 128 else 32
/-- It may be. -/
def chkP (p : Pfx) : Bool := decide (0 ≤ p.len ∧ p.len ≤ mostP p.six) && (List.range 128).all fun i => decide ((i : Int) < p.len) || !bitL p.addr i
def clampP (six : Bool) (n : Int) : Int := min (max n 0) (mostP six)
def ofP (six : Bool) (a : List UInt8) (n : Int) : Pfx := ⟨six, maskL a (clampP six n).toNat, clampP six n⟩
def hasP (p : Pfx) (a : List UInt8) : Bool := (List.range 128).all fun i => decide (p.len ≤ (i : Int)) || (bitL p.addr i == bitL a i)
def covP (p q : Pfx) : Bool := (p.six == q.six) && decide (p.len ≤ q.len) && hasP p q.addr
theorem clamp_le (six : Bool) (n : Int) : 0 ≤ clampP six n ∧ clampP six n ≤ mostP six ∧ mostP six ≤ 128 := by
  unfold clampP mostP
  cases six <;> simp <;> omega
theorem has_iff (p : Pfx) (a : List UInt8) : hasP p a = true ↔ ∀ i : Nat, i < 128 → (i : Int) < p.len → bitL p.addr i = bitL a i := by
  unfold hasP
  rw [List.all_eq_true]
  constructor
  · intro h i hi hl
    have := h i (List.mem_range.2 hi)
    rw [Bool.or_eq_true, decide_eq_true_iff, beq_iff_eq] at this
    rcases this with h1 | h1
    · omega
    · exact h1
  · intro h i hi
    rw [Bool.or_eq_true, decide_eq_true_iff, beq_iff_eq]
    by_cases hl : (i : Int) < p.len
    · exact .inr (h i (List.mem_range.1 hi) hl)
    · exact .inl (by omega)
theorem chk_iff (p : Pfx) : chkP p = true ↔ (0 ≤ p.len ∧ p.len ≤ mostP p.six) ∧ ∀ i : Nat, i < 128 → p.len ≤ (i : Int) → bitL p.addr i = false := by
  unfold chkP
  rw [Bool.and_eq_true, decide_eq_true_iff, List.all_eq_true]
  constructor
  · rintro ⟨h1, h2⟩
    refine ⟨h1, fun i hi hl => ?_⟩
    have := h2 i (List.mem_range.2 hi)
    rw [decide_eq_false (by omega)] at this
    simpa using this
  · rintro ⟨h1, h2⟩
    refine ⟨h1, fun i hi => ?_⟩
    by_cases hl : (i : Int) < p.len
    · rw [decide_eq_true hl]; rfl
    · rw [h2 i (List.mem_range.1 hi) (by omega)]; simp
theorem cov_iff (p q : Pfx) : covP p q = true ↔ p.six = q.six ∧ p.len ≤ q.len ∧ ∀ i : Nat, i < 128 → (i : Int) < p.len → bitL p.addr i = bitL q.addr i := by
  unfold covP
  rw [Bool.and_eq_true, Bool.and_eq_true, beq_iff_eq, decide_eq_true_iff, has_iff, and_assoc]
theorem of_bit (six : Bool) (a : List UInt8) (n : Int) (i : Nat) (hi : i < 128) : bitL (ofP six a n).addr i = (decide ((i : Int) < clampP six n) && bitL a i) := by
  show bitL (maskL a (clampP six n).toNat) i = _
  rw [maskL_bit a _ i hi]
  congr 1
  apply decide_eq_decide.2
  omega
/-- What is made of an address may be, and has it. -/
theorem of_chk (six : Bool) (a : List UInt8) (n : Int) : chkP (ofP six a n) = true := by
  have h := clamp_le six n
  rw [chk_iff]
  refine ⟨⟨h.1, h.2.1⟩, fun i hi hl => ?_⟩
  rw [of_bit six a n i hi, decide_eq_false (by have : clampP six n ≤ i := hl; omega)]
  rfl
theorem of_has (six : Bool) (a : List UInt8) (n : Int) : hasP (ofP six a n) a = true := by
  rw [has_iff]
  intro i hi hl
  rw [of_bit six a n i hi, decide_eq_true (show (i : Int) < clampP six n from hl)]
  rfl

/-! One covers the other one, or no address is of both. -/
theorem cov_or {p q : Pfx} (h6 : p.six = q.six) (a : List UInt8) (hp : hasP p a = true) (hq : hasP q a = true) : covP p q = true ∨ covP q p = true := by
  rw [has_iff] at hp hq
  rcases Int.le_total p.len q.len with h | h
  · exact .inl ((cov_iff p q).2 ⟨h6, h, fun i hi hl => (hp i hi hl).trans (hq i hi (by omega)).symm⟩)
  · exact .inr ((cov_iff q p).2 ⟨h6.symm, h, fun i hi hl => (hq i hi hl).trans (hp i hi (by omega)).symm⟩)
theorem cov_has {p q : Pfx} (h : covP p q = true) {a : List UInt8} (hq : hasP q a = true) : hasP p a = true := by
  rw [cov_iff] at h
  rw [has_iff] at hq ⊢
  exact fun i hi hl => (h.2.2 i hi hl).trans (hq i hi (by omega))
theorem cov_same {p q : Pfx} (hp : chkP p = true) (hq : chkP q = true) (lp : p.addr.length = 16) (lq : q.addr.length = 16) (h1 : covP p q = true) (h2 : covP q p = true) : p = q := by
  rw [cov_iff] at h1 h2
  rw [chk_iff] at hp hq
  obtain ⟨s1, a1, n1⟩ := p
  obtain ⟨s2, a2, n2⟩ := q
  simp only at *
  obtain rfl := h1.1
  obtain rfl : n1 = n2 := by omega
  have : a1 = a2 := addr_ext lp lq (fun i hi => by
    by_cases hl : (i : Int) < n1
    · exact h1.2.2 i hi hl
    · rw [hp.2 i hi (by omega), hq.2 i hi (by omega)])
  rw [this]
/-- How many first bits they have in common. -/
def comF (p q : Pfx) : Nat → Nat → Nat
  | 0, n => n
  | f + 1, n => if (n : Int) < p.len ∧ (n : Int) < q.len ∧ n < 128 ∧ bitL p.addr n = bitL q.addr n then comF p q f (n + 1) else n
def comP (p q : Pfx) : Nat := comF p q 128 0
theorem com_ok (p q : Pfx) (hp : 0 ≤ p.len) (hq : 0 ≤ q.len) : ∀ f n : Nat, n + f = 128 → (n : Int) ≤ p.len → (n : Int) ≤ q.len → (∀ i : Nat, i < n → bitL p.addr i = bitL q.addr i) →
    n ≤ comF p q f n ∧ comF p q f n ≤ 128 ∧ (comF p q f n : Int) ≤ p.len ∧ (comF p q f n : Int) ≤ q.len ∧ (∀ i : Nat, i < comF p q f n → bitL p.addr i = bitL q.addr i) ∧
      ¬ ((comF p q f n : Int) < p.len ∧ (comF p q f n : Int) < q.len ∧ comF p q f n < 128 ∧ bitL p.addr (comF p q f n) = bitL q.addr (comF p q f n))
  | 0, n, hn, h1, h2, h3 => by
    unfold comF
    exact ⟨Nat.le_refl _, by omega, h1, h2, h3, fun h => by omega⟩
  | f + 1, n, hn, h1, h2, h3 => by
    unfold comF
    by_cases h : (n : Int) < p.len ∧ (n : Int) < q.len ∧ n < 128 ∧ bitL p.addr n = bitL q.addr n
    · rw [if_pos h]
      have ih := com_ok p q hp hq f (n + 1) (by omega) (by omega) (by omega) (fun i hi => by
        by_cases he : i = n
        · subst he; exact h.2.2.2
        · exact h3 i (by omega))
      exact ⟨by omega, ih.2⟩
    · rw [if_neg h]
      exact ⟨Nat.le_refl _, by omega, h1, h2, h3, h⟩
/-- The common one covers both, and is the longest that does. -/
theorem com_cov {p q : Pfx} (h6 : p.six = q.six) (hp : chkP p = true) (hq : chkP q = true) :
    chkP (ofP p.six p.addr (comP p q)) = true ∧ covP (ofP p.six p.addr (comP p q)) p = true ∧ covP (ofP p.six p.addr (comP p q)) q = true ∧ (ofP p.six p.addr (comP p q)).len = comP p q ∧
      (ofP p.six p.addr ((comP p q : Int) + 1) = ofP p.six p.addr (comP p q) ∨ ¬ (covP (ofP p.six p.addr ((comP p q : Int) + 1)) p = true ∧ covP (ofP p.six p.addr ((comP p q : Int) + 1)) q = true)) := by
  have cp := (chk_iff p).1 hp
  have cq := (chk_iff q).1 hq
  obtain ⟨-, c1, c2, c3, c4, c5⟩ := com_ok p q cp.1.1 cq.1.1 128 0 rfl (by have := cp.1.1; omega) (by have := cq.1.1; omega) (fun i hi => by omega)
  change comP p q ≤ 128 at c1
  change (comP p q : Int) ≤ p.len at c2
  change (comP p q : Int) ≤ q.len at c3
  change ∀ i : Nat, i < comP p q → bitL p.addr i = bitL q.addr i at c4
  change ¬ ((comP p q : Int) < p.len ∧ (comP p q : Int) < q.len ∧ comP p q < 128 ∧ bitL p.addr (comP p q) = bitL q.addr (comP p q)) at c5
  generalize comP p q = n at *
  have hm := clamp_le p.six 0
  have hc : clampP p.six (n : Int) = n := by
    have := cp.1.2
    unfold clampP
    omega
  have hl : (ofP p.six p.addr (n : Int)).len = n := hc
  refine ⟨of_chk _ _ _, ?_, ?_, hl, ?_⟩
  · rw [cov_iff]
    refine ⟨rfl, by rw [hl]; exact c2, fun i hi hil => ?_⟩
    rw [of_bit _ _ _ i hi, decide_eq_true (show (i : Int) < clampP p.six n from hil)]
    rfl
  · rw [cov_iff]
    refine ⟨h6, by rw [hl]; exact c3, fun i hi hil => ?_⟩
    have h2 : (i : Int) < clampP p.six n := hil
    rw [of_bit _ _ _ i hi, decide_eq_true h2, Bool.true_and]
    exact c4 i (by omega)
  · by_cases ht : (n : Int) + 1 ≤ mostP p.six
    · right
      have hc1 : clampP p.six ((n : Int) + 1) = n + 1 := by unfold clampP; omega
      rintro ⟨h1, h2⟩
      rw [cov_iff] at h1 h2
      have l1 : (ofP p.six p.addr ((n : Int) + 1)).len = (n : Int) + 1 := hc1
      rw [l1] at h1 h2
      have hn : n < 128 := by omega
      have e1 := h1.2.2 n hn (by omega)
      have e2 := h2.2.2 n hn (by omega)
      exact c5 ⟨by omega, by omega, hn, e1.symm.trans e2⟩
    · left
      have hc1 : clampP p.six ((n : Int) + 1) = n := by
        have := cp.1.2
        unfold clampP
        omega
      unfold ofP
      rw [hc1, hc]
/-- First bits of first bits. -/
theorem of_of (six : Bool) (a : List UInt8) (m n : Int) : ofP six (ofP six a n).addr (min m (ofP six a n).len) = ofP six a (min m n) := by
  have hm := clamp_le six n
  have e1 : (ofP six a n).len = clampP six n := rfl
  have hc : clampP six (min m (clampP six n)) = clampP six (min m n) := by unfold clampP at *; omega
  rw [e1]
  unfold ofP
  rw [hc]
  congr 1
  apply addr_ext (maskL_length _ _) (maskL_length _ _)
  intro i hi
  rw [maskL_bit _ _ i hi, maskL_bit _ _ i hi, maskL_bit _ _ i hi]
  by_cases h : i < (clampP six (min m n)).toNat
  · have h2 : i < (clampP six n).toNat := by unfold clampP at *; omega
    rw [decide_eq_true h, decide_eq_true h2]
    rfl
  · rw [decide_eq_false h]
    rfl
theorem of_cov (six : Bool) (a : List UInt8) (m n : Int) (h : m ≤ n) : covP (ofP six a m) (ofP six a n) = true := by
  have hc : clampP six m ≤ clampP six n := by unfold clampP; omega
  rw [cov_iff]
  refine ⟨rfl, hc, fun i hi hl => ?_⟩
  have h1 : (i : Int) < clampP six m := hl
  rw [of_bit six a m i hi, of_bit six a n i hi, decide_eq_true h1, decide_eq_true (by omega)]

/-! The order. -/
def cmpB : List UInt8 → List UInt8 → Int
  | x :: l, y :: m => if x.toNat < y.toNat then -1 else if y.toNat < x.toNat then 1 else cmpB l m
  | _, _ => 0
def cmpP (p q : Pfx) : Int :=
  if p.six ≠ q.six then (if q.six then -1 else 1) else if cmpB p.addr q.addr ≠ 0 then cmpB p.addr q.addr else if p.len < q.len then -1 else if q.len < p.len then 1 else 0
theorem cmpB_anti : ∀ (l m : List UInt8), cmpB m l = - cmpB l m
  | [], [] => rfl
  | [], _ :: _ => rfl
  | _ :: _, [] => rfl
  | x :: l, y :: m => by
    unfold cmpB
    rcases Nat.lt_trichotomy x.toNat y.toNat with h | h | h
    · rw [if_neg (by omega), if_pos h, if_pos h]
      rfl
    · rw [if_neg (by omega), if_neg (by omega), if_neg (by omega), if_neg (by omega)]
      exact cmpB_anti l m
    · rw [if_pos h, if_neg (by omega), if_pos h]
theorem cmpB_zero : ∀ (l m : List UInt8), l.length = m.length → cmpB l m = 0 → l = m
  | [], [], _, _ => rfl
  | [], _ :: _, h, _ => by simp at h
  | _ :: _, [], h, _ => by simp at h
  | x :: l, y :: m, h, h0 => by
    unfold cmpB at h0
    by_cases h1 : x.toNat < y.toNat
    · rw [if_pos h1] at h0; cases h0
    · rw [if_neg h1] at h0
      by_cases h2 : y.toNat < x.toNat
      · rw [if_pos h2] at h0; cases h0
      · rw [if_neg h2] at h0
        have : x = y := UInt8.toNat.inj (by omega)
        rw [this, cmpB_zero l m (by simpa using h) h0]
theorem cmpP_six {p q : Pfx} (h : p.six = q.six) : cmpP p q = if cmpB p.addr q.addr ≠ 0 then cmpB p.addr q.addr else if p.len < q.len then -1 else if q.len < p.len then 1 else 0 := by
  unfold cmpP
  rw [if_neg (fun hn => hn h)]
theorem cmpP_kind {p q : Pfx} (h : p.six ≠ q.six) : cmpP p q = if q.six then -1 else 1 := by
  unfold cmpP
  rw [if_pos h]
theorem cmpP_anti (p q : Pfx) : cmpP q p = - cmpP p q := by
  by_cases h : p.six = q.six
  · rw [cmpP_six h, cmpP_six h.symm, cmpB_anti p.addr q.addr]
    by_cases hc : cmpB p.addr q.addr = 0
    · rw [hc]
      simp only [Int.neg_zero, ne_eq, not_true_eq_false, if_false]
      split <;> split <;> omega
    · rw [if_pos (by omega), if_pos hc]
  · rw [cmpP_kind h, cmpP_kind (fun e => h e.symm)]
    cases hp : p.six <;> cases hq : q.six
    · exact absurd (hp.trans hq.symm) h
    · rfl
    · rfl
    · exact absurd (hp.trans hq.symm) h
theorem cmpP_zero {p q : Pfx} (hl : p.addr.length = q.addr.length) (h : cmpP p q = 0) : p = q := by
  unfold cmpP at h
  by_cases h6 : p.six = q.six
  · rw [if_neg (by simp [h6])] at h
    by_cases hc : cmpB p.addr q.addr = 0
    · rw [if_neg (by simp [hc])] at h
      have ha := cmpB_zero _ _ hl hc
      have hn : p.len = q.len := by
        by_cases h1 : p.len < q.len
        · rw [if_pos h1] at h; cases h
        · rw [if_neg h1] at h
          by_cases h2 : q.len < p.len
          · rw [if_pos h2] at h; cases h
          · omega
      obtain ⟨_, _, _⟩ := p
      obtain ⟨_, _, _⟩ := q
      simp only at *
      rw [h6, ha, hn]
    · rw [if_pos hc] at h; exact absurd h hc
  · rw [if_pos (by simpa using h6)] at h
    split at h <;> cases h
theorem cmpB_self : ∀ l : List UInt8, cmpB l l = 0
  | [] => rfl
  | x :: l => by
    unfold cmpB
    rw [if_neg (by omega), if_neg (by omega), cmpB_self l]
end Go.Proofs.Ytgimcapcnidjjaa
