/- Tables kept in order, part by part; the order of prefixes, bit by bit. Of no program. -/
import Derived.Test.YtbbmckmhgggeeaaM9
namespace Go.Proofs.Ytbbmckmhgggeeaa
open Go

section
variable {K V : Type} {c : K → K → Int}
theorem getT_app (p : K) : ∀ (A B : List (K × V)), (∀ x ∈ A, c x.1 p < 0) → getT c p (A ++ B) = getT c p B
  | [], B, _ => rfl
  | x :: A, B, h => by
    rw [List.cons_append, getT, if_pos (h x (by simp)), getT_app p A B (fun y hy => h y (by simp [hy]))]
theorem getT_end (p : K) : ∀ (B C : List (K × V)), (∀ x ∈ C, 0 < c x.1 p) → getT c p (B ++ C) = getT c p B
  | [], [], _ => rfl
  | [], x :: C, h => by
    have := h x (by simp)
    show (if c x.1 p < 0 then _ else if c x.1 p = 0 then _ else none) = none
    rw [if_neg (by omega), if_neg (by omega)]
  | y :: B, C, h => by
    rw [List.cons_append, getT, getT, getT_end p B C h]
theorem putT_app (p : K) (v : V) : ∀ (A B : List (K × V)), (∀ x ∈ A, c x.1 p < 0) → putT c p v (A ++ B) = A ++ putT c p v B
  | [], B, _ => rfl
  | x :: A, B, h => by
    rw [List.cons_append, putT, if_pos (h x (by simp)), putT_app p v A B (fun y hy => h y (by simp [hy]))]
    rfl
theorem putT_end (p : K) (v : V) : ∀ (B C : List (K × V)), (∀ x ∈ C, 0 < c x.1 p) → putT c p v (B ++ C) = putT c p v B ++ C
  | [], [], _ => by simp
  | [], x :: C, h => by
    have := h x (by simp)
    show (if c x.1 p < 0 then _ else if c x.1 p = 0 then _ else (p, v) :: x :: C) = (p, v) :: x :: C
    rw [if_neg (by omega), if_neg (by omega)]
  | y :: B, C, h => by
    rw [List.cons_append, putT, putT, putT_end p v B C h]
    split
    · rfl
    · split <;> rfl
theorem delT_app (p : K) : ∀ (A B : List (K × V)), (∀ x ∈ A, c x.1 p < 0) → delT c p (A ++ B) = A ++ delT c p B
  | [], B, _ => rfl
  | x :: A, B, h => by
    rw [List.cons_append, delT, if_pos (h x (by simp)), delT_app p A B (fun y hy => h y (by simp [hy]))]
    rfl
theorem delT_end (p : K) : ∀ (B C : List (K × V)), (∀ x ∈ C, 0 < c x.1 p) → delT c p (B ++ C) = delT c p B ++ C
  | [], [], _ => by simp
  | [], x :: C, h => by
    have := h x (by simp)
    show (if c x.1 p < 0 then _ else if c x.1 p = 0 then _ else x :: C) = x :: C
    rw [if_neg (by omega), if_neg (by omega)]
  | y :: B, C, h => by
    rw [List.cons_append, delT, delT, delT_end p B C h]
    split
    · rfl
    · split <;> rfl
end

/-! The order, bit by bit. -/
theorem bit_lt (x y : UInt8) (j : Nat) (hj : j < 8) (h : ∀ i, i < j → x.toNat.testBit (7 - i) = y.toNat.testBit (7 - i)) (hx : x.toNat.testBit (7 - j) = false) (hy : y.toNat.testBit (7 - j) = true) : x.toNat < y.toNat := by
  obtain ⟨k, hk⟩ : ∃ k, 7 - j = k := ⟨_, rfl⟩
  rw [hk] at hx hy
  have e : x.toNat / 2 ^ (k + 1) = y.toNat / 2 ^ (k + 1) := by
    apply Nat.eq_of_testBit_eq
    intro i
    rw [Nat.testBit_div_two_pow, Nat.testBit_div_two_pow]
    by_cases h8 : i + (k + 1) < 8
    · have := h (7 - (i + (k + 1))) (by omega)
      rw [show 7 - (7 - (i + (k + 1))) = i + (k + 1) by omega] at this
      exact this
    · have h1 := UInt8.toNat_lt x
      have h2 := UInt8.toNat_lt y
      have h3 : 2 ^ 8 ≤ 2 ^ (i + (k + 1)) := Nat.pow_le_pow_right (by omega) (by omega)
      rw [Nat.testBit_lt_two_pow (by omega), Nat.testBit_lt_two_pow (by omega)]
  rw [Nat.testBit_eq_decide_div_mod_eq] at hx hy
  have hx2 := of_decide_eq_false hx
  have hy2 := of_decide_eq_true hy
  rw [Nat.pow_succ, ← Nat.div_div_eq_div_mul, ← Nat.div_div_eq_div_mul] at e
  rcases Nat.lt_or_ge x.toNat y.toNat with hlt | hge
  · exact hlt
  · have := Nat.div_le_div_right (c := 2 ^ k) hge
    omega
theorem bitL_low (x : UInt8) (l : List UInt8) (i : Nat) (hi : i < 8) : bitL (x :: l) i = x.toNat.testBit (7 - i) := by
  unfold bitL
  rw [show i / 8 = 0 by omega, show i % 8 = i by omega]
  rfl
theorem bitL_high (x : UInt8) (l : List UInt8) (i : Nat) : bitL (x :: l) (i + 8) = bitL l i := by
  unfold bitL
  rw [show (i + 8) / 8 = i / 8 + 1 by omega, show (i + 8) % 8 = i % 8 by omega]
  rfl
theorem cmpB_first : ∀ (l m : List UInt8) (n : Nat), l.length = m.length → n < 8 * l.length → (∀ i, i < n → bitL l i = bitL m i) → bitL l n = false → bitL m n = true → cmpB l m = -1
  | [], _, n, _, hn, _, _, _ => by simp at hn
  | _ :: _, [], _, h, _, _, _, _ => by simp at h
  | x :: l, y :: m, n, hl, hn, h, h0, h1 => by
    by_cases h8 : n < 8
    · have hlt := bit_lt x y n h8 (fun i hi => by
        have := h i hi
        rw [bitL_low x l i (by omega), bitL_low y m i (by omega)] at this
        exact this) (by rw [← bitL_low x l n h8]; exact h0) (by rw [← bitL_low y m n h8]; exact h1)
      unfold cmpB
      rw [if_pos hlt]
    · obtain ⟨k, rfl⟩ : ∃ k, n = k + 8 := ⟨n - 8, by omega⟩
      have hxy : x = y := byte_ext (fun j hj => by
        have := h (7 - j) (by omega)
        rw [bitL_low x l _ (by omega), bitL_low y m _ (by omega), show 7 - (7 - j) = j by omega] at this
        exact this)
      subst hxy
      unfold cmpB
      rw [if_neg (by omega), if_neg (by omega)]
      refine cmpB_first l m k (by simpa using hl) (by simp at hn; omega) (fun i hi => ?_) ?_ ?_
      · have := h (i + 8) (by omega)
        rw [bitL_high, bitL_high] at this
        exact this
      · rw [bitL_high] at h0; exact h0
      · rw [bitL_high] at h1; exact h1
theorem first_diff (l m : List UInt8) : ∀ N : Nat, (∀ i, i < N → bitL l i = bitL m i) ∨ ∃ n, n < N ∧ (∀ i, i < n → bitL l i = bitL m i) ∧ bitL l n ≠ bitL m n
  | 0 => .inl (fun i hi => by omega)
  | N + 1 => by
    rcases first_diff l m N with h | ⟨n, h1, h2, h3⟩
    · by_cases he : bitL l N = bitL m N
      · left
        intro i hi
        by_cases hn : i = N
        · subst hn; exact he
        · exact h i (by omega)
      · exact .inr ⟨N, by omega, h, he⟩
    · exact .inr ⟨n, by omega, h2, h3⟩
theorem addr_diff {l m : List UInt8} (hl : l.length = 16) (hm : m.length = 16) (hne : l ≠ m) : ∃ n, n < 128 ∧ (∀ i, i < n → bitL l i = bitL m i) ∧ bitL l n ≠ bitL m n := by
  rcases first_diff l m 128 with h | h
  · exact absurd (addr_ext hl hm h) hne
  · exact h
theorem eqP_of {p q : Pfx} (h : p.six = q.six ∧ p.addr = q.addr ∧ p.len = q.len) : p = q := by
  obtain ⟨a, b, d⟩ := p
  obtain ⟨e, f, g⟩ := q
  obtain ⟨rfl, rfl, rfl⟩ := h
  rfl
/-- What covers another one stands ahead of it. -/
theorem cov_lt {p q : Pfx} {six : Bool} (hp : okP six p) (hq : okP six q) (hc : covP p q = true) (hne : p ≠ q) : cmpP p q < 0 := by
  obtain ⟨_, c2, c3⟩ := (cov_iff p q).1 hc
  obtain ⟨_, p3⟩ := (chk_iff p).1 hp.2.2
  rw [cmpP_lt (hp.1.trans hq.1.symm)]
  by_cases ha : p.addr = q.addr
  · right
    rw [ha]
    refine ⟨cmpB_self _, ?_⟩
    rcases Int.lt_or_eq_of_le c2 with h | h
    · exact h
    · exfalso
      apply hne
      exact eqP_of ⟨hp.1.trans hq.1.symm, ha, h⟩
  · left
    obtain ⟨n, h1, h2, h3⟩ := addr_diff hp.2.1 hq.2.1 ha
    have hn : p.len ≤ (n : Int) := by
      rcases Int.lt_or_le (n : Int) p.len with h | h
      · exact absurd (c3 n h1 h) h3
      · exact h
    have h0 := p3 n h1 hn
    have h4 : bitL q.addr n = true := by
      rw [h0] at h3
      cases hb : bitL q.addr n
      · exact absurd hb.symm h3
      · rfl
    rw [cmpB_first p.addr q.addr n (hp.2.1.trans hq.2.1.symm) (by rw [hp.2.1]; omega) h2 h0 h4]
    omega
/-- Below a prefix what goes on with 0 stands ahead of what goes on with 1. -/
theorem side_lt {p q r : Pfx} {six : Bool} (hq : okP six q) (hr : okP six r) (cq : covP p q = true) (cr : covP p r = true) (n : Nat) (hn : p.len = (n : Int)) (hn2 : n < 128) (bq : bitL q.addr n = false) (br : bitL r.addr n = true) : cmpP q r < 0 := by
  have c1 := ((cov_iff p q).1 cq).2.2
  have c2 := ((cov_iff p r).1 cr).2.2
  rw [cmpP_lt (hq.1.trans hr.1.symm)]
  left
  rw [cmpB_first q.addr r.addr n (hq.2.1.trans hr.2.1.symm) (by rw [hq.2.1]; omega) (fun i hi => (c1 i (by omega) (by omega)).symm.trans (c2 i (by omega) (by omega))) bq br]
  omega
theorem cov_trans {p q r : Pfx} (h1 : covP p q = true) (h2 : covP q r = true) : covP p r = true := by
  obtain ⟨a1, a2, a3⟩ := (cov_iff p q).1 h1
  obtain ⟨b1, b2, b3⟩ := (cov_iff q r).1 h2
  exact (cov_iff p r).2 ⟨a1.trans b1, by omega, fun i hi hl => (a3 i hi hl).trans (b3 i hi (by omega))⟩
theorem cov_refl (p : Pfx) : covP p p = true := (cov_iff p p).2 ⟨rfl, Int.le_refl _, fun _ _ _ => rfl⟩
theorem cov_bit {p q r : Pfx} {n : Nat} (h : covP q r = true) (hn : p.len = (n : Int)) (hn2 : n < 128) (hl : p.len < q.len) : bitL r.addr n = bitL q.addr n := (((cov_iff q r).1 h).2.2 n hn2 (by omega)).symm
end Go.Proofs.Ytbbmckmhgggeeaa
