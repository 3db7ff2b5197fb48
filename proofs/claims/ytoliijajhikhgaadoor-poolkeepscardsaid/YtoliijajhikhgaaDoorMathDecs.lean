/- Plain facts on decimal digits, of no program. Plain facts on the decimal digits of numbers, of no program. -/
import Derived.Test.YtoliijajhikhgaaDoorMath
import Derived.Lib.ItoaNum
namespace Go.Proofs.YtoliijajhikhgaaDoor
open Go

def isDec (b : UInt8) : Bool := decide (48 ≤ b.toNat ∧ b.toNat ≤ 57)
def decStep (n : Int) (b : UInt8) : Int := n * 10 + ((b.toNat : Int) - 48)
def decV (l : List UInt8) : Int := l.foldl decStep 0
theorem decV_take_succ (l : List UInt8) (k : Nat) (h : k < l.length) : decV (l.take (k + 1)) = decV (l.take k) * 10 + (byteAt l k - 48) := by
  rw [take_succ_snoc l k h]; simp [decV, decStep, byteAt]
theorem dec_fold_ge : ∀ (l : List UInt8) (n : Int), l.all isDec = true → 0 ≤ n → n ≤ l.foldl decStep n
  | [], n, _, _ => by simp
  | b :: l, n, h, h0 => by
    simp only [List.all_cons, Bool.and_eq_true] at h
    have hb := of_decide_eq_true h.1
    have h1 : n ≤ decStep n b := by unfold decStep; omega
    have := dec_fold_ge l (decStep n b) h.2 (by omega)
    rw [List.foldl_cons]
    omega
theorem decV_nonneg (l : List UInt8) (h : l.all isDec = true) : 0 ≤ decV l := dec_fold_ge l 0 h (by omega)
theorem all_take {p : UInt8 → Bool} (l : List UInt8) (k : Nat) (h : l.all p = true) : (l.take k).all p = true := by
  rw [List.all_eq_true] at *
  intro x hx
  exact h x (List.mem_of_mem_take hx)
theorem all_drop {p : UInt8 → Bool} (l : List UInt8) (k : Nat) (h : l.all p = true) : (l.drop k).all p = true := by
  rw [List.all_eq_true] at *
  intro x hx
  exact h x (List.mem_of_mem_drop hx)
theorem decV_take_le (l : List UInt8) (k : Nat) (h : l.all isDec = true) : decV (l.take k) ≤ decV l := by
  have e : decV l = (l.drop k).foldl decStep (decV (l.take k)) := by
    unfold decV
    rw [← List.foldl_append, List.take_append_drop]
  rw [e]
  exact dec_fold_ge _ _ (all_drop l k h) (decV_nonneg _ (all_take l k h))
theorem isDec_iff (b : UInt8) : isDec b = true ↔ 48 ≤ (b.toNat : Int) ∧ (b.toNat : Int) ≤ 57 := by unfold isDec; rw [decide_eq_true_iff]; omega
theorem all_take_succ {p : UInt8 → Bool} (l : List UInt8) (k : Nat) (hk : k < l.length) (h : (l.take k).all p = true) (hp : p (l.getD k 0) = true) : (l.take (k + 1)).all p = true := by
  rw [take_succ_snoc l k hk, List.all_append, h]
  simp only [List.all_cons, List.all_nil, hp, Bool.and_self]
theorem all_at {p : UInt8 → Bool} (l : List UInt8) (k : Nat) (hk : k < l.length) (h : l.all p = true) : p (l.getD k 0) = true := by
  rw [List.all_eq_true] at h
  have : l.getD k 0 = l[k] := by simp [List.getD, hk]
  rw [this]
  exact h _ (List.getElem_mem hk)

/-- Is l the digits of a number from 0 to most? -/
def numB (l : List UInt8) (most : Int) : Bool := !l.isEmpty && !(decide (1 < l.length) && decide (byteAt l 0 = 48)) && l.all isDec && decide (decV l ≤ most)
def numV (l : List UInt8) (most : Int) : Int := if numB l most then decV l else 0
theorem numV_no {l : List UInt8} {most : Int} (h : numB l most = false) : numV l most = 0 := by unfold numV; rw [h]; rfl
theorem numV_yes {l : List UInt8} {most : Int} (h : numB l most = true) : numV l most = decV l := by unfold numV; rw [if_pos h]
theorem numB_empty (most : Int) : numB [] most = false := rfl
theorem numB_zero {l : List UInt8} {most : Int} (h1 : 1 < l.length) (h2 : byteAt l 0 = 48) : numB l most = false := by
  unfold numB; rw [decide_eq_true h1, decide_eq_true h2]; simp
theorem numB_sign {l : List UInt8} {most : Int} (k : Nat) (hk : k < l.length) (h : ¬ (48 ≤ byteAt l k ∧ byteAt l k ≤ 57)) : numB l most = false := by
  have : l.all isDec = false := by
    rw [Bool.eq_false_iff]
    intro ha
    have := all_at l k hk ha
    rw [isDec_iff] at this
    exact h this
  unfold numB; rw [this]; simp
theorem numB_great {l : List UInt8} {most : Int} (k : Nat) (h : most < decV (l.take k)) : numB l most = false := by
  cases ha : l.all isDec
  · unfold numB; rw [ha]; simp
  · have := decV_take_le l k ha
    unfold numB; rw [decide_eq_false (show ¬ decV l ≤ most by omega)]; simp
theorem numB_yes {l : List UInt8} {most : Int} (h0 : l ≠ []) (h1 : ¬ (1 < l.length ∧ byteAt l 0 = 48)) (h2 : l.all isDec = true) (h3 : decV l ≤ most) : numB l most = true := by
  have e1 : l.isEmpty = false := by cases l with | nil => exact absurd rfl h0 | cons _ _ => rfl
  have e2 : (decide (1 < l.length) && decide (byteAt l 0 = 48)) = false := by
    rw [Bool.eq_false_iff]; intro h; rw [Bool.and_eq_true, decide_eq_true_iff, decide_eq_true_iff] at h; exact h1 h
  unfold numB; rw [e1, e2, h2, decide_eq_true h3]; rfl
end Go.Proofs.YtoliijajhikhgaaDoor
namespace Go.Proofs.YtoliijajhikhgaaDoor
open Go

theorem decD_small {u : Nat} (h : u < 10) : Lib.decDigits u = [UInt8.ofNat (48 + u)] := by rw [Lib.decDigits, dif_pos h]
theorem decD_big {u : Nat} (h : 10 ≤ u) : Lib.decDigits u = Lib.decDigits (u / 10) ++ [UInt8.ofNat (48 + u % 10)] := by rw [Lib.decDigits, dif_neg (by omega)]
theorem dig_toNat (d : Nat) (h : d < 10) : (UInt8.ofNat (48 + d)).toNat = 48 + d := UInt8.toNat_ofNat_of_lt' (show 48 + d < 256 by omega)
theorem decV_snoc (l : List UInt8) (b : UInt8) : decV (l ++ [b]) = decV l * 10 + ((b.toNat : Int) - 48) := by simp [decV, decStep]
theorem decV_decD (u : Nat) : decV (Lib.decDigits u) = u := by
  induction u using Nat.strongRecOn with
  | _ u ih =>
    by_cases h : u < 10
    · rw [decD_small h]
      simp only [decV, List.foldl_cons, List.foldl_nil, decStep, dig_toNat u h]
      omega
    · rw [decD_big (by omega), decV_snoc, ih (u / 10) (by omega), dig_toNat _ (by omega)]
      omega
theorem isDec_dig (d : Nat) (h : d < 10) : isDec (UInt8.ofNat (48 + d)) = true := by
  unfold isDec; rw [dig_toNat d h]; exact decide_eq_true (by omega)
theorem all_decD (u : Nat) : (Lib.decDigits u).all isDec = true := by
  induction u using Nat.strongRecOn with
  | _ u ih =>
    by_cases h : u < 10
    · rw [decD_small h]
      simp only [List.all_cons, List.all_nil, Bool.and_true]
      exact isDec_dig u h
    · rw [decD_big (by omega), List.all_append, ih (u / 10) (by omega)]
      simp only [List.all_cons, List.all_nil, Bool.and_true, Bool.true_and]
      exact isDec_dig _ (by omega)
theorem decD_pos (u : Nat) : 1 ≤ (Lib.decDigits u).length := by
  by_cases h : u < 10
  · rw [decD_small h]; simp
  · rw [decD_big (by omega)]; simp
theorem byteAt_append (p r : List UInt8) (h : 1 ≤ p.length) : byteAt (p ++ r) 0 = byteAt p 0 := by
  unfold byteAt
  rw [List.getD, List.getD, List.getElem?_append_left (by omega)]
theorem head_decD (u : Nat) (h1 : 1 ≤ u) : byteAt (Lib.decDigits u) 0 ≠ 48 := by
  induction u using Nat.strongRecOn with
  | _ u ih =>
    by_cases h : u < 10
    · rw [decD_small h]
      have := dig_toNat u h
      simp only [byteAt, List.getD, List.getElem?_cons_zero, Option.getD_some]
      omega
    · rw [decD_big (by omega), byteAt_append _ _ (decD_pos _)]
      exact ih (u / 10) (by omega) (by omega)
theorem lead_decD (u : Nat) : ¬ (1 < (Lib.decDigits u).length ∧ byteAt (Lib.decDigits u) 0 = 48) := by
  rintro ⟨h1, h2⟩
  by_cases h : u = 0
  · subst h; rw [decD_small (by omega)] at h1; simp at h1
  · exact head_decD u (by omega) h2
theorem decV_cons (b : UInt8) (r : List UInt8) : decV (b :: r) = ((b.toNat : Int) - 48) * 10 ^ r.length + decV r := by
  have gen : ∀ (l : List UInt8) (n : Int), l.foldl decStep n = n * 10 ^ l.length + l.foldl decStep 0 := by
    intro l
    induction l with
    | nil => intro n; simp
    | cons y l ih =>
      intro n
      rw [List.foldl_cons, List.foldl_cons, ih (decStep n y), ih (decStep 0 y), List.length_cons, Int.pow_succ]
      unfold decStep
      rw [Int.zero_mul, Int.zero_add, Int.add_mul, Int.mul_assoc, Int.mul_comm 10, Int.add_assoc]
  show (b :: r).foldl decStep 0 = _
  rw [List.foldl_cons, gen r (decStep 0 b), show decStep 0 b = (b.toNat : Int) - 48 by unfold decStep; omega]
  rfl
theorem decV_ge {l : List UInt8} (hn : 1 ≤ l.length) (ha : l.all isDec = true) (h0 : byteAt l 0 ≠ 48) : (10 : Int) ^ (l.length - 1) ≤ decV l := by
  rcases l with _ | ⟨b, r⟩
  · simp at hn
  · have hb := all_at (b :: r) 0 (by simp) ha
    rw [isDec_iff] at hb
    simp only [byteAt, List.getD, List.getElem?_cons_zero, Option.getD_some] at h0 hb
    have hr : r.all isDec = true := by simp only [List.all_cons, Bool.and_eq_true] at ha; exact ha.2
    have h2 := decV_nonneg r hr
    rw [decV_cons, List.length_cons, Nat.add_sub_cancel]
    have hp : (0 : Int) ≤ 10 ^ r.length := Int.le_of_lt (Int.pow_pos (by decide))
    have h3 : 1 * (10 : Int) ^ r.length ≤ ((b.toNat : Int) - 48) * 10 ^ r.length := Int.mul_le_mul_of_nonneg_right (by omega) hp
    rw [Int.one_mul] at h3
    omega
theorem canon_aux : ∀ (n : Nat) (l : List UInt8), l.length = n + 1 → l.all isDec = true → ¬ (1 < l.length ∧ byteAt l 0 = 48) → Lib.decDigits (decV l).toNat = l
  | 0, l, hn, ha, _ => by
    obtain ⟨b, rfl⟩ := List.length_eq_one_iff.1 hn
    have hb := all_at [b] 0 (by simp) ha
    rw [isDec_iff] at hb
    simp only [List.getD, List.getElem?_cons_zero, Option.getD_some] at hb
    have e : (decV [b]).toNat = b.toNat - 48 := by simp only [decV, List.foldl_cons, List.foldl_nil, decStep]; omega
    rw [e, decD_small (by omega), show 48 + (b.toNat - 48) = b.toNat by omega]
    simp
  | n + 1, l, hn, ha, hl => by
    have hne : l ≠ [] := by intro e; rw [e] at hn; simp at hn
    have el := List.dropLast_concat_getLast hne
    generalize l.dropLast = p at el
    generalize l.getLast hne = b at el
    subst el
    rw [List.length_append, List.length_singleton] at hn hl
    have hp : p.length = n + 1 := by omega
    rw [List.all_append, Bool.and_eq_true] at ha
    have hb := ha.2
    simp only [List.all_cons, List.all_nil, Bool.and_true] at hb
    rw [isDec_iff] at hb
    rw [byteAt_append p [b] (by omega)] at hl
    have h0 : byteAt p 0 ≠ 48 := fun e => hl ⟨by omega, e⟩
    have ih := canon_aux n p hp ha.1 (fun h => h0 h.2)
    have hge := decV_ge (by omega) ha.1 h0
    have hpos : (1 : Int) ≤ 10 ^ (p.length - 1) := by have := Int.pow_pos (n := 10) (m := p.length - 1) (by decide); omega
    rw [decV_snoc, decD_big (by omega)]
    rw [show (decV p * 10 + ((b.toNat : Int) - 48)).toNat / 10 = (decV p).toNat by omega, ih, show (decV p * 10 + ((b.toNat : Int) - 48)).toNat % 10 = b.toNat - 48 by omega, show 48 + (b.toNat - 48) = b.toNat by omega]
    simp
theorem canon {l : List UInt8} (h0 : l ≠ []) (ha : l.all isDec = true) (hl : ¬ (1 < l.length ∧ byteAt l 0 = 48)) : Lib.decDigits (decV l).toNat = l := by
  have : 1 ≤ l.length := by rcases l with _ | ⟨b, r⟩; exact absurd rfl h0; simp
  exact canon_aux (l.length - 1) l (by omega) ha hl
theorem itoa_nn {n : Int} (h : 0 ≤ n) : Lib.itoa n = Lib.decDigits n.toNat := by unfold Lib.itoa; rw [if_neg (by omega)]
theorem numB_parts {l : List UInt8} {most : Int} (h : numB l most = true) : l ≠ [] ∧ ¬ (1 < l.length ∧ byteAt l 0 = 48) ∧ l.all isDec = true ∧ decV l ≤ most := by
  unfold numB at h
  simp only [Bool.and_eq_true, Bool.not_eq_true', decide_eq_true_iff] at h
  obtain ⟨⟨⟨h1, h2⟩, h3⟩, h4⟩ := h
  refine ⟨fun e => (by rw [e] at h1; simp at h1), fun hc => ?_, h3, h4⟩
  rw [decide_eq_true hc.1, decide_eq_true hc.2] at h2
  cases h2
/-- A text of more than 19 signs is no number that an int holds. -/
theorem numB_long {l : List UInt8} {most : Int} (hl : 19 < l.length) (hm : most ≤ 9223372036854775807) : numB l most = false := by
  rw [Bool.eq_false_iff]
  intro h
  obtain ⟨_, h2, h3, h4⟩ := numB_parts h
  have h5 := decV_ge (by omega) h3 (fun e => h2 ⟨by omega, e⟩)
  have h6 : 10 ^ 19 ≤ 10 ^ (l.length - 1) := Nat.pow_le_pow_right (by decide) (by omega)
  have h7 : 10 ^ 19 = 10000000000000000000 := by decide
  have h8 : ((10 ^ (l.length - 1) : Nat) : Int) ≤ decV l := by rw [Int.natCast_pow]; exact h5
  omega
theorem numB_itoa {l : List UInt8} {most : Int} (ha : l.all isDec = true) (h0 : l ≠ []) : numB l most = (decide (Lib.itoa (decV l) = l) && decide (decV l ≤ most)) := by
  rw [itoa_nn (decV_nonneg l ha)]
  cases h : numB l most
  · rw [eq_comm, Bool.and_eq_false_iff]
    by_cases he : Lib.decDigits (decV l).toNat = l
    · right
      refine decide_eq_false fun hm => ?_
      have hlead := lead_decD (decV l).toNat
      rw [he] at hlead
      rw [numB_yes h0 hlead ha hm] at h
      cases h
    · exact .inl (decide_eq_false he)
  · obtain ⟨h1, h2, h3, h4⟩ := numB_parts h
    rw [decide_eq_true (canon h1 h3 h2), decide_eq_true h4]
    rfl
theorem numB_digits (n : Int) (h : 0 ≤ n) : numB (Lib.itoa n) n = true ∧ numV (Lib.itoa n) n = n := by
  have e : decV (Lib.itoa n) = n := by rw [itoa_nn h, decV_decD]; omega
  have hB : numB (Lib.itoa n) n = true := by
    rw [itoa_nn h] at e ⊢
    refine numB_yes (fun hc => ?_) (lead_decD _) (all_decD _) (by omega)
    have := decD_pos n.toNat
    rw [hc] at this
    simp at this
  exact ⟨hB, by rw [numV_yes hB, e]⟩
end Go.Proofs.YtoliijajhikhgaaDoor
