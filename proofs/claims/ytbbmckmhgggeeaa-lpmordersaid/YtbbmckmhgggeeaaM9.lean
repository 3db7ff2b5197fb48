/- Tables of prefixes: the order holds, what is looked up. Of no program. -/
import Derived.Test.YtbbmckmhgggeeaaM8
import Derived.Test.YtbbmckmhgggeeaaMTab
namespace Go.Proofs.Ytbbmckmhgggeeaa
open Go

theorem cmpB_form : ∀ (l m : List UInt8), cmpB l m = -1 ∨ cmpB l m = 0 ∨ cmpB l m = 1
  | [], [] => .inr (.inl rfl)
  | [], _ :: _ => .inr (.inl rfl)
  | _ :: _, [] => .inr (.inl rfl)
  | x :: l, y :: m => by
    unfold cmpB
    split
    · exact .inl rfl
    · split
      · exact .inr (.inr rfl)
      · exact cmpB_form l m
theorem cmpB_trans : ∀ (l m n : List UInt8), l.length = m.length → m.length = n.length → cmpB l m < 0 → cmpB m n < 0 → cmpB l n < 0
  | [], [], _, _, _, h, _ => by simp [cmpB] at h
  | [], _ :: _, _, h, _, _, _ => by simp at h
  | _ :: _, [], _, h, _, _, _ => by simp at h
  | _ :: _, _ :: _, [], _, h, _, _ => by simp at h
  | x :: l, y :: m, z :: n, h1, h2, h3, h4 => by
    unfold cmpB at h3 h4 ⊢
    have ih := cmpB_trans l m n (by simpa using h1) (by simpa using h2)
    by_cases a1 : x.toNat < y.toNat
    · by_cases a2 : y.toNat < z.toNat
      · rw [if_pos (by omega)]; decide
      · rw [if_neg a2] at h4
        by_cases a3 : z.toNat < y.toNat
        · rw [if_pos a3] at h4; omega
        · rw [if_pos (by omega)]; decide
    · rw [if_neg a1] at h3
      by_cases a3 : y.toNat < x.toNat
      · rw [if_pos a3] at h3; omega
      · rw [if_neg a3] at h3
        by_cases a2 : y.toNat < z.toNat
        · rw [if_pos (by omega)]; decide
        · rw [if_neg a2] at h4
          by_cases a4 : z.toNat < y.toNat
          · rw [if_pos a4] at h4; omega
          · rw [if_neg a4] at h4
            rw [if_neg (by omega), if_neg (by omega)]
            exact ih h3 h4
/-- A prefix of a table: of its kind, and it may be. -/
def okP (six : Bool) (p : Pfx) : Prop := p.six = six ∧ p.addr.length = 16 ∧ chkP p = true
/-- An address of sixteen bytes. -/
def okA (p : Pfx) : Prop := p.addr.length = 16
theorem cmpP_lt {p q : Pfx} (hs : p.six = q.six) : cmpP p q < 0 ↔ cmpB p.addr q.addr < 0 ∨ (cmpB p.addr q.addr = 0 ∧ p.len < q.len) := by
  rw [cmpP_six hs]
  have := cmpB_form p.addr q.addr
  by_cases h : cmpB p.addr q.addr = 0
  · rw [if_neg (by simp [h])]
    by_cases h1 : p.len < q.len
    · rw [if_pos h1]; simp [h, h1]
    · rw [if_neg h1]; simp only [h, h1]; split <;> simp
  · rw [if_pos h]; omega
theorem cmpP_trans (p q r : Pfx) (lp : okA p) (lq : okA q) (lr : okA r) (h1 : cmpP p q < 0) (h2 : cmpP q r < 0) : cmpP p r < 0 := by
  unfold okA at lp lq lr
  by_cases s1 : p.six = q.six
  · by_cases s2 : q.six = r.six
    · rw [cmpP_lt s1] at h1
      rw [cmpP_lt s2] at h2
      rw [cmpP_lt (s1.trans s2)]
      rcases h1 with h1 | ⟨h1, h1'⟩
      · rcases h2 with h2 | ⟨h2, h2'⟩
        · exact .inl (cmpB_trans _ _ _ (lp.trans lq.symm) (lq.trans lr.symm) h1 h2)
        · rw [← cmpB_zero _ _ (lq.trans lr.symm) h2]; exact .inl h1
      · rw [cmpB_zero _ _ (lp.trans lq.symm) h1]
        rcases h2 with h2 | ⟨h2, h2'⟩
        · exact .inl h2
        · exact .inr ⟨h2, by omega⟩
    · rw [cmpP_kind s2] at h2
      rw [cmpP_kind (fun e => s2 (s1.symm.trans e))]
      exact h2
  · rw [cmpP_kind s1] at h1
    cases hq : q.six
    · rw [hq] at h1; simp at h1
    · by_cases s2 : q.six = r.six
      · rw [cmpP_kind (fun e => s1 (e.trans s2.symm)), ← s2, hq]; decide
      · rw [cmpP_kind s2] at h2
        rw [hq] at s2
        cases hr : r.six
        · rw [hr] at h2; simp at h2
        · rw [hr] at s2; exact absurd rfl s2
/-- The order of prefixes. -/
theorem cmpP_ord : Ord3 cmpP okA := ⟨fun p q => cmpP_anti p q, fun _ _ lp lq h => cmpP_zero (lp.trans lq.symm) h, cmpP_trans⟩
theorem cmpP_ord6 (six : Bool) : Ord3 cmpP (okP six) :=
  ⟨fun p q => cmpP_anti p q, fun _ _ lp lq h => cmpP_zero (lp.2.1.trans lq.2.1.symm) h, fun p q r lp lq lr => cmpP_trans p q r lp.2.1 lq.2.1 lr.2.1⟩

/-! Look: of all that have the address the one with the greatest Len. -/
def lookT (a : List UInt8) : List (Pfx × Int) → Option (Pfx × Int)
  | [] => none
  | x :: l => match lookT a l with
    | some y => if hasP x.1 a ∧ y.1.len < x.1.len then some x else some y
    | none => if hasP x.1 a then some x else none
theorem look_mem (a : List UInt8) : ∀ (l : List (Pfx × Int)) (x : Pfx × Int), lookT a l = some x → x ∈ l ∧ hasP x.1 a = true
  | [], x, h => by cases h
  | y :: l, x, h => by
    unfold lookT at h
    cases hl : lookT a l with
    | none =>
      rw [hl] at h
      by_cases hy : hasP y.1 a = true
      · simp only [if_pos hy] at h
        cases h
        exact ⟨by simp, hy⟩
      · simp only [if_neg hy] at h
        cases h
    | some z =>
      rw [hl] at h
      have ih := look_mem a l z hl
      by_cases hy : hasP y.1 a = true ∧ z.1.len < y.1.len
      · simp only [if_pos hy] at h
        cases h
        exact ⟨by simp, hy.1⟩
      · simp only [if_neg hy] at h
        cases h
        exact ⟨by simp [ih.1], ih.2⟩
theorem look_most (a : List UInt8) : ∀ (l : List (Pfx × Int)) (x y : Pfx × Int), lookT a l = some x → y ∈ l → hasP y.1 a = true → y.1.len ≤ x.1.len
  | [], x, _, h, _, _ => by cases h
  | z :: l, x, y, h, hy, ha => by
    unfold lookT at h
    cases hl : lookT a l with
    | none =>
      rw [hl] at h
      have hn : ∀ u, u ∈ l → hasP u.1 a = true → False := look_none a l hl
      rcases List.mem_cons.1 hy with rfl | hy
      · simp only [if_pos ha] at h
        cases h
        exact Int.le_refl _
      · exact (hn y hy ha).elim
    | some u =>
      rw [hl] at h
      by_cases hz : hasP z.1 a = true ∧ u.1.len < z.1.len
      · simp only [if_pos hz] at h
        cases h
        rcases List.mem_cons.1 hy with rfl | hy
        · exact Int.le_refl _
        · have := look_most a l u y hl hy ha; omega
      · simp only [if_neg hz] at h
        cases h
        rcases List.mem_cons.1 hy with rfl | hy
        · by_cases hlt : x.1.len < y.1.len
          · exact absurd ⟨ha, hlt⟩ hz
          · omega
        · exact look_most a l x y hl hy ha
where
  look_none (a : List UInt8) : ∀ (l : List (Pfx × Int)), lookT a l = none → ∀ u, u ∈ l → hasP u.1 a = true → False
  | [], _, u, hu, _ => by cases hu
  | z :: l, h, u, hu, ha => by
    unfold lookT at h
    cases hl : lookT a l with
    | none =>
      rw [hl] at h
      rcases List.mem_cons.1 hu with rfl | hu
      · simp only [if_pos ha] at h; cases h
      · exact look_none a l hl u hu ha
    | some y =>
      rw [hl] at h
      by_cases hz : hasP z.1 a = true ∧ y.1.len < z.1.len
      · simp only [if_pos hz] at h; cases h
      · simp only [if_neg hz] at h; cases h
/-- Two prefixes that may be, of one kind and one length, that have the same address, are one. -/
theorem has_one {p q : Pfx} {six : Bool} (hp : okP six p) (hq : okP six q) (hl : p.len = q.len) (a : List UInt8) (h1 : hasP p a = true) (h2 : hasP q a = true) : p = q := by
  rcases cov_or (hp.1.trans hq.1.symm) a h1 h2 with h | h
  · refine cov_same hp.2.2 hq.2.2 hp.2.1 hq.2.1 h ?_
    rw [cov_iff] at h ⊢
    exact ⟨h.1.symm, by omega, fun i hi hil => (h.2.2 i hi (by omega)).symm⟩
  · refine cov_same hp.2.2 hq.2.2 hp.2.1 hq.2.1 ?_ h
    rw [cov_iff] at h ⊢
    exact ⟨h.1.symm, by omega, fun i hi hil => (h.2.2 i hi (by omega)).symm⟩
end Go.Proofs.Ytbbmckmhgggeeaa
