/- Rows of prefixes of both kinds: what covers a prefix, what it covers, how many have a value. -/
import Derived.Test.YtgimcapcnidjjaaP9
import Derived.Test.YtgimcapcnidjjaaR9f
namespace Go.Proofs.Ytgimcapcnidjjaa
open Go

/-- Does an item cover a prefix, and isn't it? -/
def abvF (p : Pfx) (x : Pfx × Int) : Bool := !eqP x.1 p && covP x.1 p
/-- Is an item covered? -/
def belF (p : Pfx) (x : Pfx × Int) : Bool := covP p x.1
def abvL (p : Pfx) (L : List (Pfx × Int)) : List (Pfx × Int) := if chkP p = true then (L.filter (abvF p)).reverse else []
def belL (p : Pfx) (L : List (Pfx × Int)) : List (Pfx × Int) := if chkP p = true then L.filter (belF p) else []
def useL (v : Int) (L : List (Pfx × Int)) : List (Pfx × Int) := L.filter (fun x => decide (x.2 = v))
/-- The items of one Len that cover a prefix. -/
def lenF (p : Pfx) (n : Int) (x : Pfx × Int) : Bool := decide (x.1.len = n) && covP x.1 p
/-- The items that cover a prefix, by falling Len, from below a Len on. -/
def fallL (p : Pfx) (L : List (Pfx × Int)) : Nat → List (Pfx × Int)
  | 0 => []
  | k + 1 => L.filter (lenF p (k : Int)) ++ fallL p L k
theorem rising {six : Bool} {L : List (Pfx × Int)} (h : InOrder cmpP (okP six) L) (a : List UInt8) : (L.filter (fun x => hasP x.1 a)).Pairwise (fun x y => x.1.len < y.1.len) := by
  have h2 : L.Pairwise (fun x y => hasP x.1 a = true → hasP y.1 a = true → x.1.len < y.1.len) := by
    refine List.Pairwise.imp_of_mem ?_ h.1
    intro x y hx hy hlt hxa hya
    have ox := h.2 x hx
    have oy := h.2 y hy
    have hne : x.1 ≠ y.1 := fun e => by rw [e, cmpP_ord.refl] at hlt; omega
    rcases cov_or (ox.1.trans oy.1.symm) a hxa hya with c | c
    · rcases Int.lt_or_le x.1.len y.1.len with h1 | h1
      · exact h1
      · exact absurd (same_len ox oy c h1) hne
    · have := cov_lt oy ox c (fun e => hne e.symm)
      have h3 := cmpP_ord.anti x.1 y.1
      omega
  rw [List.pairwise_filter]
  exact h2.imp (fun h x y => h x y)
theorem cov_of_has {six : Bool} {x p : Pfx} (hx : okP six x) (hp : okP six p) : covP x p = (hasP x p.addr && decide (x.len ≤ p.len)) := by
  unfold covP
  rw [hx.1, hp.1]
  cases hasP x p.addr <;> simp
theorem rising_cov {six : Bool} {L : List (Pfx × Int)} (h : InOrder cmpP (okP six) L) {p : Pfx} (hp : okP six p) : (L.filter (fun x => covP x.1 p)).Pairwise (fun x y => x.1.len < y.1.len) := by
  have h1 := rising h p.addr
  rw [List.pairwise_filter] at h1 ⊢
  refine List.Pairwise.imp_of_mem ?_ h1
  intro x y hx hy hxy hcx hcy
  rw [cov_of_has (h.2 x hx) hp, Bool.and_eq_true] at hcx
  rw [cov_of_has (h.2 y hy) hp, Bool.and_eq_true] at hcy
  exact hxy hcx.1 hcy.1
theorem step_len (k : Int) : ∀ C : List (Pfx × Int), C.Pairwise (fun x y => x.1.len < y.1.len) → C.filter (fun x => decide (x.1.len < k + 1)) = C.filter (fun x => decide (x.1.len < k)) ++ C.filter (fun x => decide (x.1.len = k)) ∧ (C.filter (fun x => decide (x.1.len = k))).length ≤ 1
  | [], _ => by simp
  | x :: C, h => by
    obtain ⟨h1, h2⟩ := List.pairwise_cons.1 h
    obtain ⟨i1, i2⟩ := step_len k C h2
    rcases Int.lt_trichotomy x.1.len k with hk | hk | hk
    · have e1 : decide (x.1.len < k + 1) = true := by simp; omega
      have e2 : decide (x.1.len < k) = true := by simp; omega
      have e3 : decide (x.1.len = k) = false := by simp; omega
      simp only [List.filter_cons, e1, e2, e3, i1, if_true, Bool.false_eq_true, if_false]
      exact ⟨rfl, i2⟩
    · have e1 : decide (x.1.len < k + 1) = true := by simp; omega
      have e2 : decide (x.1.len < k) = false := by simp; omega
      have e3 : decide (x.1.len = k) = true := by simp; omega
      have z1 : C.filter (fun x => decide (x.1.len < k + 1)) = [] := List.filter_eq_nil_iff.2 (fun y hy => by have := h1 y hy; simp; omega)
      have z2 : C.filter (fun x => decide (x.1.len < k)) = [] := List.filter_eq_nil_iff.2 (fun y hy => by have := h1 y hy; simp; omega)
      have z3 : C.filter (fun x => decide (x.1.len = k)) = [] := List.filter_eq_nil_iff.2 (fun y hy => by have := h1 y hy; simp; omega)
      simp only [List.filter_cons, e1, e2, e3, z1, z2, z3, if_true, Bool.false_eq_true, if_false]
      exact ⟨rfl, by simp⟩
    · have z : ∀ (f : Pfx × Int → Bool), (∀ y, k < y.1.len → f y = false) → (x :: C).filter f = [] := fun f hf => List.filter_eq_nil_iff.2 (fun y hy => by
        rcases List.mem_cons.1 hy with rfl | hy
        · rw [hf _ hk]; simp
        · rw [hf y (by have := h1 y hy; omega)]; simp)
      rw [z _ (fun y hy => by simp; omega), z _ (fun y hy => by simp; omega), z _ (fun y hy => by simp; omega)]
      exact ⟨rfl, by simp⟩
theorem rev_one {α : Type} : ∀ l : List α, l.length ≤ 1 → l.reverse = l
  | [], _ => rfl
  | [_], _ => rfl
  | _ :: _ :: _, h => by simp at h
/-- By falling Len: what covers a prefix, turned around. -/
theorem fall_rev {p : Pfx} {L : List (Pfx × Int)} (h : (L.filter (fun x => covP x.1 p)).Pairwise (fun x y => x.1.len < y.1.len)) (h0 : ∀ x ∈ L, 0 ≤ x.1.len) : ∀ k : Nat, fallL p L k = ((L.filter (fun x => covP x.1 p)).filter (fun x => decide (x.1.len < (k : Int)))).reverse
  | 0 => by
    unfold fallL
    rw [List.filter_eq_nil_iff.2 (fun y hy => by have := h0 y (List.mem_filter.1 hy).1; simp; omega)]
    rfl
  | k + 1 => by
    unfold fallL
    have h1 := step_len (k : Int) _ h
    rw [show (((k + 1 : Nat)) : Int) = (k : Int) + 1 by omega, h1.1, List.reverse_append, rev_one _ h1.2, fall_rev h h0 k]
    congr 1
    rw [List.filter_filter]
    congr 1
/-- What covers a prefix, in a row of its own kind. -/
theorem fall_abv {six : Bool} {p : Pfx} {L : List (Pfx × Int)} (h : InOrder cmpP (okP six) L) (hp : okP six p) : fallL p L p.len.toNat = (L.filter (abvF p)).reverse := by
  have hl : 0 ≤ p.len := hp.len0.1
  rw [fall_rev (rising_cov h hp) (fun x hx => (h.2 x hx).len0.1) p.len.toNat, Int.toNat_of_nonneg hl, List.filter_filter]
  congr 1
  refine List.filter_congr (fun x hx => ?_)
  have hx' := h.2 x hx
  unfold abvF
  cases hc : covP x.1 p with
  | false => simp
  | true =>
    have hle := ((cov_iff _ _).1 hc).2.1
    rw [Bool.and_true, Bool.and_true]
    cases he : eqP x.1 p with
    | true => rw [eqP_iff.1 he]; simp
    | false =>
      have hne : x.1 ≠ p := fun e => by rw [e, eqP_self] at he; cases he
      have : ¬ p.len ≤ x.1.len := fun hh => hne (same_len hx' hp hc hh)
      simp
      omega
theorem cov_six {x p : Pfx} (h : x.six ≠ p.six) : covP x p = false := by
  cases hc : covP x p
  · rfl
  · exact absurd ((cov_iff _ _).1 hc).1 h
/-- Rows of both kinds. -/
def kindL (L : Bool → List (Pfx × Int)) : List (Pfx × Int) := L false ++ L true
theorem filter_kind {L : Bool → List (Pfx × Int)} (h : ∀ s, ∀ x ∈ L s, x.1.six = s) (s : Bool) (f : Pfx × Int → Bool) (hf : ∀ x : Pfx × Int, x.1.six ≠ s → f x = false) : (kindL L).filter f = (L s).filter f := by
  have z : ∀ t, t ≠ s → (L t).filter f = [] := fun t ht => List.filter_eq_nil_iff.2 (fun x hx => by rw [hf x (by rw [h t x hx]; exact ht)]; simp)
  unfold kindL
  rw [List.filter_append]
  cases s with
  | false => rw [z true (by simp), List.append_nil]
  | true => rw [z false (by simp), List.nil_append]
theorem fall_kind {L : Bool → List (Pfx × Int)} {p : Pfx} (h : ∀ s, ∀ x ∈ L s, x.1.six = s) : ∀ k, fallL p (kindL L) k = fallL p (L p.six) k
  | 0 => rfl
  | k + 1 => by
    unfold fallL
    rw [fall_kind h k, filter_kind h p.six _ (fun x hx => by unfold lenF; rw [cov_six hx, Bool.and_false])]
theorem bel_kind {L : Bool → List (Pfx × Int)} {p : Pfx} (h : ∀ s, ∀ x ∈ L s, x.1.six = s) : (kindL L).filter (belF p) = (L p.six).filter (belF p) :=
  filter_kind h p.six _ (fun x hx => by unfold belF; exact cov_six (fun e => hx e.symm))
/-- The lens above a prefix fall. -/
theorem abv_falls {six : Bool} {p : Pfx} {L : List (Pfx × Int)} (h : InOrder cmpP (okP six) L) (hp : okP six p) : (L.filter (abvF p)).reverse.Pairwise (fun x y => y.1.len < x.1.len) := by
  rw [List.pairwise_reverse]
  have e : L.filter (abvF p) = (L.filter (fun x => covP x.1 p)).filter (fun x => !eqP x.1 p) := by
    rw [List.filter_filter]
    rfl
  rw [e]
  exact (rising_cov h hp).filter _
/-- What has to do with a prefix is above it or below it, and not both. -/
theorem apart_len {six : Bool} {p : Pfx} (hp : okP six p) : ∀ L : List (Pfx × Int), (∀ x ∈ L, okP six x.1) → (L.filter (fun x => covP x.1 p || covP p x.1)).length = (L.filter (abvF p)).length + (L.filter (belF p)).length
  | [], _ => rfl
  | x :: L, h => by
    have ih := apart_len hp L (fun y hy => h y (List.mem_cons_of_mem _ hy))
    have hx := h x List.mem_cons_self
    have hab : abvF p x = (!eqP x.1 p && covP x.1 p) := rfl
    have hbe : belF p x = covP p x.1 := rfl
    rw [List.filter_cons, List.filter_cons, List.filter_cons, hab, hbe]
    cases he : eqP x.1 p with
    | true =>
      rw [eqP_iff.1 he, cov_refl]
      simp
      omega
    | false =>
      have hne : x.1 ≠ p := fun e => by rw [e, eqP_self] at he; cases he
      cases h1 : covP x.1 p <;> cases h2 : covP p x.1
      · simpa using ih
      · simp; omega
      · simp; omega
      · exact absurd (cov_same hx.2.2 hp.2.2 hx.2.1 hp.2.1 h1 h2) hne
/-- What is found of an address is the last one that has it. -/
theorem look_last {six : Bool} {L : List (Pfx × Int)} (h : InOrder cmpP (okP six) L) (a : List UInt8) : lookT a L = (L.filter (fun x => hasP x.1 a)).getLast? := by
  have hr := rising h a
  rcases List.eq_nil_or_concat (L.filter (fun x => hasP x.1 a)) with e | ⟨M, z, e⟩
  · rw [e]
    exact look_none a L (fun y hy => by
      cases hh : hasP y.1 a
      · rfl
      · have : y ∈ L.filter (fun x => hasP x.1 a) := List.mem_filter.2 ⟨hy, hh⟩
        rw [e] at this
        cases this)
  · rw [e, List.concat_eq_append] at hr
    rw [e, List.concat_eq_append, List.getLast?_append]
    have hz : z ∈ L.filter (fun x => hasP x.1 a) := by rw [e, List.concat_eq_append]; simp
    obtain ⟨z1, z2⟩ := List.mem_filter.1 hz
    refine (look_is h a z z1 z2 (fun y hy hh => ?_)).trans rfl
    have hy2 : y ∈ L.filter (fun x => hasP x.1 a) := List.mem_filter.2 ⟨hy, hh⟩
    rw [e, List.concat_eq_append] at hy2
    rcases List.mem_append.1 hy2 with hm | hm
    · have := (List.pairwise_append.1 hr).2.2 y hm z (by simp)
      omega
    · rw [List.mem_singleton.1 hm]; omega
theorem of_ok (six : Bool) (a : List UInt8) : okP six (ofP six a 128) := ⟨rfl, by unfold ofP; exact maskL_length _ _, of_chk six a 128⟩
/-- The address alone is there: it is what is found. -/
theorem look_self {six : Bool} {L : List (Pfx × Int)} (h : InOrder cmpP (okP six) L) (a : List UInt8) (v : Int) (hm : (ofP six a 128, v) ∈ L) : lookT a L = some (ofP six a 128, v) := by
  refine look_is h a _ hm (of_has six a 128) (fun y hy hh => ?_)
  have := cov_look (h.2 y hy) a
  rw [hh] at this
  exact ((cov_iff _ _).1 this).2.1
/-- The address alone isn't there: the longest one above it is what is found. -/
theorem look_above {six : Bool} {L : List (Pfx × Int)} (h : InOrder cmpP (okP six) L) (a : List UInt8) (hm : ∀ x ∈ L, x.1 ≠ ofP six a 128) : lookT a L = (abvL (ofP six a 128) L).head? := by
  unfold abvL
  rw [if_pos (of_ok six a).2.2, List.head?_reverse, look_last h a]
  congr 1
  refine List.filter_congr (fun x hx => ?_)
  unfold abvF
  rw [cov_look (h.2 x hx) a]
  have : eqP x.1 (ofP six a 128) = false := by
    cases he : eqP x.1 (ofP six a 128)
    · rfl
    · exact absurd (eqP_iff.1 he) (hm x hx)
  rw [this]
  simp
end Go.Proofs.Ytgimcapcnidjjaa
