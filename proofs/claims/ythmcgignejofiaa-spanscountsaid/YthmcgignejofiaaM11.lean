/- Rows of labels: disjoint rows are told by their labels, of no program. -/
import Derived.Test.YthmcgignejofiaaMath
namespace Go.Proofs.Ythmcgignejofiaa
open Go

structure Spn where
  f : Int
  l : Int
def mayS (s : Spn) : Prop := 0 ≤ s.f ∧ s.f ≤ s.l ∧ s.l ≤ 1048575
def inSpn (s : Spn) (n : Int) : Prop := mayS s ∧ s.f ≤ n ∧ n ≤ s.l
def inSd (s : Spn) (n : Int) : Bool := decide ((0 ≤ s.f ∧ s.f ≤ s.l ∧ s.l ≤ 1048575) ∧ s.f ≤ n ∧ n ≤ s.l)
theorem inSd_iff (s : Spn) (n : Int) : inSd s n = true ↔ inSpn s n := by
  unfold inSd inSpn mayS
  exact decide_eq_true_iff
theorem inSd_no {s : Spn} {n : Int} (h : ¬ inSpn s n) : inSd s n = false := by
  cases hc : inSd s n
  · rfl
  · exact absurd ((inSd_iff s n).1 hc) h
/-- Have rows a label? -/
def inLab (l : List Spn) (n : Int) : Bool := l.any fun s => inSd s n
theorem inS_iff (l : List Spn) (n : Int) : inLab l n = true ↔ ∃ s ∈ l, inSpn s n := by
  unfold inLab
  rw [List.any_eq_true]
  simp only [inSd_iff]
theorem inS_cons (s : Spn) (l : List Spn) (n : Int) : inLab (s :: l) n = (inSd s n || inLab l n) := rfl
theorem inS_append (a b : List Spn) (n : Int) : inLab (a ++ b) n = (inLab a n || inLab b n) := by unfold inLab; rw [List.any_append]
theorem inS_bound {l : List Spn} {n : Int} (h : inLab l n = true) : 0 ≤ n ∧ n ≤ 1048575 := by
  obtain ⟨s, _, hm, h1, h2⟩ := (inS_iff l n).1 h
  unfold mayS at hm
  omega
/-- Disjoint rows, in order, none of which goes on into the next one. -/
def Normal : List Spn → Prop
  | [] => True
  | s :: r => mayS s ∧ (∀ t ∈ r, s.l + 1 < t.f) ∧ Normal r
theorem Normal.may : ∀ {m : List Spn}, Normal m → ∀ s ∈ m, mayS s
  | [], _, s, h => by simp at h
  | t :: r, hn, s, h => by
    rcases List.mem_cons.1 h with rfl | h
    · exact hn.1
    · exact hn.2.2.may s h
theorem inS_low {s : Spn} {r : List Spn} (h : Normal (s :: r)) {n : Int} (hn : inLab (s :: r) n = true) : s.f ≤ n := by
  rw [inS_iff] at hn
  obtain ⟨t, ht, hm, h1, h2⟩ := hn
  obtain ⟨hs, hr, _⟩ := h
  unfold mayS at hs
  rcases List.mem_cons.1 ht with rfl | ht
  · exact h1
  · have := hr t ht
    omega
theorem inS_first {s : Spn} {r : List Spn} (h : Normal (s :: r)) {n : Int} (h1 : s.f ≤ n) (h2 : n ≤ s.l) : inLab (s :: r) n = true :=
  (inS_iff _ _).2 ⟨s, by simp, h.1, h1, h2⟩
theorem inS_gap {s : Spn} {r : List Spn} (h : Normal (s :: r)) : inLab (s :: r) (s.l + 1) = false := by
  cases hc : inLab (s :: r) (s.l + 1)
  · rfl
  · rw [inS_iff] at hc
    obtain ⟨t, ht, hm, h1, h2⟩ := hc
    rcases List.mem_cons.1 ht with rfl | ht
    · omega
    · have := h.2.1 t ht
      omega
theorem inS_rest {s : Spn} {r : List Spn} (h : Normal (s :: r)) (n : Int) : inLab r n = (inLab (s :: r) n && decide (s.l < n)) := by
  rw [inS_cons]
  by_cases hl : s.l < n
  · rw [decide_eq_true hl, Bool.and_true, inSd_no (fun hi => by have := hi.2.2; omega), Bool.false_or]
  · rw [decide_eq_false hl, Bool.and_false]
    cases hc : inLab r n
    · rfl
    · rw [inS_iff] at hc
      obtain ⟨t, ht, hm, h1, h2⟩ := hc
      have := h.2.1 t ht
      omega
/-- Disjoint rows are told by their labels. -/
theorem normal_ext : ∀ {m k : List Spn}, Normal m → Normal k → (∀ n, inLab m n = inLab k n) → m = k
  | [], [], _, _, _ => rfl
  | [], t :: r, _, hk, h => by
    have h1 := h t.f
    have ht := hk.1
    unfold mayS at ht
    rw [inS_first hk (Int.le_refl _) ht.2.1] at h1
    simp [inLab] at h1
  | s :: r, [], hm, _, h => by
    have h1 := h s.f
    have hs := hm.1
    unfold mayS at hs
    rw [inS_first hm (Int.le_refl _) hs.2.1] at h1
    simp [inLab] at h1
  | s :: r, t :: q, hm, hk, h => by
    have hs := hm.1
    have ht := hk.1
    unfold mayS at hs ht
    have a1 := inS_low hk (n := s.f) (by rw [← h]; exact inS_first hm (Int.le_refl _) hs.2.1)
    have a2 := inS_low hm (n := t.f) (by rw [h]; exact inS_first hk (Int.le_refl _) ht.2.1)
    have ef : s.f = t.f := by omega
    have el : s.l = t.l := by
      rcases Int.lt_trichotomy s.l t.l with hl | hl | hl
      · have b1 := inS_gap hm
        rw [h, inS_first hk (by omega) (by omega)] at b1
        cases b1
      · exact hl
      · have b1 := inS_gap hk
        rw [← h, inS_first hm (by omega) (by omega)] at b1
        cases b1
    have er : r = q := normal_ext hm.2.2 hk.2.2 (fun n => by rw [inS_rest hm, inS_rest hk, h, el])
    obtain ⟨_, _⟩ := s
    obtain ⟨_, _⟩ := t
    simp only at ef el
    rw [ef, el, er]

/-! How many labels. -/
def cntS : List Spn → Int
  | [] => 0
  | s :: r => s.l - s.f + 1 + cntS r
def cntL (p : Int → Bool) : Nat → Nat
  | 0 => 0
  | n + 1 => cntL p n + (if p n then 1 else 0)
theorem cntL_congr {p q : Int → Bool} : ∀ n : Nat, (∀ i : Nat, i < n → p i = q i) → cntL p n = cntL q n
  | 0, _ => rfl
  | n + 1, h => by
    unfold cntL
    rw [cntL_congr n (fun i hi => h i (by omega)), h n (by omega)]
theorem cntL_or (p q : Int → Bool) : ∀ n : Nat, (∀ i : Nat, i < n → (p i && q i) = false) → cntL (fun i => p i || q i) n = cntL p n + cntL q n
  | 0, _ => rfl
  | n + 1, h => by
    unfold cntL
    rw [cntL_or p q n (fun i hi => h i (by omega))]
    have := h n (by omega)
    cases hp : p n <;> cases hq : q n <;> simp_all <;> omega
theorem cntL_row (a b : Int) (ha : 0 ≤ a) (hab : a ≤ b) : ∀ n : Nat, (cntL (fun i => decide (a ≤ i ∧ i ≤ b)) n : Int) = max 0 (min (b + 1) n - a)
  | 0 => by simp [cntL]; omega
  | n + 1 => by
    unfold cntL
    have ih := cntL_row a b ha hab n
    rw [Int.natCast_add, ih]
    by_cases h : a ≤ (n : Int) ∧ (n : Int) ≤ b
    · rw [decide_eq_true h, if_pos rfl]; omega
    · rw [decide_eq_false h, if_neg (by simp)]; omega
theorem cntL_zero : ∀ n : Nat, cntL (fun _ => false) n = 0
  | 0 => rfl
  | n + 1 => by unfold cntL; rw [cntL_zero n]; rfl
theorem cntS_labels : ∀ {m : List Spn}, Normal m → cntS m = (cntL (inLab m) 1048576 : Int)
  | [], _ => by
    have : cntL (inLab []) 1048576 = 0 := cntL_zero 1048576
    rw [this]; rfl
  | s :: r, h => by
    have hs := h.1
    have e1 : cntL (inLab (s :: r)) 1048576 = cntL (fun i => decide (s.f ≤ i ∧ i ≤ s.l) || inLab r i) 1048576 := cntL_congr _ (fun i _ => by
      rw [inS_cons]
      congr 1
      unfold inSd
      apply decide_eq_decide.2
      exact ⟨fun x => x.2, fun x => ⟨hs, x⟩⟩)
    have e2 := cntL_or (fun i => decide (s.f ≤ i ∧ i ≤ s.l)) (inLab r) 1048576 (fun i _ => by
      cases hc : inLab r (i : Int)
      · simp
      · rw [inS_rest h, Bool.and_eq_true, decide_eq_true_iff] at hc
        rw [decide_eq_false (by omega)]
        rfl)
    unfold mayS at hs
    have e3 := cntL_row s.f s.l hs.1 hs.2.1 1048576
    rw [e1, e2]
    show s.l - s.f + 1 + cntS r = _
    rw [cntS_labels h.2.2, Int.natCast_add, e3]
    omega
end Go.Proofs.Ythmcgignejofiaa
