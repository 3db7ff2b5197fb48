/- Rows of labels: disjoint rows are told by their labels, of no program. Rows of labels (stage 11): rows as disjoint ones, with one more, without one; what is told of them. Of no program. Rows that rise are put together where they touch (stage 11): of no program. Rows of labels row by row (stage 11): counted, the longest, the first; of no program. The document's way to disjoint rows (stage 11): the lowest first label behind the last row, and where its run ends; of no program. Who owns which label (stage 12): areas, blocks, what is left; of no program. The program's way of who owns which label (stage 12): the rows of all blocks, those near a span, the gaps that they leave, where a block stands; of no program. -/
import Derived.Test.YtgelbeglffjdaaaMath
namespace Go.Proofs.Ytgelbeglffjdaaa
open Go

structure Spn where
  f : Int
  l : Int
def mayS (s : Spn) : Prop := 0 ≤ s.f ∧ s.f ≤ s.l ∧ s.l ≤ 1048575
def inSpn (s : Spn) (n : Int) : Prop := mayS s ∧ s.f ≤ n ∧ n ≤ s.l
def inSd (s : Spn) (n : Int) : Bool := decide ((0 ≤ s.f ∧ s.f ≤ s.l ∧ s.l ≤ 1048575) ∧ s.f ≤ n ∧ n ≤ s.l)
theorem inSd_iff (s : Spn) (n : Int) : inSd s n = true ↔ inSpn s n := by
  unfold inSd inSpn mayS
  exact decide_eq_true_iff
theorem inSd_no {s : Spn} {n : Int} (h : ¬ inSpn s n) : inSd s n = false := by
  cases hc : inSd s n
  · rfl
  · exact absurd ((inSd_iff s n).1 hc) h
/-- Have rows a label? -/
def inLab (l : List Spn) (n : Int) : Bool := l.any fun s => inSd s n
theorem inS_iff (l : List Spn) (n : Int) : inLab l n = true ↔ ∃ s ∈ l, inSpn s n := by
  unfold inLab
  rw [List.any_eq_true]
  simp only [inSd_iff]
theorem inS_cons (s : Spn) (l : List Spn) (n : Int) : inLab (s :: l) n = (inSd s n || inLab l n) := rfl
theorem inS_append (a b : List Spn) (n : Int) : inLab (a ++ b) n = (inLab a n || inLab b n) := by unfold inLab; rw [List.any_append]
theorem inS_bound {l : List Spn} {n : Int} (h : inLab l n = true) : 0 ≤ n ∧ n ≤ 1048575 := by
  obtain ⟨s, _, hm, h1, h2⟩ := (inS_iff l n).1 h
  unfold mayS at hm
  omega
/-- Disjoint rows, in order, none of which goes on into the next one. -/
def Normal : List Spn → Prop
  | [] => True
  | s :: r => mayS s ∧ (∀ t ∈ r, s.l + 1 < t.f) ∧ Normal r
theorem Normal.may : ∀ {m : List Spn}, Normal m → ∀ s ∈ m, mayS s
  | [], _, s, h => by simp at h
  | t :: r, hn, s, h => by
    rcases List.mem_cons.1 h with rfl | h
    · exact hn.1
    · exact hn.2.2.may s h
theorem inS_low {s : Spn} {r : List Spn} (h : Normal (s :: r)) {n : Int} (hn : inLab (s :: r) n = true) : s.f ≤ n := by
  rw [inS_iff] at hn
  obtain ⟨t, ht, hm, h1, h2⟩ := hn
  obtain ⟨hs, hr, _⟩ := h
  unfold mayS at hs
  rcases List.mem_cons.1 ht with rfl | ht
  · exact h1
  · have := hr t ht
    omega
theorem inS_first {s : Spn} {r : List Spn} (h : Normal (s :: r)) {n : Int} (h1 : s.f ≤ n) (h2 : n ≤ s.l) : inLab (s :: r) n = true :=
  (inS_iff _ _).2 ⟨s, by simp, h.1, h1, h2⟩
theorem inS_gap {s : Spn} {r : List Spn} (h : Normal (s :: r)) : inLab (s :: r) (s.l + 1) = false := by
  cases hc : inLab (s :: r) (s.l + 1)
  · rfl
  · rw [inS_iff] at hc
    obtain ⟨t, ht, hm, h1, h2⟩ := hc
    rcases List.mem_cons.1 ht with rfl | ht
    · omega
    · have := h.2.1 t ht
      omega
theorem inS_rest {s : Spn} {r : List Spn} (h : Normal (s :: r)) (n : Int) : inLab r n = (inLab (s :: r) n && decide (s.l < n)) := by
  rw [inS_cons]
  by_cases hl : s.l < n
  · rw [decide_eq_true hl, Bool.and_true, inSd_no (fun hi => by have := hi.2.2; omega), Bool.false_or]
  · rw [decide_eq_false hl, Bool.and_false]
    cases hc : inLab r n
    · rfl
    · rw [inS_iff] at hc
      obtain ⟨t, ht, hm, h1, h2⟩ := hc
      have := h.2.1 t ht
      omega
/-- Disjoint rows are told by their labels. -/
theorem normal_ext : ∀ {m k : List Spn}, Normal m → Normal k → (∀ n, inLab m n = inLab k n) → m = k
  | [], [], _, _, _ => rfl
  | [], t :: r, _, hk, h => by
    have h1 := h t.f
    have ht := hk.1
    unfold mayS at ht
    rw [inS_first hk (Int.le_refl _) ht.2.1] at h1
    simp [inLab] at h1
  | s :: r, [], hm, _, h => by
    have h1 := h s.f
    have hs := hm.1
    unfold mayS at hs
    rw [inS_first hm (Int.le_refl _) hs.2.1] at h1
    simp [inLab] at h1
  | s :: r, t :: q, hm, hk, h => by
    have hs := hm.1
    have ht := hk.1
    unfold mayS at hs ht
    have a1 := inS_low hk (n := s.f) (by rw [← h]; exact inS_first hm (Int.le_refl _) hs.2.1)
    have a2 := inS_low hm (n := t.f) (by rw [h]; exact inS_first hk (Int.le_refl _) ht.2.1)
    have ef : s.f = t.f := by omega
    have el : s.l = t.l := by
      rcases Int.lt_trichotomy s.l t.l with hl | hl | hl
      · have b1 := inS_gap hm
        rw [h, inS_first hk (by omega) (by omega)] at b1
        cases b1
      · exact hl
      · have b1 := inS_gap hk
        rw [← h, inS_first hm (by omega) (by omega)] at b1
        cases b1
    have er : r = q := normal_ext hm.2.2 hk.2.2 (fun n => by rw [inS_rest hm, inS_rest hk, h, el])
    obtain ⟨_, _⟩ := s
    obtain ⟨_, _⟩ := t
    simp only at ef el
    rw [ef, el, er]

/-! How many labels. -/
def cntS : List Spn → Int
  | [] => 0
  | s :: r => s.l - s.f + 1 + cntS r
def cntL (p : Int → Bool) : Nat → Nat
  | 0 => 0
  | n + 1 => cntL p n + (if p n then 1 else 0)
theorem cntL_congr {p q : Int → Bool} : ∀ n : Nat, (∀ i : Nat, i < n → p i = q i) → cntL p n = cntL q n
  | 0, _ => rfl
  | n + 1, h => by
    unfold cntL
    rw [cntL_congr n (fun i hi => h i (by omega)), h n (by omega)]
theorem cntL_or (p q : Int → Bool) : ∀ n : Nat, (∀ i : Nat, i < n → (p i && q i) = false) → cntL (fun i => p i || q i) n = cntL p n + cntL q n
  | 0, _ => rfl
  | n + 1, h => by
    unfold cntL
    rw [cntL_or p q n (fun i hi => h i (by omega))]
    have := h n (by omega)
    cases hp : p n <;> cases hq : q n <;> simp_all <;> omega
theorem cntL_row (a b : Int) (ha : 0 ≤ a) (hab : a ≤ b) : ∀ n : Nat, (cntL (fun i => decide (a ≤ i ∧ i ≤ b)) n : Int) = max 0 (min (b + 1) n - a)
  | 0 => by simp [cntL]; omega
  | n + 1 => by
    unfold cntL
    have ih := cntL_row a b ha hab n
    rw [Int.natCast_add, ih]
    by_cases h : a ≤ (n : Int) ∧ (n : Int) ≤ b
    · rw [decide_eq_true h, if_pos rfl]; omega
    · rw [decide_eq_false h, if_neg (by simp)]; omega
theorem cntL_zero : ∀ n : Nat, cntL (fun _ => false) n = 0
  | 0 => rfl
  | n + 1 => by unfold cntL; rw [cntL_zero n]; rfl
theorem cntS_labels : ∀ {m : List Spn}, Normal m → cntS m = (cntL (inLab m) 1048576 : Int)
  | [], _ => by
    have : cntL (inLab []) 1048576 = 0 := cntL_zero 1048576
    rw [this]; rfl
  | s :: r, h => by
    have hs := h.1
    have e1 : cntL (inLab (s :: r)) 1048576 = cntL (fun i => decide (s.f ≤ i ∧ i ≤ s.l) || inLab r i) 1048576 := cntL_congr _ (fun i _ => by
      rw [inS_cons]
      congr 1
      unfold inSd
      apply decide_eq_decide.2
      exact ⟨fun x => x.2, fun x => ⟨hs, x⟩⟩)
    have e2 := cntL_or (fun i => decide (s.f ≤ i ∧ i ≤ s.l)) (inLab r) 1048576 (fun i _ => by
      cases hc : inLab r (i : Int)
      · simp
      · rw [inS_rest h, Bool.and_eq_true, decide_eq_true_iff] at hc
        rw [decide_eq_false (by omega)]
        rfl)
    unfold mayS at hs
    have e3 := cntL_row s.f s.l hs.1 hs.2.1 1048576
    rw [e1, e2]
    show s.l - s.f + 1 + cntS r = _
    rw [cntS_labels h.2.2, Int.natCast_add, e3]
    omega
end Go.Proofs.Ytgelbeglffjdaaa
namespace Go.Proofs.Ytgelbeglffjdaaa
open Go

def mayB (s : Spn) : Bool := decide (0 ≤ s.f ∧ s.f ≤ s.l ∧ s.l ≤ 1048575)
theorem mayB_iff (s : Spn) : mayB s = true ↔ mayS s := decide_eq_true_iff
theorem inSd_not {s : Spn} (h : ¬ mayS s) (n : Int) : inSd s n = false := inSd_no (fun h1 => h h1.1)
theorem inSd_may {s : Spn} (h : mayS s) (n : Int) : inSd s n = decide (s.f ≤ n ∧ n ≤ s.l) := by
  unfold inSd
  exact decide_eq_decide.2 ⟨fun x => x.2, fun x => ⟨h, x⟩⟩
/-- A span that may be, put into disjoint rows. -/
def insS (s : Spn) : List Spn → List Spn
  | [] => [s]
  | x :: m => if s.l + 1 < x.f then s :: x :: m else if x.l + 1 < s.f then x :: insS s m else insS ⟨min s.f x.f, max s.l x.l⟩ m
def normS : List Spn → List Spn
  | [] => []
  | s :: l => if mayB s = true then insS s (normS l) else normS l
theorem ins_ok : ∀ (m : List Spn) (s : Spn), mayS s → Normal m → Normal (insS s m) ∧ (∀ n, inLab (insS s m) n = (inSd s n || inLab m n)) ∧ ∀ c : Int, c ≤ s.f → (∀ x ∈ m, c ≤ x.f) → ∀ t ∈ insS s m, c ≤ t.f
  | [], s, hs, _ => ⟨⟨hs, (fun t ht => by cases ht), trivial⟩, fun n => rfl, fun c hc _ t ht => by rw [List.mem_singleton.1 ht]; exact hc⟩
  | x :: m, s, hs, hm => by
    obtain ⟨hx, hxm, hmm⟩ := hm
    unfold insS
    by_cases h1 : s.l + 1 < x.f
    · rw [if_pos h1]
      refine ⟨⟨hs, fun t ht => ?_, hx, hxm, hmm⟩, fun n => rfl, fun c hc hcx t ht => ?_⟩
      · rcases List.mem_cons.1 ht with rfl | ht
        · exact h1
        · have := hxm t ht
          have := hx.2.1
          omega
      · rcases List.mem_cons.1 ht with rfl | ht
        · exact hc
        · exact hcx t ht
    · rw [if_neg h1]
      by_cases h2 : x.l + 1 < s.f
      · rw [if_pos h2]
        obtain ⟨i1, i2, i3⟩ := ins_ok m s hs hmm
        refine ⟨⟨hx, fun t ht => ?_, i1⟩, fun n => ?_, fun c hc hcx t ht => ?_⟩
        · have := i3 (x.l + 2) (by omega) (fun y hy => by have := hxm y hy; omega) t ht
          omega
        · rw [inS_cons, i2, inS_cons]
          cases inSd x n <;> cases inSd s n <;> simp
        · rcases List.mem_cons.1 ht with rfl | ht
          · exact hcx t List.mem_cons_self
          · exact i3 c hc (fun y hy => hcx y (List.mem_cons_of_mem _ hy)) t ht
      · rw [if_neg h2]
        have hs' : mayS ⟨min s.f x.f, max s.l x.l⟩ := by
          unfold mayS at *
          simp only
          omega
        obtain ⟨i1, i2, i3⟩ := ins_ok m ⟨min s.f x.f, max s.l x.l⟩ hs' hmm
        refine ⟨i1, fun n => ?_, fun c hc hcx t ht => ?_⟩
        · rw [i2, inS_cons, inSd_may hs', inSd_may hs, inSd_may hx, ← Bool.or_assoc]
          congr 1
          rw [← Bool.decide_or]
          apply decide_eq_decide.2
          unfold mayS at hs hx
          simp only
          omega
        · have := hcx x List.mem_cons_self
          exact i3 c (by simp only; omega) (fun y hy => hcx y (List.mem_cons_of_mem _ hy)) t ht
theorem norm_ok : ∀ l : List Spn, Normal (normS l) ∧ ∀ n, inLab (normS l) n = inLab l n
  | [] => ⟨trivial, fun _ => rfl⟩
  | s :: l => by
    obtain ⟨h1, h2⟩ := norm_ok l
    unfold normS
    by_cases hs : mayB s = true
    · rw [if_pos hs]
      obtain ⟨i1, i2, _⟩ := ins_ok (normS l) s ((mayB_iff s).1 hs) h1
      exact ⟨i1, fun n => by rw [i2, h2, inS_cons]⟩
    · rw [if_neg hs]
      exact ⟨h1, fun n => by rw [h2, inS_cons, inSd_not (fun h => hs ((mayB_iff s).2 h)), Bool.false_or]⟩
/-- Whatever is disjoint and has the labels is it. -/
theorem norm_is {m l : List Spn} (h : Normal m) (hl : ∀ n, inLab m n = inLab l n) : m = normS l := normal_ext h (norm_ok l).1 (fun n => by rw [hl, (norm_ok l).2])
theorem norm_self {m : List Spn} (h : Normal m) : normS m = m := (norm_is h (fun _ => rfl)).symm
theorem norm_same {l k : List Spn} (h : ∀ n, inLab l n = inLab k n) : normS l = normS k := norm_is (norm_ok l).1 (fun n => by rw [(norm_ok l).2, h])
def addS (l : List Spn) (s : Spn) : List Spn := normS (l ++ [s])
/-- What is left of a row without a span. -/
def partS (s x : Spn) : List Spn := [⟨x.f, min x.l (s.f - 1)⟩, ⟨max x.f (s.l + 1), x.l⟩]
def cutS (l : List Spn) (s : Spn) : List Spn := if mayB s = true then normS ((normS l).flatMap (partS s)) else normS l
theorem add_in (l : List Spn) (s : Spn) (n : Int) : inLab (addS l s) n = (inLab l n || inSd s n) := by
  unfold addS
  rw [(norm_ok _).2, inS_append]
  congr 1
  show (inSd s n || false) = _
  rw [Bool.or_false]
theorem part_in {s x : Spn} (hs : mayS s) (hx : mayS x) (n : Int) : inLab (partS s x) n = (inSd x n && !inSd s n) := by
  have e : inLab (partS s x) n = (inSd ⟨x.f, min x.l (s.f - 1)⟩ n || (inSd ⟨max x.f (s.l + 1), x.l⟩ n || false)) := rfl
  rw [e, Bool.or_false, inSd_may hs, inSd_may hx]
  unfold inSd
  rw [← Bool.decide_or, ← decide_not, ← Bool.decide_and]
  apply decide_eq_decide.2
  unfold mayS at hs hx
  simp only
  omega
theorem parts_in {s : Spn} (hs : mayS s) : ∀ m : List Spn, (∀ x ∈ m, mayS x) → ∀ n, inLab (m.flatMap (partS s)) n = (inLab m n && !inSd s n)
  | [], _, n => rfl
  | x :: m, h, n => by
    rw [List.flatMap_cons, inS_append, part_in hs (h x List.mem_cons_self), parts_in hs m (fun y hy => h y (List.mem_cons_of_mem _ hy)), inS_cons]
    cases inSd x n <;> cases inLab m n <;> cases inSd s n <;> rfl
theorem cut_in' (l : List Spn) (s : Spn) (n : Int) : inLab (cutS l s) n = (inLab l n && !inSd s n) := by
  unfold cutS
  by_cases hs : mayB s = true
  · rw [if_pos hs, (norm_ok _).2, parts_in ((mayB_iff s).1 hs) _ (norm_ok l).1.may, (norm_ok l).2]
  · rw [if_neg hs, (norm_ok l).2, inSd_not (fun h => hs ((mayB_iff s).2 h)), Bool.not_false, Bool.and_true]
theorem add_normal (l : List Spn) (s : Spn) : Normal (addS l s) := (norm_ok _).1
theorem cut_normal (l : List Spn) (s : Spn) : Normal (cutS l s) := by
  unfold cutS
  split
  · exact (norm_ok _).1
  · exact (norm_ok _).1
/-- A run of labels lies in one row. -/
theorem run_in : ∀ {m : List Spn}, Normal m → ∀ {a b : Int}, a ≤ b → (∀ n, a ≤ n → n ≤ b → inLab m n = true) → ∃ y ∈ m, y.f ≤ a ∧ b ≤ y.l
  | [], _, a, b, hab, h => by have := h a (Int.le_refl _) hab; cases this
  | x :: m, hm, a, b, hab, h => by
    have hx := hm.1
    by_cases h1 : a ≤ x.l
    · have hlow := inS_low hm (h a (Int.le_refl _) hab)
      refine ⟨x, List.mem_cons_self, hlow, ?_⟩
      rcases Int.lt_or_le x.l b with h2 | h2
      · have := h (x.l + 1) (by omega) (by omega)
        rw [inS_gap hm] at this
        cases this
      · exact h2
    · obtain ⟨y, hy, h2⟩ := run_in hm.2.2 hab (fun n h2 h3 => by
        have := h n h2 h3
        rw [inS_cons, inSd_may hx, decide_eq_false (by omega), Bool.false_or] at this
        exact this)
      exact ⟨y, List.mem_cons_of_mem _ hy, h2⟩
theorem row_in {m : List Spn} {y : Spn} (hm : Normal m) (hy : y ∈ m) {n : Int} (h1 : y.f ≤ n) (h2 : n ≤ y.l) : inLab m n = true := (inS_iff m n).2 ⟨y, hy, hm.may y hy, h1, h2⟩
/-! What is told of rows. -/
def hasS (l : List Spn) (s : Spn) : Bool := mayB s && (normS l).any (fun x => decide (x.f ≤ s.f ∧ s.l ≤ x.l))
def meetS (l : List Spn) (s : Spn) : Bool := mayB s && (normS l).any (fun x => decide (x.f ≤ s.l ∧ s.f ≤ x.l))
theorem has_all {l : List Spn} {s : Spn} : hasS l s = true ↔ mayS s ∧ ∀ n, s.f ≤ n → n ≤ s.l → inLab l n = true := by
  unfold hasS
  rw [Bool.and_eq_true, mayB_iff, List.any_eq_true]
  constructor
  · rintro ⟨hs, y, hy, h⟩
    have h := of_decide_eq_true h
    exact ⟨hs, fun n h1 h2 => by rw [← (norm_ok l).2]; exact row_in (norm_ok l).1 hy (by omega) (by omega)⟩
  · rintro ⟨hs, h⟩
    obtain ⟨y, hy, h1, h2⟩ := run_in (norm_ok l).1 hs.2.1 (fun n h1 h2 => by rw [(norm_ok l).2]; exact h n h1 h2)
    exact ⟨hs, y, hy, decide_eq_true ⟨h1, h2⟩⟩
theorem meet_any {l : List Spn} {s : Spn} : meetS l s = true ↔ mayS s ∧ ∃ n, s.f ≤ n ∧ n ≤ s.l ∧ inLab l n = true := by
  unfold meetS
  rw [Bool.and_eq_true, mayB_iff, List.any_eq_true]
  constructor
  · rintro ⟨hs, y, hy, h⟩
    have h := of_decide_eq_true h
    have hy2 := (norm_ok l).1.may y hy
    unfold mayS at hs hy2
    exact ⟨hs, max y.f s.f, by omega, by omega, by rw [← (norm_ok l).2]; exact row_in (norm_ok l).1 hy (by omega) (by omega)⟩
  · rintro ⟨hs, n, h1, h2, h3⟩
    rw [← (norm_ok l).2, inS_iff] at h3
    obtain ⟨y, hy, _, h4, h5⟩ := h3
    exact ⟨hs, y, hy, decide_eq_true (by omega)⟩
theorem meet_not {l : List Spn} {s : Spn} (h : meetS l s = false) (n : Int) : (inLab l n && inSd s n) = false := by
  cases hc : (inLab l n && inSd s n)
  · rfl
  · rw [Bool.and_eq_true, inSd_iff] at hc
    have : meetS l s = true := meet_any.2 ⟨hc.2.1, n, hc.2.2.1, hc.2.2.2, hc.1⟩
    rw [h] at this
    cases this
def firstS (size : Int) : List Spn → Option Spn
  | [] => none
  | x :: m => if 0 < size ∧ size ≤ x.l - x.f + 1 then some ⟨x.f, x.f + size - 1⟩ else firstS size m
def longS : List Spn → Int → Int
  | [], a => a
  | x :: m, a => longS m (max a (x.l - x.f + 1))
theorem first_some {size : Int} : ∀ {m : List Spn}, Normal m → ∀ {f : Spn}, firstS size m = some f → 0 < size ∧ f.l - f.f + 1 = size ∧ mayS f ∧ ∃ y ∈ m, y.f = f.f ∧ f.l ≤ y.l
  | [], _, f, h => by cases h
  | x :: m, hm, f, h => by
    unfold firstS at h
    split at h
    · rename_i h0
      cases h
      have hx := hm.1
      unfold mayS at hx ⊢
      refine ⟨h0.1, ?_, ?_, x, List.mem_cons_self, rfl, ?_⟩ <;> simp only <;> omega
    · obtain ⟨h1, h2, h3, y, hy, h4⟩ := first_some hm.2.2 h
      exact ⟨h1, h2, h3, y, List.mem_cons_of_mem _ hy, h4⟩
theorem long_ge : ∀ (m : List Spn) (a : Int), a ≤ longS m a ∧ ∀ x ∈ m, x.l - x.f + 1 ≤ longS m a
  | [], a => ⟨Int.le_refl _, fun x h => by cases h⟩
  | x :: m, a => by
    obtain ⟨h1, h2⟩ := long_ge m (max a (x.l - x.f + 1))
    unfold longS
    refine ⟨by omega, fun y hy => ?_⟩
    rcases List.mem_cons.1 hy with rfl | hy
    · omega
    · exact h2 y hy
theorem long_le : ∀ (m : List Spn) (a c : Int), a ≤ c → (∀ x ∈ m, x.l - x.f + 1 ≤ c) → longS m a ≤ c
  | [], a, c, h, _ => h
  | x :: m, a, c, h, hx => by
    unfold longS
    have := hx x List.mem_cons_self
    exact long_le m _ c (by omega) (fun y hy => hx y (List.mem_cons_of_mem _ hy))
theorem first_none {size : Int} : ∀ {m : List Spn}, firstS size m = none → 0 < size → ∀ x ∈ m, x.l - x.f + 1 < size
  | [], _, _, x, hx => by cases hx
  | y :: m, h, h0, x, hx => by
    unfold firstS at h
    split at h
    · cases h
    · rename_i h1
      rcases List.mem_cons.1 hx with rfl | hx
      · omega
      · exact first_none h h0 x hx
theorem long_lt {size : Int} {m : List Spn} (h : firstS size m = none) (h0 : 0 < size) : longS m 0 < size := by
  have h1 := first_none h h0
  have := long_le m 0 (size - 1) (by omega) (fun x hx => by have := h1 x hx; omega)
  omega
/-! What follows (P11.3, and the laws). -/
theorem add_cut_back {l : List Spn} {s : Spn} (h : meetS l s = false) : cutS (addS l s) s = normS l := by
  refine norm_is (cut_normal _ _) (fun n => ?_)
  rw [cut_in', add_in]
  have := meet_not h n
  cases h1 : inLab l n <;> cases h2 : inSd s n <;> simp_all
theorem first_has {l : List Spn} {size : Int} {f : Spn} (h : firstS size (normS l) = some f) : hasS l f = true := by
  obtain ⟨_, _, h3, y, hy, h4, h5⟩ := first_some (norm_ok l).1 h
  exact has_all.2 ⟨h3, fun n h1 h2 => by rw [← (norm_ok l).2]; exact row_in (norm_ok l).1 hy (by omega) (by omega)⟩
theorem cut_meets (l : List Spn) (f : Spn) : meetS (cutS l f) f = false := by
  cases hc : meetS (cutS l f) f
  · rfl
  · obtain ⟨h1, n, h2, h3, h4⟩ := meet_any.1 hc
    rw [cut_in', inSd_may h1, decide_eq_true ⟨h2, h3⟩] at h4
    simp at h4
theorem cut_add_back {l : List Spn} {f : Spn} (h : hasS l f = true) : addS (cutS l f) f = normS l := by
  obtain ⟨h1, h2⟩ := has_all.1 h
  refine norm_is (add_normal _ _) (fun n => ?_)
  rw [add_in, cut_in']
  cases h3 : inSd f n
  · simp
  · have h4 := (inSd_iff f n).1 h3
    rw [h2 n h4.2.1 h4.2.2]
    simp
theorem cut_cut (l : List Spn) (s : Spn) : cutS (cutS l s) s = cutS l s := by
  refine normal_ext (cut_normal _ _) (cut_normal _ _) (fun n => ?_)
  rw [cut_in', cut_in']
  cases inLab l n <;> cases inSd s n <;> rfl
theorem add_add (l : List Spn) (s : Spn) : addS (addS l s) s = addS l s := by
  refine normal_ext (add_normal _ _) (add_normal _ _) (fun n => ?_)
  rw [add_in, add_in]
  cases inLab l n <;> cases inSd s n <;> rfl
theorem cut_add (l : List Spn) (s : Spn) : addS (cutS l s) s = addS l s := by
  refine normal_ext (add_normal _ _) (add_normal _ _) (fun n => ?_)
  rw [add_in, add_in, cut_in']
  cases inLab l n <;> cases inSd s n <;> rfl
theorem cnt_add (l : List Spn) (s : Spn) : cntS (addS l s) = cntS (cutS l s) + cntS (normS [s]) := by
  rw [cntS_labels (add_normal _ _), cntS_labels (cut_normal _ _), cntS_labels (norm_ok [s]).1]
  have e : ∀ n, inLab (normS [s]) n = inSd s n := fun n => by rw [(norm_ok [s]).2, inS_cons]; exact Bool.or_false _
  have h1 := cntL_or (inLab (cutS l s)) (inLab (normS [s])) 1048576 (fun i _ => by rw [cut_in', e]; cases inLab l i <;> cases inSd s i <;> rfl)
  have h2 := cntL_congr (p := inLab (addS l s)) (q := fun i => inLab (cutS l s) i || inLab (normS [s]) i) 1048576 (fun i _ => by
    show inLab (addS l s) i = (inLab (cutS l s) i || inLab (normS [s]) i)
    rw [add_in, cut_in', e]
    cases inLab l i <;> cases inSd s i <;> rfl)
  rw [h2, h1, Int.natCast_add]
theorem norm_one {s : Spn} (h : mayS s) : normS [s] = [s] := norm_self ⟨h, (fun t ht => by cases ht), trivial⟩
theorem cnt_cut {l : List Spn} {f : Spn} (h : hasS l f = true) : cntS (cutS l f) = cntS (normS l) - (f.l - f.f + 1) := by
  have h1 := cnt_add (cutS l f) f
  rw [cut_add_back h, cut_cut, norm_one (has_all.1 h).1] at h1
  have h2 : cntS [f] = f.l - f.f + 1 + 0 := rfl
  omega
theorem long_add (l : List Spn) (s : Spn) : longS (normS l) 0 ≤ longS (addS l s) 0 := by
  obtain ⟨h0, h1⟩ := long_ge (addS l s) 0
  refine long_le _ 0 _ h0 (fun x hx => ?_)
  have hx2 := (norm_ok l).1.may x hx
  obtain ⟨y, hy, h2, h3⟩ := run_in (add_normal l s) hx2.2.1 (fun n h2 h3 => by
    rw [add_in, ← (norm_ok l).2, row_in (norm_ok l).1 hx h2 h3]
    rfl)
  have := h1 y hy
  omega
end Go.Proofs.Ytgelbeglffjdaaa
namespace Go.Proofs.Ytgelbeglffjdaaa
open Go

theorem normal_snoc : ∀ (m : List Spn) (y : Spn), Normal (m ++ [y]) ↔ Normal m ∧ mayS y ∧ ∀ t ∈ m, t.l + 1 < y.f
  | [], y => by simp [Normal]
  | x :: m, y => by
    show (mayS x ∧ (∀ t ∈ m ++ [y], x.l + 1 < t.f) ∧ Normal (m ++ [y])) ↔ _
    rw [normal_snoc m y]
    constructor
    · rintro ⟨h1, h2, h3, h4, h5⟩
      refine ⟨⟨h1, fun t ht => h2 t (List.mem_append_left _ ht), h3⟩, h4, fun t ht => ?_⟩
      rcases List.mem_cons.1 ht with rfl | ht
      · exact h2 y (by simp)
      · exact h5 t ht
    · rintro ⟨⟨h1, h2, h3⟩, h4, h5⟩
      refine ⟨h1, fun t ht => ?_, h3, h4, fun t ht => h5 t (List.mem_cons_of_mem _ ht)⟩
      rcases List.mem_append.1 ht with ht | ht
      · exact h2 t ht
      · rw [List.mem_singleton.1 ht]; exact h5 x List.mem_cons_self
/-- One more row, whose first label is no lower than the last one's. -/
def joinS (m : List Spn) (s : Spn) : List Spn :=
  match m.getLast? with
  | some y => if s.f ≤ y.l + 1 then m.dropLast ++ [⟨y.f, max y.l s.l⟩] else m ++ [s]
  | none => m ++ [s]
theorem last_split {m : List Spn} {y : Spn} (h : m.getLast? = some y) : m = m.dropLast ++ [y] := by
  have hne : m ≠ [] := by rintro rfl; cases h
  rw [List.getLast?_eq_some_getLast hne] at h
  cases h
  exact (List.dropLast_concat_getLast hne).symm
theorem join_step {m : List Spn} {s : Spn} (hs : mayS s) (hm : Normal m) (hl : ∀ y, m.getLast? = some y → y.f ≤ s.f) :
    Normal (joinS m s) ∧ (∀ n, inLab (joinS m s) n = (inLab m n || inSd s n)) ∧ ∃ y, (joinS m s).getLast? = some y ∧ y.f ≤ s.f := by
  unfold joinS
  cases hg : m.getLast? with
  | none =>
    obtain rfl : m = [] := List.getLast?_eq_none_iff.1 hg
    exact ⟨⟨hs, (fun t ht => by cases ht), trivial⟩, fun n => by show (inSd s n || false) = (false || inSd s n); simp, s, rfl, Int.le_refl _⟩
  | some y =>
    have h1 := last_split hg
    have hyf := hl y hg
    simp only
    generalize m.dropLast = p at *
    subst h1
    obtain ⟨np, my, hp⟩ := (normal_snoc p y).1 hm
    by_cases hc : s.f ≤ y.l + 1
    · rw [if_pos hc]
      have hy' : mayS ⟨y.f, max y.l s.l⟩ := by
        unfold mayS at *
        simp only
        omega
      refine ⟨(normal_snoc p _).2 ⟨np, hy', hp⟩, fun n => ?_, _, List.getLast?_concat, hyf⟩
      rw [inS_append, inS_append, Bool.or_assoc]
      congr 1
      show (inSd _ n || false) = ((inSd y n || false) || inSd s n)
      rw [Bool.or_false, Bool.or_false, inSd_may hy', inSd_may my, inSd_may hs, ← Bool.decide_or]
      apply decide_eq_decide.2
      unfold mayS at my hs
      simp only
      omega
    · rw [if_neg hc]
      refine ⟨(normal_snoc (p ++ [y]) s).2 ⟨hm, hs, fun t ht => ?_⟩, fun n => ?_, s, List.getLast?_concat, Int.le_refl _⟩
      · rcases List.mem_append.1 ht with ht | ht
        · have := hp t ht
          unfold mayS at my
          omega
        · rw [List.mem_singleton.1 ht]; omega
      · rw [inS_append]
        show (_ || (inSd s n || false)) = _
        rw [Bool.or_false]
def joinAll (l : List Spn) : List Spn := l.foldl joinS []
theorem joinAll_snoc (l : List Spn) (s : Spn) : joinAll (l ++ [s]) = joinS (joinAll l) s := by unfold joinAll; rw [List.foldl_append]; rfl
def RiseS (l : List Spn) : Prop := l.Pairwise fun a b => a.f ≤ b.f
/-- What holds of the rows put together so far, rows and rows behind. -/
theorem join_all : ∀ (k pre : List Spn), (∀ x ∈ pre ++ k, mayS x) → RiseS (pre ++ k) → Normal (joinAll pre) → (∀ n, inLab (joinAll pre) n = inLab pre n) → (∀ y, (joinAll pre).getLast? = some y → ∀ x ∈ k, y.f ≤ x.f) →
    Normal (joinAll (pre ++ k)) ∧ ∀ n, inLab (joinAll (pre ++ k)) n = inLab (pre ++ k) n
  | [], pre, _, _, h1, h2, _ => by rw [List.append_nil]; exact ⟨h1, h2⟩
  | s :: k, pre, hm, hr, h1, h2, h3 => by
    have e : pre ++ s :: k = (pre ++ [s]) ++ k := by simp
    have hs : mayS s := hm s (by simp)
    obtain ⟨j1, j2, y, j3, j4⟩ := join_step hs h1 (fun y hy => h3 y hy s List.mem_cons_self)
    rw [e] at hm hr ⊢
    refine join_all k (pre ++ [s]) hm hr (by rw [joinAll_snoc]; exact j1) (fun n => ?_) (fun y' hy' x hx => ?_)
    · rw [joinAll_snoc, j2, h2, inS_append]
      congr 1
      show _ = (inSd s n || false)
      rw [Bool.or_false]
    · rw [joinAll_snoc, j3] at hy'
      cases hy'
      have := (List.pairwise_append.1 hr).2.2 s (by simp) x hx
      omega
theorem join_norm {l : List Spn} (hm : ∀ x ∈ l, mayS x) (hr : RiseS l) : joinAll l = normS l := by
  obtain ⟨h1, h2⟩ := join_all l [] hm hr trivial (fun _ => rfl) (fun y hy => by cases hy)
  exact norm_is h1 h2
theorem inLab_perm {l k : List Spn} (h : l.Perm k) (n : Int) : inLab l n = inLab k n := by
  rw [Bool.eq_iff_iff, inS_iff, inS_iff]
  exact ⟨fun ⟨s, hs, hn⟩ => ⟨s, h.mem_iff.1 hs, hn⟩, fun ⟨s, hs, hn⟩ => ⟨s, h.mem_iff.2 hs, hn⟩⟩
theorem inLab_good (l : List Spn) (n : Int) : inLab (l.filter mayB) n = inLab l n := by
  rw [Bool.eq_iff_iff, inS_iff, inS_iff]
  constructor
  · rintro ⟨s, hs, hn⟩
    exact ⟨s, (List.mem_filter.1 hs).1, hn⟩
  · rintro ⟨s, hs, hn⟩
    exact ⟨s, List.mem_filter.2 ⟨hs, (mayB_iff s).2 hn.1⟩, hn⟩
/-- Whatever is a rising order of those that may be. -/
theorem join_sorted {l k : List Spn} (hp : k.Perm (l.filter mayB)) (hr : RiseS k) : joinAll k = normS l := by
  rw [join_norm (fun x hx => (mayB_iff x).1 (List.mem_filter.1 (hp.mem_iff.1 hx)).2) hr]
  exact norm_same (fun n => by rw [inLab_perm hp, inLab_good])
theorem joinS_length (m : List Spn) (s : Spn) : (joinS m s).length ≤ m.length + 1 := by
  unfold joinS
  cases hg : m.getLast? with
  | none => simp
  | some y =>
    have h1 := last_split hg
    simp only
    split
    · rw [List.length_append, List.length_dropLast]; simp
    · simp
theorem normS_length_le (l : List Spn) : (normS l).length ≤ l.length := by
  have ins_len : ∀ (m : List Spn) (s : Spn), (insS s m).length ≤ m.length + 1 := by
    intro m
    induction m with
    | nil => intro s; simp [insS]
    | cons x m ih =>
      intro s
      unfold insS
      split
      · simp
      · split
        · have := ih s; simp; omega
        · have := ih ⟨min s.f x.f, max s.l x.l⟩; simp; omega
  induction l with
  | nil => simp [normS]
  | cons s l ih =>
    unfold normS
    split
    · have := ins_len (normS l) s; simp; omega
    · simp; omega
theorem joinAll_length : ∀ (k pre : List Spn), (joinAll (pre ++ k)).length ≤ (joinAll pre).length + k.length
  | [], pre => by simp
  | s :: k, pre => by
    have h1 := joinAll_length k (pre ++ [s])
    rw [joinAll_snoc] at h1
    have h2 := joinS_length (joinAll pre) s
    rw [List.append_assoc] at h1
    simp only [List.length_cons, List.singleton_append] at *
    omega
theorem joinAll_take (k : List Spn) (i : Nat) : (joinAll (k.take i)).length ≤ k.length := by
  have := joinAll_length (k.take i) []
  have h0 : (joinAll ([] : List Spn)).length = 0 := rfl
  rw [List.nil_append, h0, List.length_take] at this
  omega
theorem joinAll_next {k : List Spn} {i : Nat} {x : Spn} (hx : k[i]? = some x) : joinAll (k.take (i + 1)) = joinS (joinAll (k.take i)) x := by
  rw [List.take_add_one, hx]
  exact joinAll_snoc _ _
theorem joinAll_normal {k : List Spn} (hm : ∀ x ∈ k, mayS x) (hr : RiseS k) (i : Nat) : Normal (joinAll (k.take i)) :=
  (join_all (k.take i) [] (fun x hx => hm x (List.mem_of_mem_take (by simpa using hx))) (hr.sublist (by simpa using List.take_sublist i k)) trivial (fun _ => rfl) (fun y hy => by cases hy)).1
end Go.Proofs.Ytgelbeglffjdaaa
namespace Go.Proofs.Ytgelbeglffjdaaa
open Go

theorem normal_take : ∀ {m : List Spn}, Normal m → ∀ i, Normal (m.take i)
  | [], _, i => by rw [List.take_nil]; trivial
  | x :: m, h, 0 => trivial
  | x :: m, h, i + 1 => ⟨h.1, fun t ht => h.2.1 t (List.mem_of_mem_take ht), normal_take h.2.2 i⟩
theorem cntS_snoc : ∀ (m : List Spn) (x : Spn), cntS (m ++ [x]) = cntS m + (x.l - x.f + 1)
  | [], x => by simp [cntS]
  | y :: m, x => by
    show y.l - y.f + 1 + cntS (m ++ [x]) = y.l - y.f + 1 + cntS m + _
    rw [cntS_snoc m x]
    omega
theorem cntL_le (p : Int → Bool) : ∀ n : Nat, cntL p n ≤ n
  | 0 => Nat.le_refl _
  | n + 1 => by
    unfold cntL
    have := cntL_le p n
    split <;> omega
theorem cntS_bound {m : List Spn} (h : Normal m) : 0 ≤ cntS m ∧ cntS m ≤ 1048576 := by
  rw [cntS_labels h]
  have := cntL_le (inLab m) 1048576
  omega
theorem longS_snoc : ∀ (m : List Spn) (x : Spn) (a : Int), longS (m ++ [x]) a = max (longS m a) (x.l - x.f + 1)
  | [], x, a => rfl
  | y :: m, x, a => by
    show longS (m ++ [x]) _ = _
    rw [longS_snoc m x]
    rfl
theorem longS_bound {m : List Spn} (h : Normal m) : 0 ≤ longS m 0 ∧ longS m 0 ≤ 1048576 := by
  refine ⟨(long_ge m 0).1, long_le m 0 1048576 (by omega) (fun x hx => ?_)⟩
  have := h.may x hx
  unfold mayS at this
  omega
theorem firstS_low {size : Int} (h : size < 1) : ∀ m : List Spn, firstS size m = none
  | [] => rfl
  | x :: m => by
    unfold firstS
    rw [if_neg (by omega)]
    exact firstS_low h m
theorem firstS_drop {size : Int} {m : List Spn} {i : Nat} {x : Spn} (hx : m[i]? = some x) : firstS size (m.drop i) = if 0 < size ∧ size ≤ x.l - x.f + 1 then some ⟨x.f, x.f + size - 1⟩ else firstS size (m.drop (i + 1)) := by
  have hi : i < m.length := (List.getElem?_eq_some_iff.1 hx).1
  have e : m.drop i = x :: m.drop (i + 1) := by
    rw [List.drop_eq_getElem_cons hi]
    congr 1
    exact (List.getElem?_eq_some_iff.1 hx).2
  rw [e]
  rfl
theorem take_next {m : List Spn} {i : Nat} {x : Spn} (hx : m[i]? = some x) : m.take (i + 1) = m.take i ++ [x] := by rw [List.take_add_one, hx]; rfl
theorem norm_may {l : List Spn} {x : Spn} (h : x ∈ normS l) : mayS x := (norm_ok l).1.may x h
theorem any_meet {s : Spn} (hs : mayS s) {m : List Spn} (hm : ∀ x ∈ m, mayS x) : (m.any fun x => decide (x.f ≤ s.l ∧ s.f ≤ x.l)) = true ↔ ∃ n, s.f ≤ n ∧ n ≤ s.l ∧ inLab m n = true := by
  rw [List.any_eq_true]
  constructor
  · rintro ⟨y, hy, h⟩
    have h := of_decide_eq_true h
    have hy2 := hm y hy
    unfold mayS at hs hy2
    exact ⟨max y.f s.f, by omega, by omega, (inS_iff _ _).2 ⟨y, hy, hm y hy, by omega, by omega⟩⟩
  · rintro ⟨n, h1, h2, h3⟩
    rw [inS_iff] at h3
    obtain ⟨y, hy, _, h4, h5⟩ := h3
    exact ⟨y, hy, decide_eq_true (by omega)⟩
theorem meet_good {s : Spn} (hs : mayS s) (l : List Spn) : ((l.filter mayB).any fun x => decide (x.f ≤ s.l ∧ s.f ≤ x.l)) = ((normS l).any fun x => decide (x.f ≤ s.l ∧ s.f ≤ x.l)) := by
  rw [Bool.eq_iff_iff, any_meet hs (fun x hx => (mayB_iff x).1 (List.mem_filter.1 hx).2), any_meet hs (fun x hx => norm_may hx)]
  constructor
  · rintro ⟨n, h1, h2, h3⟩; exact ⟨n, h1, h2, by rw [(norm_ok l).2, ← inLab_good]; exact h3⟩
  · rintro ⟨n, h1, h2, h3⟩; exact ⟨n, h1, h2, by rw [inLab_good, ← (norm_ok l).2]; exact h3⟩
/-- What is left of rows of which each may be, ahead of a span and behind it, has the labels of what is cut. -/
theorem parts_of {s : Spn} (hs : mayS s) {m : List Spn} (hm : ∀ x ∈ m, mayS x) (n : Int) :
    inLab ((m.map fun x => (⟨x.f, min x.l (s.f - 1)⟩ : Spn)) ++ (m.map fun x => (⟨max x.f (s.l + 1), x.l⟩ : Spn))) n = (inLab m n && !inSd s n) := by
  rw [← parts_in hs m hm n, inS_append]
  induction m with
  | nil => rfl
  | cons x m ih =>
    have ih := ih (fun y hy => hm y (List.mem_cons_of_mem _ hy))
    rw [List.map_cons, List.map_cons, inS_cons, inS_cons, List.flatMap_cons, inS_append, ← ih]
    have e : inLab (partS s x) n = (inSd ⟨x.f, min x.l (s.f - 1)⟩ n || (inSd ⟨max x.f (s.l + 1), x.l⟩ n || false)) := rfl
    rw [e]
    generalize inSd ⟨x.f, min x.l (s.f - 1)⟩ n = p
    generalize inSd ⟨max x.f (s.l + 1), x.l⟩ n = q
    generalize inLab (List.map (fun x => (⟨x.f, min x.l (s.f - 1)⟩ : Spn)) m) n = r
    generalize inLab (List.map (fun x => (⟨max x.f (s.l + 1), x.l⟩ : Spn)) m) n = t
    cases p <;> cases q <;> cases r <;> cases t <;> rfl
/-- What the program puts together when it cuts. -/
theorem cut_of {s : Spn} (hs : mayS s) (l : List Spn) :
    normS (((l.filter mayB).map fun x => (⟨x.f, min x.l (s.f - 1)⟩ : Spn)) ++ ((l.filter mayB).map fun x => (⟨max x.f (s.l + 1), x.l⟩ : Spn))) = cutS l s := by
  refine (norm_is (cut_normal l s) (fun n => ?_)).symm
  rw [cut_in', parts_of hs (fun x hx => (mayB_iff x).1 (List.mem_filter.1 hx).2), inLab_good]
end Go.Proofs.Ytgelbeglffjdaaa
namespace Go.Proofs.Ytgelbeglffjdaaa
open Go

/-- Does a row begin behind a label, if there is one? -/
def bhd (c : Option Int) (x : Spn) : Bool := match c with | none => true | some e => decide (e < x.f)
def atStep (c : Option Int) (a : Int) (x : Spn) : Int := if (mayB x && bhd c x && (decide (a < 0) || decide (x.f < a))) = true then x.f else a
def atF (c : Option Int) (l : List Spn) : Int := l.foldl (atStep c) (-1)
def AtOk (c : Option Int) (l : List Spn) (a : Int) : Prop :=
  (a < 0 ∧ ∀ x ∈ l, mayS x → bhd c x = false) ∨ (∃ x ∈ l, mayS x ∧ bhd c x = true ∧ a = x.f ∧ ∀ y ∈ l, mayS y → bhd c y = true → x.f ≤ y.f)
theorem at_step {c : Option Int} {pre : List Spn} {a : Int} (h : AtOk c pre a) (x : Spn) : AtOk c (pre ++ [x]) (atStep c a x) := by
  unfold atStep
  by_cases hc : (mayB x && bhd c x && (decide (a < 0) || decide (x.f < a))) = true
  · rw [if_pos hc]
    rw [Bool.and_eq_true, Bool.and_eq_true, Bool.or_eq_true, decide_eq_true_iff, decide_eq_true_iff, mayB_iff] at hc
    obtain ⟨⟨h1, h2⟩, h3⟩ := hc
    refine .inr ⟨x, by simp, h1, h2, rfl, fun y hy hym hyb => ?_⟩
    rcases List.mem_append.1 hy with hy | hy
    · rcases h with ⟨_, h5⟩ | ⟨z, hz, hzm, hzb, hza, hzl⟩
      · rw [h5 y hy hym] at hyb; cases hyb
      · have := hzl y hy hym hyb
        have : 0 ≤ z.f := hzm.1
        omega
    · rw [List.mem_singleton.1 hy]; exact Int.le_refl _
  · rw [if_neg hc]
    have hc2 : mayS x → bhd c x = true → 0 ≤ a ∧ a ≤ x.f := fun h1 h2 => by
      rw [(mayB_iff x).2 h1, h2] at hc
      simp only [Bool.and_self, Bool.true_and, Bool.or_eq_true, decide_eq_true_iff] at hc
      omega
    rcases h with ⟨h4, h5⟩ | ⟨z, hz, hzm, hzb, hza, hzl⟩
    · refine .inl ⟨h4, fun y hy hym => ?_⟩
      rcases List.mem_append.1 hy with hy | hy
      · exact h5 y hy hym
      · rw [List.mem_singleton.1 hy] at hym ⊢
        cases hb : bhd c x
        · rfl
        · have := hc2 hym hb
          omega
    · refine .inr ⟨z, List.mem_append_left _ hz, hzm, hzb, hza, fun y hy hym hyb => ?_⟩
      rcases List.mem_append.1 hy with hy | hy
      · exact hzl y hy hym hyb
      · rw [List.mem_singleton.1 hy] at hym hyb ⊢
        have := hc2 hym hyb
        omega
theorem atF_snoc (c : Option Int) (l : List Spn) (x : Spn) : atF c (l ++ [x]) = atStep c (atF c l) x := by unfold atF; rw [List.foldl_append]; rfl
theorem atF_next {c : Option Int} {l : List Spn} {i : Nat} {x : Spn} (hx : l[i]? = some x) : atF c (l.take (i + 1)) = atStep c (atF c (l.take i)) x := by rw [take_next hx, atF_snoc]
theorem at_ok_from (c : Option Int) : ∀ (k pre : List Spn) (a : Int), AtOk c pre a → AtOk c (pre ++ k) (k.foldl (atStep c) a)
  | [], pre, a, h => by rw [List.append_nil]; exact h
  | x :: k, pre, a, h => by
    have h1 := at_ok_from c k (pre ++ [x]) _ (at_step h x)
    rw [List.append_assoc] at h1
    exact h1
theorem at_ok (c : Option Int) (l : List Spn) : AtOk c l (atF c l) := at_ok_from c l [] (-1) (.inl ⟨by omega, fun _ h => by cases h⟩)
theorem atF_bound (c : Option Int) (l : List Spn) (i : Nat) : atF c (l.take i) ≤ 1048575 := by
  rcases at_ok c (l.take i) with ⟨h, _⟩ | ⟨x, _, hx, _, e, _⟩
  · omega
  · unfold mayS at hx; omega
/-- Where a run of labels ends. -/
def RunE (l : List Spn) (n N : Int) : Prop := n ≤ N ∧ (∀ k, n ≤ k → k ≤ N → inLab l k = true) ∧ inLab l (N + 1) = false
def lastOf (o : List Spn) : Option Int := o.getLast?.map (·.l)
/-- The rows so far have all labels of l up to their last one, behind which there is none. -/
def InvN (l o : List Spn) : Prop := Normal o ∧ ∀ y, o.getLast? = some y → (∀ n, inLab o n = (inLab l n && decide (n ≤ y.l))) ∧ inLab l (y.l + 1) = false
theorem inv_nil (l : List Spn) : InvN l [] := ⟨trivial, fun y h => by cases h⟩
theorem inLab_row {l : List Spn} {x : Spn} (hx : x ∈ l) (hm : mayS x) {n : Int} (h1 : x.f ≤ n) (h2 : n ≤ x.l) : inLab l n = true := (inS_iff l n).2 ⟨x, hx, hm, h1, h2⟩
theorem inv_done {l o : List Spn} (h : InvN l o) (ha : atF (lastOf o) l < 0) : o = normS l := by
  refine norm_is h.1 (fun n => ?_)
  have hat := at_ok (lastOf o) l
  rcases hat with ⟨_, h2⟩ | ⟨x, _, hx, _, e, _⟩
  · cases hg : o.getLast? with
    | none =>
      obtain rfl : o = [] := List.getLast?_eq_none_iff.1 hg
      cases hc : inLab l n with
      | false => rfl
      | true =>
        obtain ⟨s, hs, hm, _⟩ := (inS_iff l n).1 hc
        have := h2 s hs hm
        cases this
    | some y =>
      obtain ⟨h3, h4⟩ := h.2 y hg
      rw [h3]
      cases hc : inLab l n with
      | false => rfl
      | true =>
        rw [Bool.true_and, decide_eq_true_iff]
        obtain ⟨s, hs, hm, h5, h6⟩ := (inS_iff l n).1 hc
        have h7 := h2 s hs hm
        unfold lastOf at h7
        rw [hg] at h7
        have h8 : ¬ y.l < s.f := of_decide_eq_false h7
        rcases Int.lt_or_le y.l n with h9 | h9
        · rw [inLab_row hs hm (n := y.l + 1) (by omega) (by omega)] at h4
          cases h4
        · exact h9
  · have : 0 ≤ x.f := hx.1
    omega
theorem normal_last {o : List Spn} (h : Normal o) {y : Spn} (hg : o.getLast? = some y) : ∀ t ∈ o, t.l ≤ y.l := by
  have e := last_split hg
  rw [e] at h ⊢
  obtain ⟨_, h2, h3⟩ := (normal_snoc _ y).1 h
  intro t ht
  rcases List.mem_append.1 ht with ht | ht
  · have := h3 t ht
    unfold mayS at h2
    omega
  · rw [List.mem_singleton.1 ht]; exact Int.le_refl _
theorem at_in {l o : List Spn} (ha : 0 ≤ atF (lastOf o) l) : inLab l (atF (lastOf o) l) = true := by
  rcases at_ok (lastOf o) l with ⟨h, _⟩ | ⟨x, hx, hm, _, e, _⟩
  · omega
  · rw [e]
    exact inLab_row hx hm (Int.le_refl _) hm.2.1
theorem inv_more {l o : List Spn} (h : InvN l o) (ha : 0 ≤ atF (lastOf o) l) {N : Int} (hN : RunE l (atF (lastOf o) l) N) :
    InvN l (o ++ [⟨atF (lastOf o) l, N⟩]) ∧ ∀ y, o.getLast? = some y → y.l < N := by
  have hin := at_in ha
  obtain ⟨r1, r2, r3⟩ := hN
  have hb := inS_bound (r2 N r1 (Int.le_refl _))
  have hat := at_ok (lastOf o) l
  generalize hA : atF (lastOf o) l = A at *
  rcases hat with ⟨h1, _⟩ | ⟨x, hx, hm, hbx, e, hmin⟩
  · omega
  subst e
  have hmay : mayS ⟨x.f, N⟩ := ⟨ha, r1, hb.2⟩
  -- no label lies between the last row and this one
  have hgap : ∀ n, inLab l n = true → n < x.f → ∃ y, o.getLast? = some y ∧ n ≤ y.l := by
    intro n hn hlt
    obtain ⟨s, hs, hsm, h5, h6⟩ := (inS_iff l n).1 hn
    have h7 : bhd (lastOf o) s = false := by
      cases hc : bhd (lastOf o) s
      · rfl
      · have := hmin s hs hsm hc
        omega
    cases hg : o.getLast? with
    | none => unfold lastOf at h7; rw [hg] at h7; cases h7
    | some y =>
      refine ⟨y, rfl, ?_⟩
      unfold lastOf at h7
      rw [hg] at h7
      have h8 : ¬ y.l < s.f := of_decide_eq_false h7
      rcases Int.lt_or_le y.l n with h9 | h9
      · have h4 := (h.2 y hg).2
        rw [inLab_row hs hsm (n := y.l + 1) (by omega) (by omega)] at h4
        cases h4
      · exact h9
  have hlow : ∀ y, o.getLast? = some y → y.l + 1 < x.f := by
    intro y hg
    unfold lastOf at hbx
    rw [hg] at hbx
    have h8 : y.l < x.f := of_decide_eq_true hbx
    have h4 := (h.2 y hg).2
    rcases Int.lt_or_le (y.l + 1) x.f with h9 | h9
    · exact h9
    · rw [show y.l + 1 = x.f by omega, hin] at h4
      cases h4
  refine ⟨⟨(normal_snoc o _).2 ⟨h.1, hmay, fun t ht => ?_⟩, fun y hy => ?_⟩, fun y hg => ?_⟩
  · obtain ⟨y, hg⟩ : ∃ y, o.getLast? = some y := by
      cases hg : o.getLast? with
      | none => rw [List.getLast?_eq_none_iff.1 hg] at ht; cases ht
      | some y => exact ⟨y, rfl⟩
    have h1 := normal_last h.1 hg t ht
    have h2 := hlow y hg
    show t.l + 1 < x.f
    omega
  · rw [List.getLast?_concat] at hy
    cases hy
    refine ⟨fun n => ?_, r3⟩
    rw [inS_append]
    show (inLab o n || (inSd ⟨x.f, N⟩ n || false)) = (inLab l n && decide (n ≤ N))
    rw [Bool.or_false, inSd_may hmay]
    simp only
    cases hc : inLab l n with
    | false =>
      rw [Bool.false_and, Bool.or_eq_false_iff]
      refine ⟨?_, decide_eq_false (fun h5 => by rw [r2 n h5.1 h5.2] at hc; cases hc)⟩
      cases hg : o.getLast? with
      | none => rw [List.getLast?_eq_none_iff.1 hg]; rfl
      | some y => rw [(h.2 y hg).1, hc]; rfl
    | true =>
      rw [Bool.true_and]
      rcases Int.lt_or_le n x.f with h5 | h5
      · obtain ⟨y, hg, h6⟩ := hgap n hc h5
        rw [(h.2 y hg).1, hc, decide_eq_true h6, decide_eq_true (show n ≤ N by omega)]
        rfl
      · have h7 : inLab o n = false := by
          cases hg : o.getLast? with
          | none => rw [List.getLast?_eq_none_iff.1 hg]; rfl
          | some y =>
            have := hlow y hg
            rw [(h.2 y hg).1, decide_eq_false (by omega), Bool.and_false]
        rw [h7, Bool.false_or]
        apply decide_eq_decide.2
        omega
  · have := hlow y hg
    show y.l < N
    omega
theorem normal_len : ∀ {m : List Spn}, Normal m → (m.length : Int) ≤ cntS m
  | [], _ => by simp [cntS]
  | x :: m, h => by
    have h1 := normal_len h.2.2
    have h2 := h.1
    unfold mayS at h2
    show ((x :: m).length : Int) ≤ x.l - x.f + 1 + cntS m
    rw [List.length_cons]
    omega
/-- A label on from the run so far. -/
theorem run_more {l : List Spn} {n0 n : Int} (h : ∀ k, n0 ≤ k → k ≤ n → inLab l k = true) {x : Spn} (hx : x ∈ l) (hm : mayS x) (h1 : x.f ≤ n + 1) : ∀ k, n0 ≤ k → k ≤ x.l → inLab l k = true := by
  intro k h2 h3
  rcases Int.lt_or_le n k with h4 | h4
  · exact inLab_row hx hm (by omega) h3
  · exact h k h2 h4
theorem run_end {l : List Spn} {n : Int} (h : ∀ x ∈ l, mayS x → ¬ (x.f ≤ n + 1 ∧ n < x.l)) : inLab l (n + 1) = false := by
  cases hc : inLab l (n + 1) with
  | false => rfl
  | true =>
    obtain ⟨s, hs, hm, h5, h6⟩ := (inS_iff l _).1 hc
    exact absurd ⟨h5, by omega⟩ (h s hs hm)
end Go.Proofs.Ytgelbeglffjdaaa
namespace Go.Proofs.Ytgelbeglffjdaaa
open Go

structure Blk where
  s : Spn
  o : Int
  a : Int
/-- Two areas (First 0: not laid out), blocks in order. -/
structure SpS where
  a1 : Spn
  a2 : Spn
  l : List Blk
def mayO (s : Spn) : Prop := 16 ≤ s.f ∧ s.f ≤ s.l ∧ s.l ≤ 1048575
def mayOB (s : Spn) : Bool := decide (16 ≤ s.f ∧ s.f ≤ s.l ∧ s.l ≤ 1048575)
theorem mayOB_iff (s : Spn) : mayOB s = true ↔ mayO s := decide_eq_true_iff
theorem mayO.may {s : Spn} (h : mayO s) : mayS s := by unfold mayO at h; unfold mayS; omega
def SpS.ar (t : SpS) (k : Int) : Spn := if k = 1 then t.a1 else if k = 2 then t.a2 else ⟨0, 0⟩
def SpS.setAr (t : SpS) (k : Int) (s : Spn) : SpS := if k = 1 then ⟨s, t.a2, t.l⟩ else if k = 2 then ⟨t.a1, s, t.l⟩ else t
def allO : Spn := ⟨16, 1048575⟩
def cutIf (l : List Spn) (a : Spn) : List Spn := if a.f = 0 then l else cutS l a
def SpS.base (t : SpS) (k : Int) : List Spn := if k = 0 then cutIf (cutIf [allO] t.a1) t.a2 else [t.ar k]
def cutAll (l : List Spn) (bs : List Blk) : List Spn := bs.foldl (fun l b => cutS l b.s) l
def SpS.gone (t : SpS) (k : Int) : Bool := decide (k < 0) || decide (2 < k) || (decide (0 < k) && decide ((t.ar k).f = 0))
/-- What is left of an area. -/
def SpS.left (t : SpS) (k : Int) : List Spn := if t.gone k = true then [] else cutAll (t.base k) t.l
def hasB (bs : List Blk) (n : Int) : Bool := bs.any fun b => inSd b.s n
theorem hasB_iff (bs : List Blk) (n : Int) : hasB bs n = true ↔ ∃ b ∈ bs, inSpn b.s n := by
  unfold hasB
  rw [List.any_eq_true]
  simp only [inSd_iff]
theorem cutAll_in : ∀ (bs : List Blk) (l : List Spn) (n : Int), inLab (cutAll l bs) n = (inLab l n && !hasB bs n)
  | [], l, n => by show inLab l n = (inLab l n && !false); simp
  | b :: bs, l, n => by
    show inLab (cutAll (cutS l b.s) bs) n = (inLab l n && !(inSd b.s n || hasB bs n))
    rw [cutAll_in bs, cut_in', Bool.not_or, Bool.and_assoc]
theorem cutAll_normal : ∀ (bs : List Blk) {l : List Spn}, Normal l → Normal (cutAll l bs)
  | [], _, h => h
  | b :: bs, l, _ => cutAll_normal bs (cut_normal l b.s)
/-- An area that isn't laid out, or may be owned. -/
def okA (a : Spn) : Prop := a = ⟨0, 0⟩ ∨ mayO a
def apA (s a : Spn) : Prop := a.f = 0 ∨ s.l < a.f ∨ a.l < s.f
theorem cutIf_in {a : Spn} (h : okA a) {l : List Spn} (hl : ∀ n, inLab l n = true → 16 ≤ n) (n : Int) : inLab (cutIf l a) n = (inLab l n && !inSd a n) := by
  unfold cutIf
  rcases h with rfl | h
  · rw [if_pos rfl]
    cases hc : inLab l n with
    | false => rfl
    | true =>
      have := hl n hc
      rw [inSd_no (fun h => by have := h.2.2; simp only at this; omega)]
      rfl
  · rw [if_neg (by unfold mayO at h; omega), cut_in']
theorem cutIf_normal {l : List Spn} (h : Normal l) (a : Spn) : Normal (cutIf l a) := by
  unfold cutIf
  split
  · exact h
  · exact cut_normal l a
structure WF (t : SpS) : Prop where
  o1 : okA t.a1
  o2 : okA t.a2
  ap : t.a1.f = 0 ∨ apA t.a1 t.a2
  blk : ∀ b ∈ t.l, mayO b.s ∧ 1 ≤ b.o ∧ ((b.a = 0 ∧ apA b.s t.a1 ∧ apA b.s t.a2) ∨ ((b.a = 1 ∨ b.a = 2) ∧ (t.ar b.a).f ≠ 0 ∧ (t.ar b.a).f ≤ b.s.f ∧ b.s.l ≤ (t.ar b.a).l))
  srt : t.l.Pairwise fun x y => x.s.l < y.s.f
theorem WF.new : WF ⟨⟨0, 0⟩, ⟨0, 0⟩, []⟩ := ⟨.inl rfl, .inl rfl, .inl rfl, (fun b h => by cases h), List.Pairwise.nil⟩
theorem allO_in (n : Int) : inLab [allO] n = decide (16 ≤ n ∧ n ≤ 1048575) := by
  show (inSd allO n || false) = _
  rw [Bool.or_false, inSd_may (by unfold mayS allO; simp only; omega)]
  rfl
theorem base0_in {t : SpS} (h : WF t) (n : Int) : inLab (t.base 0) n = (decide (16 ≤ n ∧ n ≤ 1048575) && !inSd t.a1 n && !inSd t.a2 n) := by
  unfold SpS.base
  rw [if_pos rfl]
  have h1 : ∀ n, inLab [allO] n = true → 16 ≤ n := fun n hn => by rw [allO_in] at hn; exact (of_decide_eq_true hn).1
  rw [cutIf_in h.o2 (fun n hn => by rw [cutIf_in h.o1 h1, Bool.and_eq_true] at hn; exact h1 n hn.1), cutIf_in h.o1 h1, allO_in]
theorem okAr {t : SpS} (h : WF t) (k : Int) : okA (t.ar k) := by
  unfold SpS.ar
  split
  · exact h.o1
  · split
    · exact h.o2
    · exact .inl rfl
theorem left_normal {t : SpS} (h : WF t) (k : Int) : Normal (t.left k) := by
  unfold SpS.left
  split
  · trivial
  · refine cutAll_normal _ ?_
    unfold SpS.base
    split
    · exact cutIf_normal (cutIf_normal (show Normal [allO] from ⟨by unfold mayS allO; simp only; omega, (fun t ht => by cases ht), trivial⟩) _) _
    · rcases okAr h k with h1 | h1
      · rw [h1]; exact ⟨by unfold mayS; simp only; omega, (fun t ht => by cases ht), trivial⟩
      · exact ⟨h1.may, (fun t ht => by cases ht), trivial⟩
theorem left0_in {t : SpS} (h : WF t) (n : Int) : inLab (t.left 0) n = (decide (16 ≤ n ∧ n ≤ 1048575) && !inSd t.a1 n && !inSd t.a2 n && !hasB t.l n) := by
  have e : t.gone 0 = false := by unfold SpS.gone; simp
  unfold SpS.left
  rw [e, if_neg (by simp), cutAll_in, base0_in h]
theorem leftk_in {t : SpS} {k : Int} (hk : k = 1 ∨ k = 2) (n : Int) : inLab (t.left k) n = (!decide ((t.ar k).f = 0) && inSd (t.ar k) n && !hasB t.l n) := by
  have e : t.gone k = decide ((t.ar k).f = 0) := by
    unfold SpS.gone
    rcases hk with rfl | rfl <;> simp
  unfold SpS.left
  rw [e]
  by_cases hf : (t.ar k).f = 0
  · rw [decide_eq_true hf, if_pos rfl]; rfl
  · rw [decide_eq_false hf, if_neg (by simp), cutAll_in]
    unfold SpS.base
    rw [if_neg (by omega)]
    show ((inSd (t.ar k) n || false) && _) = _
    rw [Bool.or_false]
    rfl
/-! Carve, Close, Area. -/
def SpS.carve (t : SpS) (k : Int) (s : Spn) : SpS × Int :=
  if k < 1 ∨ 2 < k then (t, 1) else if mayOB s = false then (t, 40) else if 0 < (t.ar k).f then (t, 32) else if hasS (t.left 0) s = false then (t, 42) else (t.setAr k s, 0)
def SpS.close (t : SpS) (k : Int) : SpS × Int :=
  if k < 1 ∨ 2 < k then (t, 1) else if (t.ar k).f = 0 then (t, 31) else if (t.l.any fun b => decide (b.a = k)) = true then (t, 33) else (t.setAr k ⟨0, 0⟩, 0)
def SpS.area (t : SpS) (k : Int) : Spn × Bool := if k < 1 ∨ 2 < k ∨ (t.ar k).f = 0 then (⟨0, 0⟩, false) else (t.ar k, true)
theorem ap_of {s a : Spn} (hs : mayS s) (ha : okA a) (h : ∀ n, s.f ≤ n → n ≤ s.l → inSd a n = false) : apA s a := by
  rcases ha with rfl | ha
  · exact .inl rfl
  · unfold apA
    have h1 := ha.may
    rcases Int.lt_or_le s.l a.f with h2 | h2
    · exact .inr (.inl h2)
    · rcases Int.lt_or_le a.l s.f with h3 | h3
      · exact .inr (.inr h3)
      · have h4 := h (max s.f a.f) (by omega) (by have := hs.2.1; omega)
        rw [inSd_may h1, decide_eq_false_iff_not] at h4
        have := h1.2.1
        omega
theorem out_of {s : Spn} (hs : mayS s) {b : Blk} (hb : mayO b.s) {l : List Blk} (hm : b ∈ l) (h : ∀ n, s.f ≤ n → n ≤ s.l → hasB l n = false) : s.l < b.s.f ∨ b.s.l < s.f := by
  have := ap_of hs (.inr hb) (fun n h1 h2 => by
    cases hc : inSd b.s n with
    | false => rfl
    | true =>
      have h3 := h n h1 h2
      rw [show hasB l n = true from (hasB_iff l n).2 ⟨b, hm, (inSd_iff _ _).1 hc⟩] at h3
      cases h3)
  rcases this with h1 | h1
  · unfold mayO at hb; omega
  · exact h1
theorem WF.carve {t : SpS} (h : WF t) (k : Int) (s : Spn) : WF (t.carve k s).1 := by
  unfold SpS.carve
  split
  · exact h
  · split
    · exact h
    · split
      · exact h
      · split
        · exact h
        · rename_i hk hs hf hh
          have hs : mayO s := (mayOB_iff s).1 (by cases hc : mayOB s <;> simp_all)
          have hh : hasS (t.left 0) s = true := by cases hc : hasS (t.left 0) s <;> simp_all
          obtain ⟨hm, hin⟩ := has_all.1 hh
          have h0 : ∀ n, s.f ≤ n → n ≤ s.l → inSd t.a1 n = false ∧ inSd t.a2 n = false ∧ hasB t.l n = false := fun n h1 h2 => by
            have := hin n h1 h2
            rw [left0_in h] at this
            simp only [Bool.and_eq_true, Bool.not_eq_true'] at this
            exact ⟨this.1.1.2, this.1.2, this.2⟩
          have hb : ∀ b ∈ t.l, s.l < b.s.f ∨ b.s.l < s.f := fun b hb => out_of hm (h.blk b hb).1 hb (fun n h1 h2 => (h0 n h1 h2).2.2)
          have hk2 : k = 1 ∨ k = 2 := by omega
          have hne : ∀ b ∈ t.l, b.a ≠ k := fun b hb e => by
            have h9 := (h.blk b hb).2.2
            rw [e] at h9
            rcases h9 with ⟨h9, _⟩ | ⟨_, h9, _⟩
            · omega
            · rcases okAr h k with h8 | h8
              · rw [h8] at h9; exact h9 rfl
              · unfold mayO at h8; omega
          rcases hk2 with rfl | rfl
          · refine ⟨.inr hs, h.o2, .inr (ap_of hm h.o2 (fun n h1 h2 => (h0 n h1 h2).2.1)), fun b hbm => ?_, h.srt⟩
            obtain ⟨q1, q2, q3⟩ := h.blk b hbm
            refine ⟨q1, q2, ?_⟩
            rcases q3 with ⟨q3, q4, q5⟩ | ⟨q3, q4⟩
            · refine .inl ⟨q3, ?_, q5⟩
              rcases hb b hbm with h6 | h6
              · exact .inr (.inr h6)
              · exact .inr (.inl h6)
            · have h7 : b.a = 2 := by have := hne b hbm; omega
              rw [h7] at q4
              refine .inr ⟨q3, ?_⟩
              rw [h7]
              exact q4
          · refine ⟨h.o1, .inr hs, ?_, fun b hbm => ?_, h.srt⟩
            · have := ap_of hm h.o1 (fun n h1 h2 => (h0 n h1 h2).1)
              show t.a1.f = 0 ∨ apA t.a1 s
              rcases this with h6 | h6 | h6
              · exact .inl h6
              · exact .inr (.inr (.inr h6))
              · exact .inr (.inr (.inl h6))
            · obtain ⟨q1, q2, q3⟩ := h.blk b hbm
              refine ⟨q1, q2, ?_⟩
              rcases q3 with ⟨q3, q4, q5⟩ | ⟨q3, q4⟩
              · refine .inl ⟨q3, q4, ?_⟩
                rcases hb b hbm with h6 | h6
                · exact .inr (.inr h6)
                · exact .inr (.inl h6)
              · have h7 : b.a = 1 := by have := hne b hbm; omega
                rw [h7] at q4
                refine .inr ⟨q3, ?_⟩
                rw [h7]
                exact q4
theorem WF.close {t : SpS} (h : WF t) (k : Int) : WF (t.close k).1 := by
  unfold SpS.close
  split
  · exact h
  · split
    · exact h
    · split
      · exact h
      · rename_i hk hf hb
        have hne : ∀ b ∈ t.l, b.a ≠ k := fun b hbm e => hb (List.any_eq_true.2 ⟨b, hbm, decide_eq_true e⟩)
        have hk2 : k = 1 ∨ k = 2 := by omega
        rcases hk2 with rfl | rfl
        · refine ⟨.inl rfl, h.o2, .inl rfl, fun b hbm => ?_, h.srt⟩
          obtain ⟨q1, q2, q3⟩ := h.blk b hbm
          refine ⟨q1, q2, ?_⟩
          rcases q3 with ⟨q3, q4, q5⟩ | ⟨q3, q4⟩
          · exact .inl ⟨q3, .inl rfl, q5⟩
          · have h7 : b.a = 2 := by have := hne b hbm; omega
            rw [h7] at q4
            refine .inr ⟨q3, ?_⟩
            rw [h7]
            exact q4
        · refine ⟨h.o1, .inl rfl, .inr (.inl rfl), fun b hbm => ?_, h.srt⟩
          obtain ⟨q1, q2, q3⟩ := h.blk b hbm
          refine ⟨q1, q2, ?_⟩
          rcases q3 with ⟨q3, q4, q5⟩ | ⟨q3, q4⟩
          · exact .inl ⟨q3, q4, .inl rfl⟩
          · have h7 : b.a = 1 := by have := hne b hbm; omega
            rw [h7] at q4
            refine .inr ⟨q3, ?_⟩
            rw [h7]
            exact q4
/-! Draw, Take, Free. -/
def putB (b : Blk) : List Blk → List Blk
  | [] => [b]
  | x :: l => if x.s.f < b.s.f then x :: putB b l else b :: x :: l
def eqSp (s t : Spn) : Bool := decide (s.f = t.f ∧ s.l = t.l)
theorem eqSp_iff {s t : Spn} : eqSp s t = true ↔ s = t := by
  unfold eqSp
  rw [decide_eq_true_iff]
  obtain ⟨a, b⟩ := s
  obtain ⟨c, d⟩ := t
  simp
def delB (s : Spn) (o : Int) : List Blk → Option (List Blk)
  | [] => none
  | x :: l => if (eqSp x.s s && decide (x.o = o)) = true then some l else (delB s o l).map (x :: ·)
def SpS.put (t : SpS) (b : Blk) : SpS := ⟨t.a1, t.a2, putB b t.l⟩
def SpS.draw (t : SpS) (o k n : Int) : SpS × Spn × Int :=
  if o < 1 ∨ k < 0 ∨ 2 < k ∨ n < 1 then (t, ⟨0, 0⟩, 1) else if 0 < k ∧ (t.ar k).f = 0 then (t, ⟨0, 0⟩, 31)
  else match firstS n (normS (t.left k)) with
    | none => (t, ⟨0, 0⟩, 43)
    | some x => (t.put ⟨x, o, k⟩, x, 0)
def SpS.take (t : SpS) (o : Int) (s : Spn) : SpS × Int :=
  if o < 1 then (t, 1) else if mayOB s = false then (t, 40)
  else if hasS (t.left 0) s = true then (t.put ⟨s, o, 0⟩, 0) else if hasS (t.left 1) s = true then (t.put ⟨s, o, 1⟩, 0) else if hasS (t.left 2) s = true then (t.put ⟨s, o, 2⟩, 0) else (t, 42)
def SpS.free (t : SpS) (o : Int) (s : Spn) : SpS × Int :=
  match delB s o t.l with
  | none => (t, 31)
  | some l => (⟨t.a1, t.a2, l⟩, 0)
def ownB (n : Int) : List Blk → Int × Int
  | [] => (0, 0)
  | x :: l => if x.s.f ≤ n ∧ n ≤ x.s.l then (x.o, x.a) else ownB n l
def SpS.index (t : SpS) (n : Int) : Int × Bool := if t.a1.f = 0 ∨ n < 0 ∨ t.a1.l - t.a1.f < n then (0, false) else (t.a1.f + n, true)
theorem mem_putB {b y : Blk} : ∀ {l : List Blk}, y ∈ putB b l ↔ y = b ∨ y ∈ l
  | [] => by simp [putB]
  | x :: l => by
    unfold putB
    split
    · rw [List.mem_cons, mem_putB, List.mem_cons]
      constructor
      · rintro (h | h | h)
        · exact .inr (.inl h)
        · exact .inl h
        · exact .inr (.inr h)
      · rintro (h | h | h)
        · exact .inr (.inl h)
        · exact .inl h
        · exact .inr (.inr h)
    · simp
theorem putB_srt {b : Blk} (hb : mayO b.s) : ∀ {l : List Blk}, (∀ y ∈ l, mayO y.s ∧ (b.s.l < y.s.f ∨ y.s.l < b.s.f)) → (l.Pairwise fun x y => x.s.l < y.s.f) → (putB b l).Pairwise fun x y => x.s.l < y.s.f
  | [], _, _ => List.pairwise_singleton _ _
  | x :: l, h, hp => by
    obtain ⟨hp1, hp2⟩ := List.pairwise_cons.1 hp
    have hx := h x List.mem_cons_self
    unfold mayO at hb hx
    unfold putB
    split
    · refine List.pairwise_cons.2 ⟨fun y hy => ?_, putB_srt hb (fun y hy => h y (List.mem_cons_of_mem _ hy)) hp2⟩
      rcases mem_putB.1 hy with rfl | hy
      · omega
      · exact hp1 y hy
    · refine List.pairwise_cons.2 ⟨fun y hy => ?_, hp⟩
      rcases List.mem_cons.1 hy with rfl | hy
      · omega
      · have := hp1 y hy
        omega
theorem WF.put {t : SpS} (h : WF t) {s : Spn} {o k : Int} (ho : 1 ≤ o) (hk : k = 0 ∨ k = 1 ∨ k = 2) (hh : hasS (t.left k) s = true) : WF (t.put ⟨s, o, k⟩) ∧ mayO s ∧ ∀ b ∈ t.l, s.l < b.s.f ∨ b.s.l < s.f := by
  obtain ⟨hm, hin⟩ := has_all.1 hh
  have hm2 := hm
  unfold mayS at hm2
  -- where its labels are
  have h0 : hasB t.l s.f = false ∧ (∀ n, s.f ≤ n → n ≤ s.l → hasB t.l n = false) ∧ mayO s ∧ ((k = 0 ∧ apA s t.a1 ∧ apA s t.a2) ∨ ((k = 1 ∨ k = 2) ∧ (t.ar k).f ≠ 0 ∧ (t.ar k).f ≤ s.f ∧ s.l ≤ (t.ar k).l)) := by
    rcases hk with rfl | hk
    · have h1 : ∀ n, s.f ≤ n → n ≤ s.l → 16 ≤ n ∧ inSd t.a1 n = false ∧ inSd t.a2 n = false ∧ hasB t.l n = false := fun n h1 h2 => by
        have := hin n h1 h2
        rw [left0_in h] at this
        simp only [Bool.and_eq_true, Bool.not_eq_true', decide_eq_true_iff] at this
        exact ⟨this.1.1.1.1, this.1.1.2, this.1.2, this.2⟩
      have h2 := h1 s.f (Int.le_refl _) hm2.2.1
      exact ⟨h2.2.2.2, fun n a b => (h1 n a b).2.2.2, ⟨h2.1, hm2.2.1, hm2.2.2⟩, .inl ⟨rfl, ap_of hm h.o1 (fun n a b => (h1 n a b).2.1), ap_of hm h.o2 (fun n a b => (h1 n a b).2.2.1)⟩⟩
    · have h1 : ∀ n, s.f ≤ n → n ≤ s.l → (t.ar k).f ≠ 0 ∧ inSd (t.ar k) n = true ∧ hasB t.l n = false := fun n h1 h2 => by
        have := hin n h1 h2
        rw [leftk_in hk] at this
        simp only [Bool.and_eq_true, Bool.not_eq_true', decide_eq_false_iff_not] at this
        exact ⟨this.1.1, this.1.2, this.2⟩
      have h2 := h1 s.f (Int.le_refl _) hm2.2.1
      have h3 := h1 s.l hm2.2.1 (Int.le_refl _)
      have h4 := ((inSd_iff _ _).1 h2.2.1).2
      have h5 := ((inSd_iff _ _).1 h3.2.1).2
      have h6 : mayO (t.ar k) := by
        rcases okAr h k with h8 | h8
        · exact absurd (by rw [h8]) h2.1
        · exact h8
      unfold mayO at h6
      exact ⟨h2.2.2, fun n a b => (h1 n a b).2.2, ⟨by omega, hm2.2.1, hm2.2.2⟩, .inr ⟨hk, h2.1, h4.1, h5.2⟩⟩
  obtain ⟨_, h1, h2, h3⟩ := h0
  have hout : ∀ b ∈ t.l, s.l < b.s.f ∨ b.s.l < s.f := fun b hb => out_of hm (h.blk b hb).1 hb h1
  refine ⟨⟨h.o1, h.o2, h.ap, fun b hb => ?_, putB_srt h2 (fun y hy => ⟨(h.blk y hy).1, hout y hy⟩) h.srt⟩, h2, hout⟩
  rcases mem_putB.1 hb with rfl | hb
  · exact ⟨h2, ho, h3⟩
  · exact h.blk b hb
theorem WF.draw {t : SpS} (h : WF t) (o k n : Int) : WF (t.draw o k n).1 := by
  unfold SpS.draw
  split
  · exact h
  · split
    · exact h
    · split
      · exact h
      · rename_i hc _ x hx
        exact (h.put (o := o) (k := k) (by omega) (by omega) (first_has hx)).1
theorem WF.take {t : SpS} (h : WF t) (o : Int) (s : Spn) : WF (t.take o s).1 := by
  unfold SpS.take
  split
  · exact h
  · split
    · exact h
    · split
      · rename_i hc _ hh; exact (h.put (by omega) (.inl rfl) hh).1
      · split
        · rename_i hc _ _ hh; exact (h.put (by omega) (.inr (.inl rfl)) hh).1
        · split
          · rename_i hc _ _ _ hh; exact (h.put (by omega) (.inr (.inr rfl)) hh).1
          · exact h
theorem delB_sub {s : Spn} {o : Int} : ∀ {l m : List Blk}, delB s o l = some m → m.Sublist l
  | [], m, h => by cases h
  | x :: l, m, h => by
    unfold delB at h
    split at h
    · cases h; exact List.sublist_cons_self x l
    · cases hd : delB s o l with
      | none => rw [hd] at h; cases h
      | some m2 => rw [hd] at h; cases h; exact (delB_sub hd).cons_cons x
theorem WF.free {t : SpS} (h : WF t) (o : Int) (s : Spn) : WF (t.free o s).1 := by
  unfold SpS.free
  split
  · exact h
  · rename_i l hl
    have hs := delB_sub hl
    exact ⟨h.o1, h.o2, h.ap, fun b hb => h.blk b (hs.subset hb), h.srt.sublist hs⟩
/-! What follows (P12.4). -/
theorem delB_none {s : Spn} {o : Int} : ∀ {l : List Blk}, (∀ y ∈ l, y.s = s → y.o ≠ o) → delB s o l = none
  | [], _ => rfl
  | x :: l, h => by
    unfold delB
    rw [if_neg (fun hc => by
      rw [Bool.and_eq_true, eqSp_iff, decide_eq_true_iff] at hc
      exact h x List.mem_cons_self hc.1 hc.2), delB_none (fun y hy => h y (List.mem_cons_of_mem _ hy))]
    rfl
theorem delB_putB {b : Blk} : ∀ {l : List Blk}, (∀ y ∈ l, y.s ≠ b.s) → delB b.s b.o (putB b l) = some l
  | [], _ => by
    unfold putB delB
    rw [if_pos (by rw [eqSp_iff.2 rfl, decide_eq_true rfl]; rfl)]
  | x :: l, h => by
    have hx : eqSp x.s b.s = false := by cases hc : eqSp x.s b.s; rfl; exact absurd (eqSp_iff.1 hc) (h x List.mem_cons_self)
    unfold putB
    split
    · unfold delB
      rw [hx, Bool.false_and, if_neg (by simp), delB_putB (fun y hy => h y (List.mem_cons_of_mem _ hy))]
      rfl
    · unfold delB
      rw [if_pos (by rw [eqSp_iff.2 rfl, decide_eq_true rfl]; rfl)]
/-- What is drawn and freed leaves all as it was; another owner frees it not, nor does it go twice. -/
theorem put_free {t : SpS} {s : Spn} {o k : Int} (hs : mayO s) (hout : ∀ b ∈ t.l, s.l < b.s.f ∨ b.s.l < s.f) :
    (t.put ⟨s, o, k⟩).free o s = (t, 0) ∧ (∀ p, p ≠ o → (t.put ⟨s, o, k⟩).free p s = (t.put ⟨s, o, k⟩, 31)) ∧ ∀ p, t.free p s = (t, 31) := by
  unfold mayO at hs
  have hne : ∀ y ∈ t.l, y.s ≠ s := fun y hy e => by have := hout y hy; rw [e] at this; omega
  refine ⟨?_, fun p hp => ?_, fun p => ?_⟩
  · unfold SpS.free SpS.put
    simp only
    rw [delB_putB (b := ⟨s, o, k⟩) hne]
  · unfold SpS.free
    rw [delB_none (fun y hy e => by
      rcases mem_putB.1 hy with rfl | hy
      · exact fun e2 => hp e2.symm
      · exact absurd e (hne y hy))]
  · unfold SpS.free
    rw [delB_none (fun y hy e => absurd e (hne y hy))]
/-- What is left of one area is left of no other. -/
theorem left_apart {t : SpS} (h : WF t) {n : Int} : ∀ {j k : Int}, (j = 0 ∨ j = 1 ∨ j = 2) → (k = 0 ∨ k = 1 ∨ k = 2) → inLab (t.left j) n = true → inLab (t.left k) n = true → j = k := by
  have h01 : ∀ k, (k = 1 ∨ k = 2) → inLab (t.left 0) n = true → inLab (t.left k) n = true → False := fun k hk a b => by
    rw [left0_in h] at a
    rw [leftk_in hk] at b
    simp only [Bool.and_eq_true, Bool.not_eq_true'] at a b
    have c := b.1.2
    unfold SpS.ar at c
    rcases hk with rfl | rfl
    · rw [if_pos rfl, a.1.1.2] at c; cases c
    · rw [if_neg (by omega), if_pos rfl, a.1.2] at c; cases c
  have h12 : inLab (t.left 1) n = true → inLab (t.left 2) n = true → False := fun a b => by
    rw [leftk_in (.inl rfl)] at a
    rw [leftk_in (.inr rfl)] at b
    simp only [Bool.and_eq_true, Bool.not_eq_true', decide_eq_false_iff_not] at a b
    have a2 := ((inSd_iff _ _).1 a.1.2).2
    have b2 := ((inSd_iff _ _).1 b.1.2).2
    have a3 := a.1.1
    have b3 := b.1.1
    have hap := h.ap
    unfold apA at hap
    simp only [SpS.ar, if_true, show ¬ (2 : Int) = 1 by omega, if_false] at a2 a3 b2 b3
    omega
  intro j k hj hk a b
  rcases hj with rfl | rfl | rfl <;> rcases hk with rfl | rfl | rfl <;> first | rfl | exact (h01 _ (by omega) a b).elim | exact (h01 _ (by omega) b a).elim | exact (h12 a b).elim | exact (h12 b a).elim
/-- What may be drawn of an area is taken there. -/
theorem take_left {t : SpS} (h : WF t) {s : Spn} {o k : Int} (ho : 1 ≤ o) (hk : k = 0 ∨ k = 1 ∨ k = 2) (hh : hasS (t.left k) s = true) : t.take o s = (t.put ⟨s, o, k⟩, 0) := by
  have hm := (h.put (o := o) ho hk hh).2.1
  have hm2 := hm
  unfold mayO at hm2
  have hno : ∀ j, (j = 0 ∨ j = 1 ∨ j = 2) → j ≠ k → hasS (t.left j) s = false := fun j hj hne => by
    cases hc : hasS (t.left j) s with
    | false => rfl
    | true => exact absurd (left_apart h hj hk ((has_all.1 hc).2 s.f (Int.le_refl _) hm2.2.1) ((has_all.1 hh).2 s.f (Int.le_refl _) hm2.2.1)) hne
  unfold SpS.take
  rw [if_neg (by omega), (mayOB_iff s).2 hm, if_neg (by simp)]
  rcases hk with rfl | rfl | rfl
  · rw [if_pos hh]
  · rw [hno 0 (.inl rfl) (by omega), if_neg (by simp), if_pos hh]
  · rw [hno 0 (.inl rfl) (by omega), if_neg (by simp), hno 1 (.inr (.inl rfl)) (by omega), if_neg (by simp), if_pos hh]
def sumB : List Blk → Int
  | [] => 0
  | b :: l => b.s.l - b.s.f + 1 + sumB l
theorem sumB_labels : ∀ {l : List Blk}, (∀ b ∈ l, mayO b.s) → (l.Pairwise fun x y => x.s.l < y.s.f) → sumB l = (cntL (hasB l) 1048576 : Int)
  | [], _, _ => by
    have : cntL (hasB []) 1048576 = 0 := cntL_zero 1048576
    rw [this]; rfl
  | b :: l, h, hp => by
    obtain ⟨hp1, hp2⟩ := List.pairwise_cons.1 hp
    have hb := h b List.mem_cons_self
    have e1 : cntL (hasB (b :: l)) 1048576 = cntL (fun i => decide (b.s.f ≤ i ∧ i ≤ b.s.l) || hasB l i) 1048576 := cntL_congr _ (fun i _ => by
      show (inSd b.s i || hasB l i) = _
      rw [inSd_may hb.may])
    have e2 := cntL_or (fun i => decide (b.s.f ≤ i ∧ i ≤ b.s.l)) (hasB l) 1048576 (fun i _ => by
      cases hc : hasB l (i : Int) with
      | false => simp
      | true =>
        obtain ⟨c, hcm, _, h2, h3⟩ := (hasB_iff l i).1 hc
        have := hp1 c hcm
        rw [decide_eq_false (by omega)]
        rfl)
    unfold mayO at hb
    have e3 := cntL_row b.s.f b.s.l (by omega) hb.2.1 1048576
    rw [e1, e2]
    show b.s.l - b.s.f + 1 + sumB l = _
    rw [sumB_labels (fun c hc => h c (List.mem_cons_of_mem _ hc)) hp2, Int.natCast_add, e3]
    omega
/-- All labels from 16 on are owned, or left, just once. -/
theorem all_once {t : SpS} (h : WF t) : sumB t.l + cntS (t.left 0) + cntS (t.left 1) + cntS (t.left 2) = 1048560 := by
  rw [sumB_labels (fun b hb => (h.blk b hb).1) h.srt, cntS_labels (left_normal h 0), cntS_labels (left_normal h 1), cntS_labels (left_normal h 2)]
  have e1 := cntL_or (hasB t.l) (inLab (t.left 0)) 1048576 (fun i _ => by
    rw [left0_in h]
    cases hasB t.l i <;> simp)
  have hk : ∀ k, (k = 1 ∨ k = 2) → ∀ n, (hasB t.l n && inLab (t.left k) n) = false := fun k hk n => by
    rw [leftk_in hk]
    cases hasB t.l n <;> simp
  have hj : ∀ {j k : Int}, (j = 0 ∨ j = 1 ∨ j = 2) → (k = 0 ∨ k = 1 ∨ k = 2) → j ≠ k → ∀ n, (inLab (t.left j) n && inLab (t.left k) n) = false := fun hj hk hne n => by
    cases hc : (inLab (t.left _) n && inLab (t.left _) n) with
    | false => rfl
    | true => rw [Bool.and_eq_true] at hc; exact absurd (left_apart h hj hk hc.1 hc.2) hne
  have e2 := cntL_or (fun i => hasB t.l i || inLab (t.left 0) i) (inLab (t.left 1)) 1048576 (fun i _ => by
    rw [Bool.and_or_distrib_right, hk 1 (.inl rfl), hj (.inl rfl) (.inr (.inl rfl)) (by omega)]
    rfl)
  have e3 := cntL_or (fun i => (hasB t.l i || inLab (t.left 0) i) || inLab (t.left 1) i) (inLab (t.left 2)) 1048576 (fun i _ => by
    rw [Bool.and_or_distrib_right, Bool.and_or_distrib_right, hk 2 (.inr rfl), hj (.inl rfl) (.inr (.inr rfl)) (by omega), hj (.inr (.inl rfl)) (.inr (.inr rfl)) (by omega)]
    rfl)
  have e4 : cntL (fun i => ((hasB t.l i || inLab (t.left 0) i) || inLab (t.left 1) i) || inLab (t.left 2) i) 1048576 = cntL (fun i => decide (16 ≤ i ∧ i ≤ 1048575)) 1048576 := cntL_congr _ (fun i hi => by
    rw [left0_in h, leftk_in (.inl rfl), leftk_in (.inr rfl)]
    have hb : hasB t.l i = true → (16 : Int) ≤ i ∧ (i : Int) ≤ 1048575 := fun hc => by
      obtain ⟨c, hcm, _, h2, h3⟩ := (hasB_iff t.l i).1 hc
      have := (h.blk c hcm).1
      unfold mayO at this
      omega
    have ha : ∀ a, okA a → a.f ≠ 0 → inSd a (i : Int) = true → (16 : Int) ≤ i ∧ (i : Int) ≤ 1048575 := fun a hok hf hc => by
      rcases hok with rfl | hok
      · exact absurd rfl hf
      · have := ((inSd_iff _ _).1 hc).2
        unfold mayO at hok
        omega
    have hz : ∀ a, okA a → a.f = 0 → (16 : Int) ≤ i → inSd a (i : Int) = false := fun a hok hf h16 => by
      rcases hok with rfl | hok
      · exact inSd_no (fun h => by have := h.2.2; simp only at this; omega)
      · unfold mayO at hok; omega
    simp only [SpS.ar, if_true, show ¬ (2 : Int) = 1 by omega, if_false]
    have p1 := ha t.a1 h.o1
    have p2 := ha t.a2 h.o2
    have z1 := hz t.a1 h.o1
    have z2 := hz t.a2 h.o2
    by_cases hr : (16 : Int) ≤ i ∧ (i : Int) ≤ 1048575
    · rw [decide_eq_true hr]
      by_cases f1 : t.a1.f = 0
      · rw [z1 f1 hr.1]
        by_cases f2 : t.a2.f = 0
        · rw [z2 f2 hr.1]
          cases hasB t.l i <;> simp
        · rw [decide_eq_false f2]
          cases hasB t.l i <;> cases inSd t.a2 i <;> simp
      · rw [decide_eq_false f1]
        by_cases f2 : t.a2.f = 0
        · rw [z2 f2 hr.1]
          cases hasB t.l i <;> cases inSd t.a1 i <;> simp
        · rw [decide_eq_false f2]
          cases hasB t.l i <;> cases inSd t.a1 i <;> cases inSd t.a2 i <;> simp
    · rw [decide_eq_false hr]
      have nb : hasB t.l i = false := by cases hc : hasB t.l i; rfl; exact absurd (hb hc) hr
      rw [nb]
      have n1 : (!decide (t.a1.f = 0) && inSd t.a1 i) = false := by
        by_cases f1 : t.a1.f = 0
        · rw [decide_eq_true f1]; rfl
        · cases hc : inSd t.a1 i
          · simp
          · exact absurd (p1 f1 hc) hr
      have n2 : (!decide (t.a2.f = 0) && inSd t.a2 i) = false := by
        by_cases f2 : t.a2.f = 0
        · rw [decide_eq_true f2]; rfl
        · cases hc : inSd t.a2 i
          · simp
          · exact absurd (p2 f2 hc) hr
      rw [n1, n2]
      rfl)
  have e5 := cntL_row 16 1048575 (by omega) (by omega) 1048576
  rw [e4] at e3
  omega
end Go.Proofs.Ytgelbeglffjdaaa
namespace Go.Proofs.Ytgelbeglffjdaaa
open Go

def rowsB (l : List Blk) : List Spn := normS (l.map (·.s))
theorem inLab_map (l : List Blk) (n : Int) : inLab (l.map (·.s)) n = hasB l n := by
  induction l with
  | nil => rfl
  | cons b l ih => show (inSd b.s n || inLab (l.map (·.s)) n) = (inSd b.s n || hasB l n); rw [ih]
theorem rowsB_in (l : List Blk) (n : Int) : inLab (rowsB l) n = hasB l n := by unfold rowsB; rw [(norm_ok _).2, inLab_map]
theorem rowsB_normal (l : List Blk) : Normal (rowsB l) := (norm_ok _).1
theorem rowsB_length (l : List Blk) : (rowsB l).length ≤ l.length := by have := normS_length_le (l.map (·.s)); rwa [List.length_map] at this
/-! Rows near a span. -/
theorem normal_tail {x : Spn} {m : List Spn} (h : Normal (x :: m)) : Normal m := h.2.2
theorem normal_up {x : Spn} {m : List Spn} (h : Normal (x :: m)) : ∀ t ∈ m, x.l + 1 < t.f := h.2.1
structure Near (s : Spn) (rs A M Z : List Spn) : Prop where
  eq : rs = A ++ M ++ Z
  a : ∀ r ∈ A, r.l < s.f - 1
  m : ∀ r ∈ M, s.f - 1 ≤ r.l ∧ r.f ≤ s.l + 1
  z : ∀ r ∈ Z, s.l + 1 < r.f
theorem near_split {s : Spn} (hs : s.f ≤ s.l) : ∀ {rs : List Spn}, Normal rs → ∃ A M Z, Near s rs A M Z
  | [], _ => ⟨[], [], [], rfl, (fun _ h => by cases h), (fun _ h => by cases h), (fun _ h => by cases h)⟩
  | r :: rs, h => by
    obtain ⟨A, M, Z, he, ha, hm, hz⟩ := near_split hs (normal_tail h)
    have hu := normal_up h
    have hr := h.may r List.mem_cons_self
    unfold mayS at hr
    by_cases h1 : r.l < s.f - 1
    · exact ⟨r :: A, M, Z, by rw [he]; rfl, (fun x hx => by rcases List.mem_cons.1 hx with rfl | hx; exact h1; exact ha x hx), hm, hz⟩
    · have hA : A = [] := by
        cases A with
        | nil => rfl
        | cons x A =>
          have h2 := ha x List.mem_cons_self
          have hx : x ∈ rs := by rw [he]; simp
          have h3 := hu x hx
          have h4 := (normal_tail h).may x hx
          unfold mayS at h4
          omega
      subst hA
      by_cases h2 : r.f ≤ s.l + 1
      · exact ⟨[], r :: M, Z, by rw [he]; rfl, (fun _ h => by cases h), (fun x hx => by rcases List.mem_cons.1 hx with rfl | hx; exact ⟨by omega, h2⟩; exact hm x hx), hz⟩
      · refine ⟨[], [], r :: rs, rfl, (fun _ h => by cases h), (fun _ h => by cases h), fun x hx => ?_⟩
        rcases List.mem_cons.1 hx with rfl | hx
        · omega
        · have := hu x hx
          omega
theorem normal_app : ∀ {X Y : List Spn}, Normal X → Normal Y → (∀ x ∈ X, ∀ y ∈ Y, x.l + 1 < y.f) → Normal (X ++ Y)
  | [], _, _, hY, _ => hY
  | x :: X, Y, hX, hY, h => ⟨hX.1, fun t ht => by
      rcases List.mem_append.1 ht with ht | ht
      · exact hX.2.1 t ht
      · exact h x List.mem_cons_self t ht, normal_app hX.2.2 hY (fun a ha => h a (List.mem_cons_of_mem _ ha))⟩
theorem normal_left : ∀ {X Y : List Spn}, Normal (X ++ Y) → Normal X
  | [], _, _ => trivial
  | _ :: _, _, h => ⟨h.1, (fun t ht => h.2.1 t (List.mem_append_left _ ht)), normal_left h.2.2⟩
theorem normal_right : ∀ {X Y : List Spn}, Normal (X ++ Y) → Normal Y
  | [], _, h => h
  | _ :: X, _, h => normal_right (X := X) h.2.2
theorem normal_far : ∀ {X Y : List Spn}, Normal (X ++ Y) → ∀ x ∈ X, ∀ y ∈ Y, x.l + 1 < y.f
  | [], _, _ => fun _ h => by cases h
  | x :: X, Y, h => fun a ha y hy => by
    rcases List.mem_cons.1 ha with rfl | ha
    · exact h.2.1 y (List.mem_append_right _ hy)
    · exact normal_far h.2.2 a ha y hy
theorem Near.nM {s : Spn} {rs A M Z : List Spn} (h : Near s rs A M Z) (hn : Normal rs) : Normal M := by
  have hn := h.eq ▸ hn
  exact normal_right (normal_left hn)
/-- Rows in whose midst others are put. -/
theorem near_put {s : Spn} {rs A M Z : List Spn} (h : Near s rs A M Z) (hn : Normal rs) {M' : List Spn} (hM : Normal M') (hl : ∀ n, inLab M' n = true → inLab M n = true ∨ (s.f ≤ n ∧ n ≤ s.l)) : Normal (A ++ M' ++ Z) := by
  have hn := h.eq ▸ hn
  have hAM := normal_left hn
  have lo : ∀ x ∈ A, ∀ y ∈ M', x.l + 1 < y.f := fun x hx y hy => by
    have hy1 := hM.may y hy
    unfold mayS at hy1
    rcases hl y.f (row_in hM hy (Int.le_refl _) hy1.2.1) with h1 | h1
    · obtain ⟨z, hz, _, h2, _⟩ := (inS_iff M y.f).1 h1
      have := normal_far hAM x hx z hz
      omega
    · have := h.a x hx
      omega
  have hi : ∀ x ∈ M', ∀ y ∈ Z, x.l + 1 < y.f := fun x hx y hy => by
    have hx1 := hM.may x hx
    unfold mayS at hx1
    rcases hl x.l (row_in hM hx hx1.2.1 (Int.le_refl _)) with h1 | h1
    · obtain ⟨z, hz, _, _, h2⟩ := (inS_iff M x.l).1 h1
      have := normal_far hn z (List.mem_append_right _ hz) y hy
      omega
    · have := h.z y hy
      omega
  refine normal_app (normal_app (normal_left hAM) hM lo) (normal_right hn) fun x hx y hy => ?_
  rcases List.mem_append.1 hx with hx | hx
  · exact normal_far hn x (List.mem_append_left _ hx) y hy
  · exact hi x hx y hy
theorem Near.off {s : Spn} {rs A M Z : List Spn} (h : Near s rs A M Z) {n : Int} (h1 : s.f ≤ n) (h2 : n ≤ s.l) : inLab rs n = inLab M n := by
  rw [h.eq, inS_append, inS_append]
  have hA : inLab A n = false := by
    cases hc : inLab A n with
    | false => rfl
    | true =>
      obtain ⟨x, hx, _, _, h3⟩ := (inS_iff A n).1 hc
      have := h.a x hx
      omega
  have hZ : inLab Z n = false := by
    cases hc : inLab Z n with
    | false => rfl
    | true =>
      obtain ⟨x, hx, _, h3, _⟩ := (inS_iff Z n).1 hc
      have := h.z x hx
      omega
  rw [hA, hZ, Bool.false_or, Bool.or_false]
theorem near_meet {s : Spn} {rs A M Z : List Spn} (h : Near s rs A M Z) : meetS M s = meetS rs s := by
  have : meetS M s = true ↔ meetS rs s = true := by
    rw [meet_any, meet_any]
    constructor
    · rintro ⟨hm, n, h1, h2, h3⟩
      exact ⟨hm, n, h1, h2, by rw [h.off h1 h2]; exact h3⟩
    · rintro ⟨hm, n, h1, h2, h3⟩
      exact ⟨hm, n, h1, h2, by rw [← h.off h1 h2]; exact h3⟩
  cases h1 : meetS M s <;> cases h2 : meetS rs s <;> simp_all
/-- Whether a span meets a block. -/
def metK (l : List Blk) (s : Spn) : Bool := meetS (rowsB l) s
theorem metK_iff {l : List Blk} {s : Spn} (hs : mayS s) : metK l s = true ↔ ∃ n, s.f ≤ n ∧ n ≤ s.l ∧ hasB l n = true := by
  unfold metK
  rw [meet_any]
  simp only [rowsB_in]
  exact ⟨fun h => h.2, fun h => ⟨hs, h⟩⟩
theorem inLab_three (A M Z : List Spn) (n : Int) : inLab (A ++ M ++ Z) n = (inLab A n || inLab M n || inLab Z n) := by rw [inS_append, inS_append]
theorem rows_put {l : List Blk} {b : Blk} {A M Z : List Spn} (h : Near b.s (rowsB l) A M Z) (hb : mayO b.s) : A ++ addS M b.s ++ Z = rowsB (putB b l) := by
  refine norm_is (near_put h (rowsB_normal l) (add_normal _ _) fun n hn => ?_) fun n => ?_
  · rw [add_in, Bool.or_eq_true] at hn
    rcases hn with hn | hn
    · exact .inl hn
    · exact .inr ((inSd_iff _ _).1 hn).2
  · rw [inLab_map, inLab_three, add_in]
    have e1 : hasB (putB b l) n = (inSd b.s n || hasB l n) := by
      have : hasB (putB b l) n = true ↔ (inSd b.s n || hasB l n) = true := by
        rw [hasB_iff, Bool.or_eq_true, hasB_iff, inSd_iff]
        constructor
        · rintro ⟨x, hx, h1⟩
          rcases mem_putB.1 hx with rfl | hx
          · exact .inl h1
          · exact .inr ⟨x, hx, h1⟩
        · rintro (h1 | ⟨x, hx, h1⟩)
          · exact ⟨b, mem_putB.2 (.inl rfl), h1⟩
          · exact ⟨x, mem_putB.2 (.inr hx), h1⟩
      cases h1 : hasB (putB b l) n <;> cases h2 : (inSd b.s n || hasB l n) <;> simp_all
    rw [e1, ← rowsB_in, h.eq, inLab_three]
    cases inLab A n <;> cases inLab M n <;> cases inLab Z n <;> cases inSd b.s n <;> rfl
theorem hasB_app (k l : List Blk) (n : Int) : hasB (k ++ l) n = (hasB k n || hasB l n) := by unfold hasB; rw [List.any_append]
theorem hasB_cons (b : Blk) (l : List Blk) (n : Int) : hasB (b :: l) n = (inSd b.s n || hasB l n) := rfl
theorem rows_drop {k l : List Blk} {b : Blk} {A M Z : List Spn} (h : Near b.s (rowsB (k ++ b :: l)) A M Z) (ho : ∀ y ∈ k ++ l, y.s.l < b.s.f ∨ b.s.l < y.s.f) : A ++ cutS M b.s ++ Z = rowsB (k ++ l) := by
  refine norm_is (near_put h (rowsB_normal _) (cut_normal _ _) fun n hn => ?_) fun n => ?_
  · rw [cut_in', Bool.and_eq_true] at hn
    exact .inl hn.1
  · rw [inLab_map, inLab_three, cut_in']
    have e1 : inLab (rowsB (k ++ b :: l)) n = (hasB (k ++ l) n || inSd b.s n) := by
      rw [rowsB_in, hasB_app, hasB_app, hasB_cons]
      cases hasB k n <;> cases hasB l n <;> cases inSd b.s n <;> rfl
    rw [h.eq, inLab_three] at e1
    cases hi : inSd b.s n with
    | false =>
      rw [hi, Bool.or_false] at e1
      rw [← e1]
      cases inLab A n <;> cases inLab M n <;> cases inLab Z n <;> rfl
    | true =>
      have h9 := ((inSd_iff _ _).1 hi).2
      have e2 : hasB (k ++ l) n = false := by
        cases hc : hasB (k ++ l) n with
        | false => rfl
        | true =>
          obtain ⟨y, hy, _, h1, h2⟩ := (hasB_iff _ _).1 hc
          have := ho y hy
          omega
      have e3 : inLab A n = false := by
        cases hc : inLab A n with
        | false => rfl
        | true =>
          obtain ⟨x, hx, _, _, h3⟩ := (inS_iff A n).1 hc
          have := h.a x hx
          omega
      have e4 : inLab Z n = false := by
        cases hc : inLab Z n with
        | false => rfl
        | true =>
          obtain ⟨x, hx, _, h3, _⟩ := (inS_iff Z n).1 hc
          have := h.z x hx
          omega
      rw [e2, e3, e4]
      cases inLab M n <;> rfl
/-! Gaps. -/
def gapsP (f L : Int) : List Spn → List Spn
  | [] => [⟨f, L⟩]
  | r :: rs => ⟨f, r.f - 1⟩ :: gapsP (r.l + 1) L rs
def gapE (f : Int) (rs : List Spn) : Int := match rs.getLast? with | none => f | some r => r.l + 1
theorem gaps_in : ∀ {rs : List Spn} {f L : Int}, Normal rs → 0 ≤ f → L ≤ 1048575 → (∀ r ∈ rs, f ≤ r.l + 1 ∧ r.f ≤ L + 1) → ∀ n, inLab (gapsP f L rs) n = (decide (f ≤ n ∧ n ≤ L) && !inLab rs n)
  | [], f, L, _, h0, hL, _, n => by
    show (inSd ⟨f, L⟩ n || false) = (decide (f ≤ n ∧ n ≤ L) && !false)
    rw [Bool.or_false, Bool.not_false, Bool.and_true]
    unfold inSd
    simp only [decide_eq_decide]
    omega
  | r :: rs, f, L, hn, h0, hL, hr, n => by
    have hm := hn.may r List.mem_cons_self
    unfold mayS at hm
    have h1 := hr r List.mem_cons_self
    show (inSd ⟨f, r.f - 1⟩ n || inLab (gapsP (r.l + 1) L rs) n) = (decide (f ≤ n ∧ n ≤ L) && !(inSd r n || inLab rs n))
    rw [gaps_in (normal_tail hn) (by omega) hL (fun x hx => by
      have h2 := normal_up hn x hx
      have h3 := (normal_tail hn).may x hx
      have h4 := hr x (List.mem_cons_of_mem _ hx)
      unfold mayS at h3
      exact ⟨by omega, h4.2⟩)]
    rw [inSd_may hm]
    have e1 : inSd ⟨f, r.f - 1⟩ n = decide (f ≤ n ∧ n ≤ r.f - 1) := by
      unfold inSd
      simp only [decide_eq_decide]
      omega
    have e2 : inLab rs n = true → r.l + 1 < n := fun hc => by
      obtain ⟨x, hx, _, h3, _⟩ := (inS_iff rs n).1 hc
      have := normal_up hn x hx
      omega
    rw [e1]
    cases hc : inLab rs n with
    | true =>
      have := e2 hc
      simp
      omega
    | false =>
      simp only [Bool.not_false, Bool.and_true, Bool.or_false]
      rw [← Bool.decide_or, ← decide_not, ← Bool.decide_and, decide_eq_decide]
      omega
theorem near_gaps {l : List Blk} {p : Spn} (hp : mayS p) {A M Z : List Spn} (h : Near p (rowsB l) A M Z) (n : Int) : inLab (gapsP p.f p.l M) n = (inSd p n && !hasB l n) := by
  have hm := hp
  unfold mayS at hm
  rw [gaps_in (h.nM (rowsB_normal l)) hm.1 hm.2.2 (fun r hr => by have := h.m r hr; omega), inSd_may hp]
  cases hd : decide (p.f ≤ n ∧ n ≤ p.l) with
  | false => rfl
  | true =>
    have hd := of_decide_eq_true hd
    rw [← h.off hd.1 hd.2, rowsB_in]
theorem gapsP_length : ∀ (rs : List Spn) (f L : Int), (gapsP f L rs).length = rs.length + 1
  | [], _, _ => rfl
  | _ :: rs, _, _ => by show (gapsP _ _ rs).length + 1 = rs.length + 1 + 1; rw [gapsP_length rs]
/-- The gaps one by one. -/
def gapsQ : Int → List Spn → List Spn
  | _, [] => []
  | f, r :: rs => ⟨f, r.f - 1⟩ :: gapsQ (r.l + 1) rs
theorem gapE_cons (f : Int) (r : Spn) (rs : List Spn) : gapE f (r :: rs) = gapE (r.l + 1) rs := by
  unfold gapE
  cases rs with
  | nil => rfl
  | cons x rs => rw [List.getLast?_cons_cons]; cases h : (x :: rs).getLast? with | none => simp at h | some y => rfl
theorem gapsP_eq : ∀ (rs : List Spn) (f L : Int), gapsP f L rs = gapsQ f rs ++ [⟨gapE f rs, L⟩]
  | [], _, _ => rfl
  | r :: rs, f, L => by
    show ⟨f, r.f - 1⟩ :: gapsP (r.l + 1) L rs = (⟨f, r.f - 1⟩ :: gapsQ (r.l + 1) rs) ++ _
    rw [gapsP_eq rs, gapE_cons]
    rfl
theorem gapsQ_snoc : ∀ (rs : List Spn) (f : Int) (r : Spn), gapsQ f (rs ++ [r]) = gapsQ f rs ++ [⟨gapE f rs, r.f - 1⟩]
  | [], _, _ => rfl
  | x :: rs, f, r => by
    show ⟨f, x.f - 1⟩ :: gapsQ (x.l + 1) (rs ++ [r]) = (⟨f, x.f - 1⟩ :: gapsQ (x.l + 1) rs) ++ _
    rw [gapsQ_snoc rs, gapE_cons]
    rfl
theorem gapE_snoc (f : Int) (rs : List Spn) (r : Spn) : gapE f (rs ++ [r]) = r.l + 1 := by unfold gapE; simp
theorem gapsQ_length : ∀ (rs : List Spn) (f : Int), (gapsQ f rs).length = rs.length
  | [], _ => rfl
  | _ :: rs, _ => by show (gapsQ _ rs).length + 1 = rs.length + 1; rw [gapsQ_length rs]
/-! An area's labels as rows. -/
def partsP (t : SpS) (k : Int) : List Spn := if k = 0 then cutS (cutS [allO] t.a1) t.a2 else if (k = 1 ∨ k = 2) ∧ (t.ar k).f ≠ 0 then [t.ar k] else []
theorem cutIf_cut {l : List Spn} (hl : Normal l) (hn : ∀ n, inLab l n = true → 16 ≤ n) {a : Spn} (h : okA a) : cutIf l a = cutS l a := by
  unfold cutIf
  split
  · rename_i h0
    rcases h with rfl | h
    · refine normal_ext hl (cut_normal _ _) fun n => ?_
      rw [cut_in']
      cases hc : inLab l n with
      | false => rfl
      | true =>
        have := hn n hc
        rw [inSd_no (fun h => by have := h.2.2; simp only at this; omega)]
        rfl
    · unfold mayO at h; omega
  · rfl
theorem allO_normal : Normal [allO] := ⟨by unfold mayS allO; simp only; omega, (fun t ht => by cases ht), trivial⟩
theorem parts_base {t : SpS} (h : WF t) (k : Int) : partsP t k = if t.gone k = true then [] else t.base k := by
  have h1 : ∀ n, inLab [allO] n = true → 16 ≤ n := fun n hn => by rw [allO_in] at hn; exact (of_decide_eq_true hn).1
  unfold partsP SpS.base SpS.gone
  by_cases hk : k = 0
  · subst hk
    rw [if_pos rfl, if_neg (by simp), if_pos rfl, ← cutIf_cut allO_normal h1 h.o1, cutIf_cut (cutIf_normal allO_normal _) (fun n hn => by rw [cutIf_in h.o1 h1, Bool.and_eq_true] at hn; exact h1 n hn.1) h.o2]
  · rw [if_neg hk, if_neg hk]
    by_cases h2 : (k = 1 ∨ k = 2) ∧ (t.ar k).f ≠ 0
    · rw [if_pos h2, if_neg (by simp; omega)]
    · rw [if_neg h2, if_pos (by simp; omega)]
theorem parts_left {t : SpS} (h : WF t) (k : Int) (n : Int) : inLab (t.left k) n = (inLab (partsP t k) n && !hasB t.l n) := by
  unfold SpS.left
  rw [parts_base h]
  split
  · rfl
  · rw [cutAll_in]
theorem parts_normal {t : SpS} (h : WF t) (k : Int) : Normal (partsP t k) := by
  unfold partsP
  split
  · exact cut_normal _ _
  · split
    · rename_i h1
      rcases okAr h k with h2 | h2
      · rw [h2] at h1; exact absurd rfl h1.2
      · exact ⟨h2.may, (fun t ht => by cases ht), trivial⟩
    · trivial
theorem parts_length {t : SpS} (k : Int) : (partsP t k).length ≤ 4 := by
  have hc : ∀ (l : List Spn) (s : Spn), (cutS l s).length ≤ 2 * l.length := fun l s => by
    have hl : ∀ m : List Spn, (m.flatMap (partS s)).length = 2 * m.length := fun m => by
      induction m with
      | nil => rfl
      | cons x m ih => rw [List.flatMap_cons, List.length_append, ih]; simp [partS]; omega
    unfold cutS
    split
    · have h1 := normS_length_le ((normS l).flatMap (partS s))
      have h2 := normS_length_le l
      rw [hl] at h1
      omega
    · have h2 := normS_length_le l
      omega
  unfold partsP
  split
  · have h1 := hc [allO] t.a1
    have h2 := hc (cutS [allO] t.a1) t.a2
    simp only [List.length_singleton] at h1
    omega
  · split <;> simp
/-- All gaps of an area's rows. -/
theorem left_is {t : SpS} (h : WF t) (k : Int) {g : List Spn} (hg : ∀ n, inLab g n = (inLab (partsP t k) n && !hasB t.l n)) : normS g = t.left k := (norm_is (left_normal h k) (fun n => by rw [parts_left h, hg])).symm
theorem has_left {t : SpS} (h : WF t) (k : Int) (s : Spn) : hasS (t.left k) s = (hasS (partsP t k) s && !metK t.l s) := by
  have hb : ∀ a b : Bool, (a = true ↔ b = true) → a = b := fun a b h => by cases a <;> cases b <;> simp_all
  refine hb _ _ ?_
  rw [Bool.and_eq_true, has_all, has_all, Bool.not_eq_true']
  constructor
  · rintro ⟨hm, h1⟩
    refine ⟨⟨hm, fun n a b => by have := h1 n a b; rw [parts_left h, Bool.and_eq_true] at this; exact this.1⟩, ?_⟩
    cases hc : metK t.l s with
    | false => rfl
    | true =>
      obtain ⟨n, a, b, c⟩ := (metK_iff hm).1 hc
      have := h1 n a b
      rw [parts_left h, c] at this
      simp at this
  · rintro ⟨⟨hm, h1⟩, h2⟩
    refine ⟨hm, fun n a b => ?_⟩
    rw [parts_left h, h1 n a b]
    cases hc : hasB t.l n with
    | false => rfl
    | true =>
      have := (metK_iff hm).2 ⟨n, a, b, hc⟩
      rw [h2] at this
      cases this
/-- Whether a block was drawn from an area, or taken in it: whether one meets it. -/
theorem busy_meets {t : SpS} (h : WF t) {k : Int} (hk : k = 1 ∨ k = 2) (hf : (t.ar k).f ≠ 0) : metK t.l (t.ar k) = t.l.any fun b => decide (b.a = k) := by
  have hb : ∀ a b : Bool, (a = true ↔ b = true) → a = b := fun a b h => by cases a <;> cases b <;> simp_all
  have ho : mayO (t.ar k) := by
    rcases okAr h k with h2 | h2
    · rw [h2] at hf; exact absurd rfl hf
    · exact h2
  refine hb _ _ ?_
  rw [metK_iff ho.may, List.any_eq_true]
  constructor
  · rintro ⟨n, h1, h2, h3⟩
    obtain ⟨b, hb, hm, h4, h5⟩ := (hasB_iff _ _).1 h3
    refine ⟨b, hb, decide_eq_true ?_⟩
    obtain ⟨_, _, h6⟩ := h.blk b hb
    rcases h6 with ⟨h6, h7, h8⟩ | ⟨h6, h7, h8, h9⟩
    · have h7 : apA b.s (t.ar k) := by
        rcases hk with rfl | rfl
        · exact h7
        · exact h8
      unfold apA at h7
      omega
    · by_cases e : b.a = k
      · exact e
      · exfalso
        have hap := h.ap
        unfold apA at hap
        rcases hk with rfl | rfl
        · have e2 : b.a = 2 := by omega
          rw [e2] at h7 h8 h9
          simp only [SpS.ar] at h1 h2 h7 h8 h9 hf
          simp at h1 h2 h7 h8 h9 hf
          omega
        · have e2 : b.a = 1 := by omega
          rw [e2] at h7 h8 h9
          simp only [SpS.ar] at h1 h2 h7 h8 h9 hf
          simp at h1 h2 h7 h8 h9 hf
          omega
  · rintro ⟨b, hb, he⟩
    have he := of_decide_eq_true he
    obtain ⟨hm, _, h6⟩ := h.blk b hb
    rcases h6 with ⟨h6, _⟩ | ⟨_, h7, h8, h9⟩
    · omega
    · rw [he] at h7 h8 h9
      unfold mayO at hm
      exact ⟨b.s.f, h8, by omega, (hasB_iff _ _).2 ⟨b, hb, ⟨by unfold mayS; omega, Int.le_refl _, hm.2.1⟩⟩⟩
/-! Where a block stands. -/
structure Place (n : Int) (l A Z : List Blk) : Prop where
  eq : l = A ++ Z
  a : ∀ b ∈ A, b.s.l < n
  z : ∀ b ∈ Z, n ≤ b.s.l
def SrtB (l : List Blk) : Prop := l.Pairwise fun x y => x.s.l < y.s.f
theorem place_split (n : Int) : ∀ {l : List Blk}, SrtB l → (∀ b ∈ l, mayO b.s) → ∃ A Z, Place n l A Z
  | [], _, _ => ⟨[], [], rfl, (fun _ h => by cases h), (fun _ h => by cases h)⟩
  | b :: l, h, hm => by
    obtain ⟨h1, h2⟩ := List.pairwise_cons.1 h
    obtain ⟨A, Z, he, ha, hz⟩ := place_split n h2 (fun b hb => hm b (List.mem_cons_of_mem _ hb))
    by_cases hb : b.s.l < n
    · exact ⟨b :: A, Z, by rw [he]; rfl, (fun x hx => by rcases List.mem_cons.1 hx with rfl | hx; exact hb; exact ha x hx), hz⟩
    · refine ⟨[], b :: l, rfl, (fun _ h => by cases h), fun x hx => ?_⟩
      rcases List.mem_cons.1 hx with rfl | hx
      · omega
      · have h3 := h1 x hx
        have h4 := hm x (List.mem_cons_of_mem _ hx)
        unfold mayO at h4
        omega
/-- The block that has a label. -/
def atB (n : Int) (Z : List Blk) : Option Blk := match Z with | [] => none | b :: _ => if b.s.f ≤ n then some b else none
theorem own_skip {n : Int} : ∀ {A Z : List Blk}, (∀ b ∈ A, b.s.l < n) → ownB n (A ++ Z) = ownB n Z
  | [], _, _ => rfl
  | b :: A, Z, h => by
    have := h b List.mem_cons_self
    show (if b.s.f ≤ n ∧ n ≤ b.s.l then (b.o, b.a) else ownB n (A ++ Z)) = _
    rw [if_neg (by omega), own_skip (fun b hb => h b (List.mem_cons_of_mem _ hb))]
theorem own_high {n : Int} : ∀ {Z : List Blk}, (∀ b ∈ Z, n < b.s.f) → ownB n Z = (0, 0)
  | [], _ => rfl
  | b :: Z, h => by
    have := h b List.mem_cons_self
    show (if b.s.f ≤ n ∧ n ≤ b.s.l then (b.o, b.a) else ownB n Z) = _
    rw [if_neg (by omega), own_high (fun b hb => h b (List.mem_cons_of_mem _ hb))]
theorem Place.own {n : Int} {l A Z : List Blk} (h : Place n l A Z) (hs : SrtB l) (hm : ∀ b ∈ l, mayO b.s) : ownB n l = match atB n Z with | none => (0, 0) | some b => (b.o, b.a) := by
  rw [h.eq, own_skip h.a]
  have hs2 : SrtB Z := (List.pairwise_append.1 (h.eq ▸ hs)).2.1
  cases Z with
  | nil => rfl
  | cons b Z =>
    have h1 := h.z b List.mem_cons_self
    show (if b.s.f ≤ n ∧ n ≤ b.s.l then (b.o, b.a) else ownB n Z) = _
    by_cases h2 : b.s.f ≤ n
    · rw [if_pos ⟨h2, h1⟩]; simp only [atB, if_pos h2]
    · rw [if_neg (by omega)]
      simp only [atB, if_neg h2]
      refine own_high fun x hx => ?_
      have h3 := (List.pairwise_cons.1 hs2).1 x hx
      have h4 := hm b (by rw [h.eq]; simp)
      unfold mayO at h4
      omega
theorem Place.put {b : Blk} : ∀ {l A Z : List Blk}, Place b.s.f l A Z → (∀ y ∈ l, mayO y.s ∧ (b.s.l < y.s.f ∨ y.s.l < b.s.f)) → mayO b.s → putB b l = A ++ b :: Z
  | l, [], Z, h, hy, hb => by
    obtain ⟨he, _, hz⟩ := h
    rw [he] at hy ⊢
    clear he
    cases Z with
    | nil => rfl
    | cons x Z =>
      have h1 := hy x List.mem_cons_self
      have h2 := hz x List.mem_cons_self
      have h3 := hb
      unfold mayO at h1 h3
      show (if x.s.f < b.s.f then x :: putB b Z else b :: x :: Z) = _
      rw [if_neg (by omega)]
      rfl
  | l, x :: A, Z, h, hy, hb => by
    obtain ⟨rfl, ha, hz⟩ := h
    have h1 := hy x List.mem_cons_self
    have h2 := ha x List.mem_cons_self
    have h3 := hb
    unfold mayO at h1 h3
    show (if x.s.f < b.s.f then x :: putB b (A ++ Z) else b :: x :: (A ++ Z)) = _
    rw [if_pos (by omega), Place.put (l := A ++ Z) ⟨rfl, (fun b hb => ha b (List.mem_cons_of_mem _ hb)), hz⟩ (fun y h => hy y (List.mem_cons_of_mem _ h)) hb]
    rfl
theorem delB_skip {s : Spn} {o : Int} : ∀ {A Z : List Blk}, (∀ b ∈ A, b.s ≠ s) → delB s o (A ++ Z) = (delB s o Z).map (A ++ ·)
  | [], Z, _ => by cases h : delB s o Z <;> simp [h]
  | b :: A, Z, h => by
    show (if (eqSp b.s s && decide (b.o = o)) = true then some (A ++ Z) else (delB s o (A ++ Z)).map (b :: ·)) = _
    rw [if_neg (fun hc => by rw [Bool.and_eq_true, eqSp_iff] at hc; exact h b List.mem_cons_self hc.1), delB_skip (fun b hb => h b (List.mem_cons_of_mem _ hb))]
    cases delB s o Z <;> rfl
theorem Place.del {s : Spn} {o : Int} {l A Z : List Blk} (h : Place s.f l A Z) (hs : SrtB l) (hm : ∀ b ∈ l, mayO b.s) :
    (∀ b, atB s.f Z = some b → b.s = s → b.o = o → ∃ Z', Z = b :: Z' ∧ delB s o l = some (A ++ Z')) ∧ ((∀ b, atB s.f Z = some b → ¬ (b.s = s ∧ b.o = o)) → delB s o l = none) := by
  have hA : ∀ b ∈ A, b.s ≠ s := fun b hb e => by
    have h1 := h.a b hb
    have h2 := hm b (by rw [h.eq]; exact List.mem_append_left _ hb)
    rw [e] at h1 h2
    unfold mayO at h2
    omega
  have hs2 : SrtB Z := (List.pairwise_append.1 (h.eq ▸ hs)).2.1
  rw [h.eq, delB_skip hA]
  constructor
  · intro b hb e1 e2
    cases Z with
    | nil => cases hb
    | cons x Z =>
      simp only [atB] at hb
      split at hb
      · cases hb
        refine ⟨Z, rfl, ?_⟩
        show ((if (eqSp b.s s && decide (b.o = o)) = true then some Z else _) : Option (List Blk)).map _ = _
        rw [if_pos (by rw [Bool.and_eq_true, eqSp_iff]; exact ⟨e1, decide_eq_true e2⟩)]
        rfl
      · cases hb
  · intro hn
    rw [delB_none (fun y hy e1 e2 => ?_)]
    · rfl
    · cases Z with
      | nil => cases hy
      | cons x Z =>
        rcases List.mem_cons.1 hy with rfl | hy
        · exact hn y (by simp only [atB]; rw [if_pos (by rw [e1]; omega)]) ⟨e1, e2⟩
        · have h3 := (List.pairwise_cons.1 hs2).1 y hy
          have h4 := h.z x List.mem_cons_self
          rw [e1] at h3
          omega
/-- With what the second look finds the same place. -/
theorem Place.again {n : Int} {l A Z : List Blk} (h : Place n l A Z) {b : Blk} (hb : atB n Z = some b) (hs : SrtB l) (hm : ∀ b ∈ l, mayO b.s) : Place b.s.f l A Z := by
  cases Z with
  | nil => cases hb
  | cons x Z =>
    simp only [atB] at hb
    split at hb
    · cases hb
      have hp := List.pairwise_append.1 (h.eq ▸ hs)
      have hx := hm b (by rw [h.eq]; simp)
      unfold mayO at hx
      refine ⟨h.eq, (fun y hy => hp.2.2 y hy b List.mem_cons_self), fun y hy => ?_⟩
      rcases List.mem_cons.1 hy with rfl | hy
      · omega
      · have h1 := (List.pairwise_cons.1 hp.2.1).1 y hy
        have h2 := hm y (by rw [h.eq]; simp [hy])
        unfold mayO at h2
        omega
    · cases hb
theorem out_apart {k l : List Blk} {b : Blk} (hs : SrtB (k ++ b :: l)) : ∀ y ∈ k ++ l, y.s.l < b.s.f ∨ b.s.l < y.s.f := fun y hy => by
  have hp := List.pairwise_append.1 hs
  rcases List.mem_append.1 hy with hy | hy
  · exact .inl (hp.2.2 y hy b List.mem_cons_self)
  · exact .inr ((List.pairwise_cons.1 hp.2.1).1 y hy)
end Go.Proofs.Ytgelbeglffjdaaa
