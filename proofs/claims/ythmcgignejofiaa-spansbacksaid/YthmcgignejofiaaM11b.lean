/- Rows of labels (stage 11): rows as disjoint ones, with one more, without one; what is told of them. Of no program. -/
import Derived.Test.YthmcgignejofiaaM11
namespace Go.Proofs.Ythmcgignejofiaa
open Go

def mayB (s : Spn) : Bool := decide (0 ≤ s.f ∧ s.f ≤ s.l ∧ s.l ≤ 1048575)
theorem mayB_iff (s : Spn) : mayB s = true ↔ mayS s := decide_eq_true_iff
theorem inSd_not {s : Spn} (h : ¬ mayS s) (n : Int) : inSd s n = false := inSd_no (fun h1 => h h1.1)
theorem inSd_may {s : Spn} (h : mayS s) (n : Int) : inSd s n = decide (s.f ≤ n ∧ n ≤ s.l) := by
  unfold inSd
  exact decide_eq_decide.2 ⟨fun x => x.2, fun x => ⟨h, x⟩⟩
/-- A span that may be, put into disjoint rows. -/
def insS (s : Spn) : List Spn → List Spn
  | [] => [s]
  | x :: m => if s.l + 1 < x.f then s :: x :: m else if x.l + 1 < s.f then x :: insS s m else insS ⟨min s.f x.f, max s.l x.l⟩ m
def normS : List Spn → List Spn
  | [] => []
  | s :: l => if mayB s = true then insS s (normS l) else normS l
theorem ins_ok : ∀ (m : List Spn) (s : Spn), mayS s → Normal m → Normal (insS s m) ∧ (∀ n, inLab (insS s m) n = (inSd s n || inLab m n)) ∧ ∀ c : Int, c ≤ s.f → (∀ x ∈ m, c ≤ x.f) → ∀ t ∈ insS s m, c ≤ t.f
  | [], s, hs, _ => ⟨⟨hs, (fun t ht => by cases ht), trivial⟩, fun n => rfl, fun c hc _ t ht => by rw [List.mem_singleton.1 ht]; exact hc⟩
  | x :: m, s, hs, hm => by
    obtain ⟨hx, hxm, hmm⟩ := hm
    unfold insS
    by_cases h1 : s.l + 1 < x.f
    · rw [if_pos h1]
      refine ⟨⟨hs, fun t ht => ?_, hx, hxm, hmm⟩, fun n => rfl, fun c hc hcx t ht => ?_⟩
      · rcases List.mem_cons.1 ht with rfl | ht
        · exact h1
        · have := hxm t ht
          have := hx.2.1
          omega
      · rcases List.mem_cons.1 ht with rfl | ht
        · exact hc
        · exact hcx t ht
    · rw [if_neg h1]
      by_cases h2 : x.l + 1 < s.f
      · rw [if_pos h2]
        obtain ⟨i1, i2, i3⟩ := ins_ok m s hs hmm
        refine ⟨⟨hx, fun t ht => ?_, i1⟩, fun n => ?_, fun c hc hcx t ht => ?_⟩
        · have := i3 (x.l + 2) (by omega) (fun y hy => by have := hxm y hy; omega) t ht
          omega
        · rw [inS_cons, i2, inS_cons]
          cases inSd x n <;> cases inSd s n <;> simp
        · rcases List.mem_cons.1 ht with rfl | ht
          · exact hcx t List.mem_cons_self
          · exact i3 c hc (fun y hy => hcx y (List.mem_cons_of_mem _ hy)) t ht
      · rw [if_neg h2]
        have hs' : mayS ⟨min s.f x.f, max s.l x.l⟩ := by
          unfold mayS at *
          simp only
          omega
        obtain ⟨i1, i2, i3⟩ := ins_ok m ⟨min s.f x.f, max s.l x.l⟩ hs' hmm
        refine ⟨i1, fun n => ?_, fun c hc hcx t ht => ?_⟩
        · rw [i2, inS_cons, inSd_may hs', inSd_may hs, inSd_may hx, ← Bool.or_assoc]
          congr 1
          rw [← Bool.decide_or]
          apply decide_eq_decide.2
          unfold mayS at hs hx
          simp only
          omega
        · have := hcx x List.mem_cons_self
          exact i3 c (by simp only; omega) (fun y hy => hcx y (List.mem_cons_of_mem _ hy)) t ht
theorem norm_ok : ∀ l : List Spn, Normal (normS l) ∧ ∀ n, inLab (normS l) n = inLab l n
  | [] => ⟨trivial, fun _ => rfl⟩
  | s :: l => by
    obtain ⟨h1, h2⟩ := norm_ok l
    unfold normS
    by_cases hs : mayB s = true
    · rw [if_pos hs]
      obtain ⟨i1, i2, _⟩ := ins_ok (normS l) s ((mayB_iff s).1 hs) h1
      exact ⟨i1, fun n => by rw [i2, h2, inS_cons]⟩
    · rw [if_neg hs]
      exact ⟨h1, fun n => by rw [h2, inS_cons, inSd_not (fun h => hs ((mayB_iff s).2 h)), Bool.false_or]⟩
/-- Whatever is disjoint and has the labels is it. -/
theorem norm_is {m l : List Spn} (h : Normal m) (hl : ∀ n, inLab m n = inLab l n) : m = normS l := normal_ext h (norm_ok l).1 (fun n => by rw [hl, (norm_ok l).2])
theorem norm_self {m : List Spn} (h : Normal m) : normS m = m := (norm_is h (fun _ => rfl)).symm
theorem norm_same {l k : List Spn} (h : ∀ n, inLab l n = inLab k n) : normS l = normS k := norm_is (norm_ok l).1 (fun n => by rw [(norm_ok l).2, h])
def addS (l : List Spn) (s : Spn) : List Spn := normS (l ++ [s])
/-- What is left of a row without a span. -/
def partS (s x : Spn) : List Spn := [⟨x.f, min x.l (s.f - 1)⟩, ⟨max x.f (s.l + 1), x.l⟩]
def cutS (l : List Spn) (s : Spn) : List Spn := if mayB s = true then normS ((normS l).flatMap (partS s)) else normS l
theorem add_in (l : List Spn) (s : Spn) (n : Int) : inLab (addS l s) n = (inLab l n || inSd s n) := by
  unfold addS
  rw [(norm_ok _).2, inS_append]
  congr 1
  show (inSd s n || false) = _
  rw [Bool.or_false]
theorem part_in {s x : Spn} (hs : mayS s) (hx : mayS x) (n : Int) : inLab (partS s x) n = (inSd x n && !inSd s n) := by
  have e : inLab (partS s x) n = (inSd ⟨x.f, min x.l (s.f - 1)⟩ n || (inSd ⟨max x.f (s.l + 1), x.l⟩ n || false)) := rfl
  rw [e, Bool.or_false, inSd_may hs, inSd_may hx]
  unfold inSd
  rw [← Bool.decide_or, ← decide_not, ← Bool.decide_and]
  apply decide_eq_decide.2
  unfold mayS at hs hx
  simp only
  omega
theorem parts_in {s : Spn} (hs : mayS s) : ∀ m : List Spn, (∀ x ∈ m, mayS x) → ∀ n, inLab (m.flatMap (partS s)) n = (inLab m n && !inSd s n)
  | [], _, n => rfl
  | x :: m, h, n => by
    rw [List.flatMap_cons, inS_append, part_in hs (h x List.mem_cons_self), parts_in hs m (fun y hy => h y (List.mem_cons_of_mem _ hy)), inS_cons]
    cases inSd x n <;> cases inLab m n <;> cases inSd s n <;> rfl
theorem cut_in' (l : List Spn) (s : Spn) (n : Int) : inLab (cutS l s) n = (inLab l n && !inSd s n) := by
  unfold cutS
  by_cases hs : mayB s = true
  · rw [if_pos hs, (norm_ok _).2, parts_in ((mayB_iff s).1 hs) _ (norm_ok l).1.may, (norm_ok l).2]
  · rw [if_neg hs, (norm_ok l).2, inSd_not (fun h => hs ((mayB_iff s).2 h)), Bool.not_false, Bool.and_true]
theorem add_normal (l : List Spn) (s : Spn) : Normal (addS l s) := (norm_ok _).1
theorem cut_normal (l : List Spn) (s : Spn) : Normal (cutS l s) := by
  unfold cutS
  split
  · exact (norm_ok _).1
  · exact (norm_ok _).1
/-- A run of labels lies in one row. -/
theorem run_in : ∀ {m : List Spn}, Normal m → ∀ {a b : Int}, a ≤ b → (∀ n, a ≤ n → n ≤ b → inLab m n = true) → ∃ y ∈ m, y.f ≤ a ∧ b ≤ y.l
  | [], _, a, b, hab, h => by have := h a (Int.le_refl _) hab; cases this
  | x :: m, hm, a, b, hab, h => by
    have hx := hm.1
    by_cases h1 : a ≤ x.l
    · have hlow := inS_low hm (h a (Int.le_refl _) hab)
      refine ⟨x, List.mem_cons_self, hlow, ?_⟩
      rcases Int.lt_or_le x.l b with h2 | h2
      · have := h (x.l + 1) (by omega) (by omega)
        rw [inS_gap hm] at this
        cases this
      · exact h2
    · obtain ⟨y, hy, h2⟩ := run_in hm.2.2 hab (fun n h2 h3 => by
        have := h n h2 h3
        rw [inS_cons, inSd_may hx, decide_eq_false (by omega), Bool.false_or] at this
        exact this)
      exact ⟨y, List.mem_cons_of_mem _ hy, h2⟩
theorem row_in {m : List Spn} {y : Spn} (hm : Normal m) (hy : y ∈ m) {n : Int} (h1 : y.f ≤ n) (h2 : n ≤ y.l) : inLab m n = true := (inS_iff m n).2 ⟨y, hy, hm.may y hy, h1, h2⟩
/-! What is told of rows. -/
def hasS (l : List Spn) (s : Spn) : Bool := mayB s && (normS l).any (fun x => decide (x.f ≤ s.f ∧ s.l ≤ x.l))
def meetS (l : List Spn) (s : Spn) : Bool := mayB s && (normS l).any (fun x => decide (x.f ≤ s.l ∧ s.f ≤ x.l))
theorem has_all {l : List Spn} {s : Spn} : hasS l s = true ↔ mayS s ∧ ∀ n, s.f ≤ n → n ≤ s.l → inLab l n = true := by
  unfold hasS
  rw [Bool.and_eq_true, mayB_iff, List.any_eq_true]
  constructor
  · rintro ⟨hs, y, hy, h⟩
    have h := of_decide_eq_true h
    exact ⟨hs, fun n h1 h2 => by rw [← (norm_ok l).2]; exact row_in (norm_ok l).1 hy (by omega) (by omega)⟩
  · rintro ⟨hs, h⟩
    obtain ⟨y, hy, h1, h2⟩ := run_in (norm_ok l).1 hs.2.1 (fun n h1 h2 => by rw [(norm_ok l).2]; exact h n h1 h2)
    exact ⟨hs, y, hy, decide_eq_true ⟨h1, h2⟩⟩
theorem meet_any {l : List Spn} {s : Spn} : meetS l s = true ↔ mayS s ∧ ∃ n, s.f ≤ n ∧ n ≤ s.l ∧ inLab l n = true := by
  unfold meetS
  rw [Bool.and_eq_true, mayB_iff, List.any_eq_true]
  constructor
  · rintro ⟨hs, y, hy, h⟩
    have h := of_decide_eq_true h
    have hy2 := (norm_ok l).1.may y hy
    unfold mayS at hs hy2
    exact ⟨hs, max y.f s.f, by omega, by omega, by rw [← (norm_ok l).2]; exact row_in (norm_ok l).1 hy (by omega) (by omega)⟩
  · rintro ⟨hs, n, h1, h2, h3⟩
    rw [← (norm_ok l).2, inS_iff] at h3
    obtain ⟨y, hy, _, h4, h5⟩ := h3
    exact ⟨hs, y, hy, decide_eq_true (by omega)⟩
theorem meet_not {l : List Spn} {s : Spn} (h : meetS l s = false) (n : Int) : (inLab l n && inSd s n) = false := by
  cases hc : (inLab l n && inSd s n)
  · rfl
  · rw [Bool.and_eq_true, inSd_iff] at hc
    have : meetS l s = true := meet_any.2 ⟨hc.2.1, n, hc.2.2.1, hc.2.2.2, hc.1⟩
    rw [h] at this
    cases this
def firstS (size : Int) : List Spn → Option Spn
  | [] => none
  | x :: m => if 0 < size ∧ size ≤ x.l - x.f + 1 then some ⟨x.f, x.f + size - 1⟩ else firstS size m
def longS : List Spn → Int → Int
  | [], a => a
  | x :: m, a => longS m (max a (x.l - x.f + 1))
theorem first_some {size : Int} : ∀ {m : List Spn}, Normal m → ∀ {f : Spn}, firstS size m = some f → 0 < size ∧ f.l - f.f + 1 = size ∧ mayS f ∧ ∃ y ∈ m, y.f = f.f ∧ f.l ≤ y.l
  | [], _, f, h => by cases h
  | x :: m, hm, f, h => by
    unfold firstS at h
    split at h
    · rename_i h0
      cases h
      have hx := hm.1
      unfold mayS at hx ⊢
      refine ⟨h0.1, ?_, ?_, x, List.mem_cons_self, rfl, ?_⟩ <;> simp only <;> omega
    · obtain ⟨h1, h2, h3, y, hy, h4⟩ := first_some hm.2.2 h
      exact ⟨h1, h2, h3, y, List.mem_cons_of_mem _ hy, h4⟩
theorem long_ge : ∀ (m : List Spn) (a : Int), a ≤ longS m a ∧ ∀ x ∈ m, x.l - x.f + 1 ≤ longS m a
  | [], a => ⟨Int.le_refl _, fun x h => by cases h⟩
  | x :: m, a => by
    obtain ⟨h1, h2⟩ := long_ge m (max a (x.l - x.f + 1))
    unfold longS
    refine ⟨by omega, fun y hy => ?_⟩
    rcases List.mem_cons.1 hy with rfl | hy
    · omega
    · exact h2 y hy
theorem long_le : ∀ (m : List Spn) (a c : Int), a ≤ c → (∀ x ∈ m, x.l - x.f + 1 ≤ c) → longS m a ≤ c
  | [], a, c, h, _ => h
  | x :: m, a, c, h, hx => by
    unfold longS
    have := hx x List.mem_cons_self
    exact long_le m _ c (by omega) (fun y hy => hx y (List.mem_cons_of_mem _ hy))
theorem first_none {size : Int} : ∀ {m : List Spn}, firstS size m = none → 0 < size → ∀ x ∈ m, x.l - x.f + 1 < size
  | [], _, _, x, hx => by cases hx
  | y :: m, h, h0, x, hx => by
    unfold firstS at h
    split at h
    · cases h
    · rename_i h1
      rcases List.mem_cons.1 hx with rfl | hx
      · omega
      · exact first_none h h0 x hx
theorem long_lt {size : Int} {m : List Spn} (h : firstS size m = none) (h0 : 0 < size) : longS m 0 < size := by
  have h1 := first_none h h0
  have := long_le m 0 (size - 1) (by omega) (fun x hx => by have := h1 x hx; omega)
  omega
/-! What follows (P11.3, and the laws). -/
theorem add_cut_back {l : List Spn} {s : Spn} (h : meetS l s = false) : cutS (addS l s) s = normS l := by
  refine norm_is (cut_normal _ _) (fun n => ?_)
  rw [cut_in', add_in]
  have := meet_not h n
  cases h1 : inLab l n <;> cases h2 : inSd s n <;> simp_all
theorem first_has {l : List Spn} {size : Int} {f : Spn} (h : firstS size (normS l) = some f) : hasS l f = true := by
  obtain ⟨_, _, h3, y, hy, h4, h5⟩ := first_some (norm_ok l).1 h
  exact has_all.2 ⟨h3, fun n h1 h2 => by rw [← (norm_ok l).2]; exact row_in (norm_ok l).1 hy (by omega) (by omega)⟩
theorem cut_meets (l : List Spn) (f : Spn) : meetS (cutS l f) f = false := by
  cases hc : meetS (cutS l f) f
  · rfl
  · obtain ⟨h1, n, h2, h3, h4⟩ := meet_any.1 hc
    rw [cut_in', inSd_may h1, decide_eq_true ⟨h2, h3⟩] at h4
    simp at h4
theorem cut_add_back {l : List Spn} {f : Spn} (h : hasS l f = true) : addS (cutS l f) f = normS l := by
  obtain ⟨h1, h2⟩ := has_all.1 h
  refine norm_is (add_normal _ _) (fun n => ?_)
  rw [add_in, cut_in']
  cases h3 : inSd f n
  · simp
  · have h4 := (inSd_iff f n).1 h3
    rw [h2 n h4.2.1 h4.2.2]
    simp
theorem cut_cut (l : List Spn) (s : Spn) : cutS (cutS l s) s = cutS l s := by
  refine normal_ext (cut_normal _ _) (cut_normal _ _) (fun n => ?_)
  rw [cut_in', cut_in']
  cases inLab l n <;> cases inSd s n <;> rfl
theorem add_add (l : List Spn) (s : Spn) : addS (addS l s) s = addS l s := by
  refine normal_ext (add_normal _ _) (add_normal _ _) (fun n => ?_)
  rw [add_in, add_in]
  cases inLab l n <;> cases inSd s n <;> rfl
theorem cut_add (l : List Spn) (s : Spn) : addS (cutS l s) s = addS l s := by
  refine normal_ext (add_normal _ _) (add_normal _ _) (fun n => ?_)
  rw [add_in, add_in, cut_in']
  cases inLab l n <;> cases inSd s n <;> rfl
theorem cnt_add (l : List Spn) (s : Spn) : cntS (addS l s) = cntS (cutS l s) + cntS (normS [s]) := by
  rw [cntS_labels (add_normal _ _), cntS_labels (cut_normal _ _), cntS_labels (norm_ok [s]).1]
  have e : ∀ n, inLab (normS [s]) n = inSd s n := fun n => by rw [(norm_ok [s]).2, inS_cons]; exact Bool.or_false _
  have h1 := cntL_or (inLab (cutS l s)) (inLab (normS [s])) 1048576 (fun i _ => by rw [cut_in', e]; cases inLab l i <;> cases inSd s i <;> rfl)
  have h2 := cntL_congr (p := inLab (addS l s)) (q := fun i => inLab (cutS l s) i || inLab (normS [s]) i) 1048576 (fun i _ => by
    show inLab (addS l s) i = (inLab (cutS l s) i || inLab (normS [s]) i)
    rw [add_in, cut_in', e]
    cases inLab l i <;> cases inSd s i <;> rfl)
  rw [h2, h1, Int.natCast_add]
theorem norm_one {s : Spn} (h : mayS s) : normS [s] = [s] := norm_self ⟨h, (fun t ht => by cases ht), trivial⟩
theorem cnt_cut {l : List Spn} {f : Spn} (h : hasS l f = true) : cntS (cutS l f) = cntS (normS l) - (f.l - f.f + 1) := by
  have h1 := cnt_add (cutS l f) f
  rw [cut_add_back h, cut_cut, norm_one (has_all.1 h).1] at h1
  have h2 : cntS [f] = f.l - f.f + 1 + 0 := rfl
  omega
theorem long_add (l : List Spn) (s : Spn) : longS (normS l) 0 ≤ longS (addS l s) 0 := by
  obtain ⟨h0, h1⟩ := long_ge (addS l s) 0
  refine long_le _ 0 _ h0 (fun x hx => ?_)
  have hx2 := (norm_ok l).1.may x hx
  obtain ⟨y, hy, h2, h3⟩ := run_in (add_normal l s) hx2.2.1 (fun n h2 h3 => by
    rw [add_in, ← (norm_ok l).2, row_in (norm_ok l).1 hx h2 h3]
    rfl)
  have := h1 y hy
  omega
end Go.Proofs.Ythmcgignejofiaa
