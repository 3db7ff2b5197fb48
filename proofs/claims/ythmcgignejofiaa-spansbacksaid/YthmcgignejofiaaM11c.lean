/- Rows that rise are put together where they touch (stage 11): of no program. -/
import Derived.Test.YthmcgignejofiaaM11b
namespace Go.Proofs.Ythmcgignejofiaa
open Go

theorem normal_snoc : ∀ (m : List Spn) (y : Spn), Normal (m ++ [y]) ↔ Normal m ∧ mayS y ∧ ∀ t ∈ m, t.l + 1 < y.f
  | [], y => by simp [Normal]
  | x :: m, y => by
    show (mayS x ∧ (∀ t ∈ m ++ [y], x.l + 1 < t.f) ∧ Normal (m ++ [y])) ↔ _
    rw [normal_snoc m y]
    constructor
    · rintro ⟨h1, h2, h3, h4, h5⟩
      refine ⟨⟨h1, fun t ht => h2 t (List.mem_append_left _ ht), h3⟩, h4, fun t ht => ?_⟩
      rcases List.mem_cons.1 ht with rfl | ht
      · exact h2 y (by simp)
      · exact h5 t ht
    · rintro ⟨⟨h1, h2, h3⟩, h4, h5⟩
      refine ⟨h1, fun t ht => ?_, h3, h4, fun t ht => h5 t (List.mem_cons_of_mem _ ht)⟩
      rcases List.mem_append.1 ht with ht | ht
      · exact h2 t ht
      · rw [List.mem_singleton.1 ht]; exact h5 x List.mem_cons_self
/-- One more row, whose first label is no lower than the last one's. -/
def joinS (m : List Spn) (s : Spn) : List Spn :=
  match m.getLast? with
  | some y => if s.f ≤ y.l + 1 then m.dropLast ++ [⟨y.f, max y.l s.l⟩] else m ++ [s]
  | none => m ++ [s]
theorem last_split {m : List Spn} {y : Spn} (h : m.getLast? = some y) : m = m.dropLast ++ [y] := by
  have hne : m ≠ [] := by rintro rfl; cases h
  rw [List.getLast?_eq_some_getLast hne] at h
  cases h
  exact (List.dropLast_concat_getLast hne).symm
theorem join_step {m : List Spn} {s : Spn} (hs : mayS s) (hm : Normal m) (hl : ∀ y, m.getLast? = some y → y.f ≤ s.f) :
    Normal (joinS m s) ∧ (∀ n, inLab (joinS m s) n = (inLab m n || inSd s n)) ∧ ∃ y, (joinS m s).getLast? = some y ∧ y.f ≤ s.f := by
  unfold joinS
  cases hg : m.getLast? with
  | none =>
    obtain rfl : m = [] := List.getLast?_eq_none_iff.1 hg
    exact ⟨⟨hs, (fun t ht => by cases ht), trivial⟩, fun n => by show (inSd s n || false) = (false || inSd s n); simp, s, rfl, Int.le_refl _⟩
  | some y =>
    have h1 := last_split hg
    have hyf := hl y hg
    simp only
    generalize m.dropLast = p at *
    subst h1
    obtain ⟨np, my, hp⟩ := (normal_snoc p y).1 hm
    by_cases hc : s.f ≤ y.l + 1
    · rw [if_pos hc]
      have hy' : mayS ⟨y.f, max y.l s.l⟩ := by
        unfold mayS at *
        simp only
        omega
      refine ⟨(normal_snoc p _).2 ⟨np, hy', hp⟩, fun n => ?_, _, List.getLast?_concat, hyf⟩
      rw [inS_append, inS_append, Bool.or_assoc]
      congr 1
      show (inSd _ n || false) = ((inSd y n || false) || inSd s n)
      rw [Bool.or_false, Bool.or_false, inSd_may hy', inSd_may my, inSd_may hs, ← Bool.decide_or]
      apply decide_eq_decide.2
      unfold mayS at my hs
      simp only
      omega
    · rw [if_neg hc]
      refine ⟨(normal_snoc (p ++ [y]) s).2 ⟨hm, hs, fun t ht => ?_⟩, fun n => ?_, s, List.getLast?_concat, Int.le_refl _⟩
      · rcases List.mem_append.1 ht with ht | ht
        · have := hp t ht
          unfold mayS at my
          omega
        · rw [List.mem_singleton.1 ht]; omega
      · rw [inS_append]
        show (_ || (inSd s n || false)) = _
        rw [Bool.or_false]
def joinAll (l : List Spn) : List Spn := l.foldl joinS []
theorem joinAll_snoc (l : List Spn) (s : Spn) : joinAll (l ++ [s]) = joinS (joinAll l) s := by unfold joinAll; rw [List.foldl_append]; rfl
def RiseS (l : List Spn) : Prop := l.Pairwise fun a b => a.f ≤ b.f
/-- What holds of the rows put together so far, rows and rows behind. -/
theorem join_all : ∀ (k pre : List Spn), (∀ x ∈ pre ++ k, mayS x) → RiseS (pre ++ k) → Normal (joinAll pre) → (∀ n, inLab (joinAll pre) n = inLab pre n) → (∀ y, (joinAll pre).getLast? = some y → ∀ x ∈ k, y.f ≤ x.f) →
    Normal (joinAll (pre ++ k)) ∧ ∀ n, inLab (joinAll (pre ++ k)) n = inLab (pre ++ k) n
  | [], pre, _, _, h1, h2, _ => by rw [List.append_nil]; exact ⟨h1, h2⟩
  | s :: k, pre, hm, hr, h1, h2, h3 => by
    have e : pre ++ s :: k = (pre ++ [s]) ++ k := by simp
    have hs : mayS s := hm s (by simp)
    obtain ⟨j1, j2, y, j3, j4⟩ := join_step hs h1 (fun y hy => h3 y hy s List.mem_cons_self)
    rw [e] at hm hr ⊢
    refine join_all k (pre ++ [s]) hm hr (by rw [joinAll_snoc]; exact j1) (fun n => ?_) (fun y' hy' x hx => ?_)
    · rw [joinAll_snoc, j2, h2, inS_append]
      congr 1
      show _ = (inSd s n || false)
      rw [Bool.or_false]
    · rw [joinAll_snoc, j3] at hy'
      cases hy'
      have := (List.pairwise_append.1 hr).2.2 s (by simp) x hx
      omega
theorem join_norm {l : List Spn} (hm : ∀ x ∈ l, mayS x) (hr : RiseS l) : joinAll l = normS l := by
  obtain ⟨h1, h2⟩ := join_all l [] hm hr trivial (fun _ => rfl) (fun y hy => by cases hy)
  exact norm_is h1 h2
theorem inLab_perm {l k : List Spn} (h : l.Perm k) (n : Int) : inLab l n = inLab k n := by
  rw [Bool.eq_iff_iff, inS_iff, inS_iff]
  exact ⟨fun ⟨s, hs, hn⟩ => ⟨s, h.mem_iff.1 hs, hn⟩, fun ⟨s, hs, hn⟩ => ⟨s, h.mem_iff.2 hs, hn⟩⟩
theorem inLab_good (l : List Spn) (n : Int) : inLab (l.filter mayB) n = inLab l n := by
  rw [Bool.eq_iff_iff, inS_iff, inS_iff]
  constructor
  · rintro ⟨s, hs, hn⟩
    exact ⟨s, (List.mem_filter.1 hs).1, hn⟩
  · rintro ⟨s, hs, hn⟩
    exact ⟨s, List.mem_filter.2 ⟨hs, (mayB_iff s).2 hn.1⟩, hn⟩
/-- Whatever is a rising order of those that may be. -/
theorem join_sorted {l k : List Spn} (hp : k.Perm (l.filter mayB)) (hr : RiseS k) : joinAll k = normS l := by
  rw [join_norm (fun x hx => (mayB_iff x).1 (List.mem_filter.1 (hp.mem_iff.1 hx)).2) hr]
  exact norm_same (fun n => by rw [inLab_perm hp, inLab_good])
theorem joinS_length (m : List Spn) (s : Spn) : (joinS m s).length ≤ m.length + 1 := by
  unfold joinS
  cases hg : m.getLast? with
  | none => simp
  | some y =>
    have h1 := last_split hg
    simp only
    split
    · rw [List.length_append, List.length_dropLast]; simp
    · simp
theorem normS_length_le (l : List Spn) : (normS l).length ≤ l.length := by
  have ins_len : ∀ (m : List Spn) (s : Spn), (insS s m).length ≤ m.length + 1 := by
    intro m
    induction m with
    | nil => intro s; simp [insS]
    | cons x m ih =>
      intro s
      unfold insS
      split
      · simp
      · split
        · have := ih s; simp; omega
        · have := ih ⟨min s.f x.f, max s.l x.l⟩; simp; omega
  induction l with
  | nil => simp [normS]
  | cons s l ih =>
    unfold normS
    split
    · have := ins_len (normS l) s; simp; omega
    · simp; omega
theorem joinAll_length : ∀ (k pre : List Spn), (joinAll (pre ++ k)).length ≤ (joinAll pre).length + k.length
  | [], pre => by simp
  | s :: k, pre => by
    have h1 := joinAll_length k (pre ++ [s])
    rw [joinAll_snoc] at h1
    have h2 := joinS_length (joinAll pre) s
    rw [List.append_assoc] at h1
    simp only [List.length_cons, List.singleton_append] at *
    omega
theorem joinAll_take (k : List Spn) (i : Nat) : (joinAll (k.take i)).length ≤ k.length := by
  have := joinAll_length (k.take i) []
  have h0 : (joinAll ([] : List Spn)).length = 0 := rfl
  rw [List.nil_append, h0, List.length_take] at this
  omega
theorem joinAll_next {k : List Spn} {i : Nat} {x : Spn} (hx : k[i]? = some x) : joinAll (k.take (i + 1)) = joinS (joinAll (k.take i)) x := by
  rw [List.take_add_one, hx]
  exact joinAll_snoc _ _
theorem joinAll_normal {k : List Spn} (hm : ∀ x ∈ k, mayS x) (hr : RiseS k) (i : Nat) : Normal (joinAll (k.take i)) :=
  (join_all (k.take i) [] (fun x hx => hm x (List.mem_of_mem_take (by simpa using hx))) (hr.sublist (by simpa using List.take_sublist i k)) trivial (fun _ => rfl) (fun y hy => by cases hy)).1
end Go.Proofs.Ythmcgignejofiaa
