/- The document's way to disjoint rows (stage 11): the lowest first label behind the last row, and where its run ends; of no program. -/
import Derived.Test.YthmcgignejofiaaM11d
namespace Go.Proofs.Ythmcgignejofiaa
open Go

/-- Does a row begin behind a label, if there is one? -/
def bhd (c : Option Int) (x : Spn) : Bool := match c with | none => true | some e => decide (e < x.f)
def atStep (c : Option Int) (a : Int) (x : Spn) : Int := if (mayB x && bhd c x && (decide (a < 0) || decide (x.f < a))) = true then x.f else a
def atF (c : Option Int) (l : List Spn) : Int := l.foldl (atStep c) (-1)
def AtOk (c : Option Int) (l : List Spn) (a : Int) : Prop :=
  (a < 0 ∧ ∀ x ∈ l, mayS x → bhd c x = false) ∨ (∃ x ∈ l, mayS x ∧ bhd c x = true ∧ a = x.f ∧ ∀ y ∈ l, mayS y → bhd c y = true → x.f ≤ y.f)
theorem at_step {c : Option Int} {pre : List Spn} {a : Int} (h : AtOk c pre a) (x : Spn) : AtOk c (pre ++ [x]) (atStep c a x) := by
  unfold atStep
  by_cases hc : (mayB x && bhd c x && (decide (a < 0) || decide (x.f < a))) = true
  · rw [if_pos hc]
    rw [Bool.and_eq_true, Bool.and_eq_true, Bool.or_eq_true, decide_eq_true_iff, decide_eq_true_iff, mayB_iff] at hc
    obtain ⟨⟨h1, h2⟩, h3⟩ := hc
    refine .inr ⟨x, by simp, h1, h2, rfl, fun y hy hym hyb => ?_⟩
    rcases List.mem_append.1 hy with hy | hy
    · rcases h with ⟨_, h5⟩ | ⟨z, hz, hzm, hzb, hza, hzl⟩
      · rw [h5 y hy hym] at hyb; cases hyb
      · have := hzl y hy hym hyb
        have : 0 ≤ z.f := hzm.1
        omega
    · rw [List.mem_singleton.1 hy]; exact Int.le_refl _
  · rw [if_neg hc]
    have hc2 : mayS x → bhd c x = true → 0 ≤ a ∧ a ≤ x.f := fun h1 h2 => by
      rw [(mayB_iff x).2 h1, h2] at hc
      simp only [Bool.and_self, Bool.true_and, Bool.or_eq_true, decide_eq_true_iff] at hc
      omega
    rcases h with ⟨h4, h5⟩ | ⟨z, hz, hzm, hzb, hza, hzl⟩
    · refine .inl ⟨h4, fun y hy hym => ?_⟩
      rcases List.mem_append.1 hy with hy | hy
      · exact h5 y hy hym
      · rw [List.mem_singleton.1 hy] at hym ⊢
        cases hb : bhd c x
        · rfl
        · have := hc2 hym hb
          omega
    · refine .inr ⟨z, List.mem_append_left _ hz, hzm, hzb, hza, fun y hy hym hyb => ?_⟩
      rcases List.mem_append.1 hy with hy | hy
      · exact hzl y hy hym hyb
      · rw [List.mem_singleton.1 hy] at hym hyb ⊢
        have := hc2 hym hyb
        omega
theorem atF_snoc (c : Option Int) (l : List Spn) (x : Spn) : atF c (l ++ [x]) = atStep c (atF c l) x := by unfold atF; rw [List.foldl_append]; rfl
theorem atF_next {c : Option Int} {l : List Spn} {i : Nat} {x : Spn} (hx : l[i]? = some x) : atF c (l.take (i + 1)) = atStep c (atF c (l.take i)) x := by rw [take_next hx, atF_snoc]
theorem at_ok_from (c : Option Int) : ∀ (k pre : List Spn) (a : Int), AtOk c pre a → AtOk c (pre ++ k) (k.foldl (atStep c) a)
  | [], pre, a, h => by rw [List.append_nil]; exact h
  | x :: k, pre, a, h => by
    have h1 := at_ok_from c k (pre ++ [x]) _ (at_step h x)
    rw [List.append_assoc] at h1
    exact h1
theorem at_ok (c : Option Int) (l : List Spn) : AtOk c l (atF c l) := at_ok_from c l [] (-1) (.inl ⟨by omega, fun _ h => by cases h⟩)
theorem atF_bound (c : Option Int) (l : List Spn) (i : Nat) : atF c (l.take i) ≤ 1048575 := by
  rcases at_ok c (l.take i) with ⟨h, _⟩ | ⟨x, _, hx, _, e, _⟩
  · omega
  · unfold mayS at hx; omega
/-- Where a run of labels ends. -/
def RunE (l : List Spn) (n N : Int) : Prop := n ≤ N ∧ (∀ k, n ≤ k → k ≤ N → inLab l k = true) ∧ inLab l (N + 1) = false
def lastOf (o : List Spn) : Option Int := o.getLast?.map (·.l)
/-- The rows so far have all labels of l up to their last one, behind which there is none. -/
def InvN (l o : List Spn) : Prop := Normal o ∧ ∀ y, o.getLast? = some y → (∀ n, inLab o n = (inLab l n && decide (n ≤ y.l))) ∧ inLab l (y.l + 1) = false
theorem inv_nil (l : List Spn) : InvN l [] := ⟨trivial, fun y h => by cases h⟩
theorem inLab_row {l : List Spn} {x : Spn} (hx : x ∈ l) (hm : mayS x) {n : Int} (h1 : x.f ≤ n) (h2 : n ≤ x.l) : inLab l n = true := (inS_iff l n).2 ⟨x, hx, hm, h1, h2⟩
theorem inv_done {l o : List Spn} (h : InvN l o) (ha : atF (lastOf o) l < 0) : o = normS l := by
  refine norm_is h.1 (fun n => ?_)
  have hat := at_ok (lastOf o) l
  rcases hat with ⟨_, h2⟩ | ⟨x, _, hx, _, e, _⟩
  · cases hg : o.getLast? with
    | none =>
      obtain rfl : o = [] := List.getLast?_eq_none_iff.1 hg
      cases hc : inLab l n with
      | false => rfl
      | true =>
        obtain ⟨s, hs, hm, _⟩ := (inS_iff l n).1 hc
        have := h2 s hs hm
        cases this
    | some y =>
      obtain ⟨h3, h4⟩ := h.2 y hg
      rw [h3]
      cases hc : inLab l n with
      | false => rfl
      | true =>
        rw [Bool.true_and, decide_eq_true_iff]
        obtain ⟨s, hs, hm, h5, h6⟩ := (inS_iff l n).1 hc
        have h7 := h2 s hs hm
        unfold lastOf at h7
        rw [hg] at h7
        have h8 : ¬ y.l < s.f := of_decide_eq_false h7
        rcases Int.lt_or_le y.l n with h9 | h9
        · rw [inLab_row hs hm (n := y.l + 1) (by omega) (by omega)] at h4
          cases h4
        · exact h9
  · have : 0 ≤ x.f := hx.1
    omega
theorem normal_last {o : List Spn} (h : Normal o) {y : Spn} (hg : o.getLast? = some y) : ∀ t ∈ o, t.l ≤ y.l := by
  have e := last_split hg
  rw [e] at h ⊢
  obtain ⟨_, h2, h3⟩ := (normal_snoc _ y).1 h
  intro t ht
  rcases List.mem_append.1 ht with ht | ht
  · have := h3 t ht
    unfold mayS at h2
    omega
  · rw [List.mem_singleton.1 ht]; exact Int.le_refl _
theorem at_in {l o : List Spn} (ha : 0 ≤ atF (lastOf o) l) : inLab l (atF (lastOf o) l) = true := by
  rcases at_ok (lastOf o) l with ⟨h, _⟩ | ⟨x, hx, hm, _, e, _⟩
  · omega
  · rw [e]
    exact inLab_row hx hm (Int.le_refl _) hm.2.1
theorem inv_more {l o : List Spn} (h : InvN l o) (ha : 0 ≤ atF (lastOf o) l) {N : Int} (hN : RunE l (atF (lastOf o) l) N) :
    InvN l (o ++ [⟨atF (lastOf o) l, N⟩]) ∧ ∀ y, o.getLast? = some y → y.l < N := by
  have hin := at_in ha
  obtain ⟨r1, r2, r3⟩ := hN
  have hb := inS_bound (r2 N r1 (Int.le_refl _))
  have hat := at_ok (lastOf o) l
  generalize hA : atF (lastOf o) l = A at *
  rcases hat with ⟨h1, _⟩ | ⟨x, hx, hm, hbx, e, hmin⟩
  · omega
  subst e
  have hmay : mayS ⟨x.f, N⟩ := ⟨ha, r1, hb.2⟩
  -- no label lies between the last row and this one
  have hgap : ∀ n, inLab l n = true → n < x.f → ∃ y, o.getLast? = some y ∧ n ≤ y.l := by
    intro n hn hlt
    obtain ⟨s, hs, hsm, h5, h6⟩ := (inS_iff l n).1 hn
    have h7 : bhd (lastOf o) s = false := by
      cases hc : bhd (lastOf o) s
      · rfl
      · have := hmin s hs hsm hc
        omega
    cases hg : o.getLast? with
    | none => unfold lastOf at h7; rw [hg] at h7; cases h7
    | some y =>
      refine ⟨y, rfl, ?_⟩
      unfold lastOf at h7
      rw [hg] at h7
      have h8 : ¬ y.l < s.f := of_decide_eq_false h7
      rcases Int.lt_or_le y.l n with h9 | h9
      · have h4 := (h.2 y hg).2
        rw [inLab_row hs hsm (n := y.l + 1) (by omega) (by omega)] at h4
        cases h4
      · exact h9
  have hlow : ∀ y, o.getLast? = some y → y.l + 1 < x.f := by
    intro y hg
    unfold lastOf at hbx
    rw [hg] at hbx
    have h8 : y.l < x.f := of_decide_eq_true hbx
    have h4 := (h.2 y hg).2
    rcases Int.lt_or_le (y.l + 1) x.f with h9 | h9
    · exact h9
    · rw [show y.l + 1 = x.f by omega, hin] at h4
      cases h4
  refine ⟨⟨(normal_snoc o _).2 ⟨h.1, hmay, fun t ht => ?_⟩, fun y hy => ?_⟩, fun y hg => ?_⟩
  · obtain ⟨y, hg⟩ : ∃ y, o.getLast? = some y := by
      cases hg : o.getLast? with
      | none => rw [List.getLast?_eq_none_iff.1 hg] at ht; cases ht
      | some y => exact ⟨y, rfl⟩
    have h1 := normal_last h.1 hg t ht
    have h2 := hlow y hg
    show t.l + 1 < x.f
    omega
  · rw [List.getLast?_concat] at hy
    cases hy
    refine ⟨fun n => ?_, r3⟩
    rw [inS_append]
    show (inLab o n || (inSd ⟨x.f, N⟩ n || false)) = (inLab l n && decide (n ≤ N))
    rw [Bool.or_false, inSd_may hmay]
    simp only
    cases hc : inLab l n with
    | false =>
      rw [Bool.false_and, Bool.or_eq_false_iff]
      refine ⟨?_, decide_eq_false (fun h5 => by rw [r2 n h5.1 h5.2] at hc; cases hc)⟩
      cases hg : o.getLast? with
      | none => rw [List.getLast?_eq_none_iff.1 hg]; rfl
      | some y => rw [(h.2 y hg).1, hc]; rfl
    | true =>
      rw [Bool.true_and]
      rcases Int.lt_or_le n x.f with h5 | h5
      · obtain ⟨y, hg, h6⟩ := hgap n hc h5
        rw [(h.2 y hg).1, hc, decide_eq_true h6, decide_eq_true (show n ≤ N by omega)]
        rfl
      · have h7 : inLab o n = false := by
          cases hg : o.getLast? with
          | none => rw [List.getLast?_eq_none_iff.1 hg]; rfl
          | some y =>
            have := hlow y hg
            rw [(h.2 y hg).1, decide_eq_false (by omega), Bool.and_false]
        rw [h7, Bool.false_or]
        apply decide_eq_decide.2
        omega
  · have := hlow y hg
    show y.l < N
    omega
theorem normal_len : ∀ {m : List Spn}, Normal m → (m.length : Int) ≤ cntS m
  | [], _ => by simp [cntS]
  | x :: m, h => by
    have h1 := normal_len h.2.2
    have h2 := h.1
    unfold mayS at h2
    show ((x :: m).length : Int) ≤ x.l - x.f + 1 + cntS m
    rw [List.length_cons]
    omega
/-- A label on from the run so far. -/
theorem run_more {l : List Spn} {n0 n : Int} (h : ∀ k, n0 ≤ k → k ≤ n → inLab l k = true) {x : Spn} (hx : x ∈ l) (hm : mayS x) (h1 : x.f ≤ n + 1) : ∀ k, n0 ≤ k → k ≤ x.l → inLab l k = true := by
  intro k h2 h3
  rcases Int.lt_or_le n k with h4 | h4
  · exact inLab_row hx hm (by omega) h3
  · exact h k h2 h4
theorem run_end {l : List Spn} {n : Int} (h : ∀ x ∈ l, mayS x → ¬ (x.f ≤ n + 1 ∧ n < x.l)) : inLab l (n + 1) = false := by
  cases hc : inLab l (n + 1) with
  | false => rfl
  | true =>
    obtain ⟨s, hs, hm, h5, h6⟩ := (inS_iff l _).1 hc
    exact absurd ⟨h5, by omega⟩ (h s hs hm)
end Go.Proofs.Ythmcgignejofiaa
