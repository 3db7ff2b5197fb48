/- Rows of labels row by row (stage 11): counted, the longest, the first; of no program. -/
import Derived.Test.YthmcgignejofiaaM11c
namespace Go.Proofs.Ythmcgignejofiaa
open Go

theorem normal_take : ∀ {m : List Spn}, Normal m → ∀ i, Normal (m.take i)
  | [], _, i => by rw [List.take_nil]; trivial
  | x :: m, h, 0 => trivial
  | x :: m, h, i + 1 => ⟨h.1, fun t ht => h.2.1 t (List.mem_of_mem_take ht), normal_take h.2.2 i⟩
theorem cntS_snoc : ∀ (m : List Spn) (x : Spn), cntS (m ++ [x]) = cntS m + (x.l - x.f + 1)
  | [], x => by simp [cntS]
  | y :: m, x => by
    show y.l - y.f + 1 + cntS (m ++ [x]) = y.l - y.f + 1 + cntS m + _
    rw [cntS_snoc m x]
    omega
theorem cntL_le (p : Int → Bool) : ∀ n : Nat, cntL p n ≤ n
  | 0 => Nat.le_refl _
  | n + 1 => by
    unfold cntL
    have := cntL_le p n
    split <;> omega
theorem cntS_bound {m : List Spn} (h : Normal m) : 0 ≤ cntS m ∧ cntS m ≤ 1048576 := by
  rw [cntS_labels h]
  have := cntL_le (inLab m) 1048576
  omega
theorem longS_snoc : ∀ (m : List Spn) (x : Spn) (a : Int), longS (m ++ [x]) a = max (longS m a) (x.l - x.f + 1)
  | [], x, a => rfl
  | y :: m, x, a => by
    show longS (m ++ [x]) _ = _
    rw [longS_snoc m x]
    rfl
theorem longS_bound {m : List Spn} (h : Normal m) : 0 ≤ longS m 0 ∧ longS m 0 ≤ 1048576 := by
  refine ⟨(long_ge m 0).1, long_le m 0 1048576 (by omega) (fun x hx => ?_)⟩
  have := h.may x hx
  unfold mayS at this
  omega
theorem firstS_low {size : Int} (h : size < 1) : ∀ m : List Spn, firstS size m = none
  | [] => rfl
  | x :: m => by
    unfold firstS
    rw [if_neg (by omega)]
    exact firstS_low h m
theorem firstS_drop {size : Int} {m : List Spn} {i : Nat} {x : Spn} (hx : m[i]? = some x) : firstS size (m.drop i) = if 0 < size ∧ size ≤ x.l - x.f + 1 then some ⟨x.f, x.f + size - 1⟩ else firstS size (m.drop (i + 1)) := by
  have hi : i < m.length := (List.getElem?_eq_some_iff.1 hx).1
  have e : m.drop i = x :: m.drop (i + 1) := by
    rw [List.drop_eq_getElem_cons hi]
    congr 1
    exact (List.getElem?_eq_some_iff.1 hx).2
  rw [e]
  rfl
theorem take_next {m : List Spn} {i : Nat} {x : Spn} (hx : m[i]? = some x) : m.take (i + 1) = m.take i ++ [x] := by rw [List.take_add_one, hx]; rfl
theorem norm_may {l : List Spn} {x : Spn} (h : x ∈ normS l) : mayS x := (norm_ok l).1.may x h
theorem any_meet {s : Spn} (hs : mayS s) {m : List Spn} (hm : ∀ x ∈ m, mayS x) : (m.any fun x => decide (x.f ≤ s.l ∧ s.f ≤ x.l)) = true ↔ ∃ n, s.f ≤ n ∧ n ≤ s.l ∧ inLab m n = true := by
  rw [List.any_eq_true]
  constructor
  · rintro ⟨y, hy, h⟩
    have h := of_decide_eq_true h
    have hy2 := hm y hy
    unfold mayS at hs hy2
    exact ⟨max y.f s.f, by omega, by omega, (inS_iff _ _).2 ⟨y, hy, hm y hy, by omega, by omega⟩⟩
  · rintro ⟨n, h1, h2, h3⟩
    rw [inS_iff] at h3
    obtain ⟨y, hy, _, h4, h5⟩ := h3
    exact ⟨y, hy, decide_eq_true (by omega)⟩
theorem meet_good {s : Spn} (hs : mayS s) (l : List Spn) : ((l.filter mayB).any fun x => decide (x.f ≤ s.l ∧ s.f ≤ x.l)) = ((normS l).any fun x => decide (x.f ≤ s.l ∧ s.f ≤ x.l)) := by
  rw [Bool.eq_iff_iff, any_meet hs (fun x hx => (mayB_iff x).1 (List.mem_filter.1 hx).2), any_meet hs (fun x hx => norm_may hx)]
  constructor
  · rintro ⟨n, h1, h2, h3⟩; exact ⟨n, h1, h2, by rw [(norm_ok l).2, ← inLab_good]; exact h3⟩
  · rintro ⟨n, h1, h2, h3⟩; exact ⟨n, h1, h2, by rw [inLab_good, ← (norm_ok l).2]; exact h3⟩
/-- What is left of rows of which each may be, ahead of a span and behind it, has the labels of what is cut. -/
theorem parts_of {s : Spn} (hs : mayS s) {m : List Spn} (hm : ∀ x ∈ m, mayS x) (n : Int) :
    inLab ((m.map fun x => (⟨x.f, min x.l (s.f - 1)⟩ : Spn)) ++ (m.map fun x => (⟨max x.f (s.l + 1), x.l⟩ : Spn))) n = (inLab m n && !inSd s n) := by
  rw [← parts_in hs m hm n, inS_append]
  induction m with
  | nil => rfl
  | cons x m ih =>
    have ih := ih (fun y hy => hm y (List.mem_cons_of_mem _ hy))
    rw [List.map_cons, List.map_cons, inS_cons, inS_cons, List.flatMap_cons, inS_append, ← ih]
    have e : inLab (partS s x) n = (inSd ⟨x.f, min x.l (s.f - 1)⟩ n || (inSd ⟨max x.f (s.l + 1), x.l⟩ n || false)) := rfl
    rw [e]
    generalize inSd ⟨x.f, min x.l (s.f - 1)⟩ n = p
    generalize inSd ⟨max x.f (s.l + 1), x.l⟩ n = q
    generalize inLab (List.map (fun x => (⟨x.f, min x.l (s.f - 1)⟩ : Spn)) m) n = r
    generalize inLab (List.map (fun x => (⟨max x.f (s.l + 1), x.l⟩ : Spn)) m) n = t
    cases p <;> cases q <;> cases r <;> cases t <;> rfl
/-- What the program puts together when it cuts. -/
theorem cut_of {s : Spn} (hs : mayS s) (l : List Spn) :
    normS (((l.filter mayB).map fun x => (⟨x.f, min x.l (s.f - 1)⟩ : Spn)) ++ ((l.filter mayB).map fun x => (⟨max x.f (s.l + 1), x.l⟩ : Spn))) = cutS l s := by
  refine (norm_is (cut_normal l s) (fun n => ?_)).symm
  rw [cut_in', parts_of hs (fun x hx => (mayB_iff x).1 (List.mem_filter.1 hx).2), inLab_good]
end Go.Proofs.Ythmcgignejofiaa
