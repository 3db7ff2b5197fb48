/- Tables as rows in order: put, delete, get; what they are told by. Of no program. -/
import Derived.Test.YtecefdocemkliaaMath
namespace Go.Proofs.Ytecefdocemkliaa
open Go

/-- An order on keys, by a number below 0, 0 or above. -/
structure Ord3 {K : Type} (c : K → K → Int) (ok : K → Prop) : Prop where
  anti : ∀ x y, c y x = - c x y
  zero : ∀ x y, ok x → ok y → c x y = 0 → x = y
  trans : ∀ x y z, ok x → ok y → ok z → c x y < 0 → c y z < 0 → c x z < 0
section
variable {K V : Type} {c : K → K → Int} {ok : K → Prop}
theorem Ord3.refl (o : Ord3 c ok) (x : K) : c x x = 0 := by have := o.anti x x; omega

/-- How many stand ahead. -/
def idxT (c : K → K → Int) (p : K) : List (K × V) → Nat
  | [] => 0
  | x :: l => if c x.1 p < 0 then idxT c p l + 1 else 0
/-- Is it there? -/
def isT (c : K → K → Int) (p : K) : List (K × V) → Bool
  | [] => false
  | x :: l => if c x.1 p < 0 then isT c p l else decide (c x.1 p = 0)
def getT (c : K → K → Int) (p : K) : List (K × V) → Option V
  | [] => none
  | x :: l => if c x.1 p < 0 then getT c p l else if c x.1 p = 0 then some x.2 else none
def putT (c : K → K → Int) (p : K) (v : V) : List (K × V) → List (K × V)
  | [] => [(p, v)]
  | x :: l => if c x.1 p < 0 then x :: putT c p v l else if c x.1 p = 0 then (p, v) :: l else (p, v) :: x :: l
def delT (c : K → K → Int) (p : K) : List (K × V) → List (K × V)
  | [] => []
  | x :: l => if c x.1 p < 0 then x :: delT c p l else if c x.1 p = 0 then l else x :: l

theorem idxT_le (p : K) : ∀ l : List (K × V), idxT c p l ≤ l.length
  | [] => Nat.le_refl _
  | x :: l => by
    have := idxT_le p l
    unfold idxT
    split <;> simp <;> omega
theorem putT_form (p : K) (v : V) : ∀ l : List (K × V), putT c p v l = l.take (idxT c p l) ++ (p, v) :: l.drop (if isT c p l then idxT c p l + 1 else idxT c p l)
  | [] => rfl
  | x :: l => by
    unfold putT idxT isT
    by_cases h1 : c x.1 p < 0
    · rw [if_pos h1, if_pos h1, if_pos h1, putT_form p v l]
      cases isT c p l <;> simp
    · rw [if_neg h1, if_neg h1, if_neg h1]
      by_cases h2 : c x.1 p = 0
      · rw [if_pos h2, decide_eq_true h2]; rfl
      · rw [if_neg h2, decide_eq_false h2]; rfl
theorem delT_form (p : K) : ∀ l : List (K × V), delT c p l = if isT c p l then l.take (idxT c p l) ++ l.drop (idxT c p l + 1) else l
  | [] => rfl
  | x :: l => by
    unfold delT idxT isT
    by_cases h1 : c x.1 p < 0
    · rw [if_pos h1, if_pos h1, if_pos h1, delT_form p l]
      cases isT c p l <;> simp
    · rw [if_neg h1, if_neg h1, if_neg h1]
      by_cases h2 : c x.1 p = 0
      · rw [if_pos h2, decide_eq_true h2]; rfl
      · rw [if_neg h2, decide_eq_false h2]; rfl
theorem getT_form (p : K) : ∀ l : List (K × V), getT c p l = if isT c p l then (l[idxT c p l]?).map (·.2) else none
  | [] => rfl
  | x :: l => by
    unfold getT idxT isT
    by_cases h1 : c x.1 p < 0
    · rw [if_pos h1, if_pos h1, if_pos h1, getT_form p l]
      cases isT c p l <;> simp
    · rw [if_neg h1, if_neg h1, if_neg h1]
      by_cases h2 : c x.1 p = 0
      · rw [if_pos h2, decide_eq_true h2]; rfl
      · rw [if_neg h2, decide_eq_false h2]; rfl
theorem isT_get (p : K) : ∀ l : List (K × V), isT c p l = (getT c p l).isSome
  | [] => rfl
  | x :: l => by
    unfold isT getT
    by_cases h1 : c x.1 p < 0
    · rw [if_pos h1, if_pos h1, isT_get p l]
    · rw [if_neg h1, if_neg h1]
      by_cases h2 : c x.1 p = 0
      · rw [if_pos h2, decide_eq_true h2]; rfl
      · rw [if_neg h2, decide_eq_false h2]; rfl
/-- Is it there, by what stands at its place. -/
theorem isT_form (o : Ord3 c ok) (p : K) (hp : ok p) : ∀ l : List (K × V), (∀ x ∈ l, ok x.1) → (isT c p l = true ↔ ∃ v, l[idxT c p l]? = some (p, v))
  | [], _ => by simp [isT]
  | x :: l, hok => by
    unfold isT idxT
    by_cases h1 : c x.1 p < 0
    · rw [if_pos h1, if_pos h1, isT_form o p hp l (fun y hy => hok y (by simp [hy]))]
      simp
    · rw [if_neg h1, if_neg h1]
      constructor
      · intro h
        have := o.zero _ _ (hok x (by simp)) hp (of_decide_eq_true h)
        exact ⟨x.2, by rw [← this]; rfl⟩
      · rintro ⟨v, hv⟩
        have : x = (p, v) := by simpa using hv
        subst this
        exact decide_eq_true (o.refl p)

/-- In order. -/
def InOrder (c : K → K → Int) (ok : K → Prop) (l : List (K × V)) : Prop := l.Pairwise (fun x y => c x.1 y.1 < 0) ∧ ∀ x ∈ l, ok x.1
theorem InOrder.nil : InOrder c ok ([] : List (K × V)) := ⟨List.Pairwise.nil, fun x h => by cases h⟩
theorem InOrder.tail {x : K × V} {l : List (K × V)} (h : InOrder c ok (x :: l)) : InOrder c ok l := ⟨(List.pairwise_cons.1 h.1).2, fun y hy => h.2 y (by simp [hy])⟩
theorem InOrder.head {x : K × V} {l : List (K × V)} (h : InOrder c ok (x :: l)) : ok x.1 ∧ ∀ y ∈ l, c x.1 y.1 < 0 := ⟨h.2 x (by simp), (List.pairwise_cons.1 h.1).1⟩
theorem InOrder.cons {x : K × V} {l : List (K × V)} (h0 : ok x.1) (h1 : ∀ y ∈ l, c x.1 y.1 < 0) (h : InOrder c ok l) : InOrder c ok (x :: l) :=
  ⟨List.pairwise_cons.2 ⟨h1, h.1⟩, fun y hy => by rcases List.mem_cons.1 hy with rfl | hy; exact h0; exact h.2 y hy⟩
theorem put_mem (p : K) (v : V) : ∀ (l : List (K × V)) (y : K × V), y ∈ putT c p v l → y = (p, v) ∨ y ∈ l
  | [], y, h => by simpa [putT] using h
  | x :: l, y, h => by
    unfold putT at h
    split at h
    · rcases List.mem_cons.1 h with rfl | h
      · exact .inr (by simp)
      · rcases put_mem p v l y h with h | h
        · exact .inl h
        · exact .inr (by simp [h])
    · split at h
      · rcases List.mem_cons.1 h with rfl | h
        · exact .inl rfl
        · exact .inr (by simp [h])
      · rcases List.mem_cons.1 h with rfl | h
        · exact .inl rfl
        · exact .inr h
theorem put_order (o : Ord3 c ok) (p : K) (hp : ok p) (v : V) : ∀ (l : List (K × V)), InOrder c ok l → InOrder c ok (putT c p v l)
  | [], _ => InOrder.cons hp (fun y h => by cases h) InOrder.nil
  | x :: l, h => by
    obtain ⟨hx, hlt⟩ := h.head
    unfold putT
    by_cases h1 : c x.1 p < 0
    · rw [if_pos h1]
      refine InOrder.cons hx (fun y hy => ?_) (put_order o p hp v l h.tail)
      rcases put_mem p v l y hy with rfl | hy
      · exact h1
      · exact hlt y hy
    · rw [if_neg h1]
      by_cases h2 : c x.1 p = 0
      · rw [if_pos h2]
        have e := o.zero _ _ hx hp h2
        refine InOrder.cons hp (fun y hy => ?_) h.tail
        rw [← e]
        exact hlt y hy
      · rw [if_neg h2]
        have hpx : c p x.1 < 0 := by have := o.anti x.1 p; omega
        refine InOrder.cons hp (fun y hy => ?_) h
        rcases List.mem_cons.1 hy with rfl | hy
        · exact hpx
        · exact o.trans _ _ _ hp hx (h.tail.2 y hy) hpx (hlt y hy)
theorem del_mem (p : K) : ∀ (l : List (K × V)) (y : K × V), y ∈ delT c p l → y ∈ l
  | [], y, h => by simp [delT] at h
  | x :: l, y, h => by
    unfold delT at h
    split at h
    · rcases List.mem_cons.1 h with rfl | h
      · simp
      · exact List.mem_cons_of_mem _ (del_mem p l y h)
    · split at h
      · exact List.mem_cons_of_mem _ h
      · exact h
theorem del_order (p : K) : ∀ (l : List (K × V)), InOrder c ok l → InOrder c ok (delT c p l)
  | [], h => h
  | x :: l, h => by
    obtain ⟨hx, hlt⟩ := h.head
    unfold delT
    split
    · exact InOrder.cons hx (fun y hy => hlt y (del_mem p l y hy)) (del_order p l h.tail)
    · split
      · exact h.tail
      · exact h
/-- What stands behind is not p. -/
theorem get_none (o : Ord3 c ok) (p : K) (_hp : ok p) : ∀ (l : List (K × V)), InOrder c ok l → (∀ y ∈ l, c p y.1 < 0) → getT c p l = none
  | [], _, _ => rfl
  | x :: l, h, hlt => by
    have h0 := hlt x (by simp)
    have := o.anti p x.1
    unfold getT
    rw [if_neg (by omega), if_neg (by omega)]
theorem getT_putT (o : Ord3 c ok) (p q : K) (hp : ok p) (hq : ok q) (v : V) : ∀ (l : List (K × V)), InOrder c ok l → getT c q (putT c p v l) = if c p q = 0 then some v else getT c q l
  | [], _ => by
    show (if c p q < 0 then none else if c p q = 0 then some v else none) = if c p q = 0 then some v else none
    by_cases h : c p q < 0
    · rw [if_pos h, if_neg (by omega)]
    · rw [if_neg h]
  | x :: l, h => by
    obtain ⟨hx, hlt⟩ := h.head
    have ih := getT_putT o p q hp hq v l h.tail
    unfold putT
    by_cases h1 : c x.1 p < 0
    · rw [if_pos h1]
      show (if c x.1 q < 0 then getT c q (putT c p v l) else if c x.1 q = 0 then some x.2 else none) = _
      rw [ih]
      by_cases h2 : c p q = 0
      · have e := o.zero _ _ hp hq h2
        subst e
        rw [if_pos h2, if_pos h2, if_pos h1]
      · rw [if_neg h2, if_neg h2]; rfl
    · rw [if_neg h1]
      by_cases h2 : c x.1 p = 0
      · have e := o.zero _ _ hx hp h2
        rw [if_pos h2]
        show (if c p q < 0 then getT c q l else if c p q = 0 then some v else none) = if c p q = 0 then some v else (if c x.1 q < 0 then getT c q l else if c x.1 q = 0 then some x.2 else none)
        rw [e]
        by_cases h3 : c p q < 0
        · rw [if_pos h3, if_neg (by omega), if_pos h3]
        · rw [if_neg h3, if_neg h3]
          by_cases h4 : c p q = 0
          · rw [if_pos h4, if_pos h4]
          · rw [if_neg h4, if_neg h4, if_neg h4]
      · rw [if_neg h2]
        have hpx : c p x.1 < 0 := by have := o.anti x.1 p; omega
        show (if c p q < 0 then getT c q (x :: l) else if c p q = 0 then some v else none) = _
        by_cases h3 : c p q < 0
        · rw [if_pos h3, if_neg (by omega)]
        · rw [if_neg h3]
          by_cases h4 : c p q = 0
          · rw [if_pos h4, if_pos h4]
          · rw [if_neg h4, if_neg h4]
            have hqp : c q p < 0 := by have := o.anti p q; omega
            have hqx := o.trans _ _ _ hq hp hx hqp hpx
            exact (get_none o q hq (x :: l) h (fun y hy => by
              rcases List.mem_cons.1 hy with rfl | hy
              · exact hqx
              · exact o.trans _ _ _ hq hx (h.tail.2 y hy) hqx (hlt y hy))).symm
theorem get_del (o : Ord3 c ok) (p q : K) (hp : ok p) (hq : ok q) : ∀ (l : List (K × V)), InOrder c ok l → getT c q (delT c p l) = if c p q = 0 then none else getT c q l
  | [], _ => by unfold delT getT; split <;> rfl
  | x :: l, h => by
    obtain ⟨hx, hlt⟩ := h.head
    have ih := get_del o p q hp hq l h.tail
    unfold delT
    by_cases h1 : c x.1 p < 0
    · rw [if_pos h1]
      show (if c x.1 q < 0 then getT c q (delT c p l) else if c x.1 q = 0 then some x.2 else none) = _
      rw [ih]
      by_cases h2 : c p q = 0
      · have e := o.zero _ _ hp hq h2
        subst e
        rw [if_pos h2, if_pos h2, if_pos h1]
      · rw [if_neg h2, if_neg h2]; rfl
    · rw [if_neg h1]
      by_cases h2 : c x.1 p = 0
      · have e := o.zero _ _ hx hp h2
        rw [if_pos h2]
        by_cases h4 : c p q = 0
        · rw [if_pos h4]
          have e2 := o.zero _ _ hp hq h4
          refine get_none o q hq l h.tail (fun y hy => ?_)
          rw [← e2, ← e]
          exact hlt y hy
        · rw [if_neg h4]
          show getT c q l = if c x.1 q < 0 then getT c q l else if c x.1 q = 0 then some x.2 else none
          rw [e]
          by_cases h3 : c p q < 0
          · rw [if_pos h3]
          · rw [if_neg h3, if_neg h4]
            have hqp : c q p < 0 := by have := o.anti p q; omega
            refine get_none o q hq l h.tail (fun y hy => ?_)
            refine o.trans _ _ _ hq hp (h.tail.2 y hy) hqp ?_
            rw [← e]
            exact hlt y hy
      · rw [if_neg h2]
        have hpx : c p x.1 < 0 := by have := o.anti x.1 p; omega
        by_cases h4 : c p q = 0
        · rw [if_pos h4]
          have e2 := o.zero _ _ hp hq h4
          subst e2
          exact get_none o p hp (x :: l) h (fun y hy => by
            rcases List.mem_cons.1 hy with rfl | hy
            · exact hpx
            · exact o.trans _ _ _ hp hx (h.tail.2 y hy) hpx (hlt y hy))
        · rw [if_neg h4]
/-- A table in order is told by what it gives. -/
theorem tab_ext (o : Ord3 c ok) : ∀ (l m : List (K × V)), InOrder c ok l → InOrder c ok m → (∀ p, ok p → getT c p l = getT c p m) → l = m
  | [], [], _, _, _ => rfl
  | [], y :: m, _, hm, h => by
    have := h y.1 hm.head.1
    unfold getT at this
    rw [o.refl, if_neg (by omega), if_pos rfl] at this
    cases this
  | x :: l, [], hl, _, h => by
    have := h x.1 hl.head.1
    unfold getT at this
    rw [o.refl, if_neg (by omega), if_pos rfl] at this
    cases this
  | x :: l, y :: m, hl, hm, h => by
    obtain ⟨hx, hlx⟩ := hl.head
    obtain ⟨hy, hmy⟩ := hm.head
    have gx : getT c x.1 (x :: l) = some x.2 := by unfold getT; rw [o.refl, if_neg (by omega), if_pos rfl]
    have gy : getT c y.1 (y :: m) = some y.2 := by unfold getT; rw [o.refl, if_neg (by omega), if_pos rfl]
    have hxy : c x.1 y.1 = 0 := by
      rcases Int.lt_trichotomy (c x.1 y.1) 0 with h1 | h1 | h1
      · have := h x.1 hx
        rw [gx, get_none o x.1 hx (y :: m) hm (fun z hz => by
          rcases List.mem_cons.1 hz with rfl | hz
          · exact h1
          · exact o.trans _ _ _ hx hy (hm.tail.2 z hz) h1 (hmy z hz))] at this
        cases this
      · exact h1
      · have h2 : c y.1 x.1 < 0 := by have := o.anti x.1 y.1; omega
        have := h y.1 hy
        rw [gy, get_none o y.1 hy (x :: l) hl (fun z hz => by
          rcases List.mem_cons.1 hz with rfl | hz
          · exact h2
          · exact o.trans _ _ _ hy hx (hl.tail.2 z hz) h2 (hlx z hz))] at this
        cases this
    have e := o.zero _ _ hx hy hxy
    have e2 : x.2 = y.2 := by
      have := h x.1 hx
      rw [gx, e, gy] at this
      exact Option.some.inj this
    have exy : x = y := Prod.ext e e2
    subst exy
    congr 1
    refine tab_ext o l m hl.tail hm.tail (fun p hp => ?_)
    by_cases h1 : c x.1 p < 0
    · have := h p hp
      unfold getT at this
      rw [if_pos h1, if_pos h1] at this
      exact this
    · have hle : ∀ z, z ∈ l → c p z.1 < 0 := fun z hz => by
        by_cases h2 : c x.1 p = 0
        · rw [← o.zero _ _ hx hp h2]; exact hlx z hz
        · have : c p x.1 < 0 := by have := o.anti x.1 p; omega
          exact o.trans _ _ _ hp hx (hl.tail.2 z hz) this (hlx z hz)
      have hme : ∀ z, z ∈ m → c p z.1 < 0 := fun z hz => by
        by_cases h2 : c x.1 p = 0
        · rw [← o.zero _ _ hx hp h2]; exact hmy z hz
        · have : c p x.1 < 0 := by have := o.anti x.1 p; omega
          exact o.trans _ _ _ hp hx (hm.tail.2 z hz) this (hmy z hz)
      rw [get_none o p hp l hl.tail hle, get_none o p hp m hm.tail hme]
/-- Put and deleted again. -/
theorem put_del (o : Ord3 c ok) (p : K) (hp : ok p) (v : V) (l : List (K × V)) (h : InOrder c ok l) (hn : getT c p l = none) : delT c p (putT c p v l) = l := by
  refine tab_ext o _ _ (del_order p _ (put_order o p hp v l h)) h (fun q hq => ?_)
  rw [get_del o p q hp hq _ (put_order o p hp v l h), getT_putT o p q hp hq v l h]
  by_cases h1 : c p q = 0
  · have e := o.zero _ _ hp hq h1
    subst e
    rw [if_pos h1, hn]
  · rw [if_neg h1, if_neg h1]
theorem put_length (p : K) (v : V) : ∀ l : List (K × V), (putT c p v l).length = l.length + (if isT c p l then 0 else 1)
  | [] => rfl
  | x :: l => by
    have ih := put_length p v l
    unfold putT isT
    by_cases h1 : c x.1 p < 0
    · rw [if_pos h1, if_pos h1, List.length_cons, ih, List.length_cons]; omega
    · rw [if_neg h1, if_neg h1]
      by_cases h2 : c x.1 p = 0
      · rw [if_pos h2, decide_eq_true h2]; simp
      · rw [if_neg h2, decide_eq_false h2]; simp
end
end Go.Proofs.Ytecefdocemkliaa
