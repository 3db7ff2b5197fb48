/- Tables as rows in order: put, delete, get; what they are told by. Of no program. Tables of prefixes: the order holds, what is looked up. Of no program. Tables kept in order, part by part; the order of prefixes, bit by bit. Of no program. A node of a tree of prefixes: its own prefix, what lies below it on both sides, as lists in order. Of no program. -/
import Derived.Test.YtgimcapcnidjjaaMath
import Derived.Test.YtgimcapcnidjjaaM8
namespace Go.Proofs.Ytgimcapcnidjjaa
open Go

/-- An order on keys, by a number below 0, 0 or above. -/
structure Ord3 {K : Type} (c : K → K → Int) (ok : K → Prop) : Prop where
  anti : ∀ x y, c y x = - c x y
  zero : ∀ x y, ok x → ok y → c x y = 0 → x = y
  trans : ∀ x y z, ok x → ok y → ok z → c x y < 0 → c y z < 0 → c x z < 0
section
variable {K V : Type} {c : K → K → Int} {ok : K → Prop}
theorem Ord3.refl (o : Ord3 c ok) (x : K) : c x x = 0 := by have := o.anti x x; omega

/-- How many stand ahead. -/
def idxT (c : K → K → Int) (p : K) : List (K × V) → Nat
  | [] => 0
  | x :: l => if c x.1 p < 0 then idxT c p l + 1 else 0
/-- Is it there? -/
def isT (c : K → K → Int) (p : K) : List (K × V) → Bool
  | [] => false
  | x :: l => if c x.1 p < 0 then isT c p l else decide (c x.1 p = 0)
def getT (c : K → K → Int) (p : K) : List (K × V) → Option V
  | [] => none
  | x :: l => if c x.1 p < 0 then getT c p l else if c x.1 p = 0 then some x.2 else none
def putT (c : K → K → Int) (p : K) (v : V) : List (K × V) → List (K × V)
  | [] => [(p, v)]
  | x :: l => if c x.1 p < 0 then x :: putT c p v l else if c x.1 p = 0 then (p, v) :: l else (p, v) :: x :: l
def delT (c : K → K → Int) (p : K) : List (K × V) → List (K × V)
  | [] => []
  | x :: l => if c x.1 p < 0 then x :: delT c p l else if c x.1 p = 0 then l else x :: l

theorem idxT_le (p : K) : ∀ l : List (K × V), idxT c p l ≤ l.length
  | [] => Nat.le_refl _
  | x :: l => by
    have := idxT_le p l
    unfold idxT
    split <;> simp <;> omega
theorem putT_form (p : K) (v : V) : ∀ l : List (K × V), putT c p v l = l.take (idxT c p l) ++ (p, v) :: l.drop (if isT c p l then idxT c p l + 1 else idxT c p l)
  | [] => rfl
  | x :: l => by
    unfold putT idxT isT
    by_cases h1 : c x.1 p < 0
    · rw [if_pos h1, if_pos h1, if_pos h1, putT_form p v l]
      cases isT c p l <;> simp
    · rw [if_neg h1, if_neg h1, if_neg h1]
      by_cases h2 : c x.1 p = 0
      · rw [if_pos h2, decide_eq_true h2]; rfl
      · rw [if_neg h2, decide_eq_false h2]; rfl
theorem delT_form (p : K) : ∀ l : List (K × V), delT c p l = if isT c p l then l.take (idxT c p l) ++ l.drop (idxT c p l + 1) else l
  | [] => rfl
  | x :: l => by
    unfold delT idxT isT
    by_cases h1 : c x.1 p < 0
    · rw [if_pos h1, if_pos h1, if_pos h1, delT_form p l]
      cases isT c p l <;> simp
    · rw [if_neg h1, if_neg h1, if_neg h1]
      by_cases h2 : c x.1 p = 0
      · rw [if_pos h2, decide_eq_true h2]; rfl
      · rw [if_neg h2, decide_eq_false h2]; rfl
theorem getT_form (p : K) : ∀ l : List (K × V), getT c p l = if isT c p l then (l[idxT c p l]?).map (·.2) else none
  | [] => rfl
  | x :: l => by
    unfold getT idxT isT
    by_cases h1 : c x.1 p < 0
    · rw [if_pos h1, if_pos h1, if_pos h1, getT_form p l]
      cases isT c p l <;> simp
    · rw [if_neg h1, if_neg h1, if_neg h1]
      by_cases h2 : c x.1 p = 0
      · rw [if_pos h2, decide_eq_true h2]; rfl
      · rw [if_neg h2, decide_eq_false h2]; rfl
theorem isT_get (p : K) : ∀ l : List (K × V), isT c p l = (getT c p l).isSome
  | [] => rfl
  | x :: l => by
    unfold isT getT
    by_cases h1 : c x.1 p < 0
    · rw [if_pos h1, if_pos h1, isT_get p l]
    · rw [if_neg h1, if_neg h1]
      by_cases h2 : c x.1 p = 0
      · rw [if_pos h2, decide_eq_true h2]; rfl
      · rw [if_neg h2, decide_eq_false h2]; rfl
/-- Is it there, by what stands at its place. -/
theorem isT_form (o : Ord3 c ok) (p : K) (hp : ok p) : ∀ l : List (K × V), (∀ x ∈ l, ok x.1) → (isT c p l = true ↔ ∃ v, l[idxT c p l]? = some (p, v))
  | [], _ => by simp [isT]
  | x :: l, hok => by
    unfold isT idxT
    by_cases h1 : c x.1 p < 0
    · rw [if_pos h1, if_pos h1, isT_form o p hp l (fun y hy => hok y (by simp [hy]))]
      simp
    · rw [if_neg h1, if_neg h1]
      constructor
      · intro h
        have := o.zero _ _ (hok x (by simp)) hp (of_decide_eq_true h)
        exact ⟨x.2, by rw [← this]; rfl⟩
      · rintro ⟨v, hv⟩
        have : x = (p, v) := by simpa using hv
        subst this
        exact decide_eq_true (o.refl p)

/-- In order. -/
def InOrder (c : K → K → Int) (ok : K → Prop) (l : List (K × V)) : Prop := l.Pairwise (fun x y => c x.1 y.1 < 0) ∧ ∀ x ∈ l, ok x.1
theorem InOrder.nil : InOrder c ok ([] : List (K × V)) := ⟨List.Pairwise.nil, fun x h => by cases h⟩
theorem InOrder.tail {x : K × V} {l : List (K × V)} (h : InOrder c ok (x :: l)) : InOrder c ok l := ⟨(List.pairwise_cons.1 h.1).2, fun y hy => h.2 y (by simp [hy])⟩
theorem InOrder.head {x : K × V} {l : List (K × V)} (h : InOrder c ok (x :: l)) : ok x.1 ∧ ∀ y ∈ l, c x.1 y.1 < 0 := ⟨h.2 x (by simp), (List.pairwise_cons.1 h.1).1⟩
theorem InOrder.cons {x : K × V} {l : List (K × V)} (h0 : ok x.1) (h1 : ∀ y ∈ l, c x.1 y.1 < 0) (h : InOrder c ok l) : InOrder c ok (x :: l) :=
  ⟨List.pairwise_cons.2 ⟨h1, h.1⟩, fun y hy => by rcases List.mem_cons.1 hy with rfl | hy; exact h0; exact h.2 y hy⟩
theorem put_mem (p : K) (v : V) : ∀ (l : List (K × V)) (y : K × V), y ∈ putT c p v l → y = (p, v) ∨ y ∈ l
  | [], y, h => by simpa [putT] using h
  | x :: l, y, h => by
    unfold putT at h
    split at h
    · rcases List.mem_cons.1 h with rfl | h
      · exact .inr (by simp)
      · rcases put_mem p v l y h with h | h
        · exact .inl h
        · exact .inr (by simp [h])
    · split at h
      · rcases List.mem_cons.1 h with rfl | h
        · exact .inl rfl
        · exact .inr (by simp [h])
      · rcases List.mem_cons.1 h with rfl | h
        · exact .inl rfl
        · exact .inr h
theorem put_order (o : Ord3 c ok) (p : K) (hp : ok p) (v : V) : ∀ (l : List (K × V)), InOrder c ok l → InOrder c ok (putT c p v l)
  | [], _ => InOrder.cons hp (fun y h => by cases h) InOrder.nil
  | x :: l, h => by
    obtain ⟨hx, hlt⟩ := h.head
    unfold putT
    by_cases h1 : c x.1 p < 0
    · rw [if_pos h1]
      refine InOrder.cons hx (fun y hy => ?_) (put_order o p hp v l h.tail)
      rcases put_mem p v l y hy with rfl | hy
      · exact h1
      · exact hlt y hy
    · rw [if_neg h1]
      by_cases h2 : c x.1 p = 0
      · rw [if_pos h2]
        have e := o.zero _ _ hx hp h2
        refine InOrder.cons hp (fun y hy => ?_) h.tail
        rw [← e]
        exact hlt y hy
      · rw [if_neg h2]
        have hpx : c p x.1 < 0 := by have := o.anti x.1 p; omega
        refine InOrder.cons hp (fun y hy => ?_) h
        rcases List.mem_cons.1 hy with rfl | hy
        · exact hpx
        · exact o.trans _ _ _ hp hx (h.tail.2 y hy) hpx (hlt y hy)
theorem del_mem (p : K) : ∀ (l : List (K × V)) (y : K × V), y ∈ delT c p l → y ∈ l
  | [], y, h => by simp [delT] at h
  | x :: l, y, h => by
    unfold delT at h
    split at h
    · rcases List.mem_cons.1 h with rfl | h
      · simp
      · exact List.mem_cons_of_mem _ (del_mem p l y h)
    · split at h
      · exact List.mem_cons_of_mem _ h
      · exact h
theorem del_order (p : K) : ∀ (l : List (K × V)), InOrder c ok l → InOrder c ok (delT c p l)
  | [], h => h
  | x :: l, h => by
    obtain ⟨hx, hlt⟩ := h.head
    unfold delT
    split
    · exact InOrder.cons hx (fun y hy => hlt y (del_mem p l y hy)) (del_order p l h.tail)
    · split
      · exact h.tail
      · exact h
/-- What stands behind is not p. -/
theorem get_none (o : Ord3 c ok) (p : K) (_hp : ok p) : ∀ (l : List (K × V)), InOrder c ok l → (∀ y ∈ l, c p y.1 < 0) → getT c p l = none
  | [], _, _ => rfl
  | x :: l, h, hlt => by
    have h0 := hlt x (by simp)
    have := o.anti p x.1
    unfold getT
    rw [if_neg (by omega), if_neg (by omega)]
theorem getT_putT (o : Ord3 c ok) (p q : K) (hp : ok p) (hq : ok q) (v : V) : ∀ (l : List (K × V)), InOrder c ok l → getT c q (putT c p v l) = if c p q = 0 then some v else getT c q l
  | [], _ => by
    show (if c p q < 0 then none else if c p q = 0 then some v else none) = if c p q = 0 then some v else none
    by_cases h : c p q < 0
    · rw [if_pos h, if_neg (by omega)]
    · rw [if_neg h]
  | x :: l, h => by
    obtain ⟨hx, hlt⟩ := h.head
    have ih := getT_putT o p q hp hq v l h.tail
    unfold putT
    by_cases h1 : c x.1 p < 0
    · rw [if_pos h1]
      show (if c x.1 q < 0 then getT c q (putT c p v l) else if c x.1 q = 0 then some x.2 else none) = _
      rw [ih]
      by_cases h2 : c p q = 0
      · have e := o.zero _ _ hp hq h2
        subst e
        rw [if_pos h2, if_pos h2, if_pos h1]
      · rw [if_neg h2, if_neg h2]; rfl
    · rw [if_neg h1]
      by_cases h2 : c x.1 p = 0
      · have e := o.zero _ _ hx hp h2
        rw [if_pos h2]
        show (if c p q < 0 then getT c q l else if c p q = 0 then some v else none) = if c p q = 0 then some v else (if c x.1 q < 0 then getT c q l else if c x.1 q = 0 then some x.2 else none)
        rw [e]
        by_cases h3 : c p q < 0
        · rw [if_pos h3, if_neg (by omega), if_pos h3]
        · rw [if_neg h3, if_neg h3]
          by_cases h4 : c p q = 0
          · rw [if_pos h4, if_pos h4]
          · rw [if_neg h4, if_neg h4, if_neg h4]
      · rw [if_neg h2]
        have hpx : c p x.1 < 0 := by have := o.anti x.1 p; omega
        show (if c p q < 0 then getT c q (x :: l) else if c p q = 0 then some v else none) = _
        by_cases h3 : c p q < 0
        · rw [if_pos h3, if_neg (by omega)]
        · rw [if_neg h3]
          by_cases h4 : c p q = 0
          · rw [if_pos h4, if_pos h4]
          · rw [if_neg h4, if_neg h4]
            have hqp : c q p < 0 := by have := o.anti p q; omega
            have hqx := o.trans _ _ _ hq hp hx hqp hpx
            exact (get_none o q hq (x :: l) h (fun y hy => by
              rcases List.mem_cons.1 hy with rfl | hy
              · exact hqx
              · exact o.trans _ _ _ hq hx (h.tail.2 y hy) hqx (hlt y hy))).symm
theorem get_del (o : Ord3 c ok) (p q : K) (hp : ok p) (hq : ok q) : ∀ (l : List (K × V)), InOrder c ok l → getT c q (delT c p l) = if c p q = 0 then none else getT c q l
  | [], _ => by unfold delT getT; split <;> rfl
  | x :: l, h => by
    obtain ⟨hx, hlt⟩ := h.head
    have ih := get_del o p q hp hq l h.tail
    unfold delT
    by_cases h1 : c x.1 p < 0
    · rw [if_pos h1]
      show (if c x.1 q < 0 then getT c q (delT c p l) else if c x.1 q = 0 then some x.2 else none) = _
      rw [ih]
      by_cases h2 : c p q = 0
      · have e := o.zero _ _ hp hq h2
        subst e
        rw [if_pos h2, if_pos h2, if_pos h1]
      · rw [if_neg h2, if_neg h2]; rfl
    · rw [if_neg h1]
      by_cases h2 : c x.1 p = 0
      · have e := o.zero _ _ hx hp h2
        rw [if_pos h2]
        by_cases h4 : c p q = 0
        · rw [if_pos h4]
          have e2 := o.zero _ _ hp hq h4
          refine get_none o q hq l h.tail (fun y hy => ?_)
          rw [← e2, ← e]
          exact hlt y hy
        · rw [if_neg h4]
          show getT c q l = if c x.1 q < 0 then getT c q l else if c x.1 q = 0 then some x.2 else none
          rw [e]
          by_cases h3 : c p q < 0
          · rw [if_pos h3]
          · rw [if_neg h3, if_neg h4]
            have hqp : c q p < 0 := by have := o.anti p q; omega
            refine get_none o q hq l h.tail (fun y hy => ?_)
            refine o.trans _ _ _ hq hp (h.tail.2 y hy) hqp ?_
            rw [← e]
            exact hlt y hy
      · rw [if_neg h2]
        have hpx : c p x.1 < 0 := by have := o.anti x.1 p; omega
        by_cases h4 : c p q = 0
        · rw [if_pos h4]
          have e2 := o.zero _ _ hp hq h4
          subst e2
          exact get_none o p hp (x :: l) h (fun y hy => by
            rcases List.mem_cons.1 hy with rfl | hy
            · exact hpx
            · exact o.trans _ _ _ hp hx (h.tail.2 y hy) hpx (hlt y hy))
        · rw [if_neg h4]
/-- A table in order is told by what it gives. -/
theorem tab_ext (o : Ord3 c ok) : ∀ (l m : List (K × V)), InOrder c ok l → InOrder c ok m → (∀ p, ok p → getT c p l = getT c p m) → l = m
  | [], [], _, _, _ => rfl
  | [], y :: m, _, hm, h => by
    have := h y.1 hm.head.1
    unfold getT at this
    rw [o.refl, if_neg (by omega), if_pos rfl] at this
    cases this
  | x :: l, [], hl, _, h => by
    have := h x.1 hl.head.1
    unfold getT at this
    rw [o.refl, if_neg (by omega), if_pos rfl] at this
    cases this
  | x :: l, y :: m, hl, hm, h => by
    obtain ⟨hx, hlx⟩ := hl.head
    obtain ⟨hy, hmy⟩ := hm.head
    have gx : getT c x.1 (x :: l) = some x.2 := by unfold getT; rw [o.refl, if_neg (by omega), if_pos rfl]
    have gy : getT c y.1 (y :: m) = some y.2 := by unfold getT; rw [o.refl, if_neg (by omega), if_pos rfl]
    have hxy : c x.1 y.1 = 0 := by
      rcases Int.lt_trichotomy (c x.1 y.1) 0 with h1 | h1 | h1
      · have := h x.1 hx
        rw [gx, get_none o x.1 hx (y :: m) hm (fun z hz => by
          rcases List.mem_cons.1 hz with rfl | hz
          · exact h1
          · exact o.trans _ _ _ hx hy (hm.tail.2 z hz) h1 (hmy z hz))] at this
        cases this
      · exact h1
      · have h2 : c y.1 x.1 < 0 := by have := o.anti x.1 y.1; omega
        have := h y.1 hy
        rw [gy, get_none o y.1 hy (x :: l) hl (fun z hz => by
          rcases List.mem_cons.1 hz with rfl | hz
          · exact h2
          · exact o.trans _ _ _ hy hx (hl.tail.2 z hz) h2 (hlx z hz))] at this
        cases this
    have e := o.zero _ _ hx hy hxy
    have e2 : x.2 = y.2 := by
      have := h x.1 hx
      rw [gx, e, gy] at this
      exact Option.some.inj this
    have exy : x = y := Prod.ext e e2
    subst exy
    congr 1
    refine tab_ext o l m hl.tail hm.tail (fun p hp => ?_)
    by_cases h1 : c x.1 p < 0
    · have := h p hp
      unfold getT at this
      rw [if_pos h1, if_pos h1] at this
      exact this
    · have hle : ∀ z, z ∈ l → c p z.1 < 0 := fun z hz => by
        by_cases h2 : c x.1 p = 0
        · rw [← o.zero _ _ hx hp h2]; exact hlx z hz
        · have : c p x.1 < 0 := by have := o.anti x.1 p; omega
          exact o.trans _ _ _ hp hx (hl.tail.2 z hz) this (hlx z hz)
      have hme : ∀ z, z ∈ m → c p z.1 < 0 := fun z hz => by
        by_cases h2 : c x.1 p = 0
        · rw [← o.zero _ _ hx hp h2]; exact hmy z hz
        · have : c p x.1 < 0 := by have := o.anti x.1 p; omega
          exact o.trans _ _ _ hp hx (hm.tail.2 z hz) this (hmy z hz)
      rw [get_none o p hp l hl.tail hle, get_none o p hp m hm.tail hme]
/-- Put and deleted again. -/
theorem put_del (o : Ord3 c ok) (p : K) (hp : ok p) (v : V) (l : List (K × V)) (h : InOrder c ok l) (hn : getT c p l = none) : delT c p (putT c p v l) = l := by
  refine tab_ext o _ _ (del_order p _ (put_order o p hp v l h)) h (fun q hq => ?_)
  rw [get_del o p q hp hq _ (put_order o p hp v l h), getT_putT o p q hp hq v l h]
  by_cases h1 : c p q = 0
  · have e := o.zero _ _ hp hq h1
    subst e
    rw [if_pos h1, hn]
  · rw [if_neg h1, if_neg h1]
theorem put_length (p : K) (v : V) : ∀ l : List (K × V), (putT c p v l).length = l.length + (if isT c p l then 0 else 1)
  | [] => rfl
  | x :: l => by
    have ih := put_length p v l
    unfold putT isT
    by_cases h1 : c x.1 p < 0
    · rw [if_pos h1, if_pos h1, List.length_cons, ih, List.length_cons]; omega
    · rw [if_neg h1, if_neg h1]
      by_cases h2 : c x.1 p = 0
      · rw [if_pos h2, decide_eq_true h2]; simp
      · rw [if_neg h2, decide_eq_false h2]; simp
end
end Go.Proofs.Ytgimcapcnidjjaa
namespace Go.Proofs.Ytgimcapcnidjjaa
open Go

theorem cmpB_form : ∀ (l m : List UInt8), cmpB l m = -1 ∨ cmpB l m = 0 ∨ cmpB l m = 1
  | [], [] => .inr (.inl rfl)
  | [], _ :: _ => .inr (.inl rfl)
  | _ :: _, [] => .inr (.inl rfl)
  | x :: l, y :: m => by
    unfold cmpB
    split
    · exact .inl rfl
    · split
      · exact .inr (.inr rfl)
      · exact cmpB_form l m
theorem cmpB_trans : ∀ (l m n : List UInt8), l.length = m.length → m.length = n.length → cmpB l m < 0 → cmpB m n < 0 → cmpB l n < 0
  | [], [], _, _, _, h, _ => by simp [cmpB] at h
  | [], _ :: _, _, h, _, _, _ => by simp at h
  | _ :: _, [], _, h, _, _, _ => by simp at h
  | _ :: _, _ :: _, [], _, h, _, _ => by simp at h
  | x :: l, y :: m, z :: n, h1, h2, h3, h4 => by
    unfold cmpB at h3 h4 ⊢
    have ih := cmpB_trans l m n (by simpa using h1) (by simpa using h2)
    by_cases a1 : x.toNat < y.toNat
    · by_cases a2 : y.toNat < z.toNat
      · rw [if_pos (by omega)]; decide
      · rw [if_neg a2] at h4
        by_cases a3 : z.toNat < y.toNat
        · rw [if_pos a3] at h4; omega
        · rw [if_pos (by omega)]; decide
    · rw [if_neg a1] at h3
      by_cases a3 : y.toNat < x.toNat
      · rw [if_pos a3] at h3; omega
      · rw [if_neg a3] at h3
        by_cases a2 : y.toNat < z.toNat
        · rw [if_pos (by omega)]; decide
        · rw [if_neg a2] at h4
          by_cases a4 : z.toNat < y.toNat
          · rw [if_pos a4] at h4; omega
          · rw [if_neg a4] at h4
            rw [if_neg (by omega), if_neg (by omega)]
            exact ih h3 h4
/-- A prefix of a table: of its kind, and it may be. -/
def okP (six : Bool) (p : Pfx) : Prop := p.six = six ∧ p.addr.length = 16 ∧ chkP p = true
/-- An address of sixteen bytes. -/
def okA (p : Pfx) : Prop := p.addr.length = 16
theorem cmpP_lt {p q : Pfx} (hs : p.six = q.six) : cmpP p q < 0 ↔ cmpB p.addr q.addr < 0 ∨ (cmpB p.addr q.addr = 0 ∧ p.len < q.len) := by
  rw [cmpP_six hs]
  have := cmpB_form p.addr q.addr
  by_cases h : cmpB p.addr q.addr = 0
  · rw [if_neg (by simp [h])]
    by_cases h1 : p.len < q.len
    · rw [if_pos h1]; simp [h, h1]
    · rw [if_neg h1]; simp only [h, h1]; split <;> simp
  · rw [if_pos h]; omega
theorem cmpP_trans (p q r : Pfx) (lp : okA p) (lq : okA q) (lr : okA r) (h1 : cmpP p q < 0) (h2 : cmpP q r < 0) : cmpP p r < 0 := by
  unfold okA at lp lq lr
  by_cases s1 : p.six = q.six
  · by_cases s2 : q.six = r.six
    · rw [cmpP_lt s1] at h1
      rw [cmpP_lt s2] at h2
      rw [cmpP_lt (s1.trans s2)]
      rcases h1 with h1 | ⟨h1, h1'⟩
      · rcases h2 with h2 | ⟨h2, h2'⟩
        · exact .inl (cmpB_trans _ _ _ (lp.trans lq.symm) (lq.trans lr.symm) h1 h2)
        · rw [← cmpB_zero _ _ (lq.trans lr.symm) h2]; exact .inl h1
      · rw [cmpB_zero _ _ (lp.trans lq.symm) h1]
        rcases h2 with h2 | ⟨h2, h2'⟩
        · exact .inl h2
        · exact .inr ⟨h2, by omega⟩
    · rw [cmpP_kind s2] at h2
      rw [cmpP_kind (fun e => s2 (s1.symm.trans e))]
      exact h2
  · rw [cmpP_kind s1] at h1
    cases hq : q.six
    · rw [hq] at h1; simp at h1
    · by_cases s2 : q.six = r.six
      · rw [cmpP_kind (fun e => s1 (e.trans s2.symm)), ← s2, hq]; decide
      · rw [cmpP_kind s2] at h2
        rw [hq] at s2
        cases hr : r.six
        · rw [hr] at h2; simp at h2
        · rw [hr] at s2; exact absurd rfl s2
/-- The order of prefixes. -/
theorem cmpP_ord : Ord3 cmpP okA := ⟨fun p q => cmpP_anti p q, fun _ _ lp lq h => cmpP_zero (lp.trans lq.symm) h, cmpP_trans⟩
theorem cmpP_ord6 (six : Bool) : Ord3 cmpP (okP six) :=
  ⟨fun p q => cmpP_anti p q, fun _ _ lp lq h => cmpP_zero (lp.2.1.trans lq.2.1.symm) h, fun p q r lp lq lr => cmpP_trans p q r lp.2.1 lq.2.1 lr.2.1⟩

/-! Look: of all that have the address the one with the greatest Len. -/
def lookT (a : List UInt8) : List (Pfx × Int) → Option (Pfx × Int)
  | [] => none
  | x :: l => match lookT a l with
    | some y => if hasP x.1 a ∧ y.1.len < x.1.len then some x else some y
    | none => if hasP x.1 a then some x else none
theorem look_mem (a : List UInt8) : ∀ (l : List (Pfx × Int)) (x : Pfx × Int), lookT a l = some x → x ∈ l ∧ hasP x.1 a = true
  | [], x, h => by cases h
  | y :: l, x, h => by
    unfold lookT at h
    cases hl : lookT a l with
    | none =>
      rw [hl] at h
      by_cases hy : hasP y.1 a = true
      · simp only [if_pos hy] at h
        cases h
        exact ⟨by simp, hy⟩
      · simp only [if_neg hy] at h
        cases h
    | some z =>
      rw [hl] at h
      have ih := look_mem a l z hl
      by_cases hy : hasP y.1 a = true ∧ z.1.len < y.1.len
      · simp only [if_pos hy] at h
        cases h
        exact ⟨by simp, hy.1⟩
      · simp only [if_neg hy] at h
        cases h
        exact ⟨by simp [ih.1], ih.2⟩
theorem look_most (a : List UInt8) : ∀ (l : List (Pfx × Int)) (x y : Pfx × Int), lookT a l = some x → y ∈ l → hasP y.1 a = true → y.1.len ≤ x.1.len
  | [], x, _, h, _, _ => by cases h
  | z :: l, x, y, h, hy, ha => by
    unfold lookT at h
    cases hl : lookT a l with
    | none =>
      rw [hl] at h
      have hn : ∀ u, u ∈ l → hasP u.1 a = true → False := look_none a l hl
      rcases List.mem_cons.1 hy with rfl | hy
      · simp only [if_pos ha] at h
        cases h
        exact Int.le_refl _
      · exact (hn y hy ha).elim
    | some u =>
      rw [hl] at h
      by_cases hz : hasP z.1 a = true ∧ u.1.len < z.1.len
      · simp only [if_pos hz] at h
        cases h
        rcases List.mem_cons.1 hy with rfl | hy
        · exact Int.le_refl _
        · have := look_most a l u y hl hy ha; omega
      · simp only [if_neg hz] at h
        cases h
        rcases List.mem_cons.1 hy with rfl | hy
        · by_cases hlt : x.1.len < y.1.len
          · exact absurd ⟨ha, hlt⟩ hz
          · omega
        · exact look_most a l x y hl hy ha
where
  look_none (a : List UInt8) : ∀ (l : List (Pfx × Int)), lookT a l = none → ∀ u, u ∈ l → hasP u.1 a = true → False
  | [], _, u, hu, _ => by cases hu
  | z :: l, h, u, hu, ha => by
    unfold lookT at h
    cases hl : lookT a l with
    | none =>
      rw [hl] at h
      rcases List.mem_cons.1 hu with rfl | hu
      · simp only [if_pos ha] at h; cases h
      · exact look_none a l hl u hu ha
    | some y =>
      rw [hl] at h
      by_cases hz : hasP z.1 a = true ∧ y.1.len < z.1.len
      · simp only [if_pos hz] at h; cases h
      · simp only [if_neg hz] at h; cases h
/-- Two prefixes that may be, of one kind and one length, that have the same address, are one. -/
theorem has_one {p q : Pfx} {six : Bool} (hp : okP six p) (hq : okP six q) (hl : p.len = q.len) (a : List UInt8) (h1 : hasP p a = true) (h2 : hasP q a = true) : p = q := by
  rcases cov_or (hp.1.trans hq.1.symm) a h1 h2 with h | h
  · refine cov_same hp.2.2 hq.2.2 hp.2.1 hq.2.1 h ?_
    rw [cov_iff] at h ⊢
    exact ⟨h.1.symm, by omega, fun i hi hil => (h.2.2 i hi (by omega)).symm⟩
  · refine cov_same hp.2.2 hq.2.2 hp.2.1 hq.2.1 ?_ h
    rw [cov_iff] at h ⊢
    exact ⟨h.1.symm, by omega, fun i hi hil => (h.2.2 i hi (by omega)).symm⟩
end Go.Proofs.Ytgimcapcnidjjaa
namespace Go.Proofs.Ytgimcapcnidjjaa
open Go

section
variable {K V : Type} {c : K → K → Int}
theorem getT_app (p : K) : ∀ (A B : List (K × V)), (∀ x ∈ A, c x.1 p < 0) → getT c p (A ++ B) = getT c p B
  | [], B, _ => rfl
  | x :: A, B, h => by
    rw [List.cons_append, getT, if_pos (h x (by simp)), getT_app p A B (fun y hy => h y (by simp [hy]))]
theorem getT_end (p : K) : ∀ (B C : List (K × V)), (∀ x ∈ C, 0 < c x.1 p) → getT c p (B ++ C) = getT c p B
  | [], [], _ => rfl
  | [], x :: C, h => by
    have := h x (by simp)
    show (if c x.1 p < 0 then _ else if c x.1 p = 0 then _ else none) = none
    rw [if_neg (by omega), if_neg (by omega)]
  | y :: B, C, h => by
    rw [List.cons_append, getT, getT, getT_end p B C h]
theorem putT_app (p : K) (v : V) : ∀ (A B : List (K × V)), (∀ x ∈ A, c x.1 p < 0) → putT c p v (A ++ B) = A ++ putT c p v B
  | [], B, _ => rfl
  | x :: A, B, h => by
    rw [List.cons_append, putT, if_pos (h x (by simp)), putT_app p v A B (fun y hy => h y (by simp [hy]))]
    rfl
theorem putT_end (p : K) (v : V) : ∀ (B C : List (K × V)), (∀ x ∈ C, 0 < c x.1 p) → putT c p v (B ++ C) = putT c p v B ++ C
  | [], [], _ => by simp
  | [], x :: C, h => by
    have := h x (by simp)
    show (if c x.1 p < 0 then _ else if c x.1 p = 0 then _ else (p, v) :: x :: C) = (p, v) :: x :: C
    rw [if_neg (by omega), if_neg (by omega)]
  | y :: B, C, h => by
    rw [List.cons_append, putT, putT, putT_end p v B C h]
    split
    · rfl
    · split <;> rfl
theorem delT_app (p : K) : ∀ (A B : List (K × V)), (∀ x ∈ A, c x.1 p < 0) → delT c p (A ++ B) = A ++ delT c p B
  | [], B, _ => rfl
  | x :: A, B, h => by
    rw [List.cons_append, delT, if_pos (h x (by simp)), delT_app p A B (fun y hy => h y (by simp [hy]))]
    rfl
theorem delT_end (p : K) : ∀ (B C : List (K × V)), (∀ x ∈ C, 0 < c x.1 p) → delT c p (B ++ C) = delT c p B ++ C
  | [], [], _ => by simp
  | [], x :: C, h => by
    have := h x (by simp)
    show (if c x.1 p < 0 then _ else if c x.1 p = 0 then _ else x :: C) = x :: C
    rw [if_neg (by omega), if_neg (by omega)]
  | y :: B, C, h => by
    rw [List.cons_append, delT, delT, delT_end p B C h]
    split
    · rfl
    · split <;> rfl
end

/-! The order, bit by bit. -/
theorem bit_lt (x y : UInt8) (j : Nat) (hj : j < 8) (h : ∀ i, i < j → x.toNat.testBit (7 - i) = y.toNat.testBit (7 - i)) (hx : x.toNat.testBit (7 - j) = false) (hy : y.toNat.testBit (7 - j) = true) : x.toNat < y.toNat := by
  obtain ⟨k, hk⟩ : ∃ k, 7 - j = k := ⟨_, rfl⟩
  rw [hk] at hx hy
  have e : x.toNat / 2 ^ (k + 1) = y.toNat / 2 ^ (k + 1) := by
    apply Nat.eq_of_testBit_eq
    intro i
    rw [Nat.testBit_div_two_pow, Nat.testBit_div_two_pow]
    by_cases h8 : i + (k + 1) < 8
    · have := h (7 - (i + (k + 1))) (by omega)
      rw [show 7 - (7 - (i + (k + 1))) = i + (k + 1) by omega] at this
      exact this
    · have h1 := UInt8.toNat_lt x
      have h2 := UInt8.toNat_lt y
      have h3 : 2 ^ 8 ≤ 2 ^ (i + (k + 1)) := Nat.pow_le_pow_right (by omega) (by omega)
      rw [Nat.testBit_lt_two_pow (by omega), Nat.testBit_lt_two_pow (by omega)]
  rw [Nat.testBit_eq_decide_div_mod_eq] at hx hy
  have hx2 := of_decide_eq_false hx
  have hy2 := of_decide_eq_true hy
  rw [Nat.pow_succ, ← Nat.div_div_eq_div_mul, ← Nat.div_div_eq_div_mul] at e
  rcases Nat.lt_or_ge x.toNat y.toNat with hlt | hge
  · exact hlt
  · have := Nat.div_le_div_right (c := 2 ^ k) hge
    omega
theorem bitL_low (x : UInt8) (l : List UInt8) (i : Nat) (hi : i < 8) : bitL (x :: l) i = x.toNat.testBit (7 - i) := by
  unfold bitL
  rw [show i / 8 = 0 by omega, show i % 8 = i by omega]
  rfl
theorem bitL_high (x : UInt8) (l : List UInt8) (i : Nat) : bitL (x :: l) (i + 8) = bitL l i := by
  unfold bitL
  rw [show (i + 8) / 8 = i / 8 + 1 by omega, show (i + 8) % 8 = i % 8 by omega]
  rfl
theorem cmpB_first : ∀ (l m : List UInt8) (n : Nat), l.length = m.length → n < 8 * l.length → (∀ i, i < n → bitL l i = bitL m i) → bitL l n = false → bitL m n = true → cmpB l m = -1
  | [], _, n, _, hn, _, _, _ => by simp at hn
  | _ :: _, [], _, h, _, _, _, _ => by simp at h
  | x :: l, y :: m, n, hl, hn, h, h0, h1 => by
    by_cases h8 : n < 8
    · have hlt := bit_lt x y n h8 (fun i hi => by
        have := h i hi
        rw [bitL_low x l i (by omega), bitL_low y m i (by omega)] at this
        exact this) (by rw [← bitL_low x l n h8]; exact h0) (by rw [← bitL_low y m n h8]; exact h1)
      unfold cmpB
      rw [if_pos hlt]
    · obtain ⟨k, rfl⟩ : ∃ k, n = k + 8 := ⟨n - 8, by omega⟩
      have hxy : x = y := byte_ext (fun j hj => by
        have := h (7 - j) (by omega)
        rw [bitL_low x l _ (by omega), bitL_low y m _ (by omega), show 7 - (7 - j) = j by omega] at this
        exact this)
      subst hxy
      unfold cmpB
      rw [if_neg (by omega), if_neg (by omega)]
      refine cmpB_first l m k (by simpa using hl) (by simp at hn; omega) (fun i hi => ?_) ?_ ?_
      · have := h (i + 8) (by omega)
        rw [bitL_high, bitL_high] at this
        exact this
      · rw [bitL_high] at h0; exact h0
      · rw [bitL_high] at h1; exact h1
theorem first_diff (l m : List UInt8) : ∀ N : Nat, (∀ i, i < N → bitL l i = bitL m i) ∨ ∃ n, n < N ∧ (∀ i, i < n → bitL l i = bitL m i) ∧ bitL l n ≠ bitL m n
  | 0 => .inl (fun i hi => by omega)
  | N + 1 => by
    rcases first_diff l m N with h | ⟨n, h1, h2, h3⟩
    · by_cases he : bitL l N = bitL m N
      · left
        intro i hi
        by_cases hn : i = N
        · subst hn; exact he
        · exact h i (by omega)
      · exact .inr ⟨N, by omega, h, he⟩
    · exact .inr ⟨n, by omega, h2, h3⟩
theorem addr_diff {l m : List UInt8} (hl : l.length = 16) (hm : m.length = 16) (hne : l ≠ m) : ∃ n, n < 128 ∧ (∀ i, i < n → bitL l i = bitL m i) ∧ bitL l n ≠ bitL m n := by
  rcases first_diff l m 128 with h | h
  · exact absurd (addr_ext hl hm h) hne
  · exact h
theorem eqP_of {p q : Pfx} (h : p.six = q.six ∧ p.addr = q.addr ∧ p.len = q.len) : p = q := by
  obtain ⟨a, b, d⟩ := p
  obtain ⟨e, f, g⟩ := q
  obtain ⟨rfl, rfl, rfl⟩ := h
  rfl
/-- What covers another one stands ahead of it. -/
theorem cov_lt {p q : Pfx} {six : Bool} (hp : okP six p) (hq : okP six q) (hc : covP p q = true) (hne : p ≠ q) : cmpP p q < 0 := by
  obtain ⟨_, c2, c3⟩ := (cov_iff p q).1 hc
  obtain ⟨_, p3⟩ := (chk_iff p).1 hp.2.2
  rw [cmpP_lt (hp.1.trans hq.1.symm)]
  by_cases ha : p.addr = q.addr
  · right
    rw [ha]
    refine ⟨cmpB_self _, ?_⟩
    rcases Int.lt_or_eq_of_le c2 with h | h
    · exact h
    · exfalso
      apply hne
      exact eqP_of ⟨hp.1.trans hq.1.symm, ha, h⟩
  · left
    obtain ⟨n, h1, h2, h3⟩ := addr_diff hp.2.1 hq.2.1 ha
    have hn : p.len ≤ (n : Int) := by
      rcases Int.lt_or_le (n : Int) p.len with h | h
      · exact absurd (c3 n h1 h) h3
      · exact h
    have h0 := p3 n h1 hn
    have h4 : bitL q.addr n = true := by
      rw [h0] at h3
      cases hb : bitL q.addr n
      · exact absurd hb.symm h3
      · rfl
    rw [cmpB_first p.addr q.addr n (hp.2.1.trans hq.2.1.symm) (by rw [hp.2.1]; omega) h2 h0 h4]
    omega
/-- Below a prefix what goes on with 0 stands ahead of what goes on with 1. -/
theorem side_lt {p q r : Pfx} {six : Bool} (hq : okP six q) (hr : okP six r) (cq : covP p q = true) (cr : covP p r = true) (n : Nat) (hn : p.len = (n : Int)) (hn2 : n < 128) (bq : bitL q.addr n = false) (br : bitL r.addr n = true) : cmpP q r < 0 := by
  have c1 := ((cov_iff p q).1 cq).2.2
  have c2 := ((cov_iff p r).1 cr).2.2
  rw [cmpP_lt (hq.1.trans hr.1.symm)]
  left
  rw [cmpB_first q.addr r.addr n (hq.2.1.trans hr.2.1.symm) (by rw [hq.2.1]; omega) (fun i hi => (c1 i (by omega) (by omega)).symm.trans (c2 i (by omega) (by omega))) bq br]
  omega
theorem cov_trans {p q r : Pfx} (h1 : covP p q = true) (h2 : covP q r = true) : covP p r = true := by
  obtain ⟨a1, a2, a3⟩ := (cov_iff p q).1 h1
  obtain ⟨b1, b2, b3⟩ := (cov_iff q r).1 h2
  exact (cov_iff p r).2 ⟨a1.trans b1, by omega, fun i hi hl => (a3 i hi hl).trans (b3 i hi (by omega))⟩
theorem cov_refl (p : Pfx) : covP p p = true := (cov_iff p p).2 ⟨rfl, Int.le_refl _, fun _ _ _ => rfl⟩
theorem cov_bit {p q r : Pfx} {n : Nat} (h : covP q r = true) (hn : p.len = (n : Int)) (hn2 : n < 128) (hl : p.len < q.len) : bitL r.addr n = bitL q.addr n := (((cov_iff q r).1 h).2.2 n hn2 (by omega)).symm
end Go.Proofs.Ytgimcapcnidjjaa
namespace Go.Proofs.Ytgimcapcnidjjaa
open Go

/-- A prefix's own row: itself, if it has a value. -/
def ownL (p : Pfx) : Option Int → List (Pfx × Int)
  | some x => [(p, x)]
  | none => []
def nodeL (p : Pfx) (v : Option Int) (L R : List (Pfx × Int)) : List (Pfx × Int) := ownL p v ++ (L ++ R)
/-- It lies below p, on the side of b. -/
structure SideP (six : Bool) (p : Pfx) (b : Bool) (q : Pfx) : Prop where
  ok : okP six q
  cov : covP p q = true
  lt : p.len < q.len
  bit : bitL q.addr p.len.toNat = b
structure Node9 (six : Bool) (p : Pfx) (L R : List (Pfx × Int)) : Prop where
  ok : okP six p
  ordL : InOrder cmpP (okP six) L
  ordR : InOrder cmpP (okP six) R
  left : ∀ x ∈ L, SideP six p false x.1
  right : ∀ x ∈ R, SideP six p true x.1
variable {six : Bool} {p q : Pfx} {v : Option Int} {L R : List (Pfx × Int)}
theorem okP.len0 (h : okP six p) : 0 ≤ p.len ∧ p.len ≤ 128 := by
  obtain ⟨⟨h0, h1⟩, _⟩ := (chk_iff p).1 h.2.2
  have := (clamp_le p.six 0).2.2
  omega
theorem SideP.ne {b : Bool} (h : SideP six p b q) : p ≠ q := fun e => by have := h.lt; rw [e] at this; omega
theorem SideP.ahead {b : Bool} (hp : okP six p) (h : SideP six p b q) : cmpP p q < 0 := cov_lt hp h.ok h.cov h.ne
theorem SideP.behind {b : Bool} (hp : okP six p) (h : SideP six p b q) : 0 < cmpP q p := by
  have := h.ahead hp
  rw [cmpP_anti p q]
  omega
theorem SideP.sides {r : Pfx} (hp : okP six p) (hq : SideP six p false q) (hr : SideP six p true r) : cmpP q r < 0 ∧ 0 < cmpP r q := by
  have h0 := hp.len0
  have h1 := hr.lt
  have h2 := hr.ok.len0
  have h := side_lt hq.ok hr.ok hq.cov hr.cov p.len.toNat (by omega) (by omega) hq.bit hr.bit
  exact ⟨h, by rw [cmpP_anti q r]; omega⟩
theorem own_mem {x : Pfx × Int} (h : x ∈ ownL p v) : x.1 = p := by
  cases v with
  | none => cases h
  | some y =>
    have : x = (p, y) := by simpa [ownL] using h
    rw [this]
theorem node_cov (h : Node9 six p L R) {x : Pfx × Int} (hx : x ∈ nodeL p v L R) : covP p x.1 = true := by
  rcases List.mem_append.1 hx with hx | hx
  · rw [own_mem hx]; exact cov_refl p
  · rcases List.mem_append.1 hx with hx | hx
    · exact (h.left x hx).cov
    · exact (h.right x hx).cov
theorem below_behind (h : Node9 six p L R) : ∀ x ∈ L ++ R, 0 < cmpP x.1 p := by
  intro x hx
  rcases List.mem_append.1 hx with hx | hx
  · exact (h.left x hx).behind h.ok
  · exact (h.right x hx).behind h.ok
theorem node_order (h : Node9 six p L R) : InOrder cmpP (okP six) (nodeL p v L R) := by
  have hLR : InOrder cmpP (okP six) (L ++ R) := by
    refine ⟨List.pairwise_append.2 ⟨h.ordL.1, h.ordR.1, fun x hx y hy => ((h.left x hx).sides h.ok (h.right y hy)).1⟩, fun x hx => ?_⟩
    rcases List.mem_append.1 hx with hx | hx
    · exact h.ordL.2 x hx
    · exact h.ordR.2 x hx
  cases v with
  | none => exact hLR
  | some y =>
    refine InOrder.cons h.ok (fun z hz => ?_) hLR
    have := below_behind h z hz
    rw [cmpP_anti p z.1] at this
    show cmpP p z.1 < 0
    omega
/-! Get. -/
theorem get_self (h : Node9 six p L R) : getT cmpP p (nodeL p v L R) = v := by
  unfold nodeL
  rw [getT_end p _ _ (below_behind h)]
  cases v with
  | none => rfl
  | some y =>
    show (if cmpP p p < 0 then _ else if cmpP p p = 0 then some y else none) = some y
    have h0 := cmpP_ord.refl p
    rw [if_neg (by omega), if_pos h0]
theorem own_ahead (h : Node9 six p L R) {b : Bool} (hq : SideP six p b q) : ∀ x ∈ ownL p v, cmpP x.1 q < 0 := by
  intro x hx
  rw [own_mem hx]
  exact hq.ahead h.ok
theorem get_left (h : Node9 six p L R) (hq : SideP six p false q) : getT cmpP q (nodeL p v L R) = getT cmpP q L := by
  unfold nodeL
  rw [getT_app q _ _ (own_ahead h hq), getT_end q _ _ (fun x hx => (hq.sides h.ok (h.right x hx)).2)]
theorem get_right (h : Node9 six p L R) (hq : SideP six p true q) : getT cmpP q (nodeL p v L R) = getT cmpP q R := by
  unfold nodeL
  rw [getT_app q _ _ (own_ahead h hq), getT_app q _ _ (fun x hx => ((h.left x hx).sides h.ok hq).1)]
theorem get_mem : ∀ (l : List (Pfx × Int)) (x : Int), getT cmpP q l = some x → ∃ y ∈ l, cmpP y.1 q = 0
  | [], x, h => by cases h
  | y :: l, x, h => by
    unfold getT at h
    split at h
    · obtain ⟨z, hz, h2⟩ := get_mem l x h
      exact ⟨z, by simp [hz], h2⟩
    · split at h
      · rename_i h0
        exact ⟨y, by simp, h0⟩
      · cases h
theorem get_out (h : Node9 six p L R) (hq : okP six q) (hc : covP p q = false) : getT cmpP q (nodeL p v L R) = none := by
  cases hg : getT cmpP q (nodeL p v L R) with
  | none => rfl
  | some x =>
    obtain ⟨y, hy, h0⟩ := get_mem _ x hg
    have ho := (node_order (v := v) h).2 y hy
    have e := cmpP_zero (ho.2.1.trans hq.2.1.symm) h0
    have := node_cov h hy
    rw [e, hc] at this
    cases this
/-! Put. -/
theorem put_own (x : Int) : putT cmpP p x (ownL p v) = [(p, x)] := by
  cases v with
  | none => rfl
  | some y =>
    show (if cmpP p p < 0 then _ else if cmpP p p = 0 then [(p, x)] else _) = _
    have h0 := cmpP_ord.refl p
    rw [if_neg (by omega), if_pos h0]
theorem put_self (h : Node9 six p L R) (x : Int) : putT cmpP p x (nodeL p v L R) = nodeL p (some x) L R := by
  unfold nodeL
  rw [putT_end p x _ _ (below_behind h), put_own]
  rfl
theorem put_left (h : Node9 six p L R) (hq : SideP six p false q) (x : Int) : putT cmpP q x (nodeL p v L R) = nodeL p v (putT cmpP q x L) R := by
  unfold nodeL
  rw [putT_app q x _ _ (own_ahead h hq), putT_end q x _ _ (fun y hy => (hq.sides h.ok (h.right y hy)).2)]
theorem put_right (h : Node9 six p L R) (hq : SideP six p true q) (x : Int) : putT cmpP q x (nodeL p v L R) = nodeL p v L (putT cmpP q x R) := by
  unfold nodeL
  rw [putT_app q x _ _ (own_ahead h hq), putT_app q x _ _ (fun y hy => ((h.left y hy).sides h.ok hq).1)]
/-- A prefix ahead of all, or behind all. -/
theorem put_front (M : List (Pfx × Int)) (hM : ∀ y ∈ M, 0 < cmpP y.1 q) (x : Int) : putT cmpP q x M = (q, x) :: M := by
  have := putT_end (c := cmpP) q x [] M hM
  simpa [putT] using this
theorem put_back (M : List (Pfx × Int)) (hM : ∀ y ∈ M, cmpP y.1 q < 0) (x : Int) : putT cmpP q x M = M ++ [(q, x)] := by
  have := putT_app (c := cmpP) q x M [] hM
  simpa [putT] using this
/-! Delete. -/
theorem del_self (h : Node9 six p L R) : delT cmpP p (nodeL p v L R) = nodeL p none L R := by
  unfold nodeL
  rw [delT_end p _ _ (below_behind h)]
  cases v with
  | none => rfl
  | some y =>
    show (if cmpP p p < 0 then _ else if cmpP p p = 0 then [] else _) ++ (L ++ R) = _
    have h0 := cmpP_ord.refl p
    rw [if_neg (by omega), if_pos h0]
    rfl
theorem del_left (h : Node9 six p L R) (hq : SideP six p false q) : delT cmpP q (nodeL p v L R) = nodeL p v (delT cmpP q L) R := by
  unfold nodeL
  rw [delT_app q _ _ (own_ahead h hq), delT_end q _ _ (fun y hy => (hq.sides h.ok (h.right y hy)).2)]
theorem del_right (h : Node9 six p L R) (hq : SideP six p true q) : delT cmpP q (nodeL p v L R) = nodeL p v L (delT cmpP q R) := by
  unfold nodeL
  rw [delT_app q _ _ (own_ahead h hq), delT_app q _ _ (fun y hy => ((h.left y hy).sides h.ok hq).1)]
/-! Look. -/
theorem look_none (a : List UInt8) : ∀ M : List (Pfx × Int), (∀ y ∈ M, hasP y.1 a = false) → lookT a M = none
  | [], _ => rfl
  | y :: M, h => by
    unfold lookT
    rw [look_none a M (fun z hz => h z (by simp [hz]))]
    simp only
    rw [if_neg (by rw [h y (by simp)]; simp)]
theorem look_end (a : List UInt8) : ∀ B C : List (Pfx × Int), (∀ y ∈ C, hasP y.1 a = false) → lookT a (B ++ C) = lookT a B
  | [], C, h => look_none a C h
  | y :: B, C, h => by
    rw [List.cons_append]
    unfold lookT
    rw [look_end a B C h]
theorem look_app (a : List UInt8) : ∀ B C : List (Pfx × Int), (∀ y ∈ B, hasP y.1 a = false) → lookT a (B ++ C) = lookT a C
  | [], C, _ => rfl
  | y :: B, C, h => by
    rw [List.cons_append]
    conv => lhs; unfold lookT
    rw [look_app a B C (fun z hz => h z (by simp [hz])), h y (by simp)]
    cases lookT a C with
    | none => simp
    | some z => simp
theorem SideP.apart {a : List UInt8} {b : Bool} (hp : okP six p) (h : SideP six p b q) (ha : bitL a p.len.toNat = !b) : hasP q a = false := by
  cases hh : hasP q a
  · rfl
  · have h0 := hp.len0
    have h1 := h.lt
    have h2 := h.ok.len0
    have := (has_iff q a).1 hh p.len.toNat (by omega) (by omega)
    rw [h.bit, ha] at this
    cases b <;> cases this
theorem look_own (a : List UInt8) (hp : hasP p a = true) (M : List (Pfx × Int)) (hM : ∀ y ∈ M, p.len < y.1.len) :
    lookT a (ownL p v ++ M) = match lookT a M with | some y => some y | none => v.map (fun x => (p, x)) := by
  cases v with
  | none =>
    show lookT a M = _
    cases lookT a M <;> rfl
  | some x =>
    show (match lookT a M with | some y => if hasP p a = true ∧ y.1.len < p.len then some (p, x) else some y | none => if hasP p a = true then some (p, x) else none) = _
    cases hl : lookT a M with
    | none =>
      simp only
      rw [if_pos hp]
      rfl
    | some y =>
      simp only
      have := hM y (look_mem a M y hl).1
      rw [if_neg (by omega)]
theorem below_longer (h : Node9 six p L R) : ∀ x ∈ L ++ R, p.len < x.1.len := by
  intro x hx
  rcases List.mem_append.1 hx with hx | hx
  · exact (h.left x hx).lt
  · exact (h.right x hx).lt
theorem look_left (h : Node9 six p L R) (a : List UInt8) (hp : hasP p a = true) (hb : bitL a p.len.toNat = false) :
    lookT a (nodeL p v L R) = match lookT a L with | some y => some y | none => v.map (fun x => (p, x)) := by
  unfold nodeL
  rw [look_own a hp _ (below_longer h), look_end a _ _ (fun y hy => (h.right y hy).apart h.ok hb)]
theorem look_right (h : Node9 six p L R) (a : List UInt8) (hp : hasP p a = true) (hb : bitL a p.len.toNat = true) :
    lookT a (nodeL p v L R) = match lookT a R with | some y => some y | none => v.map (fun x => (p, x)) := by
  unfold nodeL
  rw [look_own a hp _ (below_longer h), look_app a _ _ (fun y hy => (h.left y hy).apart h.ok hb)]
theorem look_out (h : Node9 six p L R) (a : List UInt8) (hp : hasP p a = false) : lookT a (nodeL p v L R) = none := by
  refine look_none a _ fun y hy => ?_
  cases hh : hasP y.1 a
  · rfl
  · have := cov_has (node_cov h hy) hh
    rw [hp] at this
    cases this
end Go.Proofs.Ytgimcapcnidjjaa
