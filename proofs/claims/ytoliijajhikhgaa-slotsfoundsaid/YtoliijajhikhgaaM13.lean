/- Stage 13, pure: a table of labels with open addresses: its slots, the way from where a label is looked for first, what a freed place does; the labels that are there, by rising labels. -/
namespace Go.Proofs.Ytoliijajhikhgaa

structure Slt where
  l : Int
  v : Int
  h : Bool
def emp : Slt := ⟨0, 0, false⟩
/-! Places that go round. -/
def dst (N a b : Nat) : Nat := if a ≤ b then b - a else b + N - a
def wrp (N x : Nat) : Nat := if x < N then x else x - N
theorem dst_spec (N a b : Nat) : (a ≤ b ∧ dst N a b = b - a) ∨ (b < a ∧ dst N a b = b + N - a) := by unfold dst; split <;> omega
theorem wrp_spec (N x : Nat) : (x < N ∧ wrp N x = x) ∨ (N ≤ x ∧ wrp N x = x - N) := by unfold wrp; split <;> omega
theorem dst_lt {N a b : Nat} (ha : a < N) (hb : b < N) : dst N a b < N := by unfold dst; split <;> omega
theorem wrp_lt {N x : Nat} (hx : x < N + N) : wrp N x < N := by unfold wrp; split <;> omega
theorem dst_wrp {N a d : Nat} (ha : a < N) (hd : d < N) : dst N a (wrp N (a + d)) = d := by unfold dst wrp; split <;> split <;> omega
theorem wrp_dst {N a b : Nat} (ha : a < N) (hb : b < N) : wrp N (a + dst N a b) = b := by unfold dst wrp; split <;> split <;> omega
theorem dst_self (N a : Nat) : dst N a a = 0 := by unfold dst; rw [if_pos (Nat.le_refl _)]; omega
theorem dst_inj {N a b c : Nat} (ha : a < N) (hb : b < N) (hc : c < N) (h : dst N a b = dst N a c) : b = c := by
  rw [← wrp_dst ha hb, h, wrp_dst ha hc]
def heldAt (sl : List Slt) (p : Nat) : Bool := match sl[p]? with | some s => s.h | none => false
theorem heldAt_of {sl : List Slt} {p : Nat} {s : Slt} (h : sl[p]? = some s) : heldAt sl p = s.h := by unfold heldAt; rw [h]
theorem heldAt_lt {sl : List Slt} {p : Nat} (h : heldAt sl p = true) : p < sl.length := by
  unfold heldAt at h
  cases hp : sl[p]? with
  | none => rw [hp] at h; cases h
  | some s => exact (List.getElem?_eq_some_iff.1 hp).1
theorem heldAt_get {sl : List Slt} {p : Nat} (h : heldAt sl p = true) : ∃ s, sl[p]? = some s ∧ s.h = true := by
  unfold heldAt at h
  cases hp : sl[p]? with
  | none => rw [hp] at h; cases h
  | some s => rw [hp] at h; exact ⟨s, rfl, h⟩
theorem set_at {sl : List Slt} {p q : Nat} {x s : Slt} (h : (sl.set p x)[q]? = some s) : (q = p ∧ s = x) ∨ (q ≠ p ∧ sl[q]? = some s) := by
  rw [List.getElem?_set] at h
  split at h
  · split at h
    · cases h; exact .inl ⟨by omega, rfl⟩
    · cases h
  · exact .inr ⟨by omega, h⟩
theorem held_set {sl : List Slt} {p q : Nat} {x : Slt} (hp : p < sl.length) : heldAt (sl.set p x) q = if q = p then x.h else heldAt sl q := by
  unfold heldAt
  rw [List.getElem?_set]
  by_cases h : q = p
  · subst h; simp [hp]
  · rw [if_neg (by omega), if_neg h]
/-- Each slot that is held stands behind held ones, from its home on; no label stands twice. -/
structure Opn (hm : Int → Nat) (sl : List Slt) : Prop where
  way : ∀ (p : Nat) (s : Slt), sl[p]? = some s → s.h = true → ∀ r, r < sl.length → dst sl.length (hm s.l) r < dst sl.length (hm s.l) p → heldAt sl r = true
  one : ∀ (p q : Nat) (s u : Slt), sl[p]? = some s → sl[q]? = some u → s.h = true → u.h = true → s.l = u.l → p = q
theorem Opn.new (hm : Int → Nat) (N : Nat) : Opn hm (List.replicate N emp) := by
  have h0 : ∀ (p : Nat) (s : Slt), (List.replicate N emp)[p]? = some s → s.h = true → False := fun p s h h1 => by
    rw [List.getElem?_replicate] at h
    split at h
    · cases h; cases h1
    · cases h
  exact ⟨fun p s h h1 => (h0 p s h h1).elim, fun p q s u h _ h1 => (h0 p s h h1).elim⟩
/-- Behind held slots of other labels a free one: the label is nowhere. -/
theorem Opn.miss {hm : Int → Nat} {sl : List Slt} (o : Opn hm sl) (hN : ∀ a, hm a < sl.length) {a : Int} {d : Nat} (hd : d < sl.length)
    (hpre : ∀ (r : Nat) (s : Slt), dst sl.length (hm a) r < d → sl[r]? = some s → s.h = true ∧ s.l ≠ a) (hfree : heldAt sl (wrp sl.length (hm a + d)) = false) : ∀ (q : Nat) (s : Slt), sl[q]? = some s → s.h = true → s.l ≠ a := by
  intro q s hq hs e
  have hql := (List.getElem?_eq_some_iff.1 hq).1
  have hw := wrp_lt (N := sl.length) (x := hm a + d) (by have := hN a; omega)
  rcases Nat.lt_trichotomy (dst sl.length (hm a) q) d with h | h | h
  · exact (hpre q s h hq).2 e
  · have h1 : wrp sl.length (hm a + d) = q := by rw [← h, wrp_dst (hN a) hql]
    rw [h1, heldAt_of hq, hs] at hfree
    cases hfree
  · have h1 := o.way q s hq hs (wrp sl.length (hm a + d)) hw (by rw [e, dst_wrp (hN a) hd]; exact h)
    rw [hfree] at h1
    cases h1
theorem Opn.put {hm : Int → Nat} {sl : List Slt} (o : Opn hm sl) {a v : Int} {p : Nat} (hp : p < sl.length) (hf : heldAt sl p = false)
    (hno : ∀ (q : Nat) (s : Slt), sl[q]? = some s → s.h = true → s.l ≠ a) (hway : ∀ r, r < sl.length → dst sl.length (hm a) r < dst sl.length (hm a) p → heldAt sl r = true) : Opn hm (sl.set p ⟨a, v, true⟩) := by
  refine ⟨fun q s hq hs r hr hd => ?_, fun q r s u hq hr hs hu e => ?_⟩
  · rw [List.length_set] at hr hd
    rw [held_set hp]
    split
    · rfl
    · rcases set_at hq with ⟨rfl, rfl⟩ | ⟨_, hq⟩
      · exact hway r hr hd
      · exact o.way q s hq hs r hr hd
  · rcases set_at hq with ⟨rfl, rfl⟩ | ⟨h1, hq2⟩ <;> rcases set_at hr with ⟨rfl, rfl⟩ | ⟨h2, hr2⟩
    · rfl
    · exact (hno r u hr2 hu e.symm).elim
    · exact (hno q s hq2 hs e).elim
    · exact o.one q r s u hq2 hr2 hs hu e
theorem Opn.turn {hm : Int → Nat} {sl : List Slt} (o : Opn hm sl) {a v w : Int} {p : Nat} (hp : sl[p]? = some ⟨a, w, true⟩) : Opn hm (sl.set p ⟨a, v, true⟩) := by
  have hpl := (List.getElem?_eq_some_iff.1 hp).1
  refine ⟨fun q s hq hs r hr hd => ?_, fun q r s u hq hr hs hu e => ?_⟩
  · rw [List.length_set] at hr hd
    rw [held_set hpl]
    split
    · rfl
    · rcases set_at hq with ⟨rfl, rfl⟩ | ⟨_, hq⟩
      · exact o.way q _ hp rfl r hr hd
      · exact o.way q s hq hs r hr hd
  · rcases set_at hq with ⟨rfl, rfl⟩ | ⟨h1, hq2⟩ <;> rcases set_at hr with ⟨rfl, rfl⟩ | ⟨h2, hr2⟩
    · rfl
    · exact o.one q r _ u hp hr2 rfl hu e
    · exact o.one q r s _ hq2 hp hs rfl e
    · exact o.one q r s u hq2 hr2 hs hu e
/-! A place that is freed: what stands behind it moves up. -/
structure Vac (hm : Int → Nat) (N h0 : Nat) (sl : List Slt) (i j : Nat) : Prop where
  len : sl.length = N
  low : h0 < N
  hi : i ≤ j
  free : heldAt sl (wrp N (h0 + i)) = false
  mid : ∀ o, i < o → o ≤ j → heldAt sl (wrp N (h0 + o)) = true
  stop : ∃ q, j < q ∧ q < N ∧ heldAt sl (wrp N (h0 + q)) = false
  way : ∀ (p : Nat) (s : Slt), sl[p]? = some s → s.h = true → ∀ r, r < N → dst N (hm s.l) r < dst N (hm s.l) p → heldAt sl r = true ∨ (r = wrp N (h0 + i) ∧ j < dst N h0 p)
  one : ∀ (p q : Nat) (s u : Slt), sl[p]? = some s → sl[q]? = some u → s.h = true → u.h = true → s.l = u.l → p = q
theorem Vac.start {hm : Int → Nat} {sl : List Slt} (o : Opn hm sl) {h0 : Nat} (hl : h0 < sl.length) (hq : ∃ q, q < sl.length ∧ q ≠ h0 ∧ heldAt sl q = false) : Vac hm sl.length h0 (sl.set h0 emp) 0 0 := by
  have hw0 : wrp sl.length (h0 + 0) = h0 := by unfold wrp; rw [if_pos (by omega)]; rfl
  refine ⟨List.length_set, hl, Nat.le_refl _, by rw [hw0, held_set hl, if_pos rfl]; rfl, fun o h1 h2 => by omega, ?_, fun p s hp hs r hr hd => ?_, fun p q s u hp hq hs hu e => ?_⟩
  · obtain ⟨q, h1, h2, h3⟩ := hq
    refine ⟨dst sl.length h0 q, ?_, dst_lt hl h1, ?_⟩
    · rcases Nat.eq_zero_or_pos (dst sl.length h0 q) with h | h
      · exact (h2 (dst_inj hl h1 hl (by rw [h, dst_self]))).elim
      · exact h
    · rw [wrp_dst hl h1, held_set hl, if_neg h2, h3]
  · rcases set_at hp with ⟨rfl, rfl⟩ | ⟨hne, hp⟩
    · cases hs
    · rw [held_set hl, hw0]
      by_cases e : r = h0
      · refine .inr ⟨e, ?_⟩
        rcases Nat.eq_zero_or_pos (dst sl.length h0 p) with h | h
        · exact (hne (dst_inj hl (List.getElem?_eq_some_iff.1 hp).1 hl (by rw [h, dst_self]))).elim
        · exact h
      · rw [if_neg e]
        exact .inl (o.way p s hp hs r hr hd)
  · rcases set_at hp with ⟨rfl, rfl⟩ | ⟨_, hp⟩
    · cases hs
    · rcases set_at hq with ⟨rfl, rfl⟩ | ⟨_, hq⟩
      · cases hu
      · exact o.one p q s u hp hq hs hu e
theorem Vac.done {hm : Int → Nat} {N h0 : Nat} {sl : List Slt} {i j : Nat} (h : Vac hm N h0 sl i j) (hN : ∀ a, hm a < N) (hf : heldAt sl (wrp N (h0 + (j + 1))) = false) : Opn hm sl := by
  obtain ⟨q, hq1, hq2, hq3⟩ := h.stop
  refine ⟨fun p s hp hs r hr hd => ?_, h.one⟩
  rw [h.len] at hr hd
  rcases h.way p s hp hs r hr hd with h1 | ⟨h1, h2⟩
  · exact h1
  · exfalso
    have hpl : p < N := h.len ▸ (List.getElem?_eq_some_iff.1 hp).1
    have hlow := h.low
    have hi := h.hi
    have hh := hN s.l
    have hne : dst N h0 p ≠ j + 1 := fun e => by
      have h3 : wrp N (h0 + (j + 1)) = p := by rw [← e, wrp_dst hlow hpl]
      rw [h3, heldAt_of hp, hs] at hf
      cases hf
    have hw : wrp N (h0 + (j + 1)) < N := wrp_lt (by omega)
    have h3 : dst N (hm s.l) (wrp N (h0 + (j + 1))) < dst N (hm s.l) p := by
      rw [h1] at hd
      have a1 := wrp_spec N (h0 + i)
      have a2 := wrp_spec N (h0 + (j + 1))
      have d1 := dst_spec N (hm s.l) (wrp N (h0 + i))
      have d2 := dst_spec N (hm s.l) p
      have d3 := dst_spec N h0 p
      have d4 := dst_spec N (hm s.l) (wrp N (h0 + (j + 1)))
      omega
    rcases h.way p s hp hs _ hw h3 with h4 | ⟨h4, _⟩
    · rw [hf] at h4; cases h4
    · have a1 := wrp_spec N (h0 + i)
      have a2 := wrp_spec N (h0 + (j + 1))
      omega
theorem Vac.skip {hm : Int → Nat} {N h0 : Nat} {sl : List Slt} {i j : Nat} (h : Vac hm N h0 sl i j) (hN : ∀ a, hm a < N) {s : Slt} (ha : sl[wrp N (h0 + (j + 1))]? = some s) (hs : s.h = true)
    (hlt : dst N (hm s.l) (wrp N (h0 + (j + 1))) < dst N (wrp N (h0 + i)) (wrp N (h0 + (j + 1)))) : Vac hm N h0 sl i (j + 1) := by
  obtain ⟨q, hq1, hq2, hq3⟩ := h.stop
  have hheld : heldAt sl (wrp N (h0 + (j + 1))) = true := by rw [heldAt_of ha, hs]
  have hne : q ≠ j + 1 := fun e => by rw [e, hheld] at hq3; cases hq3
  refine ⟨h.len, h.low, Nat.le_succ_of_le h.hi, h.free, fun o h1 h2 => ?_, ⟨q, by omega, hq2, hq3⟩, fun p u hp hu r hr hd => ?_, h.one⟩
  · rcases Nat.lt_or_ge j o with h3 | h3
    · obtain rfl : o = j + 1 := by omega
      exact hheld
    · exact h.mid o h1 h3
  · rcases h.way p u hp hu r hr hd with h1 | ⟨h1, h2⟩
    · exact .inl h1
    · by_cases e : dst N h0 p = j + 1
      · exfalso
        have hlow := h.low
        have hpl : p < N := h.len ▸ (List.getElem?_eq_some_iff.1 hp).1
        have h3 : wrp N (h0 + (j + 1)) = p := by rw [← e, wrp_dst hlow hpl]
        rw [h3] at ha hlt
        rw [hp] at ha
        have hsu : s = u := (Option.some.inj ha).symm
        rw [hsu] at hlt
        have hh := hN u.l
        have hi := h.hi
        rw [h1] at hd
        have hwi : wrp N (h0 + i) < N := wrp_lt (by omega)
        have d1 := dst_spec N (hm u.l) (wrp N (h0 + i))
        have d2 := dst_spec N (hm u.l) p
        have d3 := dst_spec N (wrp N (h0 + i)) p
        omega
      · exact .inr ⟨h1, by omega⟩
theorem Vac.move {hm : Int → Nat} {N h0 : Nat} {sl : List Slt} {i j : Nat} (h : Vac hm N h0 sl i j) (hN : ∀ a, hm a < N) {s : Slt} (ha : sl[wrp N (h0 + (j + 1))]? = some s) (hs : s.h = true)
    (hge : dst N (wrp N (h0 + i)) (wrp N (h0 + (j + 1))) ≤ dst N (hm s.l) (wrp N (h0 + (j + 1)))) :
    Vac hm N h0 ((sl.set (wrp N (h0 + i)) s).set (wrp N (h0 + (j + 1))) emp) (j + 1) (j + 1) := by
  obtain ⟨q, hq1, hq2, hq3⟩ := h.stop
  have hlow := h.low
  have hi := h.hi
  have hheld : heldAt sl (wrp N (h0 + (j + 1))) = true := by rw [heldAt_of ha, hs]
  have hne : q ≠ j + 1 := fun e => by rw [e, hheld] at hq3; cases hq3
  have hwi : wrp N (h0 + i) < N := wrp_lt (by omega)
  have hwj : wrp N (h0 + (j + 1)) < N := wrp_lt (by omega)
  have hij : wrp N (h0 + i) ≠ wrp N (h0 + (j + 1)) := fun e => by
    have h1 := dst_wrp (N := N) hlow (show i < N by omega)
    rw [e, dst_wrp hlow (show j + 1 < N by omega)] at h1
    omega
  have hqj : wrp N (h0 + q) ≠ wrp N (h0 + (j + 1)) := fun e => by
    have h1 := dst_wrp (N := N) hlow hq2
    rw [e, dst_wrp hlow (show j + 1 < N by omega)] at h1
    omega
  have hqi : wrp N (h0 + q) ≠ wrp N (h0 + i) := fun e => by
    have h1 := dst_wrp (N := N) hlow hq2
    rw [e, dst_wrp hlow (show i < N by omega)] at h1
    omega
  have hH : ∀ r, heldAt ((sl.set (wrp N (h0 + i)) s).set (wrp N (h0 + (j + 1))) emp) r = if r = wrp N (h0 + (j + 1)) then false else if r = wrp N (h0 + i) then true else heldAt sl r := fun r => by
    rw [held_set (by rw [List.length_set, h.len]; exact hwj), held_set (by rw [h.len]; exact hwi), hs]
    rfl
  refine ⟨by rw [List.length_set, List.length_set, h.len], hlow, Nat.le_refl _, by rw [hH, if_pos rfl], fun o h1 h2 => by omega, ⟨q, by omega, hq2, by rw [hH, if_neg hqj, if_neg hqi, hq3]⟩, fun p u hp hu r hr hd => ?_, fun p p' u u' hp hp' hu hu' e => ?_⟩
  · rw [hH]
    by_cases e1 : r = wrp N (h0 + (j + 1))
    · rw [if_pos e1]
      rcases set_at hp with ⟨_, rfl⟩ | ⟨hpj, hp⟩
      · cases hu
      · rcases set_at hp with ⟨e2, e3⟩ | ⟨hpi, hp⟩
        · exfalso
          subst e3
          rw [e1, e2] at hd
          have hh := hN u.l
          have d1 := dst_spec N (hm u.l) (wrp N (h0 + (j + 1)))
          have d2 := dst_spec N (hm u.l) (wrp N (h0 + i))
          have d3 := dst_spec N (wrp N (h0 + i)) (wrp N (h0 + (j + 1)))
          omega
        · refine .inr ⟨e1, ?_⟩
          have hpl : p < N := h.len ▸ (List.getElem?_eq_some_iff.1 hp).1
          rcases Nat.lt_or_ge (j + 1) (dst N h0 p) with h9 | h9
          · exact h9
          · exfalso
            have h8 : dst N h0 p ≠ j + 1 := fun e => hpj (by rw [← e, wrp_dst hlow hpl])
            have hwq : wrp N (h0 + q) < N := wrp_lt (by omega)
            have hh := hN u.l
            have h7 : dst N (hm u.l) (wrp N (h0 + q)) < dst N (hm u.l) p := by
              rw [e1] at hd
              have a1 := wrp_spec N (h0 + q)
              have a2 := wrp_spec N (h0 + (j + 1))
              have d1 := dst_spec N (hm u.l) (wrp N (h0 + (j + 1)))
              have d2 := dst_spec N (hm u.l) p
              have d3 := dst_spec N h0 p
              have d4 := dst_spec N (hm u.l) (wrp N (h0 + q))
              omega
            rcases h.way p u hp hu _ hwq h7 with h6 | ⟨h6, _⟩
            · rw [hq3] at h6; cases h6
            · exact hqi h6
    · rw [if_neg e1]
      by_cases e2 : r = wrp N (h0 + i)
      · rw [if_pos e2]; exact .inl rfl
      · rw [if_neg e2]
        rcases set_at hp with ⟨_, rfl⟩ | ⟨hpj, hp⟩
        · cases hu
        · rcases set_at hp with ⟨e3, e4⟩ | ⟨hpi, hp⟩
          · subst e4
            rw [e3] at hd
            have hh := hN u.l
            have h7 : dst N (hm u.l) r < dst N (hm u.l) (wrp N (h0 + (j + 1))) := by
              have d1 := dst_spec N (hm u.l) (wrp N (h0 + (j + 1)))
              have d2 := dst_spec N (hm u.l) (wrp N (h0 + i))
              have d3 := dst_spec N (wrp N (h0 + i)) (wrp N (h0 + (j + 1)))
              omega
            rcases h.way _ u ha hu r hr h7 with h6 | ⟨h6, _⟩
            · exact .inl h6
            · exact (e2 h6).elim
          · rcases h.way p u hp hu r hr hd with h6 | ⟨h6, _⟩
            · exact .inl h6
            · exact (e2 h6).elim
  · rcases set_at hp with ⟨_, rfl⟩ | ⟨hpj, hp⟩
    · cases hu
    · rcases set_at hp' with ⟨_, rfl⟩ | ⟨hpj', hp'⟩
      · cases hu'
      · rcases set_at hp with ⟨e3, e4⟩ | ⟨hpi, hp⟩ <;> rcases set_at hp' with ⟨e5, e6⟩ | ⟨hpi', hp'⟩
        · rw [e3, e5]
        · exact (hpj' (h.one _ _ _ _ ha hp' hs hu' (by rw [← e4]; exact e)).symm).elim
        · exact (hpj (h.one _ _ _ _ ha hp hs hu (by rw [← e6]; exact e.symm)).symm).elim
        · exact h.one _ _ _ _ hp hp' hu hu' e
/-! Which labels are there. -/
def heldL (sl : List Slt) : List (Int × Int) := (sl.filter (·.h)).map fun s => (s.l, s.v)
theorem heldL_app (A B : List Slt) : heldL (A ++ B) = heldL A ++ heldL B := by unfold heldL; rw [List.filter_append, List.map_append]
theorem split_at {sl : List Slt} {p : Nat} {s : Slt} (h : sl[p]? = some s) : sl = sl.take p ++ s :: sl.drop (p + 1) ∧ ∀ x, sl.set p x = sl.take p ++ x :: sl.drop (p + 1) := by
  obtain ⟨h1, h2⟩ := List.getElem?_eq_some_iff.1 h
  refine ⟨?_, fun x => List.set_eq_take_append_cons_drop .. |>.trans (if_pos h1)⟩
  rw [← h2, ← List.drop_eq_getElem_cons h1, List.take_append_drop]
theorem heldL_new {sl : List Slt} {p : Nat} {s : Slt} (h : sl[p]? = some s) (hf : s.h = false) (x : Slt) (hx : x.h = true) : (heldL (sl.set p x)).Perm ((x.l, x.v) :: heldL sl) := by
  obtain ⟨h1, h2⟩ := split_at h
  have e1 : heldL sl = heldL (sl.take p) ++ heldL (sl.drop (p + 1)) := by
    conv => lhs; rw [h1]
    rw [heldL_app]
    congr 1
    unfold heldL
    rw [List.filter_cons_of_neg (by rw [hf]; simp)]
  rw [h2 x, heldL_app, e1]
  have e2 : heldL (x :: sl.drop (p + 1)) = (x.l, x.v) :: heldL (sl.drop (p + 1)) := by unfold heldL; rw [List.filter_cons_of_pos (by rw [hx])]; rfl
  rw [e2]
  exact List.perm_middle
theorem heldL_old {sl : List Slt} {p : Nat} {s : Slt} (h : sl[p]? = some s) (hs : s.h = true) : (heldL sl).Perm ((s.l, s.v) :: heldL (sl.set p emp)) := by
  have hl := (List.getElem?_eq_some_iff.1 h).1
  have h1 : (sl.set p emp)[p]? = some emp := by rw [List.getElem?_set]; simp [hl]
  have h2 := heldL_new h1 rfl s hs
  rwa [List.set_set, show sl.set p s = sl by obtain ⟨a, b⟩ := split_at h; rw [b]; exact a.symm] at h2
theorem heldL_turn {sl : List Slt} {p : Nat} {s : Slt} (h : sl[p]? = some s) (hs : s.h = true) (x : Slt) (hx : x.h = true) {R : List (Int × Int)} (hR : (heldL sl).Perm ((s.l, s.v) :: R)) : (heldL (sl.set p x)).Perm ((x.l, x.v) :: R) := by
  have hl := (List.getElem?_eq_some_iff.1 h).1
  have h1 : (sl.set p emp)[p]? = some emp := by rw [List.getElem?_set]; simp [hl]
  have h2 := heldL_new h1 rfl x hx
  rw [List.set_set] at h2
  exact h2.trans (.cons _ ((heldL_old h hs).symm.trans hR).cons_inv)
theorem heldL_move {sl : List Slt} {p q : Nat} {s u : Slt} (hp : sl[p]? = some u) (hu : u.h = false) (hq : sl[q]? = some s) (hs : s.h = true) : (heldL ((sl.set p s).set q emp)).Perm (heldL sl) := by
  have hne : q ≠ p := fun e => by rw [e, hp] at hq; cases hq; rw [hu] at hs; cases hs
  have h1 := heldL_new hp hu s hs
  have h2 := heldL_old (sl := sl.set p s) (p := q) (s := s) (by rw [List.getElem?_set, if_neg (by omega)]; exact hq) hs
  exact (h2.symm.trans h1).cons_inv
theorem heldL_mem {sl : List Slt} {x : Int × Int} : x ∈ heldL sl ↔ ∃ p : Nat, sl[p]? = some ⟨x.1, x.2, true⟩ := by
  unfold heldL
  rw [List.mem_map]
  constructor
  · rintro ⟨s, hs, rfl⟩
    obtain ⟨h1, h2⟩ := List.mem_filter.1 hs
    obtain ⟨p, hp, rfl⟩ := List.getElem_of_mem h1
    refine ⟨p, ?_⟩
    rw [List.getElem?_eq_getElem hp]
    have h2 : sl[p].h = true := h2
    cases hsp : sl[p]
    rw [hsp] at h2
    simp only at h2
    rw [h2]
  · rintro ⟨p, hp⟩
    exact ⟨_, List.mem_filter.2 ⟨List.mem_of_getElem? hp, rfl⟩, rfl⟩
theorem heldL_length (sl : List Slt) : (heldL sl).length = sl.countP (·.h) := by unfold heldL; rw [List.length_map, List.countP_eq_length_filter]
theorem free_one {sl : List Slt} (h : (heldL sl).length < sl.length) : ∃ q, q < sl.length ∧ heldAt sl q = false := by
  rw [heldL_length] at h
  apply Classical.byContradiction
  intro hn
  have : sl.countP (·.h) = sl.length := List.countP_eq_length.2 fun s hs => by
    obtain ⟨q, hq, rfl⟩ := List.getElem_of_mem hs
    cases hh : sl[q].h with
    | true => rfl
    | false => exact (hn ⟨q, hq, by rw [heldAt_of (List.getElem?_eq_getElem hq), hh]⟩).elim
  omega
theorem heldL_zero (N : Nat) : heldL (List.replicate N emp) = [] := by unfold heldL; rw [List.filter_replicate_of_neg (by simp [emp])]; rfl
/-! The labels by rising labels. -/
def idx13 (a : Int) : List (Int × Int) → Nat
  | [] => 0
  | x :: l => if x.1 < a then idx13 a l + 1 else 0
def is13 (a : Int) (l : List (Int × Int)) : Bool := match l[idx13 a l]? with | some x => decide (x.1 = a) | none => false
def put13 (a v : Int) (l : List (Int × Int)) : List (Int × Int) := l.take (idx13 a l) ++ (a, v) :: l.drop (if is13 a l = true then idx13 a l + 1 else idx13 a l)
def del13 (a : Int) (l : List (Int × Int)) : List (Int × Int) := l.take (idx13 a l) ++ l.drop (idx13 a l + 1)
def get13 (a : Int) (l : List (Int × Int)) : Int × Bool := match l[idx13 a l]? with | some x => if x.1 = a then (x.2, true) else (0, false) | none => (0, false)
def SrtL (l : List (Int × Int)) : Prop := l.Pairwise fun x y => x.1 < y.1
theorem idx13_le (a : Int) : ∀ l : List (Int × Int), idx13 a l ≤ l.length
  | [] => Nat.le_refl _
  | x :: l => by unfold idx13; split <;> simp [idx13_le a l]
theorem idx13_low (a : Int) : ∀ (l : List (Int × Int)) (i : Nat) (x : Int × Int), i < idx13 a l → l[i]? = some x → x.1 < a
  | [], i, x, h, _ => by simp [idx13] at h
  | y :: l, i, x, h, hx => by
    unfold idx13 at h
    split at h
    · cases i with
      | zero => cases hx; assumption
      | succ i => exact idx13_low a l i x (by omega) hx
    · omega
theorem idx13_at (a : Int) : ∀ (l : List (Int × Int)) (x : Int × Int), l[idx13 a l]? = some x → ¬ x.1 < a
  | [], x, h => by simp [idx13] at h
  | y :: l, x, h => by
    unfold idx13 at h
    split at h
    · exact idx13_at a l x h
    · cases h; assumption
/-- Parted at a label: those below it, and those not. -/
theorem partL {l : List (Int × Int)} (hs : SrtL l) (a : Int) : (∀ x ∈ l.take (idx13 a l), x.1 < a) ∧ (∀ x ∈ l.drop (idx13 a l), a ≤ x.1) := by
  constructor
  · intro x hx
    obtain ⟨i, hi, rfl⟩ := List.getElem_of_mem hx
    rw [List.length_take] at hi
    exact idx13_low a l i _ (by omega) (by rw [List.getElem_take, List.getElem?_eq_getElem (by omega)])
  · intro x hx
    obtain ⟨i, hi, rfl⟩ := List.getElem_of_mem hx
    rw [List.length_drop] at hi
    rw [List.getElem_drop]
    have h0 := idx13_at a l l[idx13 a l] (List.getElem?_eq_getElem (by omega))
    rcases Nat.eq_zero_or_pos i with rfl | h
    · simp only [Nat.add_zero]; omega
    · have := List.pairwise_iff_getElem.1 hs (idx13 a l) (idx13 a l + i) (by omega) (by omega) (by omega)
      omega
theorem is13_parts {l : List (Int × Int)} {a : Int} (h : is13 a l = true) : ∃ v, l[idx13 a l]? = some (a, v) ∧ l = l.take (idx13 a l) ++ (a, v) :: l.drop (idx13 a l + 1) ∧ get13 a l = (v, true) := by
  unfold is13 at h
  unfold get13
  cases hx : l[idx13 a l]? with
  | none => rw [hx] at h; cases h
  | some x =>
    rw [hx] at h
    have h1 : x.1 = a := of_decide_eq_true h
    obtain ⟨b, v⟩ := x
    simp only at h1
    subst h1
    refine ⟨v, rfl, ?_, by simp⟩
    obtain ⟨h2, h3⟩ := List.getElem?_eq_some_iff.1 hx
    rw [← h3, ← List.drop_eq_getElem_cons h2, List.take_append_drop]
theorem is13_none {l : List (Int × Int)} {a : Int} (h : is13 a l = false) : get13 a l = (0, false) := by
  unfold is13 at h
  unfold get13
  cases hx : l[idx13 a l]? with
  | none => rfl
  | some x => rw [hx] at h; simp only; rw [if_neg (of_decide_eq_false h)]
theorem is13_iff {l : List (Int × Int)} (hs : SrtL l) {a : Int} : is13 a l = true ↔ ∃ v, (a, v) ∈ l := by
  constructor
  · intro h
    obtain ⟨v, h1, _⟩ := is13_parts h
    exact ⟨v, List.mem_of_getElem? h1⟩
  · rintro ⟨v, hv⟩
    obtain ⟨h1, h2⟩ := partL hs a
    have hm : (a, v) ∈ l.drop (idx13 a l) := by
      rw [← List.take_append_drop (idx13 a l) l] at hv
      rcases List.mem_append.1 hv with h | h
      · exact absurd (h1 _ h) (Int.lt_irrefl _)
      · exact h
    obtain ⟨i, hi, he⟩ := List.getElem_of_mem hm
    rw [List.length_drop] at hi
    have h0 : idx13 a l < l.length := by omega
    have h3 := h2 l[idx13 a l] (by rw [List.drop_eq_getElem_cons h0]; exact List.mem_cons_self)
    rw [List.getElem_drop] at he
    unfold is13
    rw [List.getElem?_eq_getElem h0]
    refine decide_eq_true ?_
    rcases Nat.eq_zero_or_pos i with rfl | hp
    · simp only [Nat.add_zero] at he; rw [he]
    · have := List.pairwise_iff_getElem.1 hs (idx13 a l) (idx13 a l + i) (by omega) (by omega) (by omega)
      rw [he] at this
      simp only at this
      omega
theorem srt_join {A Z : List (Int × Int)} {x : Int × Int} (hA : SrtL A) (hZ : SrtL Z) (h1 : ∀ y ∈ A, y.1 < x.1) (h2 : ∀ y ∈ Z, x.1 < y.1) : SrtL (A ++ x :: Z) := by
  refine List.pairwise_append.2 ⟨hA, List.pairwise_cons.2 ⟨h2, hZ⟩, fun y hy z hz => ?_⟩
  rcases List.mem_cons.1 hz with rfl | hz
  · exact h1 y hy
  · have := h1 y hy; have := h2 z hz; omega
theorem put13_srt {l : List (Int × Int)} (hs : SrtL l) (a v : Int) : SrtL (put13 a v l) := by
  obtain ⟨h1, h2⟩ := partL hs a
  unfold put13
  cases h : is13 a l with
  | true =>
    rw [if_pos rfl]
    obtain ⟨v0, _, hl, _⟩ := is13_parts h
    have hs2 := hs
    rw [hl] at hs2
    obtain ⟨hA, hZ, _⟩ := List.pairwise_append.1 hs2
    obtain ⟨hZ1, hZ2⟩ := List.pairwise_cons.1 hZ
    exact srt_join hA hZ2 h1 hZ1
  | false =>
    rw [if_neg (by simp)]
    refine srt_join (hs.sublist (List.take_sublist _ _)) (hs.sublist (List.drop_sublist _ _)) h1 (fun y hy => ?_)
    have h3 := h2 y hy
    rcases Int.lt_or_eq_of_le h3 with h4 | h4
    · exact h4
    · exfalso
      have := (is13_iff hs (a := a)).2 ⟨y.2, by rw [h4]; exact List.mem_of_mem_drop hy⟩
      rw [h] at this
      cases this
theorem del13_srt {l : List (Int × Int)} (hs : SrtL l) (a : Int) : SrtL (del13 a l) := by
  unfold del13
  rw [← List.eraseIdx_eq_take_drop_succ]
  exact hs.sublist (List.eraseIdx_sublist _ _)
theorem put13_new {l : List (Int × Int)} {a : Int} (v : Int) (h : is13 a l = false) : (put13 a v l).Perm ((a, v) :: l) := by
  unfold put13
  rw [h, if_neg (by simp)]
  refine List.perm_middle.trans ?_
  rw [List.take_append_drop]
theorem put13_old {l : List (Int × Int)} {a : Int} (v : Int) (h : is13 a l = true) : ∃ v0 R, l.Perm ((a, v0) :: R) ∧ (put13 a v l).Perm ((a, v) :: R) ∧ (del13 a l).Perm R ∧ get13 a l = (v0, true) ∧ (a, v0) ∈ l := by
  obtain ⟨v0, h0, hl, hg⟩ := is13_parts h
  refine ⟨v0, l.take (idx13 a l) ++ l.drop (idx13 a l + 1), ?_, ?_, .refl _, hg, List.mem_of_getElem? h0⟩
  · conv => lhs; rw [hl]
    exact List.perm_middle
  · unfold put13
    rw [h, if_pos rfl]
    exact List.perm_middle
theorem put13_length {l : List (Int × Int)} {a : Int} (v : Int) : (put13 a v l).length = l.length + (if is13 a l = true then 0 else 1) := by
  cases h : is13 a l with
  | true =>
    obtain ⟨v0, R, h1, h2, _⟩ := put13_old v h
    rw [h2.length_eq, h1.length_eq, if_pos rfl]
    simp
  | false => rw [(put13_new v h).length_eq, if_neg (by simp)]; rfl
theorem del13_length {l : List (Int × Int)} {a : Int} (h : is13 a l = true) : (del13 a l).length + 1 = l.length := by
  obtain ⟨v0, R, h1, _, h3, _⟩ := put13_old 0 h
  rw [h3.length_eq, h1.length_eq]
  simp
theorem get13_of {l : List (Int × Int)} (hs : SrtL l) {a v : Int} (h : (a, v) ∈ l) : get13 a l = (v, true) := by
  obtain ⟨v0, h0, hl, hg⟩ := is13_parts ((is13_iff hs).2 ⟨v, h⟩)
  rw [hg]
  obtain ⟨i, hi, he⟩ := List.getElem_of_mem h
  obtain ⟨h1, h2⟩ := List.getElem?_eq_some_iff.1 h0
  rcases Nat.lt_trichotomy i (idx13 a l) with h3 | h3 | h3
  · have := List.pairwise_iff_getElem.1 hs i (idx13 a l) hi h1 h3
    rw [he, h2] at this
    exact absurd this (Int.lt_irrefl _)
  · subst h3
    rw [he] at h2
    cases h2
    rfl
  · have := List.pairwise_iff_getElem.1 hs (idx13 a l) i h1 hi h3
    rw [he, h2] at this
    exact absurd this (Int.lt_irrefl _)
theorem get13_iff {l : List (Int × Int)} (hs : SrtL l) {a v : Int} : get13 a l = (v, true) ↔ (a, v) ∈ l := by
  refine ⟨fun h => ?_, get13_of hs⟩
  cases hi : is13 a l with
  | true =>
    obtain ⟨v0, h0, _, hg⟩ := is13_parts hi
    rw [hg] at h
    cases h
    exact List.mem_of_getElem? h0
  | false => rw [is13_none hi] at h; cases h
theorem get13_two (a : Int) (l : List (Int × Int)) : get13 a l = (0, false) ∨ ∃ v, get13 a l = (v, true) := by
  cases hi : is13 a l with
  | true => obtain ⟨v0, _, _, hg⟩ := is13_parts hi; exact .inr ⟨v0, hg⟩
  | false => exact .inl (is13_none hi)
theorem get13_ext {l m : List (Int × Int)} {a b : Int} (hs : SrtL l) (ht : SrtL m) (h : ∀ v, (a, v) ∈ l ↔ (b, v) ∈ m) : get13 a l = get13 b m := by
  rcases get13_two a l with h1 | ⟨v, h1⟩
  · rcases get13_two b m with h2 | ⟨u, h2⟩
    · rw [h1, h2]
    · have := (get13_iff hs).2 ((h u).2 ((get13_iff ht).1 h2))
      rw [h1] at this
      cases this
  · rw [h1, (get13_iff ht).2 ((h v).1 ((get13_iff hs).1 h1))]
theorem get_put13 {l : List (Int × Int)} (hs : SrtL l) (a b v : Int) : get13 b (put13 a v l) = if a = b then (v, true) else get13 b l := by
  split
  · rename_i e
    subst e
    refine get13_of (put13_srt hs a v) ?_
    unfold put13
    simp
  · rename_i hne
    refine get13_ext (put13_srt hs a v) hs (fun u => ?_)
    cases h : is13 a l with
    | false =>
      rw [(put13_new v h).mem_iff, List.mem_cons]
      constructor
      · rintro (h1 | h1)
        · cases h1; exact (hne rfl).elim
        · exact h1
      · exact .inr
    | true =>
      obtain ⟨v0, R, h1, h2, _⟩ := put13_old v h
      rw [h2.mem_iff, h1.mem_iff, List.mem_cons, List.mem_cons]
      constructor
      · rintro (h3 | h3)
        · cases h3; exact (hne rfl).elim
        · exact .inr h3
      · rintro (h3 | h3)
        · cases h3; exact (hne rfl).elim
        · exact .inr h3
theorem get_del13 {l : List (Int × Int)} (hs : SrtL l) {a : Int} (b : Int) (h : is13 a l = true) : get13 b (del13 a l) = if a = b then (0, false) else get13 b l := by
  obtain ⟨v0, R, h1, _, h3, _⟩ := put13_old 0 h
  have hout : ∀ u, (a, u) ∉ R := fun u hu => by
    have hp := h1.pairwise_iff (R := fun x y : Int × Int => x.1 ≠ y.1) (fun h => Ne.symm h) |>.1 (hs.imp fun h => by omega)
    exact (List.pairwise_cons.1 hp).1 _ hu rfl
  split
  · rename_i e
    subst e
    rcases get13_two a (del13 a l) with h4 | ⟨u, h4⟩
    · exact h4
    · exact (hout u (h3.mem_iff.1 ((get13_iff (del13_srt hs a)).1 h4))).elim
  · rename_i hne
    refine get13_ext (del13_srt hs a) hs (fun u => ?_)
    rw [h3.mem_iff, h1.mem_iff, List.mem_cons]
    constructor
    · exact .inr
    · rintro (h4 | h4)
      · cases h4; exact (hne rfl).elim
      · exact h4
theorem srt_ext {l m : List (Int × Int)} (hs : SrtL l) (ht : SrtL m) (h : l.Perm m) : l = m :=
  h.eq_of_pairwise (le := fun x y : Int × Int => x.1 < y.1) (fun x y _ _ h1 h2 => by omega) hs ht
end Go.Proofs.Ytoliijajhikhgaa
