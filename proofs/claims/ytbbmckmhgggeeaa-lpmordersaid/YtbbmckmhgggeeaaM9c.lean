/- A node of a tree of prefixes: its own prefix, what lies below it on both sides, as lists in order. Of no program. -/
import Derived.Test.YtbbmckmhgggeeaaM9b
namespace Go.Proofs.Ytbbmckmhgggeeaa
open Go

/-- A prefix's own row: itself, if it has a value. -/
def ownL (p : Pfx) : Option Int → List (Pfx × Int)
  | some x => [(p, x)]
  | none => []
def nodeL (p : Pfx) (v : Option Int) (L R : List (Pfx × Int)) : List (Pfx × Int) := ownL p v ++ (L ++ R)
/-- It lies below p, on the side of b. -/
structure SideP (six : Bool) (p : Pfx) (b : Bool) (q : Pfx) : Prop where
  ok : okP six q
  cov : covP p q = true
  lt : p.len < q.len
  bit : bitL q.addr p.len.toNat = b
structure Node9 (six : Bool) (p : Pfx) (L R : List (Pfx × Int)) : Prop where
  ok : okP six p
  ordL : InOrder cmpP (okP six) L
  ordR : InOrder cmpP (okP six) R
  left : ∀ x ∈ L, SideP six p false x.1
  right : ∀ x ∈ R, SideP six p true x.1
variable {six : Bool} {p q : Pfx} {v : Option Int} {L R : List (Pfx × Int)}
theorem okP.len0 (h : okP six p) : 0 ≤ p.len ∧ p.len ≤ 128 := by
  obtain ⟨⟨h0, h1⟩, _⟩ := (chk_iff p).1 h.2.2
  have := (clamp_le p.six 0).2.2
  omega
theorem SideP.ne {b : Bool} (h : SideP six p b q) : p ≠ q := fun e => by have := h.lt; rw [e] at this; omega
theorem SideP.ahead {b : Bool} (hp : okP six p) (h : SideP six p b q) : cmpP p q < 0 := cov_lt hp h.ok h.cov h.ne
theorem SideP.behind {b : Bool} (hp : okP six p) (h : SideP six p b q) : 0 < cmpP q p := by
  have := h.ahead hp
  rw [cmpP_anti p q]
  omega
theorem SideP.sides {r : Pfx} (hp : okP six p) (hq : SideP six p false q) (hr : SideP six p true r) : cmpP q r < 0 ∧ 0 < cmpP r q := by
  have h0 := hp.len0
  have h1 := hr.lt
  have h2 := hr.ok.len0
  have h := side_lt hq.ok hr.ok hq.cov hr.cov p.len.toNat (by omega) (by omega) hq.bit hr.bit
  exact ⟨h, by rw [cmpP_anti q r]; omega⟩
theorem own_mem {x : Pfx × Int} (h : x ∈ ownL p v) : x.1 = p := by
  cases v with
  | none => cases h
  | some y =>
    have : x = (p, y) := by simpa [ownL] using h
    rw [this]
theorem node_cov (h : Node9 six p L R) {x : Pfx × Int} (hx : x ∈ nodeL p v L R) : covP p x.1 = true := by
  rcases List.mem_append.1 hx with hx | hx
  · rw [own_mem hx]; exact cov_refl p
  · rcases List.mem_append.1 hx with hx | hx
    · exact (h.left x hx).cov
    · exact (h.right x hx).cov
theorem below_behind (h : Node9 six p L R) : ∀ x ∈ L ++ R, 0 < cmpP x.1 p := by
  intro x hx
  rcases List.mem_append.1 hx with hx | hx
  · exact (h.left x hx).behind h.ok
  · exact (h.right x hx).behind h.ok
theorem node_order (h : Node9 six p L R) : InOrder cmpP (okP six) (nodeL p v L R) := by
  have hLR : InOrder cmpP (okP six) (L ++ R) := by
    refine ⟨List.pairwise_append.2 ⟨h.ordL.1, h.ordR.1, fun x hx y hy => ((h.left x hx).sides h.ok (h.right y hy)).1⟩, fun x hx => ?_⟩
    rcases List.mem_append.1 hx with hx | hx
    · exact h.ordL.2 x hx
    · exact h.ordR.2 x hx
  cases v with
  | none => exact hLR
  | some y =>
    refine InOrder.cons h.ok (fun z hz => ?_) hLR
    have := below_behind h z hz
    rw [cmpP_anti p z.1] at this
    show cmpP p z.1 < 0
    omega
/-! Get. -/
theorem get_self (h : Node9 six p L R) : getT cmpP p (nodeL p v L R) = v := by
  unfold nodeL
  rw [getT_end p _ _ (below_behind h)]
  cases v with
  | none => rfl
  | some y =>
    show (if cmpP p p < 0 then _ else if cmpP p p = 0 then some y else none) = some y
    have h0 := cmpP_ord.refl p
    rw [if_neg (by omega), if_pos h0]
theorem own_ahead (h : Node9 six p L R) {b : Bool} (hq : SideP six p b q) : ∀ x ∈ ownL p v, cmpP x.1 q < 0 := by
  intro x hx
  rw [own_mem hx]
  exact hq.ahead h.ok
theorem get_left (h : Node9 six p L R) (hq : SideP six p false q) : getT cmpP q (nodeL p v L R) = getT cmpP q L := by
  unfold nodeL
  rw [getT_app q _ _ (own_ahead h hq), getT_end q _ _ (fun x hx => (hq.sides h.ok (h.right x hx)).2)]
theorem get_right (h : Node9 six p L R) (hq : SideP six p true q) : getT cmpP q (nodeL p v L R) = getT cmpP q R := by
  unfold nodeL
  rw [getT_app q _ _ (own_ahead h hq), getT_app q _ _ (fun x hx => ((h.left x hx).sides h.ok hq).1)]
theorem get_mem : ∀ (l : List (Pfx × Int)) (x : Int), getT cmpP q l = some x → ∃ y ∈ l, cmpP y.1 q = 0
  | [], x, h => by cases h
  | y :: l, x, h => by
    unfold getT at h
    split at h
    · obtain ⟨z, hz, h2⟩ := get_mem l x h
      exact ⟨z, by simp [hz], h2⟩
    · split at h
      · rename_i h0
        exact ⟨y, by simp, h0⟩
      · cases h
theorem get_out (h : Node9 six p L R) (hq : okP six q) (hc : covP p q = false) : getT cmpP q (nodeL p v L R) = none := by
  cases hg : getT cmpP q (nodeL p v L R) with
  | none => rfl
  | some x =>
    obtain ⟨y, hy, h0⟩ := get_mem _ x hg
    have ho := (node_order (v := v) h).2 y hy
    have e := cmpP_zero (ho.2.1.trans hq.2.1.symm) h0
    have := node_cov h hy
    rw [e, hc] at this
    cases this
/-! Put. -/
theorem put_own (x : Int) : putT cmpP p x (ownL p v) = [(p, x)] := by
  cases v with
  | none => rfl
  | some y =>
    show (if cmpP p p < 0 then _ else if cmpP p p = 0 then [(p, x)] else _) = _
    have h0 := cmpP_ord.refl p
    rw [if_neg (by omega), if_pos h0]
theorem put_self (h : Node9 six p L R) (x : Int) : putT cmpP p x (nodeL p v L R) = nodeL p (some x) L R := by
  unfold nodeL
  rw [putT_end p x _ _ (below_behind h), put_own]
  rfl
theorem put_left (h : Node9 six p L R) (hq : SideP six p false q) (x : Int) : putT cmpP q x (nodeL p v L R) = nodeL p v (putT cmpP q x L) R := by
  unfold nodeL
  rw [putT_app q x _ _ (own_ahead h hq), putT_end q x _ _ (fun y hy => (hq.sides h.ok (h.right y hy)).2)]
theorem put_right (h : Node9 six p L R) (hq : SideP six p true q) (x : Int) : putT cmpP q x (nodeL p v L R) = nodeL p v L (putT cmpP q x R) := by
  unfold nodeL
  rw [putT_app q x _ _ (own_ahead h hq), putT_app q x _ _ (fun y hy => ((h.left y hy).sides h.ok hq).1)]
/-- A prefix ahead of all, or behind all. -/
theorem put_front (M : List (Pfx × Int)) (hM : ∀ y ∈ M, 0 < cmpP y.1 q) (x : Int) : putT cmpP q x M = (q, x) :: M := by
  have := putT_end (c := cmpP) q x [] M hM
  simpa [putT] using this
theorem put_back (M : List (Pfx × Int)) (hM : ∀ y ∈ M, cmpP y.1 q < 0) (x : Int) : putT cmpP q x M = M ++ [(q, x)] := by
  have := putT_app (c := cmpP) q x M [] hM
  simpa [putT] using this
/-! Delete. -/
theorem del_self (h : Node9 six p L R) : delT cmpP p (nodeL p v L R) = nodeL p none L R := by
  unfold nodeL
  rw [delT_end p _ _ (below_behind h)]
  cases v with
  | none => rfl
  | some y =>
    show (if cmpP p p < 0 then _ else if cmpP p p = 0 then [] else _) ++ (L ++ R) = _
    have h0 := cmpP_ord.refl p
    rw [if_neg (by omega), if_pos h0]
    rfl
theorem del_left (h : Node9 six p L R) (hq : SideP six p false q) : delT cmpP q (nodeL p v L R) = nodeL p v (delT cmpP q L) R := by
  unfold nodeL
  rw [delT_app q _ _ (own_ahead h hq), delT_end q _ _ (fun y hy => (hq.sides h.ok (h.right y hy)).2)]
theorem del_right (h : Node9 six p L R) (hq : SideP six p true q) : delT cmpP q (nodeL p v L R) = nodeL p v L (delT cmpP q R) := by
  unfold nodeL
  rw [delT_app q _ _ (own_ahead h hq), delT_app q _ _ (fun y hy => ((h.left y hy).sides h.ok hq).1)]
/-! Look. -/
theorem look_none (a : List UInt8) : ∀ M : List (Pfx × Int), (∀ y ∈ M, hasP y.1 a = false) → lookT a M = none
  | [], _ => rfl
  | y :: M, h => by
    unfold lookT
    rw [look_none a M (fun z hz => h z (by simp [hz]))]
    simp only
    rw [if_neg (by rw [h y (by simp)]; simp)]
theorem look_end (a : List UInt8) : ∀ B C : List (Pfx × Int), (∀ y ∈ C, hasP y.1 a = false) → lookT a (B ++ C) = lookT a B
  | [], C, h => look_none a C h
  | y :: B, C, h => by
    rw [List.cons_append]
    unfold lookT
    rw [look_end a B C h]
theorem look_app (a : List UInt8) : ∀ B C : List (Pfx × Int), (∀ y ∈ B, hasP y.1 a = false) → lookT a (B ++ C) = lookT a C
  | [], C, _ => rfl
  | y :: B, C, h => by
    rw [List.cons_append]
    conv => lhs; unfold lookT
    rw [look_app a B C (fun z hz => h z (by simp [hz])), h y (by simp)]
    cases lookT a C with
    | none => simp
    | some z => simp
theorem SideP.apart {a : List UInt8} {b : Bool} (hp : okP six p) (h : SideP six p b q) (ha : bitL a p.len.toNat = !b) : hasP q a = false := by
  cases hh : hasP q a
  · rfl
  · have h0 := hp.len0
    have h1 := h.lt
    have h2 := h.ok.len0
    have := (has_iff q a).1 hh p.len.toNat (by omega) (by omega)
    rw [h.bit, ha] at this
    cases b <;> cases this
theorem look_own (a : List UInt8) (hp : hasP p a = true) (M : List (Pfx × Int)) (hM : ∀ y ∈ M, p.len < y.1.len) :
    lookT a (ownL p v ++ M) = match lookT a M with | some y => some y | none => v.map (fun x => (p, x)) := by
  cases v with
  | none =>
    show lookT a M = _
    cases lookT a M <;> rfl
  | some x =>
    show (match lookT a M with | some y => if hasP p a = true ∧ y.1.len < p.len then some (p, x) else some y | none => if hasP p a = true then some (p, x) else none) = _
    cases hl : lookT a M with
    | none =>
      simp only
      rw [if_pos hp]
      rfl
    | some y =>
      simp only
      have := hM y (look_mem a M y hl).1
      rw [if_neg (by omega)]
theorem below_longer (h : Node9 six p L R) : ∀ x ∈ L ++ R, p.len < x.1.len := by
  intro x hx
  rcases List.mem_append.1 hx with hx | hx
  · exact (h.left x hx).lt
  · exact (h.right x hx).lt
theorem look_left (h : Node9 six p L R) (a : List UInt8) (hp : hasP p a = true) (hb : bitL a p.len.toNat = false) :
    lookT a (nodeL p v L R) = match lookT a L with | some y => some y | none => v.map (fun x => (p, x)) := by
  unfold nodeL
  rw [look_own a hp _ (below_longer h), look_end a _ _ (fun y hy => (h.right y hy).apart h.ok hb)]
theorem look_right (h : Node9 six p L R) (a : List UInt8) (hp : hasP p a = true) (hb : bitL a p.len.toNat = true) :
    lookT a (nodeL p v L R) = match lookT a R with | some y => some y | none => v.map (fun x => (p, x)) := by
  unfold nodeL
  rw [look_own a hp _ (below_longer h), look_app a _ _ (fun y hy => (h.left y hy).apart h.ok hb)]
theorem look_out (h : Node9 six p L R) (a : List UInt8) (hp : hasP p a = false) : lookT a (nodeL p v L R) = none := by
  refine look_none a _ fun y hy => ?_
  cases hh : hasP y.1 a
  · rfl
  · have := cov_has (node_cov h hy) hh
    rw [hp] at this
    cases this
end Go.Proofs.Ytbbmckmhgggeeaa
