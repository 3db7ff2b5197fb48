/- Moves in a region that draws its order: an operation that yields in every world that is held is taken first; a call that alone may come up is run; what is held of the world may be made more on the way. Two operations of a region that draws its order which may come up in either order: a load, and one that yields whichever comes first. A region that draws its order, whose last operation but those behind it writes what was held till then: what is held must hold only until operation k has come up. -/
import Derived.Deep.RegionHeld3
namespace Go.Proofs.YtoliijajhikhgaaDoor
open Go

section
variable {P : Program} {md : Region.Mode} {ops : Array Oper} {Q : Exit → Act → World → Prop} {S : World → Prop}

theorem wpAnyH_more (S' : World → Prop) (h : ∀ W, S' W → S W) :
    ∀ (fuel : Nat) (listed : Array Bool) (a : Act) (w : World), wpAnyH P md ops Q S' fuel listed a w → wpAnyH P md ops Q S fuel listed a w
  | 0, _, _, _, h1 => h1
  | fuel + 1, _, _, _, h1 => ⟨h1.1, fun i hi => wpOp_mono (fun a' w' h2 => ⟨h w' h2.1, wpAnyH_more S' h fuel _ a' w' h2.2⟩) (h1.2 i hi)⟩

/-- Take number i first. -/
theorem held_take {d : Nat} {op : Op} {ty : TypeId} {pos : String} {af : Array Edge} {gd : Option (Nat × Bool)} {v : Value} {fuel : Nat} {listed : Array Bool} {tmps : Array Value} {df : List Deferred} {w : World} (i : Nat)
    (hi : ops[i]? = some ⟨some d, op, ty, pos, af, gd⟩) (hs : Region.noSelect ops = true) (hf : Region.free md ops listed i = true) (hr : (Region.ready md ops listed).contains i = true)
    (hQ : ∀ c a w, Q (.panic c) (Act.put a (some d) v) w → Q (.panic c) a w)
    (hw : Region.wanted ⟨some d, op, ty, pos, af, gd⟩ (yielded ops tmps) = true)
    (hy : ∀ W, S W → (execOp (Act.eval ⟨tmps, df⟩) ⟨some d, op, ty, pos, af, gd⟩).run P W = .ok (.value v) W) (hS : S w)
    (h : wpAnyH P md ops Q S fuel (listed.setIfInBounds i true) ⟨tmps.setIfInBounds d v, df⟩ w) : wpAnyH P md ops Q S (fuel + 1) listed ⟨tmps, df⟩ w :=
  wpAnyH_take hi hs hf hr hQ (Or.inl ⟨hw, hy⟩) hS h
/-- Number i is not wanted: it is taken first. -/
theorem held_skip {d : Nat} {op : Op} {ty : TypeId} {pos : String} {af : Array Edge} {gd : Option (Nat × Bool)} {fuel : Nat} {listed : Array Bool} {tmps : Array Value} {df : List Deferred} {w : World} (i : Nat)
    (hi : ops[i]? = some ⟨some d, op, ty, pos, af, gd⟩) (hs : Region.noSelect ops = true) (hf : Region.free md ops listed i = true) (hr : (Region.ready md ops listed).contains i = true)
    (hQ : ∀ c a w, Q (.panic c) (Act.put a (some d) undef) w → Q (.panic c) a w)
    (hw : Region.wanted ⟨some d, op, ty, pos, af, gd⟩ (yielded ops tmps) = false) (hS : S w)
    (h : wpAnyH P md ops Q S fuel (listed.setIfInBounds i true) ⟨tmps.setIfInBounds d undef, df⟩ w) : wpAnyH P md ops Q S (fuel + 1) listed ⟨tmps, df⟩ w :=
  wpAnyH_take hi hs hf hr hQ (Or.inr ⟨hw, rfl⟩) hS h
/-- Number i alone may come up: it is run; behind it what is held is shown anew. -/
theorem held_one {d : Nat} {op : Op} {ty : TypeId} {pos : String} {af : Array Edge} {gd : Option (Nat × Bool)} {fuel : Nat} {listed : Array Bool} {a : Act} {w : World} (i : Nat)
    (hi : ops[i]? = some ⟨some d, op, ty, pos, af, gd⟩) (hr : Region.ready md ops listed = [i])
    (hw : Region.wanted ⟨some d, op, ty, pos, af, gd⟩ (yielded ops a.tmps) = true)
    (h : ∀ K : Act → World → Prop, Shut (∀ a w, S w → (S w → wpAnyH P md ops Q S fuel (listed.setIfInBounds i true) a w) → K a w) → Oper.wp P ⟨some d, op, ty, pos, af, gd⟩ a w K Q) :
    wpAnyH P md ops Q S (fuel + 1) listed a w :=
  wpAnyH_ready hr (by simp) (AllReadyH.cons hi (fun K hK => by rw [if_pos hw]; exact h K hK) AllReadyH.nil)
/-- Number i alone may come up, and yields to no slot. -/
theorem held_none {op : Op} {ty : TypeId} {pos : String} {af : Array Edge} {gd : Option (Nat × Bool)} {fuel : Nat} {listed : Array Bool} {a : Act} {w : World} (i : Nat)
    (hi : ops[i]? = some ⟨none, op, ty, pos, af, gd⟩) (hr : Region.ready md ops listed = [i])
    (hw : Region.wanted ⟨none, op, ty, pos, af, gd⟩ (yielded ops a.tmps) = true)
    (h : ∀ K : Act → World → Prop, Shut (∀ a w, S w → (S w → wpAnyH P md ops Q S fuel (listed.setIfInBounds i true) a w) → K a w) → Oper.wp P ⟨none, op, ty, pos, af, gd⟩ a w K Q) :
    wpAnyH P md ops Q S (fuel + 1) listed a w :=
  wpAnyH_ready hr (by simp) (AllReadyH.cons hi (fun K hK => by rw [if_pos hw]; exact h K hK) AllReadyH.nil)
end
end Go.Proofs.YtoliijajhikhgaaDoor
namespace Go.Proofs.YtoliijajhikhgaaDoor
open Go
theorem ite_way {c : Prop} {d : Decidable c} {A B : Prop} (h : c) (a : A) : if c then A else B := by rw [if_pos h]; exact a
section
variable {P : Program} {md : Region.Mode} {ops : Array Oper} {Q : Exit → Act → World → Prop} {S : World → Prop}
theorem held_two {d e : Nat} {op op' : Op} {ty ty' : TypeId} {pos pos' : String} {af af' : Array Edge} {gd gd' : Option (Nat × Bool)} {fuel : Nat} {listed : Array Bool} {tmps : Array Value} {df : List Deferred} {w w' : World} (i j : Nat) (v u : Value)
    (hij : i ≠ j) (hde : d ≠ e) (hi : ops[i]? = some ⟨some d, op, ty, pos, af, gd⟩) (hj : ops[j]? = some ⟨some e, op', ty', pos', af', gd'⟩)
    (hr : Region.ready md ops listed = [i, j]) (hri : Region.ready md ops (listed.setIfInBounds i true) = [j]) (hrj : Region.ready md ops (listed.setIfInBounds j true) = [i])
    (w1 : Region.wanted ⟨some d, op, ty, pos, af, gd⟩ (yielded ops tmps) = true) (w2 : Region.wanted ⟨some e, op', ty', pos', af', gd'⟩ (yielded ops tmps) = true)
    (w3 : Region.wanted ⟨some d, op, ty, pos, af, gd⟩ (yielded ops (tmps.setIfInBounds e u)) = true) (w4 : Region.wanted ⟨some e, op', ty', pos', af', gd'⟩ (yielded ops (tmps.setIfInBounds d v)) = true)
    (r1 : (execOp (Act.eval ⟨tmps, df⟩) ⟨some d, op, ty, pos, af, gd⟩).run P w = .ok (.value v) w) (r2 : (execOp (Act.eval ⟨tmps, df⟩) ⟨some e, op', ty', pos', af', gd'⟩).run P w = .ok (.value u) w')
    (r3 : (execOp (Act.eval ⟨tmps.setIfInBounds e u, df⟩) ⟨some d, op, ty, pos, af, gd⟩).run P w' = .ok (.value v) w') (r4 : (execOp (Act.eval ⟨tmps.setIfInBounds d v, df⟩) ⟨some e, op', ty', pos', af', gd'⟩).run P w = .ok (.value u) w')
    (hS : S w) (hS' : S w') (h : wpAnyH P md ops Q S fuel ((listed.setIfInBounds i true).setIfInBounds j true) ⟨(tmps.setIfInBounds d v).setIfInBounds e u, df⟩ w') :
    wpAnyH P md ops Q S (fuel + 1 + 1) listed ⟨tmps, df⟩ w := by
  refine wpAnyH_ready hr (by simp) (AllReadyH.cons hi (fun K hK => ?_) (AllReadyH.cons hj (fun K hK => ?_) AllReadyH.nil))
  · rw [if_pos w1]
    unfold Oper.wp
    rw [r1]
    refine hK.out _ _ hS (fun _ => ?_)
    refine wpAnyH_ready hri (by simp) (AllReadyH.cons hj (fun K2 hK2 => ?_) AllReadyH.nil)
    refine ite_way w4 ?_
    dsimp only [Act.put]
    unfold Oper.wp
    rw [r4]
    exact hK2.out _ _ hS' (fun _ => h)
  · rw [if_pos w2]
    unfold Oper.wp
    rw [r2]
    refine hK.out _ _ hS' (fun _ => ?_)
    refine wpAnyH_ready hrj (by simp) (AllReadyH.cons hi (fun K2 hK2 => ?_) AllReadyH.nil)
    refine ite_way w3 ?_
    dsimp only [Act.put]
    unfold Oper.wp
    rw [r3]
    refine hK2.out _ _ hS' (fun _ => ?_)
    rw [Array.setIfInBounds_comm true true (Ne.symm hij)]
    dsimp only [Act.put]
    rw [Array.setIfInBounds_comm u v (Ne.symm hde)]
    exact h
end
end Go.Proofs.YtoliijajhikhgaaDoor
namespace Go.Proofs.YtoliijajhikhgaaDoor
open Go
section
variable {P : Program} {md : Region.Mode} {ops : Array Oper} {Q : Exit → Act → World → Prop}
/-- Whatever is listed, what it waits for is too. -/
def closedB (md : Region.Mode) (ops : Array Oper) (L : Array Bool) : Bool :=
  (List.range ops.size).all fun j => match ops[j]? with
    | none => true
    | some o => !(L.getD j false) || o.after.toList.all fun e => !(Region.binds md e) || L.getD e.on false
/-- One waits for the other, by way of those between. -/
def pathB (md : Region.Mode) (ops : Array Oper) : List Nat → Bool
  | j :: i :: r => (match ops[j]? with | none => false | some o => o.after.toList.any fun e => Region.binds md e && e.on == i) && pathB md ops (i :: r)
  | _ => true
theorem closed_dep {L : Array Bool} (h : closedB md ops L = true) {j : Nat} {o : Oper} (ho : ops[j]? = some o) (hj : L.getD j false = true) : ∀ e ∈ o.after, Region.binds md e = true → L.getD e.on false = true := fun e he hb => by
  unfold closedB at h
  rw [List.all_eq_true] at h
  have h1 := h j (List.mem_range.2 (Array.getElem?_eq_some_iff.1 ho).1)
  simp only [ho, hj, Bool.not_true, Bool.false_or, List.all_eq_true] at h1
  have h2 := h1 e (by simpa using he)
  rw [hb] at h2
  simpa using h2
theorem closed_path {L : Array Bool} (h : closedB md ops L = true) : ∀ {p : List Nat} {k i : Nat}, p.head? = some k → p.getLast? = some i → pathB md ops p = true → L.getD k false = true → L.getD i false = true
  | [], _, _, hk, _, _, _ => by cases hk
  | [j], k, i, hk, hi, _, hL => by cases hk; cases hi; exact hL
  | j :: i2 :: r, k, i, hk, hi, hp, hL => by
    cases hk
    unfold pathB at hp
    rw [Bool.and_eq_true] at hp
    refine closed_path h (p := i2 :: r) rfl (by rw [← hi]; simp) hp.2 ?_
    cases ho : ops[j]? with
    | none => rw [ho] at hp; cases hp.1
    | some o =>
      rw [ho] at hp
      obtain ⟨e, he, h2⟩ := List.any_eq_true.1 hp.1
      rw [Bool.and_eq_true, beq_iff_eq] at h2
      rw [← h2.2]
      exact closed_dep h ho hL e (by simpa using he) h2.1
theorem closed_more {L : Array Bool} (h : closedB md ops L = true) {j : Nat} (hj : j ∈ Region.ready md ops L) : closedB md ops (L.setIfInBounds j true) = true := by
  unfold closedB
  rw [List.all_eq_true]
  intro k _
  cases ho : ops[k]? with
  | none => rfl
  | some o =>
    simp only [Bool.or_eq_true, Bool.not_eq_true', List.all_eq_true]
    by_cases hkj : j = k
    · subst hkj
      obtain ⟨_, o', ho', hall⟩ := mem_ready.1 hj
      rw [ho] at ho'
      cases ho'
      right
      intro e he
      cases hb : Region.binds md e with
      | false => exact .inl rfl
      | true => exact .inr (getD_set_true (hall e (by simpa using he) hb))
    · rw [getD_set_ne false hkj]
      cases hL : L.getD k false with
      | false => exact .inl rfl
      | true =>
        right
        intro e he
        cases hb : Region.binds md e with
        | false => exact .inl rfl
        | true => exact .inr (getD_set_true (closed_dep h ho hL e (by simpa using he) hb))
/-- Whatever order: S holds behind each, until k has come up. -/
def wpAnyK (P : Program) (md : Region.Mode) (ops : Array Oper) (Q : Exit → Act → World → Prop) (S : World → Prop) (k : Nat) : Nat → Array Bool → Act → World → Prop
  | 0, L, a, w => Region.ready md ops L = [] ∧ Q .normal a w
  | fuel + 1, L, a, w => (Region.ready md ops L = [] → Q .normal a w) ∧
    ∀ i ∈ Region.ready md ops L, wpOp P ops Q i (fun a' w' => ((L.setIfInBounds i true).getD k false = true ∨ S w') ∧ wpAnyK P md ops Q S k fuel (L.setIfInBounds i true) a' w') a w
variable {S : World → Prop} {k : Nat}
theorem wpAny_of_K : ∀ (fuel : Nat) (L : Array Bool) (a : Act) (w : World), wpAnyK P md ops Q S k fuel L a w → wpAny P md ops Q fuel L a w
  | 0, _, _, _, h => h
  | fuel + 1, _, _, _, h => ⟨h.1, fun i hi => wpOp_mono (fun a' w' h' => wpAny_of_K fuel _ a' w' h'.2) (h.2 i hi)⟩
theorem wp_region_late {id : Nat} {a : Act} {w : World} (S : World → Prop) (k : Nat) (hm : P.follows .mixedOrders = true) (hS : S w.drew)
    (h : S w.drew → wpAnyK P .any ops Q S k ops.size (Array.replicate ops.size false) a w.drew) : (Code.region id ops true).wp P Q a w :=
  wp_region_any hm (wpAny_of_K _ _ _ _ (h hS))
theorem late_first {i : Nat} {oi : Oper} {v : Value} (hi : ops[i]? = some oi) (hsel : ∀ (j : Nat) (o : Oper) cs b, ops[j]? = some o → o.op ≠ .select cs b) (hQ : ∀ c a w, Q (.panic c) (a.put oi.dst v) w → Q (.panic c) a w)
    (hki : k ≠ i) (hpath : ∀ L : Array Bool, closedB md ops L = true → L.getD k false = true → L.getD i false = true) :
    ∀ (fuel : Nat) (L : Array Bool) (a : Act) (w : World), closedB md ops L = true → L.getD k false = false →
      (∀ j oj, ops[j]? = some oj → j ≠ i → L.getD j true = false → (∀ e ∈ oj.after, Region.binds md e = true → e.on ≠ i) → oi.apart ops oj = true) →
      i ∈ Region.ready md ops L → YieldsIf P ops S oi v a → S w → wpAnyK P md ops Q S k fuel (L.setIfInBounds i true) (a.put oi.dst v) w → wpAnyK P md ops Q S k (fuel + 1) L a w := by
  intro fuel
  induction fuel with
  | zero =>
    intro L a w _ hk _ hr hy hS H
    refine ⟨fun h => (by rw [h] at hr; cases hr), fun j hj => ?_⟩
    by_cases hji : j = i
    · subst hji; exact hy.wpOp hi hS ⟨.inr hS, H⟩
    · have h1 := ready_mono hj hji
      rw [H.1] at h1
      cases h1
  | succ fuel ih =>
    intro L a w hc hk hfree hr hy hS H
    have hun := (mem_ready.1 hr).1
    have hnf : L.getD i false ≠ true := fun h => by
      rcases Nat.lt_or_ge i L.size with h' | h'
      · simp [h'] at h hun; rw [hun] at h; cases h
      · simp [Array.getElem?_eq_none h'] at hun
    refine ⟨fun h => (by rw [h] at hr; cases hr), fun j hj => ?_⟩
    by_cases hji : j = i
    · subst hji; exact hy.wpOp hi hS ⟨.inr hS, H⟩
    · have h1 := H.2 j (ready_mono hj hji)
      obtain ⟨hjun, oj, hoj, hall⟩ := mem_ready.1 hj
      have hcj := closed_more hc hj
      have hjk : j ≠ k := fun e => by
        subst e
        have h2 : (L.setIfInBounds j true).getD j false = true := by
          have h3 : j < L.size := by
            rcases Nat.lt_or_ge j L.size with h' | h'
            · exact h'
            · simp [Array.getElem?_eq_none h'] at hjun
          simp [h3]
        have h4 := hpath _ hcj h2
        rw [getD_set_ne false hji] at h4
        exact hnf h4
      have hnot : ∀ e ∈ oj.after, Region.binds md e = true → e.on ≠ i := fun e he hb heq => by
        have h2 := hall e he hb
        rw [heq] at h2
        exact hnf h2
      have h2 := wpOp_putIf hoj (hfree j oj hoj hji hjun hnot) (fun cs b => hsel i oi cs b hi) (fun cs b => hsel j oj cs b hoj) hQ hy h1
      refine wpOp_mono (fun a' w' h3 => ?_) h2
      have hS' : S w' := by
        rcases h3.2.1 with h4 | h4
        · rw [getD_set_ne false hjk, getD_set_ne false (Ne.symm hki), hk] at h4
          cases h4
        · exact h4
      refine ⟨.inr hS', ih (L.setIfInBounds j true) a' w' hcj (by rw [getD_set_ne false hjk]; exact hk) (fun k' ok hok hk' hun' hno => ?_) (ready_mono hr (Ne.symm hji)) h3.1 hS' ?_⟩
      · refine hfree k' ok hok hk' ?_ hno
        by_cases hjk' : j = k'
        · subst hjk'; exact hjun
        · rwa [getD_set_ne true hjk'] at hun'
      · rw [Array.setIfInBounds_comm _ _ hji]
        exact h3.2.2
/-- Take number i first. -/
theorem late_take {d : Nat} {op : Op} {ty : TypeId} {pos : String} {af : Array Edge} {gd : Option (Nat × Bool)} {v : Value} {fuel : Nat} {L : Array Bool} {tmps : Array Value} {df : List Deferred} {w : World} (i : Nat) (p : List Nat)
    (hi : ops[i]? = some ⟨some d, op, ty, pos, af, gd⟩) (hs : Region.noSelect ops = true) (hf : Region.free md ops L i = true) (hr : (Region.ready md ops L).contains i = true)
    (hQ : ∀ c a w, Q (.panic c) (Act.put a (some d) v) w → Q (.panic c) a w) (hc : closedB md ops L = true) (hk : L.getD k false = false) (hki : k ≠ i) (hp : pathB md ops p = true) (hpk : p.head? = some k) (hpi : p.getLast? = some i)
    (hw : Region.wanted ⟨some d, op, ty, pos, af, gd⟩ (yielded ops tmps) = true)
    (hy : ∀ W, S W → (execOp (Act.eval ⟨tmps, df⟩) ⟨some d, op, ty, pos, af, gd⟩).run P W = .ok (.value v) W) (hS : S w)
    (h : wpAnyK P md ops Q S k fuel (L.setIfInBounds i true) ⟨tmps.setIfInBounds d v, df⟩ w) : wpAnyK P md ops Q S k (fuel + 1) L ⟨tmps, df⟩ w :=
  late_first hi (Region.noSelect_spec hs) hQ hki (fun L hcl hL => closed_path hcl hpk hpi hp hL) fuel L ⟨tmps, df⟩ w hc hk (Region.free_spec hi hf) (by simpa using hr) (.inl ⟨hw, hy⟩) hS h
/-- Number i alone may come up. -/
theorem late_one {o : Oper} {fuel : Nat} {L : Array Bool} {a : Act} {w : World} (i : Nat) (hi : ops[i]? = some o) (hr : Region.ready md ops L = [i]) (hw : Region.wanted o (yielded ops a.tmps) = true)
    (h : ∀ K : Act → World → Prop, Shut (∀ a w, ((L.setIfInBounds i true).getD k false = true ∨ S w) → (((L.setIfInBounds i true).getD k false = true ∨ S w) → wpAnyK P md ops Q S k fuel (L.setIfInBounds i true) a w) → K a w) → Oper.wp P o a w K Q) :
    wpAnyK P md ops Q S k (fuel + 1) L a w := by
  refine ⟨fun h0 => (by rw [hr] at h0; cases h0), fun j hj => ?_⟩
  rw [hr, List.mem_singleton] at hj
  subst hj
  exact wpOp_step hi (fun K' hK => by rw [if_pos hw]; exact h K' (fun a w hS hW => hK a w ⟨hS, hW hS⟩))
theorem late_done {L : Array Bool} {a : Act} {w : World} (hr : Region.ready md ops L = []) (h : Q .normal a w) : ∀ fuel, wpAnyK P md ops Q S k fuel L a w
  | 0 => ⟨hr, h⟩
  | _ + 1 => ⟨fun _ => h, by rw [hr]; simp⟩
end
end Go.Proofs.YtoliijajhikhgaaDoor
