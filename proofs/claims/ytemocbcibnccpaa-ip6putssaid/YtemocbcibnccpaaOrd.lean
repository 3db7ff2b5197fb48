/- A region that draws its order, whose operations make memory: each operation that is left to come up is told by what its value is, in the world as it then is; the worlds only grow. One rule for all orders. -/
import Derived.Test.YtemocbcibnccpaaReg
namespace Go.Proofs.Ytemocbcibnccpaa
open Go

/-- Another value for number i. -/
def upd (x : Nat → Value) (i : Nat) (v : Value) : Nat → Value := fun j => bif Nat.beq j i then v else x j
theorem upd_self (x : Nat → Value) (i : Nat) (v : Value) : upd x i v i = v := by simp [upd]
theorem upd_ne (x : Nat → Value) (i j : Nat) (v : Value) (h : j ≠ i) : upd x i v j = x j := by
  have : Nat.beq j i = false := by
    cases hb : Nat.beq j i
    · rfl
    · exact absurd (Nat.eq_of_beq_eq_true hb) h
  simp [upd, this]

theorem mem_ready {md : Region.Mode} {ops : Array Oper} {listed : Array Bool} {i : Nat} (h : i ∈ Region.ready md ops listed) :
    i < ops.size ∧ listed.getD i true = false ∧ ∀ o, ops[i]? = some o → ∀ e ∈ o.after, Region.binds md e = true → listed.getD e.on false = true := by
  unfold Region.ready at h
  rw [List.mem_filter, List.mem_range, Bool.and_eq_true] at h
  obtain ⟨h1, h2, h3⟩ := h
  refine ⟨h1, by simpa using h2, fun o ho e he hb => ?_⟩
  rw [ho] at h3
  simp only [Option.map_some, Option.getD_some, Array.all_eq_true_iff_forall_mem] at h3
  have := h3 e he
  rw [hb] at this
  simpa using this
theorem ready_mem {md : Region.Mode} {ops : Array Oper} {listed : Array Bool} {i : Nat} (h1 : i < ops.size) (h2 : listed.getD i true = false) (h3 : ∀ o, ops[i]? = some o → ∀ e ∈ o.after, Region.binds md e = true → listed.getD e.on false = true) :
    i ∈ Region.ready md ops listed := by
  unfold Region.ready
  rw [List.mem_filter, List.mem_range, Bool.and_eq_true]
  refine ⟨h1, by simp [h2], ?_⟩
  have ho : ops[i]? = some ops[i] := Array.getElem?_eq_getElem h1
  rw [ho]
  simp only [Option.map_some, Option.getD_some, Array.all_eq_true_iff_forall_mem]
  intro e he
  cases hb : Region.binds md e
  · rfl
  · simpa using h3 _ ho e he hb

/-- Does number i wait for number j? -/
def waitsFor (md : Region.Mode) (ops : Array Oper) (i j : Nat) : Bool := ((ops[i]?).map (·.after.any fun e => Region.binds md e && e.on == j)).getD false
/-- Each of them is there, and waits for smaller numbers alone. -/
def orderFits (md : Region.Mode) (ops : Array Oper) (pend : List Nat) : Bool := pend.all fun i => decide (i < ops.size) && ((ops[i]?).map (·.after.all fun e => !Region.binds md e || decide (e.on < i))).getD false

theorem least_unlisted (p : Nat → Bool) (l : List Nat) : (∃ i ∈ l, p i = true) → ∃ i ∈ l, p i = true ∧ ∀ j ∈ l, p j = true → i ≤ j := by
  induction l with
  | nil => rintro ⟨i, h, _⟩; cases h
  | cons a l ih =>
    rintro ⟨i, hi, hp⟩
    by_cases hl : ∃ i ∈ l, p i = true
    · obtain ⟨m, hm, hpm, hmin⟩ := ih hl
      by_cases ha : p a = true
      · by_cases hle : a ≤ m
        · exact ⟨a, List.mem_cons_self, ha, fun j hj hpj => by
            rcases List.mem_cons.1 hj with rfl | hj
            · exact Nat.le_refl _
            · exact Nat.le_trans hle (hmin j hj hpj)⟩
        · exact ⟨m, List.mem_cons_of_mem _ hm, hpm, fun j hj hpj => by
            rcases List.mem_cons.1 hj with rfl | hj
            · omega
            · exact hmin j hj hpj⟩
      · exact ⟨m, List.mem_cons_of_mem _ hm, hpm, fun j hj hpj => by
          rcases List.mem_cons.1 hj with rfl | hj
          · exact absurd hpj ha
          · exact hmin j hj hpj⟩
    · rcases List.mem_cons.1 hi with rfl | hi
      · exact ⟨i, List.mem_cons_self, hp, fun j hj hpj => by
          rcases List.mem_cons.1 hj with rfl | hj
          · exact Nat.le_refl _
          · exact absurd ⟨j, hj, hpj⟩ hl⟩
      · exact absurd ⟨i, hi, hp⟩ hl

section
variable {P : Program} {md : Region.Mode} {ops : Array Oper} {Q : Exit → Act → World → Prop} {S : World → Prop}

/-- One rule for all orders. -/
theorem any_order {T : (Nat → Value) → Array Value} {df : List Deferred} (pend : List Nat) (Φ : Nat → Value → World → Prop) (Ext : World → World → Prop)
    (hfit : orderFits md ops pend = true) (hmono : ∀ i v w w', i ∈ pend → Ext w w' → Φ i v w → Φ i v w')
    (hstep : ∀ i, i ∈ pend → ∀ x w, S w → (∀ j, waitsFor md ops i j = true → j ∈ pend → Φ j (x j) w) → ∀ K : Act → World → Prop, (∀ v w', S w' → Ext w w' → Φ i v w' → K ⟨T (upd x i v), df⟩ w') → wpOp P ops Q i K ⟨T x, df⟩ w)
    (hdone : ∀ x w, S w → (∀ i, i ∈ pend → Φ i (x i) w) → Q .normal ⟨T x, df⟩ w) :
    ∀ fuel listed x w, S w → listed.size = ops.size → (∀ i, i < ops.size → i ∉ pend → listed.getD i true = true) → (∀ i, i ∈ pend → listed.getD i true = true → Φ i (x i) w) → (pend.filter (fun i => !listed.getD i true)).length ≤ fuel →
      wpAnyH P md ops Q S fuel listed ⟨T x, df⟩ w := by
  have hfit2 : ∀ i ∈ pend, i < ops.size ∧ ∀ o, ops[i]? = some o → ∀ e ∈ o.after, Region.binds md e = true → e.on < i := by
    intro i hi
    have := (List.all_eq_true.1 hfit) i hi
    rw [Bool.and_eq_true] at this
    refine ⟨of_decide_eq_true this.1, fun o ho e he hb => ?_⟩
    have h2 := this.2
    rw [ho] at h2
    simp only [Option.map_some, Option.getD_some, Array.all_eq_true_iff_forall_mem] at h2
    have h3 := h2 e he
    rw [hb] at h3
    simpa using h3
  have hgetD : ∀ (listed : Array Bool) j, listed.size = ops.size → j < ops.size → listed.getD j false = listed.getD j true := by
    intro listed j hs hj
    simp [Array.getD, hs, hj]
  intro fuel
  induction fuel with
  | zero =>
    intro listed x w hS hsz hout hin hle
    have h0 : pend.filter (fun i => !listed.getD i true) = [] := List.eq_nil_of_length_eq_zero (by omega)
    have hall : ∀ i ∈ pend, listed.getD i true = true := by
      intro i hi
      have := (List.filter_eq_nil_iff.1 h0) i hi
      simpa using this
    refine wpAnyH_done ?_ (hdone x w hS fun i hi => hin i hi (hall i hi)) _
    refine List.eq_nil_iff_forall_not_mem.2 fun i hi => ?_
    obtain ⟨h1, h2, _⟩ := mem_ready hi
    by_cases hp : i ∈ pend
    · rw [hall i hp] at h2; cases h2
    · rw [hout i h1 hp] at h2; cases h2
  | succ fuel ih =>
    intro listed x w hS hsz hout hin hle
    refine ⟨fun hr => ?_, fun i hi => ?_⟩
    · refine hdone x w hS fun i hi => hin i hi ?_
      cases hl : listed.getD i true
      · obtain ⟨m, hm, hpm, hmin⟩ := least_unlisted (fun i => !listed.getD i true) pend ⟨i, hi, by simp [hl]⟩
        have hrm : m ∈ Region.ready md ops listed := by
          refine ready_mem (hfit2 m hm).1 (by simpa using hpm) fun o ho e he hb => ?_
          have hlt := (hfit2 m hm).2 o ho e he hb
          have hem : e.on < ops.size := Nat.lt_trans hlt (hfit2 m hm).1
          rw [hgetD listed _ hsz hem]
          by_cases hp : e.on ∈ pend
          · cases hv : listed.getD e.on true
            · have := hmin e.on hp (by simp [hv]); omega
            · rfl
          · exact hout _ hem hp
        rw [hr] at hrm
        cases hrm
      · rfl
    · obtain ⟨h1, h2, h3⟩ := mem_ready hi
      have hp : i ∈ pend := by
        by_cases hp : i ∈ pend
        · exact hp
        · rw [hout i h1 hp] at h2; cases h2
      have hset : ∀ j, j ≠ i → (listed.setIfInBounds i true).getD j true = listed.getD j true := by
        intro j hj
        rw [Array.getD_eq_getD_getElem?, Array.getD_eq_getD_getElem?, Array.getElem?_setIfInBounds_ne (fun h => hj h.symm)]
      have hself : (listed.setIfInBounds i true).getD i true = true := by
        rw [Array.getD_eq_getD_getElem?, Array.getElem?_setIfInBounds_self_of_lt (by omega)]; rfl
      refine hstep i hp x w hS ?_ _ ?_
      · intro j hw hj
        unfold waitsFor at hw
        rw [Array.getElem?_eq_getElem h1] at hw
        simp only [Option.map_some, Option.getD_some] at hw
        obtain ⟨k, hk, hb⟩ := Array.any_eq_true.1 hw
        have he := Array.getElem_mem hk
        generalize (ops[i].after[k]) = e at hb he
        rw [Bool.and_eq_true, beq_iff_eq] at hb
        obtain ⟨hb, rfl⟩ := hb
        have := h3 _ (Array.getElem?_eq_getElem h1) e he hb
        rw [hgetD listed _ hsz (hfit2 _ hj).1] at this
        exact hin _ hj this
      · intro v w' hS' hE hv
        refine ⟨hS', ih _ _ _ hS' (by simp [hsz]) ?_ ?_ ?_⟩
        · intro j hj hjp
          have hne : j ≠ i := fun h => hjp (h ▸ hp)
          rw [hset j hne]
          exact hout j hj hjp
        · intro j hj hl
          by_cases hji : j = i
          · subst hji
            rw [upd_self]
            exact hv
          · rw [upd_ne _ _ _ _ hji]
            rw [hset j hji] at hl
            exact hmono j _ w w' hj hE (hin j hj hl)
        · have hlt : (pend.filter (fun j => !(listed.setIfInBounds i true).getD j true)).length < (pend.filter (fun j => !listed.getD j true)).length := by
            have e : pend.filter (fun j => !(listed.setIfInBounds i true).getD j true) = (pend.filter (fun j => !listed.getD j true)).filter (fun j => !(listed.setIfInBounds i true).getD j true) := by
              rw [List.filter_filter]
              refine List.filter_congr fun j _ => ?_
              by_cases hji : j = i
              · subst hji
                rw [hself]; rfl
              · rw [hset j hji, Bool.and_self]
            rw [e]
            refine List.length_filter_lt_length_iff_exists.2 ⟨i, List.mem_filter.2 ⟨hp, by simp [h2]⟩, by rw [hself]; simp⟩
          omega
/-- The same, begun where none of them has come up and all others have. -/
def orderBegins (ops : Array Oper) (pend : List Nat) (listed : Array Bool) (fuel : Nat) : Bool :=
  decide (listed.size = ops.size) && ((List.range ops.size).all (fun i => pend.contains i || listed.getD i true) && (pend.all (fun i => !listed.getD i true) && decide ((pend.filter (fun i => !listed.getD i true)).length ≤ fuel)))
theorem any_order0 {T : (Nat → Value) → Array Value} {df : List Deferred} (pend : List Nat) (Φ : Nat → Value → World → Prop) (Ext : World → World → Prop) {fuel : Nat} {listed : Array Bool} {w : World} (x : Nat → Value)
    (hfit : orderFits md ops pend = true) (hbeg : orderBegins ops pend listed fuel = true) (hmono : ∀ i v w w', i ∈ pend → Ext w w' → Φ i v w → Φ i v w') (hS : S w)
    (hstep : ∀ i, i ∈ pend → ∀ x w, S w → (∀ j, waitsFor md ops i j = true → j ∈ pend → Φ j (x j) w) → ∀ K : Act → World → Prop, (∀ v w', S w' → Ext w w' → Φ i v w' → K ⟨T (upd x i v), df⟩ w') → wpOp P ops Q i K ⟨T x, df⟩ w)
    (hdone : ∀ x w, S w → (∀ i, i ∈ pend → Φ i (x i) w) → Q .normal ⟨T x, df⟩ w) : wpAnyH P md ops Q S fuel listed ⟨T x, df⟩ w := by
  unfold orderBegins at hbeg
  rw [Bool.and_eq_true, Bool.and_eq_true, Bool.and_eq_true] at hbeg
  obtain ⟨h1, h2, h3, h4⟩ := hbeg
  refine any_order pend Φ Ext hfit hmono hstep hdone fuel listed x w hS (of_decide_eq_true h1) (fun i hi hp => ?_) (fun i hi hl => ?_) (of_decide_eq_true h4)
  · have := (List.all_eq_true.1 h2) i (List.mem_range.2 hi)
    rw [Bool.or_eq_true] at this
    rcases this with h | h
    · exact absurd (List.contains_iff_mem.1 h) hp
    · exact h
  · have := (List.all_eq_true.1 h3) i hi
    rw [hl] at this
    cases this
/-- One operation, run. -/
theorem op_one {d : Nat} {op : Op} {ty : TypeId} {pos : String} {af : Array Edge} {a : Act} {w : World} {K : Act → World → Prop} (i : Nat)
    (hi : ops[i]? = some ⟨some d, op, ty, pos, af, none⟩) (h : Oper.wp P ⟨some d, op, ty, pos, af, none⟩ a w K Q) : wpOp P ops Q i K a w := by
  unfold wpOp
  rw [hi]
  simp only
  rw [if_pos (by simp [Region.wanted])]
  exact .inl h
/-- One operation that yields a value. -/
theorem op_value {T : (Nat → Value) → Array Value} {df : List Deferred} {d : Nat} {op : Op} {ty : TypeId} {pos : String} {af : Array Edge} {x : Nat → Value} {w : World} {K : Act → World → Prop} (i : Nat) (v : Value) (w' : World)
    (hi : ops[i]? = some ⟨some d, op, ty, pos, af, none⟩) (hrun : (execOp (Act.eval ⟨T x, df⟩) ⟨some d, op, ty, pos, af, none⟩).run P w = .ok (.value v) w') (hT : (T x).setIfInBounds d v = T (upd x i v))
    (hK : K ⟨T (upd x i v), df⟩ w') : wpOp P ops Q i K ⟨T x, df⟩ w := by
  refine op_one i hi ?_
  unfold Oper.wp
  rw [hrun]
  show K ⟨(T x).setIfInBounds d v, df⟩ w'
  rw [hT]
  exact hK
end
end Go.Proofs.Ytemocbcibnccpaa
