/- Stage 12's laws: a space and the document's side by side; boxes beside them; what a step leaves. -/
import Derived.Test.YtgelbeglffjdaaaRqC
import Derived.Test.YtgelbeglffjdaaaSqS
import Derived.Test.YtgelbeglffjdaaaSqE
import Derived.Test.YtgelbeglffjdaaaRqI
namespace Go.Proofs.Ytgelbeglffjdaaa
open Go Go.RowKit Go.Shelf

/-- A step of a script. -/
structure StpS where
  q : Int
  o : Int
  k : Int
  n : Int
  s : Spn
def stR (x : StpS) : List Value := [.int .i64 x.q, .int .i64 x.o, .int .i64 x.k, .int .i64 x.n, .int .i64 x.s.f, .int .i64 x.s.l]
def stV (x : StpS) : Value := .agg (stR x).toArray
def SpS.step (t : SpS) (x : StpS) : SpS :=
  if x.q = 0 then (t.carve x.k x.s).1 else if x.q = 1 then (t.close x.k).1 else if x.q = 2 then (t.draw x.o x.k x.n).1 else if x.q = 3 then (t.take x.o x.s).1 else if x.q = 4 then (t.free x.o x.s).1 else t
theorem putB_len (b : Blk) : ∀ l : List Blk, (putB b l).length = l.length + 1
  | [] => rfl
  | x :: l => by
    unfold putB
    split
    · rw [List.length_cons, putB_len b l]; rfl
    · rfl
theorem setAr_l (t : SpS) (k : Int) (s : Spn) : (t.setAr k s).l = t.l := by
  unfold SpS.setAr
  split
  · rfl
  · split <;> rfl
theorem carve_len (t : SpS) (k : Int) (s : Spn) : (t.carve k s).1.l.length ≤ t.l.length + 1 := by
  unfold SpS.carve
  repeat' split
  all_goals first | exact Nat.le_succ _ | (simp only [setAr_l]; exact Nat.le_succ _)
theorem close_len (t : SpS) (k : Int) : (t.close k).1.l.length ≤ t.l.length + 1 := by
  unfold SpS.close
  repeat' split
  all_goals first | exact Nat.le_succ _ | (simp only [setAr_l]; exact Nat.le_succ _)
theorem draw_len (t : SpS) (o k n : Int) : (t.draw o k n).1.l.length ≤ t.l.length + 1 := by
  unfold SpS.draw
  repeat' split
  all_goals first | exact Nat.le_succ _ | exact Nat.le_of_eq (putB_len _ _)
theorem take_len (t : SpS) (o : Int) (s : Spn) : (t.take o s).1.l.length ≤ t.l.length + 1 := by
  unfold SpS.take
  repeat' split
  all_goals first | exact Nat.le_succ _ | exact Nat.le_of_eq (putB_len _ _)
theorem free_len (t : SpS) (o : Int) (s : Spn) : (t.free o s).1.l.length ≤ t.l.length + 1 := by
  unfold SpS.free
  split
  · exact Nat.le_succ _
  · rename_i l h
    exact Nat.le_trans (delB_sub h).length_le (Nat.le_succ _)
theorem step_len (t : SpS) (x : StpS) : (t.step x).l.length ≤ t.l.length + 1 := by
  unfold SpS.step
  repeat' split
  · exact carve_len _ _ _
  · exact close_len _ _
  · exact draw_len _ _ _ _
  · exact take_len _ _ _
  · exact free_len _ _ _
  · exact Nat.le_succ _
theorem WF.step {t : SpS} (h : WF t) (x : StpS) : WF (t.step x) := by
  unfold SpS.step
  repeat' split
  · exact h.carve _ _
  · exact h.close _
  · exact h.draw _ _ _
  · exact h.take _ _
  · exact h.free _ _
  · exact h
theorem SpM.kpO {W W' : World} {base pt : Nat} {vb vr : Value} {t : SpS} {O : Nat → Prop} (h : SpM W base pt vb vr t) (hk : KpO O W W') (ho : ∀ k, OwnK pt vb vr k → ¬ O k) : SpM W' base pt vb vr t :=
  ⟨h.bx.kp hk (ho _ (.inl rfl)), own_kp h.kb hk (fun k e => ho k (.inr (.inl e))), own_kp h.kr hk (fun k e => ho k (.inr (.inr e))), h.wf, h.len, Nat.le_trans h.lo hk.size⟩
/-- What a step of both leaves: the space anew; the document's blocks, apart from it. -/
structure DoTo (w w' : World) (base pt : Nat) (vb vr vl : Value) (t' u' : SpS) (v' : Value) : Prop where
  to : ∃ vb' vr', SpM w' base pt vb' vr' t' ∧ (∀ k, OwnK pt vb' vr' k → OwnK pt vb vr k ∨ w.heap.size ≤ k) ∧ (∀ k, v'.ownBlock = some k → ¬ OwnK pt vb' vr' k)
  kp : KpO (OwnK pt vb vr) w w'
  ik : IsK w' v' u'.l
  nw : NewK w w' vl v'
theorem DoTo.of {w w2 w3 w5 w6 : World} {base pt : Nat} {vb vr vl v' : Value} {t t' u' : SpS} {g : Nat} (hM : SpM w base pt vb vr t) (ha : ∀ k, vl.ownBlock = some k → ¬ OwnK pt vb vr k ∧ k < w.heap.size)
    (hb5 : Below w.heap.size w w5) (hg : w.heap.size ≤ g) (hg2 : g < w2.heap.size) (hn : NewK w2 w3 vl v') (h23 : w2.heap.size ≤ w3.heap.size) (h35 : w3.heap.size ≤ w5.heap.size) (hk : IsK w5 v' u'.l) (hs : SpTo w5 w6 base pt vb vr t') (cs : Array Value) :
    DoTo w (w6.setRow g cs) base pt vb vr vl t' u' v' := by
  have hng : ¬ OwnK pt vb vr g := fun h => by have := hM.low h; omega
  have hv : ∀ k, v'.ownBlock = some k → ¬ OwnK pt vb vr k ∧ k < w5.heap.size ∧ k ≠ g := fun k hk => by
    rcases hn with rfl | hn
    · have := ha k hk
      exact ⟨this.1, by omega, by omega⟩
    · have := hn k hk
      exact ⟨fun h => by have := hM.low h; omega, by omega, by omega⟩
  have hkg : KpO (fun k => k = g) w6 (w6.setRow g cs) := kp_row w6 g cs rfl
  have hsz := hs.kp.size
  refine ⟨?_, (SpTo.boxed hb5 hs hg (by omega) hng cs).kp, IsC.kpO (IsC.kpO hk hs.kp (fun k e => (hv k e).1)) hkg (fun k e e2 => (hv k e).2.2 e2), ?_⟩
  · obtain ⟨⟨vb', vr', h1, h2⟩, _⟩ := hs
    refine ⟨vb', vr', h1.kpO hkg (fun k hk e => ?_), fun k hk => (h2 k hk).imp id (fun h => by have := hb5.size; omega), fun k e hk => ?_⟩
    · subst e
      rcases h2 _ hk with h | h
      · exact hng h
      · omega
    · have h4 := hv k e
      rcases h2 k hk with h | h
      · exact h4.1 h
      · omega
  · rcases hn with h | hn
    · exact .inl h
    · exact .inr fun k e => by have := hn k e; have := hkg.size; omega
/-- A space, the document's rows, and boxes, all apart. -/
structure Z12 (w : World) (pt : Nat) (t : SpS) (ds : List (Value × List Blk)) (bs : List (Nat × TypeId × List Value)) (W : World) : Prop where
  sp : ∃ vb vr, SpM W w.heap.size pt vb vr t ∧ (∀ d ∈ ds, ∀ k, d.1.ownBlock = some k → ¬ OwnK pt vb vr k) ∧ (∀ b ∈ bs, ¬ OwnK pt vb vr b.1)
  pb : w.heap.size ≤ pt
  ds : ∀ d ∈ ds, IsK W d.1 d.2 ∧ ∀ k, d.1.ownBlock = some k → k < W.heap.size ∧ ∀ b ∈ bs, k ≠ b.1
  bx : ∀ b ∈ bs, Bx W b.1 b.2.1 b.2.2 ∧ w.heap.size ≤ b.1
  below : Below w.heap.size w W
section
variable {w W W' : World} {pt : Nat} {t : SpS} {ds : List (Value × List Blk)} {bs : List (Nat × TypeId × List Value)}
theorem Z12.up (h : Z12 w pt t ds bs W) (hb : Below W.heap.size W W') : Z12 w pt t ds bs W' := by
  obtain ⟨vb, vr, h1, h2, h3⟩ := h.sp
  exact ⟨⟨vb, vr, h1.up hb, h2, h3⟩, h.pb, fun d hd => ⟨(h.ds d hd).1.below hb, fun k e => ⟨Nat.lt_of_lt_of_le ((h.ds d hd).2 k e).1 hb.size, ((h.ds d hd).2 k e).2⟩⟩, fun b hb2 => ⟨(h.bx b hb2).1.up hb, (h.bx b hb2).2⟩, below_up h.below hb h.below.size⟩
theorem Z12.al (h : Z12 w pt t ds bs W) (ty : TypeId) (l : List Value) : Z12 w pt t ds ((W.heap.size, ty, l) :: bs) (W.alloc (.cells l.toArray ty)) := by
  have hb : Below W.heap.size W (W.alloc (.cells l.toArray ty)) := (Below.refl _ _).alloc (Nat.le_refl _) _
  have h' := h.up hb
  obtain ⟨vb, vr, h1, h2, h3⟩ := h.sp
  refine ⟨⟨vb, vr, h1.up hb, h2, fun b hb2 => ?_⟩, h.pb, fun d hd => ⟨(h'.ds d hd).1, fun k e => ⟨((h'.ds d hd).2 k e).1, fun b hb2 => ?_⟩⟩, fun b hb2 => ?_, h'.below⟩
  · rcases List.mem_cons.1 hb2 with rfl | hb2
    · exact fun hk => absurd (h1.low hk) (Nat.lt_irrefl _)
    · exact h3 b hb2
  · rcases List.mem_cons.1 hb2 with rfl | hb2
    · exact fun e2 => by have := ((h.ds d hd).2 k e).1; rw [e2] at this; exact absurd this (Nat.lt_irrefl _)
    · exact ((h.ds d hd).2 k e).2 b hb2
  · rcases List.mem_cons.1 hb2 with rfl | hb2
    · exact ⟨Bx.new W ty l, h.below.size⟩
    · exact h'.bx b hb2
theorem SpM.base {base pt : Nat} {vb vr : Value} (h : SpM W base pt vb vr t) (hp : base ≤ pt) : ∀ k, OwnK pt vb vr k → base ≤ k := fun k hk => by
  rcases hk with rfl | hk | hk
  · exact hp
  · exact owned_low h.kb k hk
  · exact owned_low h.kr k hk
/-- A step of the space alone. -/
theorem Z12.to (h : Z12 w pt t ds bs W) : ∃ vb vr, SpM W w.heap.size pt vb vr t ∧ ∀ W' t', SpTo W W' w.heap.size pt vb vr t' → Z12 w pt t' ds bs W' := by
  obtain ⟨vb, vr, h1, h2, h3⟩ := h.sp
  refine ⟨vb, vr, h1, fun W' t' hs => ?_⟩
  obtain ⟨⟨vb', vr', h4, h5⟩, h6⟩ := hs
  refine ⟨⟨vb', vr', h4, fun d hd k e hk => ?_, fun b hb hk => ?_⟩, h.pb, fun d hd => ⟨IsC.kpO (h.ds d hd).1 h6 (fun k e => h2 d hd k e), fun k e => ⟨Nat.lt_of_lt_of_le ((h.ds d hd).2 k e).1 h6.size, ((h.ds d hd).2 k e).2⟩⟩, fun b hb => ⟨(h.bx b hb).1.kp h6 (h3 b hb), (h.bx b hb).2⟩,
    h.below.trans (h6.base (h1.base h.pb) h.below.size)⟩
  · rcases h5 k hk with h7 | h7
    · exact h2 d hd k e h7
    · have := ((h.ds d hd).2 k e).1; omega
  · rcases h5 _ hk with h7 | h7
    · exact h3 b hb h7
    · have := (h.bx b hb).1.lt; omega
/-- A step of both. -/
theorem Z12.do (h : Z12 w pt t ds bs W) {vl : Value} {u : SpS} (hd : (vl, u.l) ∈ ds) : ∃ vb vr, SpM W w.heap.size pt vb vr t ∧ IsK W vl u.l ∧ (∀ k, vl.ownBlock = some k → ¬ OwnK pt vb vr k ∧ k < W.heap.size) ∧
    ∀ W' t' u' v', DoTo W W' w.heap.size pt vb vr vl t' u' v' → Z12 w pt t' ((v', u'.l) :: ds) bs W' := by
  obtain ⟨vb, vr, h1, h2, h3⟩ := h.sp
  refine ⟨vb, vr, h1, (h.ds _ hd).1, fun k e => ⟨h2 _ hd k e, ((h.ds _ hd).2 k e).1⟩, fun W' t' u' v' hs => ?_⟩
  obtain ⟨⟨vb', vr', h4, h5, h6⟩, h7, h8, h9⟩ := hs
  refine ⟨⟨vb', vr', h4, fun d hd k e hk => ?_, fun b hb hk => ?_⟩, h.pb, fun d hd2 => ?_, fun b hb => ⟨(h.bx b hb).1.kp h7 (h3 b hb), (h.bx b hb).2⟩, h.below.trans (h7.base (h1.base h.pb) h.below.size)⟩
  · rcases List.mem_cons.1 hd with rfl | hd
    · exact h6 k e hk
    · rcases h5 k hk with h10 | h10
      · exact h2 d hd k e h10
      · have := ((h.ds d hd).2 k e).1; omega
  · rcases h5 _ hk with h10 | h10
    · exact h3 b hb h10
    · have := (h.bx b hb).1.lt; omega
  · rcases List.mem_cons.1 hd2 with rfl | hd2
    · refine ⟨h8, fun k e => ?_⟩
      rcases h9 with h9 | h9
      · have e2 : vl.ownBlock = some k := by rw [← h9]; exact e
        exact ⟨Nat.lt_of_lt_of_le ((h.ds _ hd).2 k e2).1 h7.size, ((h.ds _ hd).2 k e2).2⟩
      · exact ⟨(h9 k e).2, fun b hb e2 => by have := (h.bx b hb).1.lt; have := (h9 k e).1; omega⟩
    · exact ⟨IsC.kpO (h.ds d hd2).1 h7 (fun k e => h2 d hd2 k e), fun k e => ⟨Nat.lt_of_lt_of_le ((h.ds d hd2).2 k e).1 h7.size, ((h.ds d hd2).2 k e).2⟩⟩
/-- A box is written. -/
theorem Z12.put (h : Z12 w pt t ds bs W) {g : Nat} {ty : TypeId} {l : List Value} (hm : (g, ty, l) ∈ bs) (m : List Value) {bs' : List (Nat × TypeId × List Value)} (hs : ∀ b ∈ bs', b ∈ bs ∧ b.1 ≠ g) : Z12 w pt t ds ((g, ty, m) :: bs') (W.setRow g m.toArray) := by
  obtain ⟨vb, vr, h1, h2, h3⟩ := h.sp
  have hk : KpO (fun k => k = g) W (W.setRow g m.toArray) := kp_row W g _ rfl
  have hbg := h.bx _ hm
  refine ⟨⟨vb, vr, h1.kpO hk (fun k hk e => h3 _ hm (by rw [← e]; exact hk)), h2, fun b hb => ?_⟩, h.pb, fun d hd => ⟨IsC.kpO (h.ds d hd).1 hk (fun k e e2 => ((h.ds d hd).2 k e).2 _ hm e2), fun k e => ⟨Nat.lt_of_lt_of_le ((h.ds d hd).2 k e).1 hk.size, fun b hb => ?_⟩⟩, fun b hb => ?_,
    below_row h.below hbg.2 _⟩
  · rcases List.mem_cons.1 hb with rfl | hb
    · exact fun hk => h3 (g, ty, l) hm hk
    · exact h3 b (hs b hb).1
  · rcases List.mem_cons.1 hb with rfl | hb
    · exact fun e2 => ((h.ds d hd).2 k e).2 (g, ty, l) hm e2
    · exact ((h.ds d hd).2 k e).2 b (hs b hb).1
  · rcases List.mem_cons.1 hb with rfl | hb
    · exact ⟨hbg.1.row m, hbg.2⟩
    · exact ⟨(h.bx b (hs b hb).1).1.rowOther (hs b hb).2 _, (h.bx b (hs b hb).1).2⟩
theorem Z12.less (h : Z12 w pt t ds bs W) {ds' : List (Value × List Blk)} {bs' : List (Nat × TypeId × List Value)} (h1 : ∀ d ∈ ds', d ∈ ds) (h2 : ∀ b ∈ bs', b ∈ bs) : Z12 w pt t ds' bs' W := by
  obtain ⟨vb, vr, h3, h4, h5⟩ := h.sp
  exact ⟨⟨vb, vr, h3, fun d hd => h4 d (h1 d hd), fun b hb => h5 b (h2 b hb)⟩, h.pb, fun d hd => ⟨(h.ds d (h1 d hd)).1, fun k e => ⟨((h.ds d (h1 d hd)).2 k e).1, fun b hb => ((h.ds d (h1 d hd)).2 k e).2 b (h2 b hb)⟩⟩, fun b hb => h.bx b (h2 b hb), h.below⟩
theorem Z12.wf (h : Z12 w pt t ds bs W) : WF t := by
  obtain ⟨vb, vr, h1, _⟩ := h.sp
  exact h1.wf
theorem Z12.isK (h : Z12 w pt t ds bs W) {v : Value} {l : List Blk} (hd : (v, l) ∈ ds) : IsK W v l := (h.ds _ hd).1
theorem Z12.box (h : Z12 w pt t ds bs W) {g : Nat} {ty : TypeId} {l : List Value} (hb : (g, ty, l) ∈ bs) : Bx W g ty l := (h.bx _ hb).1
end
/-- Behind New. -/
theorem z12_new {w W : World} {pt : Nat} (hw : Below w.heap.size w W) (h : SpM W w.heap.size pt (.slice none 0 0) (.slice none 0 0) newT) (hp : w.heap.size ≤ pt) : Z12 w pt newT [] [] W :=
  ⟨⟨_, _, h, fun d hd => (by cases hd), fun b hb => (by cases hb)⟩, hp, fun d hd => (by cases hd), fun b hb => (by cases hb), hw⟩
theorem eq_spn (a b : Spn) : eqSp a b = (a.f == b.f && a.l == b.l) := by
  unfold eqSp
  by_cases h1 : a.f = b.f <;> by_cases h2 : a.l = b.l <;> simp [h1, h2]
set_option maxRecDepth 100000 in
theorem eql_spn (a b : Spn) (W : World) (x y : Operand) : (do eqGuard .eql 27 x y (sV a) (sV b); binOp .eql 27 (sV a) (sV b) : Sem Value).run Try.prog W = .ok (.bool (eqSp a b)) W := by
  rw [eq_spn]
  obtain ⟨f, l⟩ := a
  obtain ⟨g, m⟩ := b
  unfold sV sR
  simp only
  by_cases h1 : f = g
  · subst h1
    by_cases h2 : l = m
    · subst h2; go_simp
    · have h3 : (l == m) = false := beq_eq_false_iff_ne.2 h2
      go_simp
  · have h3 : (f == g) = false := beq_eq_false_iff_ne.2 h1
    go_simp
theorem exec_eql_spn {ρ : Operand → Value} {o : Oper} {W : World} (x y : Operand) (ty : TypeId) (ho : o.op = .binOp .eql 27 x y ty) (a b : Spn) (hx : ρ x = sV a) (hy : ρ y = sV b) :
    (execOp ρ o).run Try.prog W = .ok (.value (.bool (eqSp a b))) W := by
  have := eql_spn a b W x y
  unfold execOp
  simp only [ho, hx, hy, Sem.run_bind] at this ⊢
  rw [this]
  rfl
set_option maxRecDepth 100000 in
theorem neq_spn (a b : Spn) (W : World) (x y : Operand) : (do eqGuard .neq 27 x y (sV a) (sV b); binOp .neq 27 (sV a) (sV b) : Sem Value).run Try.prog W = .ok (.bool (!eqSp a b)) W := by
  rw [eq_spn]
  obtain ⟨f, l⟩ := a
  obtain ⟨g, m⟩ := b
  unfold sV sR
  simp only
  by_cases h1 : f = g
  · subst h1
    by_cases h2 : l = m
    · subst h2; go_simp
    · have h3 : (l == m) = false := beq_eq_false_iff_ne.2 h2
      go_simp
  · have h3 : (f == g) = false := beq_eq_false_iff_ne.2 h1
    go_simp
theorem exec_neq_spn {ρ : Operand → Value} {o : Oper} {W : World} (x y : Operand) (ty : TypeId) (ho : o.op = .binOp .neq 27 x y ty) (a b : Spn) (hx : ρ x = sV a) (hy : ρ y = sV b) :
    (execOp ρ o).run Try.prog W = .ok (.value (.bool (!eqSp a b))) W := by
  have := neq_spn a b W x y
  unfold execOp
  simp only [ho, hx, hy, Sem.run_bind] at this ⊢
  rw [this]
  rfl
theorem eqSp_self (a : Spn) : eqSp a a = true := eqSp_iff.2 rfl
end Go.Proofs.Ytgelbeglffjdaaa
