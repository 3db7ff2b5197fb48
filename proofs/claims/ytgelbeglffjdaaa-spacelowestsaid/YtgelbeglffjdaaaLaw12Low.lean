/- SpaceLowest: what is drawn is the lowest run that is left; it can be taken alike. -/
import Derived.Test.YtgelbeglffjdaaaRun12
namespace Go.Proofs.Ytgelbeglffjdaaa
open Go Go.RowKit Go.Shelf
attribute [local go_sem] Oper.semAt_some

/-- Two spaces, the documents' rows, and boxes, all apart. -/
structure Y12 (w : World) (p1 p2 : Nat) (t1 t2 : SpS) (ds : List (Value × List Blk)) (bs : List (Nat × TypeId × List Value)) (W : World) : Prop where
  sp : ∃ a b c d, SpM W w.heap.size p1 a b t1 ∧ SpM W w.heap.size p2 c d t2 ∧ (∀ k, OwnK p1 a b k → ¬ OwnK p2 c d k) ∧ (∀ x ∈ ds, ∀ k, x.1.ownBlock = some k → ¬ OwnK p1 a b k ∧ ¬ OwnK p2 c d k) ∧ (∀ x ∈ bs, ¬ OwnK p1 a b x.1 ∧ ¬ OwnK p2 c d x.1)
  pb : w.heap.size ≤ p1 ∧ w.heap.size ≤ p2
  ds : ∀ d ∈ ds, IsK W d.1 d.2 ∧ ∀ k, d.1.ownBlock = some k → k < W.heap.size ∧ ∀ b ∈ bs, k ≠ b.1
  bx : ∀ b ∈ bs, Bx W b.1 b.2.1 b.2.2 ∧ w.heap.size ≤ b.1
  below : Below w.heap.size w W
section
variable {w W W' : World} {p1 p2 : Nat} {t1 t2 : SpS} {ds : List (Value × List Blk)} {bs : List (Nat × TypeId × List Value)}
theorem Y12.swap (h : Y12 w p1 p2 t1 t2 ds bs W) : Y12 w p2 p1 t2 t1 ds bs W := by
  obtain ⟨a, b, c, d, h1, h2, h3, h4, h5⟩ := h.sp
  exact ⟨⟨c, d, a, b, h2, h1, fun k hk hk2 => h3 k hk2 hk, fun x hx k e => (h4 x hx k e).symm, fun x hx => (h5 x hx).symm⟩, h.pb.symm, h.ds, h.bx, h.below⟩
theorem Y12.up (h : Y12 w p1 p2 t1 t2 ds bs W) (hb : Below W.heap.size W W') : Y12 w p1 p2 t1 t2 ds bs W' := by
  obtain ⟨a, b, c, d, h1, h2, h3, h4, h5⟩ := h.sp
  exact ⟨⟨a, b, c, d, h1.up hb, h2.up hb, h3, h4, h5⟩, h.pb, fun d hd => ⟨(h.ds d hd).1.below hb, fun k e => ⟨Nat.lt_of_lt_of_le ((h.ds d hd).2 k e).1 hb.size, ((h.ds d hd).2 k e).2⟩⟩, fun b hb2 => ⟨(h.bx b hb2).1.up hb, (h.bx b hb2).2⟩, below_up h.below hb h.below.size⟩
theorem Y12.al (h : Y12 w p1 p2 t1 t2 ds bs W) (ty : TypeId) (l : List Value) : Y12 w p1 p2 t1 t2 ds ((W.heap.size, ty, l) :: bs) (W.alloc (.cells l.toArray ty)) := by
  have hb : Below W.heap.size W (W.alloc (.cells l.toArray ty)) := (Below.refl _ _).alloc (Nat.le_refl _) _
  have h' := h.up hb
  obtain ⟨a, b, c, d, h1, h2, h3, h4, h5⟩ := h.sp
  refine ⟨⟨a, b, c, d, h1.up hb, h2.up hb, h3, h4, fun x hx => ?_⟩, h.pb, fun d hd => ⟨(h'.ds d hd).1, fun k e => ⟨((h'.ds d hd).2 k e).1, fun b hb2 => ?_⟩⟩, fun b hb2 => ?_, h'.below⟩
  · rcases List.mem_cons.1 hx with rfl | hx
    · exact ⟨fun hk => absurd (h1.low hk) (Nat.lt_irrefl _), fun hk => absurd (h2.low hk) (Nat.lt_irrefl _)⟩
    · exact h5 x hx
  · rcases List.mem_cons.1 hb2 with rfl | hb2
    · exact fun e2 => by have := ((h.ds d hd).2 k e).1; rw [e2] at this; exact absurd this (Nat.lt_irrefl _)
    · exact ((h.ds d hd).2 k e).2 b hb2
  · rcases List.mem_cons.1 hb2 with rfl | hb2
    · exact ⟨Bx.new W ty l, h.below.size⟩
    · exact h'.bx b hb2
theorem Y12.to (h : Y12 w p1 p2 t1 t2 ds bs W) : ∃ a b, SpM W w.heap.size p1 a b t1 ∧ ∀ W' t', SpTo W W' w.heap.size p1 a b t' → Y12 w p1 p2 t' t2 ds bs W' := by
  obtain ⟨a, b, c, d, h1, h2, h3, h4, h5⟩ := h.sp
  refine ⟨a, b, h1, fun W' t' hs => ?_⟩
  obtain ⟨⟨a', b', k1, k2⟩, k3⟩ := hs
  refine ⟨⟨a', b', c, d, k1, h2.kpO k3 (fun k hk ho => h3 k ho hk), fun k hk hk2 => ?_, fun x hx k e => ⟨fun hk => ?_, (h4 x hx k e).2⟩, fun x hx => ⟨fun hk => ?_, (h5 x hx).2⟩⟩, h.pb, fun d hd => ⟨IsC.kpO (h.ds d hd).1 k3 (fun k e => (h4 d hd k e).1), fun k e => ⟨Nat.lt_of_lt_of_le ((h.ds d hd).2 k e).1 k3.size, ((h.ds d hd).2 k e).2⟩⟩,
    fun x hx => ⟨(h.bx x hx).1.kp k3 (h5 x hx).1, (h.bx x hx).2⟩, h.below.trans (k3.base (h1.base h.pb.1) h.below.size)⟩
  · rcases k2 k hk with h7 | h7
    · exact h3 k h7 hk2
    · have := h2.low hk2; omega
  · rcases k2 k hk with h7 | h7
    · exact (h4 x hx k e).1 h7
    · have := ((h.ds x hx).2 k e).1; omega
  · rcases k2 _ hk with h7 | h7
    · exact (h5 x hx).1 h7
    · have := (h.bx x hx).1.lt; omega
theorem Y12.do (h : Y12 w p1 p2 t1 t2 ds bs W) {vl : Value} {u : SpS} (hd : (vl, u.l) ∈ ds) : ∃ a b, SpM W w.heap.size p1 a b t1 ∧ IsK W vl u.l ∧ (∀ k, vl.ownBlock = some k → ¬ OwnK p1 a b k ∧ k < W.heap.size) ∧
    ∀ W' t' u' v', DoTo W W' w.heap.size p1 a b vl t' u' v' → Y12 w p1 p2 t' t2 ((v', u'.l) :: ds) bs W' := by
  obtain ⟨a, b, c, d, h1, h2, h3, h4, h5⟩ := h.sp
  refine ⟨a, b, h1, (h.ds _ hd).1, fun k e => ⟨(h4 _ hd k e).1, ((h.ds _ hd).2 k e).1⟩, fun W' t' u' v' hs => ?_⟩
  obtain ⟨⟨a', b', k1, k2, k6⟩, k3, k8, k9⟩ := hs
  have hv : ∀ k, v'.ownBlock = some k → (k < W'.heap.size ∧ ∀ x ∈ bs, k ≠ x.1) ∧ ¬ OwnK p2 c d k := fun k e => by
    rcases k9 with k9 | k9
    · have e2 : vl.ownBlock = some k := by rw [← k9]; exact e
      exact ⟨⟨Nat.lt_of_lt_of_le ((h.ds _ hd).2 k e2).1 k3.size, ((h.ds _ hd).2 k e2).2⟩, (h4 _ hd k e2).2⟩
    · exact ⟨⟨(k9 k e).2, fun x hx e2 => by have := (h.bx x hx).1.lt; have := (k9 k e).1; omega⟩, fun hk => by have := h2.low hk; have := (k9 k e).1; omega⟩
  refine ⟨⟨a', b', c, d, k1, h2.kpO k3 (fun k hk ho => h3 k ho hk), fun k hk hk2 => ?_, fun x hx k e => ?_, fun x hx => ⟨fun hk => ?_, (h5 x hx).2⟩⟩, h.pb, fun x hx => ?_,
    fun x hx => ⟨(h.bx x hx).1.kp k3 (h5 x hx).1, (h.bx x hx).2⟩, h.below.trans (k3.base (h1.base h.pb.1) h.below.size)⟩
  · rcases k2 k hk with h7 | h7
    · exact h3 k h7 hk2
    · have := h2.low hk2; omega
  · rcases List.mem_cons.1 hx with rfl | hx
    · exact ⟨k6 k e, (hv k e).2⟩
    · refine ⟨fun hk => ?_, (h4 x hx k e).2⟩
      rcases k2 k hk with h7 | h7
      · exact (h4 x hx k e).1 h7
      · have := ((h.ds x hx).2 k e).1; omega
  · rcases k2 _ hk with h7 | h7
    · exact (h5 x hx).1 h7
    · have := (h.bx x hx).1.lt; omega
  · rcases List.mem_cons.1 hx with rfl | hx
    · exact ⟨k8, fun k e => (hv k e).1⟩
    · exact ⟨IsC.kpO (h.ds x hx).1 k3 (fun k e => (h4 x hx k e).1), fun k e => ⟨Nat.lt_of_lt_of_le ((h.ds x hx).2 k e).1 k3.size, ((h.ds x hx).2 k e).2⟩⟩
theorem Y12.put (h : Y12 w p1 p2 t1 t2 ds bs W) {g : Nat} {ty : TypeId} {l : List Value} (hm : (g, ty, l) ∈ bs) (m : List Value) {bs' : List (Nat × TypeId × List Value)} (hs : ∀ b ∈ bs', b ∈ bs ∧ b.1 ≠ g) : Y12 w p1 p2 t1 t2 ds ((g, ty, m) :: bs') (W.setRow g m.toArray) := by
  obtain ⟨a, b, c, d, h1, h2, h3, h4, h5⟩ := h.sp
  have hk : KpO (fun k => k = g) W (W.setRow g m.toArray) := kp_row W g _ rfl
  have hbg := h.bx _ hm
  have hg5 := h5 _ hm
  refine ⟨⟨a, b, c, d, h1.kpO hk (fun k hk e => hg5.1 (by rw [← e]; exact hk)), h2.kpO hk (fun k hk e => hg5.2 (by rw [← e]; exact hk)), h3, h4, fun x hx => ?_⟩, h.pb, fun d hd => ⟨IsC.kpO (h.ds d hd).1 hk (fun k e e2 => ((h.ds d hd).2 k e).2 _ hm e2), fun k e => ⟨Nat.lt_of_lt_of_le ((h.ds d hd).2 k e).1 hk.size, fun b hb => ?_⟩⟩, fun b hb => ?_,
    below_row h.below hbg.2 _⟩
  · rcases List.mem_cons.1 hx with rfl | hx
    · exact ⟨fun hk => hg5.1 hk, fun hk => hg5.2 hk⟩
    · exact h5 x (hs x hx).1
  · rcases List.mem_cons.1 hb with rfl | hb
    · exact fun e2 => ((h.ds d hd).2 k e).2 (g, ty, l) hm e2
    · exact ((h.ds d hd).2 k e).2 b (hs b hb).1
  · rcases List.mem_cons.1 hb with rfl | hb
    · exact ⟨hbg.1.row m, hbg.2⟩
    · exact ⟨(h.bx b (hs b hb).1).1.rowOther (hs b hb).2 _, (h.bx b (hs b hb).1).2⟩
theorem Y12.less (h : Y12 w p1 p2 t1 t2 ds bs W) {ds' : List (Value × List Blk)} {bs' : List (Nat × TypeId × List Value)} (h1 : ∀ d ∈ ds', d ∈ ds) (h2 : ∀ b ∈ bs', b ∈ bs) : Y12 w p1 p2 t1 t2 ds' bs' W := by
  obtain ⟨a, b, c, d, k1, k2, k3, k4, k5⟩ := h.sp
  exact ⟨⟨a, b, c, d, k1, k2, k3, fun d hd => k4 d (h1 d hd), fun b hb => k5 b (h2 b hb)⟩, h.pb, fun d hd => ⟨(h.ds d (h1 d hd)).1, fun k e => ⟨((h.ds d (h1 d hd)).2 k e).1, fun b hb => ((h.ds d (h1 d hd)).2 k e).2 b (h2 b hb)⟩⟩, fun b hb => h.bx b (h2 b hb), h.below⟩
theorem Y12.isK (h : Y12 w p1 p2 t1 t2 ds bs W) {v : Value} {l : List Blk} (hd : (v, l) ∈ ds) : IsK W v l := (h.ds _ hd).1
theorem Y12.wf (h : Y12 w p1 p2 t1 t2 ds bs W) : WF t1 ∧ WF t2 := by
  obtain ⟨a, b, c, d, k1, k2, _⟩ := h.sp
  exact ⟨k1.wf, k2.wf⟩
theorem Y12.held (h : Y12 w p1 p2 t1 t2 ds bs W) {gw : Nat} {u : SpS} {vl : Value} (hm : (gw, 31, rqR u vl) ∈ bs) {sb so n c : Nat} {l : List StpS} (hI : IsC stR 6 w (.slice (some ⟨sb, so, none⟩) n c) l) {i : Nat} {x : StpS} (hx : l[i]? = some x) : HeldRu gw sb (so + i * 6) u vl x W :=
  ⟨rangeAll (h.bx _ hm).1, IsT.range (hI.below h.below) i x hx⟩
theorem y12_do (h : Y12 w p1 p2 t1 t2 ds bs W) {vl : Value} {u : SpS} (hd : (vl, u.l) ∈ ds) (x : StpS) (hl : t1.l.length ≤ 900) (hlu : u.l.length ≤ 900) (hwu : WF u) :
    Calls Try.prog 12 #[.pointer (some ⟨p1, 0, none⟩), rqV u vl, stV x] W fun e W' => ∃ v' b, e = .returned (.tuple #[rqV (u.step x) v', .bool b]) ∧ Y12 w p1 p2 (t1.step x) t2 ((v', (u.step x).l) :: ds) bs W' := by
  obtain ⟨a, b, hM, hik, hap, hT⟩ := h.do hd
  refine (do_any x W hM hl hwu (by omega) hik hap).mono ?_
  rintro e W' ⟨v', b, rfl, _, hdo⟩
  exact ⟨v', b, rfl, hT _ _ _ _ hdo⟩
end
/-- Behind two News, and the boxes of two documents. -/
theorem y12_start {w w1 w2 w3 : World} (hw : Below w.heap.size w w1) (m2 : SpM w2 w1.heap.size w1.heap.size (.slice none 0 0) (.slice none 0 0) newT) (b2 : Below w1.heap.size w1 w2) (m3 : SpM w3 w2.heap.size w2.heap.size (.slice none 0 0) (.slice none 0 0) newT) (b3 : Below w2.heap.size w2 w3) :
    Y12 w w1.heap.size w2.heap.size newT newT [(.slice none 0 0, newT.l)] [((w3.alloc (.cells #[.int .i64 0, .int .i64 0, .int .i64 0, .int .i64 0, .int .i64 0, .int .i64 0, .slice none 0 0] 31)).heap.size, 31, (rqR newT (.slice none 0 0))), (w3.heap.size, 31, (rqR newT (.slice none 0 0)))] ((w3.alloc (.cells #[.int .i64 0, .int .i64 0, .int .i64 0, .int .i64 0, .int .i64 0, .int .i64 0, .slice none 0 0] 31)).alloc (.cells #[.int .i64 0, .int .i64 0, .int .i64 0, .int .i64 0, .int .i64 0, .int .i64 0, .slice none 0 0] 31)) ∧ w3.heap.size ≠ (w3.alloc (.cells #[.int .i64 0, .int .i64 0, .int .i64 0, .int .i64 0, .int .i64 0, .int .i64 0, .slice none 0 0] 31)).heap.size := by
  have ho : ∀ p k, OwnK p (.slice none 0 0) (.slice none 0 0) k → k = p := fun p k hk => by
    rcases hk with hk | hk | hk
    · exact hk
    · cases hk
    · cases hk
  have hlt := m2.bx.lt
  have hb12 := b2.size
  have h0 : Y12 w w1.heap.size w2.heap.size newT newT [(.slice none 0 0, newT.l)] [] w3 := by
    refine ⟨⟨_, _, _, _, (m2.less hw.size).up b3, m3.less (Nat.le_trans hw.size hb12), fun k h1 h2 => ?_, fun x hx k e => ?_, fun x hx => (by cases hx)⟩, ⟨hw.size, Nat.le_trans hw.size hb12⟩, fun d hd => ?_, fun b hb => (by cases hb), below_up (below_up hw b2 hw.size) b3 (Nat.le_trans hw.size hb12)⟩
    · have e1 := ho _ _ h1
      have e2 := ho _ _ h2
      omega
    · rcases List.mem_cons.1 hx with rfl | hx
      · cases e
      · cases hx
    · rcases List.mem_cons.1 hd with rfl | hd
      · exact ⟨IsC.nil _, fun k e => (by cases e)⟩
      · cases hd
  exact ⟨(h0.al 31 (rqR newT (.slice none 0 0))).al 31 (rqR newT (.slice none 0 0)), by simp⟩
/-- What becomes of the lowest run. -/
theorem low_ways {t : SpS} (h : WF t) {o k n : Int} (ho : ¬ o < 1) (hn : ¬ n < 1) (hk : k = 0 ∨ k = 1 ∨ k = 2) :
    (∃ c, t.draw o k n = (t, ⟨0, 0⟩, c) ∧ c ≠ 0 ∧ firstS n (normS (t.left k)) = none) ∨ ∃ x, firstS n (normS (t.left k)) = some x ∧ t.draw o k n = (t.put ⟨x, o, k⟩, x, 0) ∧ t.take o x = (t.put ⟨x, o, k⟩, 0) := by
  by_cases hc : 0 < k ∧ (t.ar k).f = 0
  · refine .inl ⟨31, ?_, by decide, ?_⟩
    · unfold SpS.draw
      rw [if_neg (by omega), if_pos hc]
    · have hg : t.gone k = true := by
        unfold SpS.gone
        rw [decide_eq_true hc.1, decide_eq_true hc.2]
        simp
      have : t.left k = [] := by unfold SpS.left; rw [if_pos hg]
      rw [this]
      rfl
  · have hd := draw_run (t := t) (o := o) (k := k) (n := n) (by omega) hc
    cases hf : firstS n (normS (t.left k)) with
    | none =>
      rw [hf] at hd
      exact .inl ⟨43, hd, by decide, rfl⟩
    | some x =>
      rw [hf] at hd
      exact .inr ⟨x, rfl, hd, take_left h (by omega) hk (first_has hf)⟩
section
variable {P : Program} {md : Region.Mode} {ops : Array Oper} {Q : Exit → Act → World → Prop} {S : World → Prop} {k : Nat}
theorem late_two {o o' : Oper} {fuel : Nat} {L : Array Bool} {a : Act} {w : World} (i j : Nat) (hi : ops[i]? = some o) (hj : ops[j]? = some o') (hr : Region.ready md ops L = [i, j]) (hw : Region.wanted o (yielded ops a.tmps) = true) (hw' : Region.wanted o' (yielded ops a.tmps) = true)
    (h : ∀ K : Act → World → Prop, Shut (∀ a w, ((L.setIfInBounds i true).getD k false = true ∨ S w) → (((L.setIfInBounds i true).getD k false = true ∨ S w) → wpAnyK P md ops Q S k fuel (L.setIfInBounds i true) a w) → K a w) → Oper.wp P o a w K Q)
    (h' : ∀ K : Act → World → Prop, Shut (∀ a w, ((L.setIfInBounds j true).getD k false = true ∨ S w) → (((L.setIfInBounds j true).getD k false = true ∨ S w) → wpAnyK P md ops Q S k fuel (L.setIfInBounds j true) a w) → K a w) → Oper.wp P o' a w K Q) :
    wpAnyK P md ops Q S k (fuel + 1) L a w := by
  refine ⟨fun h0 => (by rw [hr] at h0; cases h0), fun n hn => ?_⟩
  rw [hr] at hn
  rcases List.mem_cons.1 hn with rfl | hn
  · exact wpOp_step hi (fun K' hK => by rw [if_pos hw]; exact h K' (fun a w hS hW => hK a w ⟨hS, hW hS⟩))
  · rw [List.mem_singleton] at hn
    subst hn
    exact wpOp_step hj (fun K' hK => by rw [if_pos hw']; exact h' K' (fun a w hS hW => hK a w ⟨hS, hW hS⟩))
end
def HeldLo (g15 g17 ga gb : Nat) (x y : Spn) (t : SpS) (va vb : Value) (W : World) : Prop := W.rangeAt g15 0 (sR x) ∧ W.rangeAt g17 0 (sR y) ∧ W.rangeAt ga 0 (rqR t va) ∧ W.rangeAt gb 0 (rqR t vb)
theorem exec_eql_bb {ρ : Operand → Value} {o : Oper} {W : World} (x y : Operand) (ty : TypeId) (ho : o.op = .binOp .eql 4 x y ty) (b : Bool) (hx : ρ x = .bool b) (hy : ρ y = .bool b) :
    (execOp ρ o).run Try.prog W = .ok (.value (.bool true)) W := by
  unfold execOp
  simp only [ho, hx, hy]
  cases b <;> go_simp
set_option maxRecDepth 100000 in
set_option maxHeartbeats 8000000 in
theorem low12_walk (a : Option Addr) (n0 c : Nat) (l : List StpS) (sz ar : Int) (w : World) (h : IsC stR 6 w (.slice a n0 c) l) (hs1 : 0 ≤ sz) (_ : sz ≤ 255) (hr1 : 0 ≤ ar) (_ : ar ≤ 255) :
    Calls Try.prog 6 #[.slice a n0 c, .int .u8 sz, .int .u8 ar] w fun e w' => e = .returned (.bool true) ∧ Below w.heap.size w w' := by
  have mixed : Try.prog.follows .mixedOrders = true := by kernel_rfl
  have HA := Lib.hid (fun W => awake12 W)
  have HNW := Lib.hid (fun W => new_any W)
  obtain ⟨rfl, hcap, hcm, _⟩ := h.shape
  unfold maxLen at hcm
  have HI := Lib.hid h
  clear h
  by_cases h40 : 40 < l.length
  · have h40i : (40 : Int) < (l.length : Int) := by omega
    go_enter Try.func6, Try.ntmps6
    go_wp2_with (go_at_call 10; refine (HA.out _).mono ?_; rintro e w1 ⟨rfl, b1⟩; refine Hid.out ?_)
    refine Lib.hid ?_
    have HB := Lib.hid b1
    clear b1
    go_wp2
    go_ret
    exact ⟨rfl, HB.out⟩
  have h40i : (l.length : Int) ≤ 40 := by omega
  go_enter Try.func6, Try.ntmps6
  go_wp2_with (go_at_call 10; refine (HA.out _).mono ?_; rintro e w1 ⟨rfl, b1⟩; refine Hid.out ?_)
  refine Lib.hid ?_
  have HB1 := Lib.hid b1
  have HN1 := Lib.hid (HNW.out w1)
  clear b1
  go_wp2_with (go_at_call 11; refine HN1.out.mono ?_; rintro e w2 ⟨rfl, m2, b2⟩; refine Hid.out ?_)
  refine Lib.hid ?_
  have HN2 := Lib.hid (HNW.out w2)
  have HM2 := Lib.hid m2
  have HB2 := Lib.hid b2
  clear m2 b2
  go_wp2_with (go_at_call 11; refine HN2.out.mono ?_; rintro e w3 ⟨rfl, m3, b3⟩; refine Hid.out ?_)
  refine Lib.hid ?_
  have hst := y12_start HB1.out HM2.out HB2.out m3 b3
  have HZ0 := Lib.hid hst.1
  have HNE := Lib.hid hst.2
  obtain ⟨p1, hp1⟩ : ∃ p, p = w1.heap.size := ⟨_, rfl⟩
  obtain ⟨p2, hp2⟩ : ∃ p, p = w2.heap.size := ⟨_, rfl⟩
  rw [← hp1, ← hp2] at HZ0
  rw [← hp1, ← hp2]
  clear hp1 hp2 m3 b3 HN1 HN2 HB1 HB2 HM2 hst
  have hsz : (w3.alloc (.cells #[.int .i64 0, .int .i64 0, .int .i64 0, .int .i64 0, .int .i64 0, .int .i64 0, .slice none 0 0] 31)).heap.size = w3.heap.size + 1 := by simp
  rw [hsz] at HZ0 HNE
  obtain ⟨ga, hga⟩ : ∃ g, g = w3.heap.size := ⟨_, rfl⟩
  obtain ⟨gb, hgb⟩ : ∃ g, g = w3.heap.size + 1 := ⟨_, rfl⟩
  clear hsz
  go_wp2
  rw [← hgb, ← hga] at HZ0 HNE
  rw [← hgb, ← hga]
  clear hgb hga
  generalize (w3.alloc (.cells #[.int .i64 0, .int .i64 0, .int .i64 0, .int .i64 0, .int .i64 0, .int .i64 0, .slice none 0 0] 31)).alloc (.cells #[.int .i64 0, .int .i64 0, .int .i64 0, .int .i64 0, .int .i64 0, .int .i64 0, .slice none 0 0] 31) = w5 at *
  go_loopw [12] (fun i wr => ∃ (j : Nat) (t : SpS) (va vb : Value), j ≤ l.length ∧ i = .int .i64 (j : Int) ∧ Hid (t.l.length ≤ j) ∧ Hid (Y12 w p1 p2 t t [(va, t.l), (vb, t.l)] [(ga, 31, rqR t va), (gb, 31, rqR t vb)] wr)) (fun i _ => l.length - (intOf i).toNat)
  case atStart => exact ⟨0, newT, .slice none 0 0, .slice none 0 0, Nat.zero_le _, rfl, Lib.hid (Nat.le_refl _), Lib.hid (HZ0.out.less (fun d hd => by
    rcases List.mem_cons.1 hd with rfl | hd
    · exact .head _
    · rcases List.mem_cons.1 hd with rfl | hd
      · exact .head _
      · cases hd) (fun b hb => by
    rcases List.mem_cons.1 hb with rfl | hb
    · exact .tail _ (.head _)
    · rcases List.mem_cons.1 hb with rfl | hb
      · exact .head _
      · cases hb))⟩
  case round =>
    obtain ⟨j, t, va, vb, hj, rfl, HTJ, HZ⟩ := hrel
    by_cases hlt : j < l.length
    · have hlti : (j : Int) < (l.length : Int) := by omega
      have h0k : (0 : Int) ≤ (j : Int) := by omega
      obtain ⟨x, hx⟩ : ∃ x, l[j]? = some x := ⟨l[j], List.getElem?_eq_getElem hlt⟩
      have HX := Lib.hid hx
      obtain ⟨sb, so, rfl⟩ : ∃ sb so, a = some ⟨sb, so, none⟩ := by
        obtain ⟨_, _, _, h4⟩ := IsC.shape HI.out
        obtain ⟨b, o, e1, e2, _⟩ := h4 (by omega)
        exact ⟨b, o, e1⟩
      clear hx
      obtain ⟨T, hT⟩ : ∃ T, t.step x = T := ⟨_, rfl⟩
      have HT := Lib.hid hT
      have HTL := Lib.hid (show T.l.length ≤ j + 1 by have := step_len t x; have := HTJ.out; rw [hT] at *; omega)
      clear hT
      go_wp2
      have HZD1 := Lib.hid ((HZ.out.up (Below.refl _ _).drew))
      have hH1 := HZD1.out.held (u := t) (gw := ga) (vl := va) (.head _) HI.out HX.out
      refine wp_region_noPanic ?_
      refine wp_region_late (HeldRu ga sb (so + j * 6) t va x) 10 (by kernel_rfl) hH1 (fun hHeld1 => ?_)
      generalize wr.drew = wd1 at *
      refine late_take (v := ?v1x0) 0 [10, 0] rfl (by kernel_rfl) (by kernel_rfl) (by kernel_rfl) (fun _ _ _ h => h) (by kernel_rfl) (by kernel_rfl) (by decide) (by kernel_rfl) rfl rfl (by rfl) ?y1x0 (by assumption) ?_
      case y1x0 => (intro w hSw; unfold HeldRu at hSw; go_simp; (try with_reducible rfl); (try omega))
      simp only [List.setIfInBounds_toArray, List.set_cons_zero, List.set_cons_succ]
      refine late_take (v := rqV t va) 1 [10, 1] rfl (by kernel_rfl) (by kernel_rfl) (by kernel_rfl) (fun _ _ _ h => h) (by kernel_rfl) (by kernel_rfl) (by decide) (by kernel_rfl) rfl rfl (by rfl) (fun W hSw => exec_load_any _ (.tmp 10) rfl ga 0 (rqR t va) _ rfl hSw.1 Try.underlying31 rfl refs_info) (by assumption) ?_
      simp only [List.setIfInBounds_toArray, List.set_cons_zero, List.set_cons_succ]
      refine late_take (v := ?v1x2) 2 [10, 2] rfl (by kernel_rfl) (by kernel_rfl) (by kernel_rfl) (fun _ _ _ h => h) (by kernel_rfl) (by kernel_rfl) (by decide) (by kernel_rfl) rfl rfl (by rfl) ?y1x2 (by assumption) ?_
      case y1x2 => (intro w hSw; unfold HeldRu at hSw; go_simp; (try with_reducible rfl); (try omega))
      simp only [List.setIfInBounds_toArray, List.set_cons_zero, List.set_cons_succ]
      refine late_take (v := ?v1x3) 3 [10, 3] rfl (by kernel_rfl) (by kernel_rfl) (by kernel_rfl) (fun _ _ _ h => h) (by kernel_rfl) (by kernel_rfl) (by decide) (by kernel_rfl) rfl rfl (by rfl) ?y1x3 (by assumption) ?_
      case y1x3 => (intro w hSw; unfold HeldRu at hSw; go_simp; (try with_reducible rfl); (try omega))
      simp only [List.setIfInBounds_toArray, List.set_cons_zero, List.set_cons_succ]
      refine late_take (v := .pointer (some ⟨sb, so + j * 6, none⟩)) 4 [10, 4] rfl (by kernel_rfl) (by kernel_rfl) (by kernel_rfl) (fun _ _ _ h => h) (by kernel_rfl) (by kernel_rfl) (by decide) (by kernel_rfl) rfl rfl (by rfl) (fun W hSw => idx_st _ _ rfl sb so l.length c j rfl rfl hlt) (by assumption) ?_
      simp only [List.setIfInBounds_toArray, List.set_cons_zero, List.set_cons_succ]
      refine late_take (v := stV x) 5 [10, 5] rfl (by kernel_rfl) (by kernel_rfl) (by kernel_rfl) (fun _ _ _ h => h) (by kernel_rfl) (by kernel_rfl) (by decide) (by kernel_rfl) rfl rfl (by rfl) (fun W hSw => exec_load_any _ (.tmp 39) rfl sb (so + j * 6) (stR x) _ rfl hSw.2 Try.underlying35 rfl st_info) (by assumption) ?_
      simp only [List.setIfInBounds_toArray, List.set_cons_zero, List.set_cons_succ]
      have hdo1 := y12_do (u := t) (vl := va) HZD1.out (.head _) x (by have := HTJ.out; omega) (by have := HTJ.out; omega) HZD1.out.wf.1
      rw [HT.out] at hdo1
      refine late_one 6 rfl (by kernel_rfl) (by rfl) (fun K hK => ?_)
      go_simp
      refine hdo1.mono ?_
      rintro e wc1 ⟨vn1, bn1, rfl, z1⟩
      have hS1 := z1.held (u := t) (gw := ga) (vl := va) (.head _) HI.out HX.out
      refine hK.out _ _ (.inr hS1) (fun _ => ?_)
      (try simp only [Act.put, List.setIfInBounds_toArray, List.set_cons_zero, List.set_cons_succ])
      clear hK K hdo1 hH1
      refine late_take (v := ?v1x7) 7 [10, 7] rfl (by kernel_rfl) (by kernel_rfl) (by kernel_rfl) (fun _ _ _ h => h) (by kernel_rfl) (by kernel_rfl) (by decide) (by kernel_rfl) rfl rfl (by rfl) ?y1x7 (by assumption) ?_
      case y1x7 => (intro w hSw; unfold HeldRu at hSw; go_simp; (try with_reducible rfl); (try omega))
      simp only [List.setIfInBounds_toArray, List.set_cons_zero, List.set_cons_succ]
      refine late_take (v := ?v1x8) 8 [10, 8] rfl (by kernel_rfl) (by kernel_rfl) (by kernel_rfl) (fun _ _ _ h => h) (by kernel_rfl) (by kernel_rfl) (by decide) (by kernel_rfl) rfl rfl (by rfl) ?y1x8 (by assumption) ?_
      case y1x8 => (intro w hSw; unfold HeldRu at hSw; go_simp; (try with_reducible rfl); (try omega))
      simp only [List.setIfInBounds_toArray, List.set_cons_zero, List.set_cons_succ]
      obtain ⟨an1, cn1, hvn1, hcn1⟩ := IsK.form (z1.isK (.head _))
      subst hvn1
      have hbx1 := (z1.bx (ga, 31, rqR t va) (.head _)).1
      refine (fun (key : (?MM1 : Prop)) => ?use1) ?rest1
      case use1 =>
        refine late_two 9 10 rfl rfl (by kernel_rfl) (by rfl) (by rfl) (fun K hK => ?_) (fun K hK => ?_)
        · refine wp_of_value (v := .bool bn1) (w' := wc1) (by go_simp) ?_
          refine hK.out _ _ (.inr hS1) (fun _ => ?_)
          simp only [List.setIfInBounds_toArray, List.set_cons_zero, List.set_cons_succ]
          clear hK K
          refine late_one 10 rfl (by kernel_rfl) (by rfl) (fun K hK => ?_)
          refine wp_of_skip (exec_store_bxK _ (.tmp 10) (.tmp 42) rfl ga (rqR T (.slice an1 T.l.length cn1)) (rqR t va) rfl rfl hbx1 refs_info rfl (rqR_one _ _ rfl)) ?_
          refine hK.out _ _ (.inl (by kernel_rfl)) (fun _ => ?_)
          clear hK K
          refine late_done (by kernel_rfl) ?_ _
          refine NoPanic.normal ?_
          exact key
        · refine wp_of_skip (exec_store_bxK _ (.tmp 10) (.tmp 42) rfl ga (rqR T (.slice an1 T.l.length cn1)) (rqR t va) rfl rfl hbx1 refs_info rfl (rqR_one _ _ rfl)) ?_
          refine hK.out _ _ (.inl (by kernel_rfl)) (fun _ => ?_)
          clear hK K
          refine late_one 9 rfl (by kernel_rfl) (by rfl) (fun K hK => ?_)
          refine wp_of_value (v := .bool bn1) (w' := wc1.setRow ga (rqR T (.slice an1 T.l.length cn1)).toArray) (by go_simp) ?_
          refine hK.out _ _ (.inl (by kernel_rfl)) (fun _ => ?_)
          (try simp only [List.setIfInBounds_toArray, List.set_cons_zero, List.set_cons_succ])
          clear hK K
          refine late_done (by kernel_rfl) ?_ _
          refine NoPanic.normal ?_
          exact key
      have HZ1 := Lib.hid (z1.put (g := ga) (.head _) (rqR T (.slice an1 T.l.length cn1)) (bs' := [(gb, 31, rqR t vb)]) (fun b hb => by
        rcases List.mem_cons.1 hb with rfl | hb
        · exact ⟨.tail _ (.head _), fun (e : gb = ga) => HNE.out e.symm⟩
        · cases hb))
      clear z1 hS1 hbx1 hHeld1 hcn1
      generalize wc1.setRow ga (rqR T (.slice an1 T.l.length cn1)).toArray = w6 at *
      go_wp2
      have HZD2 := Lib.hid ((HZ1.out.up (Below.refl _ _).drew).swap)
      have hH2 := HZD2.out.held (u := t) (gw := gb) (vl := vb) (.tail _ (.head _)) HI.out HX.out
      refine wp_region_noPanic ?_
      refine wp_region_late (HeldRu gb sb (so + j * 6) t vb x) 10 (by kernel_rfl) hH2 (fun hHeld2 => ?_)
      generalize w6.drew = wd2 at *
      refine late_take (v := ?v2x0) 0 [10, 0] rfl (by kernel_rfl) (by kernel_rfl) (by kernel_rfl) (fun _ _ _ h => h) (by kernel_rfl) (by kernel_rfl) (by decide) (by kernel_rfl) rfl rfl (by rfl) ?y2x0 (by assumption) ?_
      case y2x0 => (intro w hSw; unfold HeldRu at hSw; go_simp; (try with_reducible rfl); (try omega))
      simp only [List.setIfInBounds_toArray, List.set_cons_zero, List.set_cons_succ]
      refine late_take (v := rqV t vb) 1 [10, 1] rfl (by kernel_rfl) (by kernel_rfl) (by kernel_rfl) (fun _ _ _ h => h) (by kernel_rfl) (by kernel_rfl) (by decide) (by kernel_rfl) rfl rfl (by rfl) (fun W hSw => exec_load_any _ (.tmp 11) rfl gb 0 (rqR t vb) _ rfl hSw.1 Try.underlying31 rfl refs_info) (by assumption) ?_
      simp only [List.setIfInBounds_toArray, List.set_cons_zero, List.set_cons_succ]
      refine late_take (v := ?v2x2) 2 [10, 2] rfl (by kernel_rfl) (by kernel_rfl) (by kernel_rfl) (fun _ _ _ h => h) (by kernel_rfl) (by kernel_rfl) (by decide) (by kernel_rfl) rfl rfl (by rfl) ?y2x2 (by assumption) ?_
      case y2x2 => (intro w hSw; unfold HeldRu at hSw; go_simp; (try with_reducible rfl); (try omega))
      simp only [List.setIfInBounds_toArray, List.set_cons_zero, List.set_cons_succ]
      refine late_take (v := ?v2x3) 3 [10, 3] rfl (by kernel_rfl) (by kernel_rfl) (by kernel_rfl) (fun _ _ _ h => h) (by kernel_rfl) (by kernel_rfl) (by decide) (by kernel_rfl) rfl rfl (by rfl) ?y2x3 (by assumption) ?_
      case y2x3 => (intro w hSw; unfold HeldRu at hSw; go_simp; (try with_reducible rfl); (try omega))
      simp only [List.setIfInBounds_toArray, List.set_cons_zero, List.set_cons_succ]
      refine late_take (v := .pointer (some ⟨sb, so + j * 6, none⟩)) 4 [10, 4] rfl (by kernel_rfl) (by kernel_rfl) (by kernel_rfl) (fun _ _ _ h => h) (by kernel_rfl) (by kernel_rfl) (by decide) (by kernel_rfl) rfl rfl (by rfl) (fun W hSw => idx_st _ _ rfl sb so l.length c j rfl rfl hlt) (by assumption) ?_
      simp only [List.setIfInBounds_toArray, List.set_cons_zero, List.set_cons_succ]
      refine late_take (v := stV x) 5 [10, 5] rfl (by kernel_rfl) (by kernel_rfl) (by kernel_rfl) (fun _ _ _ h => h) (by kernel_rfl) (by kernel_rfl) (by decide) (by kernel_rfl) rfl rfl (by rfl) (fun W hSw => exec_load_any _ (.tmp 49) rfl sb (so + j * 6) (stR x) _ rfl hSw.2 Try.underlying35 rfl st_info) (by assumption) ?_
      simp only [List.setIfInBounds_toArray, List.set_cons_zero, List.set_cons_succ]
      have hdo2 := y12_do (u := t) (vl := vb) HZD2.out (.tail _ (.tail _ (.head _))) x (by have := HTJ.out; omega) (by have := HTJ.out; omega) HZD2.out.wf.1
      rw [HT.out] at hdo2
      refine late_one 6 rfl (by kernel_rfl) (by rfl) (fun K hK => ?_)
      go_simp
      refine hdo2.mono ?_
      rintro e wc2 ⟨vn2, bn2, rfl, z2⟩
      have hS2 := z2.held (u := t) (gw := gb) (vl := vb) (.tail _ (.head _)) HI.out HX.out
      refine hK.out _ _ (.inr hS2) (fun _ => ?_)
      (try simp only [Act.put, List.setIfInBounds_toArray, List.set_cons_zero, List.set_cons_succ])
      clear hK K hdo2 hH2
      refine late_take (v := ?v2x7) 7 [10, 7] rfl (by kernel_rfl) (by kernel_rfl) (by kernel_rfl) (fun _ _ _ h => h) (by kernel_rfl) (by kernel_rfl) (by decide) (by kernel_rfl) rfl rfl (by rfl) ?y2x7 (by assumption) ?_
      case y2x7 => (intro w hSw; unfold HeldRu at hSw; go_simp; (try with_reducible rfl); (try omega))
      simp only [List.setIfInBounds_toArray, List.set_cons_zero, List.set_cons_succ]
      refine late_take (v := ?v2x8) 8 [10, 8] rfl (by kernel_rfl) (by kernel_rfl) (by kernel_rfl) (fun _ _ _ h => h) (by kernel_rfl) (by kernel_rfl) (by decide) (by kernel_rfl) rfl rfl (by rfl) ?y2x8 (by assumption) ?_
      case y2x8 => (intro w hSw; unfold HeldRu at hSw; go_simp; (try with_reducible rfl); (try omega))
      simp only [List.setIfInBounds_toArray, List.set_cons_zero, List.set_cons_succ]
      obtain ⟨an2, cn2, hvn2, hcn2⟩ := IsK.form (z2.isK (.head _))
      subst hvn2
      have hbx2 := (z2.bx (gb, 31, rqR t vb) (.tail _ (.head _))).1
      refine (fun (key : (?MM2 : Prop)) => ?use2) ?rest2
      case use2 =>
        refine late_two 9 10 rfl rfl (by kernel_rfl) (by rfl) (by rfl) (fun K hK => ?_) (fun K hK => ?_)
        · refine wp_of_value (v := .bool bn2) (w' := wc2) (by go_simp) ?_
          refine hK.out _ _ (.inr hS2) (fun _ => ?_)
          simp only [List.setIfInBounds_toArray, List.set_cons_zero, List.set_cons_succ]
          clear hK K
          refine late_one 10 rfl (by kernel_rfl) (by rfl) (fun K hK => ?_)
          refine wp_of_skip (exec_store_bxK _ (.tmp 11) (.tmp 52) rfl gb (rqR T (.slice an2 T.l.length cn2)) (rqR t vb) rfl rfl hbx2 refs_info rfl (rqR_one _ _ rfl)) ?_
          refine hK.out _ _ (.inl (by kernel_rfl)) (fun _ => ?_)
          clear hK K
          refine late_done (by kernel_rfl) ?_ _
          refine NoPanic.normal ?_
          exact key
        · refine wp_of_skip (exec_store_bxK _ (.tmp 11) (.tmp 52) rfl gb (rqR T (.slice an2 T.l.length cn2)) (rqR t vb) rfl rfl hbx2 refs_info rfl (rqR_one _ _ rfl)) ?_
          refine hK.out _ _ (.inl (by kernel_rfl)) (fun _ => ?_)
          clear hK K
          refine late_one 9 rfl (by kernel_rfl) (by rfl) (fun K hK => ?_)
          refine wp_of_value (v := .bool bn2) (w' := wc2.setRow gb (rqR T (.slice an2 T.l.length cn2)).toArray) (by go_simp) ?_
          refine hK.out _ _ (.inl (by kernel_rfl)) (fun _ => ?_)
          (try simp only [List.setIfInBounds_toArray, List.set_cons_zero, List.set_cons_succ])
          clear hK K
          refine late_done (by kernel_rfl) ?_ _
          refine NoPanic.normal ?_
          exact key
      have HZ2 := Lib.hid ((z2.put (g := gb) (.tail _ (.head _)) (rqR T (.slice an2 T.l.length cn2)) (bs' := [(ga, 31, rqR T (.slice an1 T.l.length cn1))]) (fun b hb => by
        rcases List.mem_cons.1 hb with rfl | hb
        · exact ⟨.head _, fun (e : ga = gb) => HNE.out e⟩
        · cases hb)).swap.less (ds' := [((.slice an1 T.l.length cn1 : Value), T.l), ((.slice an2 T.l.length cn2 : Value), T.l)]) (bs' := [(ga, 31, rqR T (.slice an1 T.l.length cn1)), (gb, 31, rqR T (.slice an2 T.l.length cn2))]) (fun d hd => by
        rcases List.mem_cons.1 hd with rfl | hd
        · exact .tail _ (.head _)
        · rcases List.mem_cons.1 hd with rfl | hd
          · exact .head _
          · cases hd) (fun b hb => by
        rcases List.mem_cons.1 hb with rfl | hb
        · exact .tail _ (.head _)
        · rcases List.mem_cons.1 hb with rfl | hb
          · exact .head _
          · cases hb))
      clear z2 hS2 hbx2 hHeld2 hcn2
      generalize wc2.setRow gb (rqR T (.slice an2 T.l.length cn2)).toArray = w7 at *
      go_wp2
      go_roundw
      case rel => exact ⟨j + 1, T, _, _, by omega, rfl, HTL, HZ2⟩
      case measure => simp only [intOf]; omega

    · have hlti : ¬ ((j : Int) < (l.length : Int)) := by omega
      have HL9 := Lib.hid (show t.l.length ≤ 40 by have := HTJ.out; omega)
      obtain ⟨ava, cva, hva, _⟩ := IsK.form (HZ.out.isK (.head _))
      obtain ⟨avb, cvb, hvb, _⟩ := IsK.form (HZ.out.isK (.tail _ (.head _)))
      subst hva hvb
      obtain ⟨kk, hkk⟩ : ∃ kk, ar.tmod 3 = kk := ⟨_, rfl⟩
      obtain ⟨mm, hmm⟩ : ∃ mm, sz.tmod 9 = mm := ⟨_, rfl⟩
      have hkb : kk = 0 ∨ kk = 1 ∨ kk = 2 := by rw [← hkk, Int.tmod_eq_emod_of_nonneg (by omega)]; omega
      have hmb : 0 ≤ mm ∧ mm ≤ 8 := by rw [← hmm, Int.tmod_eq_emod_of_nonneg (by omega)]; omega
      have kA : IntKind.u8.wrap (ar.tmod 3) = kk := by rw [hkk]; simp [IntKind.wrap, IntKind.bits, IntKind.signed]; omega
      have kA2 : IntKind.u8.wrap kk = kk := by simp [IntKind.wrap, IntKind.bits, IntKind.signed]; omega
      have kB : IntKind.i64.wrap kk = kk := by simp [IntKind.wrap, IntKind.bits, IntKind.signed]; omega
      have kS : IntKind.u8.wrap (sz.tmod 9) = mm := by rw [hmm]; simp [IntKind.wrap, IntKind.bits, IntKind.signed]; omega
      have kS1 : IntKind.u8.wrap mm = mm := by simp [IntKind.wrap, IntKind.bits, IntKind.signed]; omega
      have kS2 : IntKind.i64.wrap mm = mm := by simp [IntKind.wrap, IntKind.bits, IntKind.signed]; omega
      obtain ⟨nn, hnn⟩ : ∃ nn, IntKind.i64.wrap (mm + 1) = nn := ⟨_, rfl⟩
      have hnb : 1 ≤ nn := by rw [← hnn]; simp [IntKind.wrap, IntKind.bits, IntKind.signed]; omega
      have HKB := Lib.hid hkb
      have HNB := Lib.hid hnb
      obtain ⟨a1, b1, hM1, _⟩ := HZ.out.to
      have HC1 := Lib.hid (left_any kk wr hM1)
      clear hM1 hkb hmb hnb hs1 hr1
      go_wp2_with (go_at_call 21; refine HC1.out.mono ?_; rintro e w4 ⟨v4, rfl, i4, b4⟩; refine Hid.out ?_)
      refine Lib.hid ?_
      have HZ4 := Lib.hid (HZ.out.up b4)
      have hways := low_ways HZ4.out.wf.1 (o := 5) (k := kk) (n := nn) (by decide) (by have := HNB.out; omega) HKB.out
      obtain ⟨fo, hfo⟩ : ∃ fo, firstS nn (normS (t.left kk)) = fo := ⟨_, rfl⟩
      have hc4 := rfirst_any v4 _ nn w4 i4 (by have := left_length HZ4.out.wf.1 kk; have := HL9.out; omega)
      rw [hfo] at hc4 hways
      have HC4 := Lib.hid hc4
      obtain ⟨a4, c4, hv4, _⟩ := IsS.form i4
      subst hv4
      clear b4 i4 hfo hc4 HC1 kA kA2 kB kS kS1 kS2 hkk hmm HZ
      generalize (t.left kk).length = ll at *
      rcases hways with ⟨cc, hd, hc0, rfl⟩ | ⟨x, rfl, hd, htk⟩
      · rw [show fRes none = .tuple #[.agg (sR ⟨0, 0⟩).toArray, .bool false] from rfl] at HC4
        have hcb : (cc == 0) = false := beq_eq_false_iff_ne.2 hc0
        go_wp2_with (go_at_call 26; refine HC4.out.mono ?_; rintro e w5 ⟨rfl, b5⟩; refine Hid.out ?_)
        refine Lib.hid ?_
        have HZ6 := Lib.hid ((HZ4.out.up b5).al 27 (sR ⟨0, 0⟩))
        clear b5 HC4 HZ4
        go_wp2_with (refine plS rfl (exec_store_fresh _ (.tmp 15) (.tmp 67) rfl (sR ⟨0, 0⟩) _ w5.heap.size rfl rfl rfl sp_info rfl (sR_one _)) ?_; refine Hid.out ?_)
        refine Lib.hid ?_
        generalize w5.alloc (.cells (sR ⟨0, 0⟩).toArray 27) = w6 at *
        obtain ⟨a6, b6, hM6, hK6⟩ := HZ6.out.to
        have hc6 := draw_any 5 kk nn w6 hM6 (by have := HL9.out; omega)
        rw [hd] at hc6
        rw [show dRes (t, (⟨0, 0⟩ : Spn), cc).2.1 (t, (⟨0, 0⟩ : Spn), cc).2.2 = .tuple #[.agg (sR ⟨0, 0⟩).toArray, .int .i64 cc] from rfl] at hc6
        have HC6 := Lib.hid hc6
        have HK6 := Lib.hid hK6
        clear hM6 hK6 hc6 hd
        go_wp2_with (go_at_call 24; refine HC6.out.mono ?_; rintro e w7 ⟨rfl, s7⟩; refine Hid.out ?_)
        refine Lib.hid ?_
        have HZ8 := Lib.hid ((HK6.out _ _ s7).al 27 (sR ⟨0, 0⟩))
        clear s7 HC6 HK6 HZ6
        go_wp2_with (refine plS rfl (exec_store_fresh _ (.tmp 17) (.tmp 74) rfl (sR ⟨0, 0⟩) _ w7.heap.size rfl rfl rfl sp_info rfl (sR_one _)) ?_; refine Hid.out ?_)
        refine Lib.hid ?_
        generalize w7.alloc (.cells (sR ⟨0, 0⟩).toArray 27) = w8 at *
        go_wp2
        go_ret
        exact ⟨rfl, HZ8.out.below⟩
      · rw [show fRes (some x) = .tuple #[.agg (sR x).toArray, .bool true] from rfl] at HC4
        go_wp2_with (go_at_call 26; refine HC4.out.mono ?_; rintro e w5 ⟨rfl, b5⟩; refine Hid.out ?_)
        refine Lib.hid ?_
        have HZ6 := Lib.hid ((HZ4.out.up b5).al 27 (sR x))
        obtain ⟨g15, hg15⟩ : ∃ g, g = w5.heap.size := ⟨_, rfl⟩
        rw [← hg15] at HZ6
        clear b5 HC4 HZ4
        go_wp2_with (refine plS rfl (exec_store_fresh _ (.tmp 15) (.tmp 67) rfl (sR x) _ w5.heap.size rfl rfl rfl sp_info rfl (sR_one _)) ?_; refine Hid.out ?_)
        refine Lib.hid ?_
        generalize w5.alloc (.cells (sR x).toArray 27) = w6 at *
        rw [← hg15]
        clear hg15
        obtain ⟨a6, b6, hM6, hK6⟩ := HZ6.out.to
        have hc6 := draw_any 5 kk nn w6 hM6 (by have := HL9.out; omega)
        rw [hd] at hc6
        obtain ⟨T, hT⟩ : ∃ T, t.put ⟨x, 5, kk⟩ = T := ⟨_, rfl⟩
        rw [hT] at hc6 htk
        rw [show dRes (T, x, (0 : Int)).2.1 (T, x, (0 : Int)).2.2 = .tuple #[.agg (sR x).toArray, .int .i64 0] from rfl] at hc6
        have HTN := Lib.hid (show T.l.length = t.l.length + 1 by rw [← hT]; exact putB_len _ _)
        have HTK := Lib.hid htk
        have HC6 := Lib.hid hc6
        have HK6 := Lib.hid hK6
        clear hM6 hK6 hc6 hd hT htk
        go_wp2_with (go_at_call 24; refine HC6.out.mono ?_; rintro e w7 ⟨rfl, s7⟩; refine Hid.out ?_)
        refine Lib.hid ?_
        have HZ8 := Lib.hid ((HK6.out _ _ s7).al 27 (sR x))
        obtain ⟨g17, hg17⟩ : ∃ g, g = w7.heap.size := ⟨_, rfl⟩
        rw [← hg17] at HZ8
        clear s7 HC6 HK6 HZ6
        go_wp2_with (refine plS rfl (exec_store_fresh _ (.tmp 17) (.tmp 74) rfl (sR x) _ w7.heap.size rfl rfl rfl sp_info rfl (sR_one _)) ?_; refine Hid.out ?_)
        refine Lib.hid ?_
        generalize w7.alloc (.cells (sR x).toArray 27) = w8 at *
        rw [← hg17]
        clear hg17
        obtain ⟨a8, b8, hM8, hK8⟩ := HZ8.out.swap.to
        have hc8 := take_any 5 x w8 hM8 (by have := HL9.out; omega)
        rw [HTK.out] at hc8
        have hr8 := rangeAll (HZ8.out.bx _ (.head _)).1
        have HC8 := Lib.hid hc8
        have HK8 := Lib.hid hK8
        clear hM8 hK8 hc8
        go_wp2_with (first
          | (refine plV rfl (sV x) (exec_load_any 27 (.tmp 17) rfl g17 0 (sR x) _ rfl hr8 Try.underlying27 rfl sp_info) ?_)
          | (go_at_call 27; refine HC8.out.mono ?_; rintro e w9 ⟨rfl, s9⟩; refine Hid.out ?_))
        refine Lib.hid ?_
        have HZ9 := Lib.hid (HK8.out _ _ s9)
        clear s9 hr8 HC8 HK8 HZ8
        go_wp2
        have HZD := Lib.hid (HZ9.out.swap.up (Below.refl _ _).drew)
        have heldlo : ∀ W, Y12 w p1 p2 T T [((.slice ava t.l.length cva : Value), t.l), ((.slice avb t.l.length cvb : Value), t.l)] [(g17, 27, sR x), (g15, 27, sR x), (ga, 31, rqR t (.slice ava t.l.length cva)), (gb, 31, rqR t (.slice avb t.l.length cvb))] W → HeldLo g15 g17 ga gb x x t (.slice ava t.l.length cva) (.slice avb t.l.length cvb) W := fun W h =>
          ⟨rangeAll (h.bx _ (.tail _ (.head _))).1, rangeAll (h.bx _ (.head _)).1, rangeAll (h.bx _ (.tail _ (.tail _ (.head _)))).1, rangeAll (h.bx _ (.tail _ (.tail _ (.tail _ (.head _))))).1⟩
        refine wp_region_noPanic ?_
        refine wp_region_held_drew (S := HeldLo g15 g17 ga gb x x t (.slice ava t.l.length cva) (.slice avb t.l.length cvb)) (by kernel_rfl) (heldlo _ HZD.out) (fun hHeld => ?_)
        generalize w9.drew = wd at *
        refine held_take (v := ?v527) 0 rfl (by kernel_rfl) (by kernel_rfl) (by kernel_rfl) (fun _ _ _ h => h) (by rfl) ?y527 (by assumption) ?_
        case y527 => (intro w hSw; unfold HeldLo at hSw; go_simp; (try with_reducible rfl); (try omega))
        simp only [List.setIfInBounds_toArray, List.set_cons_zero, List.set_cons_succ]
        refine held_take (v := ?v530) 1 rfl (by kernel_rfl) (by kernel_rfl) (by kernel_rfl) (fun _ _ _ h => h) (by rfl) ?y530 (by assumption) ?_
        case y530 => (intro w hSw; unfold HeldLo at hSw; go_simp; (try with_reducible rfl); (try omega))
        simp only [List.setIfInBounds_toArray, List.set_cons_zero, List.set_cons_succ]
        refine held_take (v := sV x) 2 rfl (by kernel_rfl) (by kernel_rfl) (by kernel_rfl) (fun _ _ _ h => h) (by rfl) (fun W hSw => exec_load_any _ (.tmp 15) rfl g15 0 (sR x) _ rfl hSw.1 Try.underlying27 rfl sp_info) (by assumption) ?_
        simp only [List.setIfInBounds_toArray, List.set_cons_zero, List.set_cons_succ]
        refine held_take (v := sV x) 3 rfl (by kernel_rfl) (by kernel_rfl) (by kernel_rfl) (fun _ _ _ h => h) (by rfl) (fun W hSw => exec_load_any _ (.tmp 17) rfl g17 0 (sR x) _ rfl hSw.2.1 Try.underlying27 rfl sp_info) (by assumption) ?_
        simp only [List.setIfInBounds_toArray, List.set_cons_zero, List.set_cons_succ]
        refine held_take (v := .bool true) 4 rfl (by kernel_rfl) (by kernel_rfl) (by kernel_rfl) (fun _ _ _ h => h) (by rfl) (fun W hSw => (exec_eql_spn _ _ _ rfl x x rfl rfl).trans (by rw [eqSp_self])) (by assumption) ?_
        simp only [List.setIfInBounds_toArray, List.set_cons_zero, List.set_cons_succ]
        refine held_take (v := ?v539) 5 rfl (by kernel_rfl) (by kernel_rfl) (by kernel_rfl) (fun _ _ _ h => h) (by rfl) ?y539 (by assumption) ?_
        case y539 => (intro w hSw; unfold HeldLo at hSw; go_simp; (try with_reducible rfl); (try omega))
        simp only [List.setIfInBounds_toArray, List.set_cons_zero, List.set_cons_succ]
        refine held_take (v := ?v542) 6 rfl (by kernel_rfl) (by kernel_rfl) (by kernel_rfl) (fun _ _ _ h => h) (by rfl) ?y542 (by assumption) ?_
        case y542 => (intro w hSw; unfold HeldLo at hSw; go_simp; (try with_reducible rfl); (try omega))
        simp only [List.setIfInBounds_toArray, List.set_cons_zero, List.set_cons_succ]
        refine held_take (v := ?v545) 7 rfl (by kernel_rfl) (by kernel_rfl) (by kernel_rfl) (fun _ _ _ h => h) (by rfl) ?y545 (by assumption) ?_
        case y545 => (intro w hSw; unfold HeldLo at hSw; go_simp; (try with_reducible rfl); (try omega))
        simp only [List.setIfInBounds_toArray, List.set_cons_zero, List.set_cons_succ]
        refine held_take (v := .bool true) 8 rfl (by kernel_rfl) (by kernel_rfl) (by kernel_rfl) (fun _ _ _ h => h) (by rfl) (fun W hSw => (exec_eql_err _ _ _ rfl 0 0 rfl rfl)) (by assumption) ?_
        simp only [List.setIfInBounds_toArray, List.set_cons_zero, List.set_cons_succ]
        refine held_take (v := ?v550) 9 rfl (by kernel_rfl) (by kernel_rfl) (by kernel_rfl) (fun _ _ _ h => h) (by rfl) ?y550 (by assumption) ?_
        case y550 => (intro w hSw; unfold HeldLo at hSw; go_simp; (try with_reducible rfl); (try omega))
        simp only [List.setIfInBounds_toArray, List.set_cons_zero, List.set_cons_succ]
        refine held_take (v := ?v553) 10 rfl (by kernel_rfl) (by kernel_rfl) (by kernel_rfl) (fun _ _ _ h => h) (by rfl) ?y553 (by assumption) ?_
        case y553 => (intro w hSw; unfold HeldLo at hSw; go_simp; (try with_reducible rfl); (try omega))
        simp only [List.setIfInBounds_toArray, List.set_cons_zero, List.set_cons_succ]
        refine held_take (v := ?v556) 11 rfl (by kernel_rfl) (by kernel_rfl) (by kernel_rfl) (fun _ _ _ h => h) (by rfl) ?y556 (by assumption) ?_
        case y556 => (intro w hSw; unfold HeldLo at hSw; go_simp; (try with_reducible rfl); (try omega))
        simp only [List.setIfInBounds_toArray, List.set_cons_zero, List.set_cons_succ]
        refine held_take (v := rqV t (.slice ava t.l.length cva)) 12 rfl (by kernel_rfl) (by kernel_rfl) (by kernel_rfl) (fun _ _ _ h => h) (by rfl) (fun W hSw => exec_load_any _ (.tmp 10) rfl ga 0 (rqR t (.slice ava t.l.length cva)) _ rfl hSw.2.2.1 Try.underlying31 rfl refs_info) (by assumption) ?_
        simp only [List.setIfInBounds_toArray, List.set_cons_zero, List.set_cons_succ]
        refine held_take (v := ?v561) 14 rfl (by kernel_rfl) (by kernel_rfl) (by kernel_rfl) (fun _ _ _ h => h) (by rfl) ?y561 (by assumption) ?_
        case y561 => (intro w hSw; unfold HeldLo at hSw; go_simp; (try with_reducible rfl); (try omega))
        simp only [List.setIfInBounds_toArray, List.set_cons_zero, List.set_cons_succ]
        refine held_take (v := rqV t (.slice avb t.l.length cvb)) 15 rfl (by kernel_rfl) (by kernel_rfl) (by kernel_rfl) (fun _ _ _ h => h) (by rfl) (fun W hSw => exec_load_any _ (.tmp 11) rfl gb 0 (rqR t (.slice avb t.l.length cvb)) _ rfl hSw.2.2.2 Try.underlying31 rfl refs_info) (by assumption) ?_
        simp only [List.setIfInBounds_toArray, List.set_cons_zero, List.set_cons_succ]
        refine held_one 13 rfl (by kernel_rfl) (by rfl) (fun K hK => ?_)
        go_simp
        obtain ⟨aD, bD, hMD, _⟩ := HZD.out.swap.to
        refine (same_len wd hMD (u := t) (HZD.out.isK (.head _)) (by have := HTN.out; omega)).mono ?_
        rintro e wA ⟨rfl, bA⟩
        have HZA := Lib.hid (HZD.out.up bA)
        refine hK.out _ _ (heldlo _ HZA.out) (fun _ => ?_)
        (try simp only [Act.put, List.setIfInBounds_toArray, List.set_cons_zero, List.set_cons_succ])
        clear hK K bA hMD
        refine held_one 16 rfl (by kernel_rfl) (by rfl) (fun K hK => ?_)
        go_simp
        obtain ⟨aA, bA, hMA, _⟩ := HZA.out.to
        refine (same_len wA hMA (u := t) (HZA.out.isK (.tail _ (.head _))) (by have := HTN.out; omega)).mono ?_
        rintro e wB ⟨rfl, bB⟩
        have HZB := Lib.hid (HZA.out.up bB)
        refine hK.out _ _ (heldlo _ HZB.out) (fun _ => ?_)
        (try simp only [Act.put, List.setIfInBounds_toArray, List.set_cons_zero, List.set_cons_succ])
        clear hK K bB hMA
        refine held_take (v := .bool true) 17 rfl (by kernel_rfl) (by kernel_rfl) (by kernel_rfl) (fun _ _ _ h => h) (by rfl) (fun W hSw => exec_eql_bb _ _ _ rfl false rfl rfl) (by assumption) ?_
        simp only [List.setIfInBounds_toArray, List.set_cons_zero, List.set_cons_succ]
        refine held_take (v := ?v586) 18 rfl (by kernel_rfl) (by kernel_rfl) (by kernel_rfl) (fun _ _ _ h => h) (by rfl) ?y586 (by assumption) ?_
        case y586 => (intro w hSw; unfold HeldLo at hSw; go_simp; (try with_reducible rfl); (try omega))
        simp only [List.setIfInBounds_toArray, List.set_cons_zero, List.set_cons_succ]
        refine held_take (v := ?v589) 19 rfl (by kernel_rfl) (by kernel_rfl) (by kernel_rfl) (fun _ _ _ h => h) (by rfl) ?y589 (by assumption) ?_
        case y589 => (intro w hSw; unfold HeldLo at hSw; go_simp; (try with_reducible rfl); (try omega))
        simp only [List.setIfInBounds_toArray, List.set_cons_zero, List.set_cons_succ]
        refine held_take (v := ?v592) 20 rfl (by kernel_rfl) (by kernel_rfl) (by kernel_rfl) (fun _ _ _ h => h) (by rfl) ?y592 (by assumption) ?_
        case y592 => (intro w hSw; unfold HeldLo at hSw; go_simp; (try with_reducible rfl); (try omega))
        simp only [List.setIfInBounds_toArray, List.set_cons_zero, List.set_cons_succ]
        refine held_take (v := ?v595) 23 rfl (by kernel_rfl) (by kernel_rfl) (by kernel_rfl) (fun _ _ _ h => h) (by rfl) ?y595 (by assumption) ?_
        case y595 => (intro w hSw; unfold HeldLo at hSw; go_simp; (try with_reducible rfl); (try omega))
        simp only [List.setIfInBounds_toArray, List.set_cons_zero, List.set_cons_succ]
        refine held_one 21 rfl (by kernel_rfl) (by rfl) (fun K hK => ?_)
        go_simp
        obtain ⟨aB, bB, hMB, _⟩ := HZB.out.to
        refine (blocks_any wB hMB).mono ?_
        rintro e wC ⟨vC, rfl, iC, bC⟩
        obtain ⟨aC, cC, hvC, _⟩ := IsK.form iC
        subst hvC
        have HZC := Lib.hid (HZB.out.up bC)
        refine hK.out _ _ (heldlo _ HZC.out) (fun _ => ?_)
        (try simp only [Act.put, List.setIfInBounds_toArray, List.set_cons_zero, List.set_cons_succ])
        clear hK K bC iC hMB
        refine held_take (v := ?v609) 22 rfl (by kernel_rfl) (by kernel_rfl) (by kernel_rfl) (fun _ _ _ h => h) (by rfl) ?y609 (by assumption) ?_
        case y609 => (intro w hSw; unfold HeldLo at hSw; go_simp; (try with_reducible rfl); (try omega))
        simp only [List.setIfInBounds_toArray, List.set_cons_zero, List.set_cons_succ]
        refine held_one 24 rfl (by kernel_rfl) (by rfl) (fun K hK => ?_)
        go_simp
        obtain ⟨aE, bE, hME, _⟩ := HZC.out.swap.to
        refine (blocks_any wC hME).mono ?_
        rintro e wF ⟨vF, rfl, iF, bF⟩
        obtain ⟨aF, cF, hvF, _⟩ := IsK.form iF
        subst hvF
        have HZF := Lib.hid (HZC.out.up bF)
        refine hK.out _ _ (heldlo _ HZF.out) (fun _ => ?_)
        (try simp only [Act.put, List.setIfInBounds_toArray, List.set_cons_zero, List.set_cons_succ])
        clear hK K bF iF hME
        refine held_take (v := ?v623) 25 rfl (by kernel_rfl) (by kernel_rfl) (by kernel_rfl) (fun _ _ _ h => h) (by rfl) ?y623 (by assumption) ?_
        case y623 => (intro w hSw; unfold HeldLo at hSw; go_simp; (try with_reducible rfl); (try omega))
        simp only [List.setIfInBounds_toArray, List.set_cons_zero, List.set_cons_succ]
        refine held_take (v := ?v626) 26 rfl (by kernel_rfl) (by kernel_rfl) (by kernel_rfl) (fun _ _ _ h => h) (by rfl) ?y626 (by assumption) ?_
        case y626 => (intro w hSw; unfold HeldLo at hSw; go_simp; (try with_reducible rfl); (try omega))
        simp only [List.setIfInBounds_toArray, List.set_cons_zero, List.set_cons_succ]
        refine held_take (v := ?v629) 27 rfl (by kernel_rfl) (by kernel_rfl) (by kernel_rfl) (fun _ _ _ h => h) (by rfl) ?y629 (by assumption) ?_
        case y629 => (intro w hSw; unfold HeldLo at hSw; go_simp; (try with_reducible rfl); (try omega))
        simp only [List.setIfInBounds_toArray, List.set_cons_zero, List.set_cons_succ]
        refine held_take (v := ?v632) 28 rfl (by kernel_rfl) (by kernel_rfl) (by kernel_rfl) (fun _ _ _ h => h) (by rfl) ?y632 (by assumption) ?_
        case y632 => (intro w hSw; unfold HeldLo at hSw; go_simp; (try with_reducible rfl); (try omega))
        simp only [List.setIfInBounds_toArray, List.set_cons_zero, List.set_cons_succ]
        refine wpAnyH_done (by kernel_rfl) ?_ _
        refine NoPanic.normal ?_
        go_wp2
        go_ret
        exact ⟨rfl, HZF.out.below⟩
end Go.Proofs.Ytgelbeglffjdaaa
