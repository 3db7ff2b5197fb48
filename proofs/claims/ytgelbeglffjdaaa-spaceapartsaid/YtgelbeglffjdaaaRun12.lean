/- What stage 12's laws share: scripts, a step of both in a round. -/
import Derived.Test.YtgelbeglffjdaaaDo12
import Derived.Test.YtgelbeglffjdaaaAwS
namespace Go.Proofs.Ytgelbeglffjdaaa
open Go Go.RowKit Go.Shelf
attribute [local go_sem] Oper.semAt_some

theorem SpM.less {W : World} {base base' pt : Nat} {vb vr : Value} {t : SpS} (h : SpM W base pt vb vr t) (hb : base' ≤ base) : SpM W base' pt vb vr t := ⟨h.bx, own_mono h.kb hb, own_mono h.kr hb, h.wf, h.len, Nat.le_trans hb h.lo⟩
theorem z12_start {w w1 w2 : World} (hw : Below w.heap.size w w1) (h : SpM w2 w1.heap.size w1.heap.size (.slice none 0 0) (.slice none 0 0) newT) (hb : Below w1.heap.size w1 w2) : Z12 w w1.heap.size newT [(.slice none 0 0, newT.l)] [(w2.heap.size, 31, (rqR newT (.slice none 0 0)))] (w2.alloc (.cells #[.int .i64 0, .int .i64 0, .int .i64 0, .int .i64 0, .int .i64 0, .int .i64 0, .slice none 0 0] 31)) := by
  have h1 := (z12_new (below_up hw hb hw.size) (h.less hw.size) hw.size).al 31 (rqR newT (.slice none 0 0))
  obtain ⟨vb, vr, h2, _, h4⟩ := h1.sp
  exact ⟨⟨vb, vr, h2, fun d hd => (by
    rcases List.mem_cons.1 hd with rfl | hd
    · intro k e; cases e
    · cases hd), h4⟩, h1.pb, fun d hd => (by
    rcases List.mem_cons.1 hd with rfl | hd
    · exact ⟨IsC.nil _, fun k e => by cases e⟩
    · cases hd), h1.bx, h1.below⟩
theorem stR_six (l : List StpS) : ∀ x ∈ l, (stR x).length = 6 := fun _ _ => rfl
theorem IsT.range {w : World} {b k n cap : Nat} {l : List StpS} (h : IsC stR 6 w (.slice (some ⟨b, k, none⟩) n cap) l) (i : Nat) (x : StpS) (hx : l[i]? = some x) : w.rangeAt b (k + i * 6) (stR x) := by
  obtain ⟨rfl, _, _, h3⟩ := h.shape
  have hi := (List.getElem?_eq_some_iff.1 hx).1
  obtain ⟨b2, k2, e, _, hc⟩ := h3 (by omega)
  cases e
  exact flat_range (stR_six l) hc i x hx
theorem st_info : (Try.prog.info? 35).map (·.size) = some 6 := by kernel_rfl
theorem idx_st {ρ : Operand → Value} {o : Oper} {W : World} (x y : Operand) (ho : o.op = .indexAddr 22 x y) (b k n c i : Nat) (hx : ρ x = .slice (some ⟨b, k, none⟩) n c) (hy : ρ y = .int .i64 (i : Int)) (hi : i < n) :
    (execOp ρ o).run Try.prog W = .ok (.value (.pointer (some ⟨b, k + i * 6, none⟩))) W := by
  have h0 : (0 : Int) ≤ (i : Int) := by omega
  have h1 : (i : Int) < (n : Int) := by omega
  unfold execOp
  simp only [ho, hx, hy]
  go_simp
/-- the document's box, and the step that is next -/
def HeldRu (gw sb k : Nat) (t : SpS) (vl : Value) (x : StpS) (W : World) : Prop := W.rangeAt gw 0 (rqR t vl) ∧ W.rangeAt sb k (stR x)
theorem Z12.held {w W : World} {pt : Nat} {t : SpS} {ds : List (Value × List Blk)} {bs : List (Nat × TypeId × List Value)} (h : Z12 w pt t ds bs W) {gw : Nat} {u : SpS} {vl : Value} (hm : (gw, 31, rqR u vl) ∈ bs)
    {sb so n c : Nat} {l : List StpS} (hI : IsC stR 6 w (.slice (some ⟨sb, so, none⟩) n c) l) {i : Nat} {x : StpS} (hx : l[i]? = some x) : HeldRu gw sb (so + i * 6) u vl x W :=
  ⟨rangeAll (h.box hm), IsT.range (hI.below h.below) i x hx⟩
def HeldOw (gw sb k : Nat) (t : SpS) (vl : Value) (f : Int) (W : World) : Prop := W.rangeAt gw 0 (rqR t vl) ∧ W.cell? ⟨sb, k, none⟩ = some (.int .i64 f)
theorem Z12.heldOw {w W : World} {pt : Nat} {t : SpS} {ds : List (Value × List Blk)} {bs : List (Nat × TypeId × List Value)} (h : Z12 w pt t ds bs W) {gw : Nat} {u : SpS} {vl : Value} (hm : (gw, 31, rqR u vl) ∈ bs)
    {sb so n c : Nat} {l : List StpS} (hI : IsC stR 6 w (.slice (some ⟨sb, so, none⟩) n c) l) {i : Nat} {x : StpS} (hx : l[i]? = some x) : HeldOw gw sb (so + i * 6 + 4) u vl x.s.f W :=
  ⟨rangeAll (h.box hm), IsT.range (hI.below h.below) i x hx 4 _ rfl⟩
theorem z12_start2 {w w1 w2 : World} (hw : Below w.heap.size w w1) (h : SpM w2 w1.heap.size w1.heap.size (.slice none 0 0) (.slice none 0 0) newT) (hb : Below w1.heap.size w1 w2) {g : Nat} {ty : TypeId} {l : List Value} (hx : Bx w1 g ty l) (hg : w.heap.size ≤ g) :
    Z12 w w1.heap.size newT [(.slice none 0 0, newT.l)] [(w2.heap.size, 31, (rqR newT (.slice none 0 0))), (g, ty, l)] (w2.alloc (.cells #[.int .i64 0, .int .i64 0, .int .i64 0, .int .i64 0, .int .i64 0, .int .i64 0, .slice none 0 0] 31)) ∧ g ≠ w2.heap.size := by
  have h0 := z12_start hw h hb
  have hgl := hx.lt
  have hs := hb.size
  have hba : Below w2.heap.size w2 (w2.alloc (.cells #[.int .i64 0, .int .i64 0, .int .i64 0, .int .i64 0, .int .i64 0, .int .i64 0, .slice none 0 0] 31)) := (Below.refl _ _).alloc (Nat.le_refl _) _
  have hM : SpM (w2.alloc (.cells #[.int .i64 0, .int .i64 0, .int .i64 0, .int .i64 0, .int .i64 0, .int .i64 0, .slice none 0 0] 31)) w.heap.size w1.heap.size (.slice none 0 0) (.slice none 0 0) newT := (h.less hw.size).up hba
  have ho : ∀ k, OwnK w1.heap.size (.slice none 0 0) (.slice none 0 0) k → k = w1.heap.size := fun k hk => by
    rcases hk with hk | hk | hk
    · exact hk
    · cases hk
    · cases hk
  have hds : ∀ d ∈ ([(.slice none 0 0, newT.l)] : List (Value × List Blk)), d = (.slice none 0 0, newT.l) := fun d hd => by
    rcases List.mem_cons.1 hd with rfl | hd
    · rfl
    · cases hd
  refine ⟨⟨⟨_, _, hM, ?ga, fun b hb2 hk => ?gb⟩, h0.pb, ?gc, fun b hb2 => ?gd, h0.below⟩, by omega⟩
  case ga =>
    intro d hd k e
    have := hds d hd
    subst this
    cases e
  case gc =>
    intro d hd
    have := hds d hd
    subst this
    exact ⟨IsC.nil _, fun k e => (by cases e)⟩
  case gb =>
    have h1 := ho _ hk
    rcases List.mem_cons.1 hb2 with rfl | hb2
    · have := h.bx.lt
      simp only at h1
      omega
    · rcases List.mem_cons.1 hb2 with rfl | hb2
      · simp only at h1; omega
      · cases hb2
  case gd =>
    rcases List.mem_cons.1 hb2 with rfl | hb2
    · exact h0.bx _ (.head _)
    · rcases List.mem_cons.1 hb2 with rfl | hb2
      · exact ⟨(hx.up hb).up hba, hg⟩
      · cases hb2
/-- A step of both, where the document's is the space's. -/
theorem z12_do {w W : World} {pt : Nat} {t u : SpS} {ds : List (Value × List Blk)} {bs : List (Nat × TypeId × List Value)} (h : Z12 w pt t ds bs W) {vl : Value} (hd : (vl, u.l) ∈ ds) (x : StpS) (hl : t.l.length ≤ 900) (hlu : u.l.length ≤ 900) (hwu : WF u) :
    Calls Try.prog 12 #[.pointer (some ⟨pt, 0, none⟩), rqV u vl, stV x] W fun e W' => ∃ v' b, e = .returned (.tuple #[rqV (u.step x) v', .bool b]) ∧ (u = t → b = true) ∧ Z12 w pt (t.step x) ((v', (u.step x).l) :: ds) bs W' := by
  obtain ⟨vb, vr, hM, hik, hap, hT⟩ := h.do hd
  refine (do_any x W hM hl hwu (by omega) hik hap).mono ?_
  rintro e W' ⟨v', b, rfl, hb, hdo⟩
  exact ⟨v', b, rfl, hb, hT _ _ _ _ hdo⟩
end Go.Proofs.Ytgelbeglffjdaaa
