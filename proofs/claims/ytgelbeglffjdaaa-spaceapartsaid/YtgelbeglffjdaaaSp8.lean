/- Package spans: Cut. -/
import Derived.Test.YtgelbeglffjdaaaSpA
namespace Go.Proofs.Ytgelbeglffjdaaa
open Go Go.RowKit Go.Shelf
attribute [local go_sem] Oper.semAt_some

theorem appendIn_lies {F : Fence} {n : Nat} {P : Program} (w : World) {ops : Array Oper} {rest : List Oper} {o : Oper} {a : Act} {Q : Exit → Act → World → Prop} (hgd : o.guard = none) (s x : Operand) (t : TypeId)
    (hop : o.op = .call { callee := .builtin .append, args := #[s, x], argTypes := #[t, t] })
    (base : Nat) (e : TypeId) (i : TypeInfo) (z : Value) (size bytes : Nat) (ht : P.underlying t = some (.slice e)) (hi : P.info? e = some i) (hz : i.zero = some z)
    (hsize : i.size = size) (hby : i.bytes = bytes) (hzs : z.cells.size = size) (hsz : 0 < size)
    (v : Value) (k : Nat) (xs : List Value) (hs : a.eval s = v) (hown : w.ownsRow base e size v k xs)
    (ad : Addr) (m c : Nat) (nws : List Value) (hx : a.eval x = .slice (some ad) m c) (hl : nws.length = m * size) (hnews : ∀ j u, nws[j]? = some u → w.cell? (ad.add j) = some u) (h1 : ∀ u ∈ nws, u.oneCell' = true)
    (hm : 0 < m) (h63 : k + m ≤ maxLen) (hbytes : (k + m) * bytes ≤ 140737488355328) (hbase : base ≤ w.heap.size) (H : Nat) (hH : w.heap.size = H)
    (hK : ∀ g cap w', w'.ownsRow base e size (.slice (some ⟨g, 0, none⟩) (k + m) cap) (k + m) (xs ++ nws) → w.grownBy w' v.ownBlock → (v.ownBlock = some g ∨ g = H) → g < w'.heap.size → wpListIn F n P ops Q rest (a.put o.dst (.slice (some ⟨g, 0, none⟩) (k + m) cap)) w') : wpListIn F n P ops Q (o :: rest) a w := by
  refine wpListIn_plain hgd fun K hK' => ?_
  obtain ⟨g, cap, w', hrun, r1, r2, r3, r4⟩ := run_append_lies (P := P) w t o.type base e i z size bytes ht hi hz hsize hby hzs hsz v k xs hown ad m c nws hl hnews h1 hm h63 hbytes hbase H hH
  unfold Oper.wpIn
  refine ⟨?_, ?_⟩
  · simp [Oper.about, hop, resolve, Target.leads, Sem.run_pure]
  · rw [Oper.semAt_plain F _ _ (by rw [hop]; intro c hc'; cases hc')]
    simp [execOp, hop, resolve, invoke, builtin, hs, hx, hrun, Result.andThen]
    exact hK' _ _ (hK g cap w' r1 r2 r3 r4)
/-- What has been gathered in two boxes: two rows of the call's own, apart. -/
structure TwoS (w : World) (A B : Nat) (la lb : List Spn) (va vb : Value) (W : World) : Prop where
  ba : Bx W A 51 [va]
  bb : Bx W B 51 [vb]
  oa : W.ownsRow w.heap.size 27 2 va la.length (la.flatMap sR)
  ob : W.ownsRow w.heap.size 27 2 vb lb.length (lb.flatMap sR)
  apart : ∀ k, va.ownBlock = some k → vb.ownBlock ≠ some k
  below : Below w.heap.size w W
section
variable {w : World} {A B : Nat} {la lb : List Spn} {va vb : Value} {W W' : World}
theorem TwoS.swap (h : TwoS w A B la lb va vb W) : TwoS w B A lb la vb va W := ⟨h.bb, h.ba, h.ob, h.oa, fun k e1 e2 => h.apart k e2 e1, h.below⟩
theorem TwoS.up (h : TwoS w A B la lb va vb W) (hb : Below W.heap.size W W') : TwoS w A B la lb va vb W' := ⟨h.ba.up hb, h.bb.up hb, own_below h.oa hb, own_below h.ob hb, h.apart, below_up h.below hb h.below.size⟩
theorem TwoS.from (h : TwoS w A B la lb va vb W) {row : Option Nat} {B0 : Nat} (hB : w.heap.size ≤ B0) (hg : W.grownBy W' row) (hr : ∀ r, row = some r → B0 ≤ r ∧ ∃ o : Obj, W.heap[r]? = some o ∧ o.isCells = false) : TwoS w A B la lb va vb W' :=
  ⟨bx_from h.ba hg hr, bx_from h.bb hg hr, own_from h.oa hg hr, own_from h.ob hg hr, h.apart, ownFrom_below (β := Unit) (Nat.le_refl _) hB () W W' row h.below hg hr⟩
theorem TwoS.lowB (h : TwoS w A B la lb va vb W) : ∀ k, vb.ownBlock = some k → k < W.heap.size := fun k e => by obtain ⟨cur, hc⟩ := own_type h.ob k e; exact (Array.getElem?_eq_some_iff.1 hc).1
/-- One more span in the first box. -/
theorem two_more (h : TwoS w A B la lb va vb W) (hA : w.heap.size ≤ A) (hAB : A ≠ B) {x : Spn} {w1 : World} {g cap : Nat}
    (hown : w1.ownsRow w.heap.size 27 2 (.slice (some ⟨g, 0, none⟩) (la.length + 1) cap) (la.length + 1) (la.flatMap sR ++ sR x)) (hgr : (W.alloc (.cells (sR x).toArray 27)).grownBy w1 va.ownBlock) (hat : va.ownBlock = some g ∨ g = W.heap.size + 1) :
    Bx w1 A 51 [va] ∧ (∀ B0, A < B0 → KeepsFrom B0 W (w1.setCell ⟨A, 0, none⟩ (.slice (some ⟨g, 0, none⟩) (la.length + 1) cap))) ∧ (∀ R : Nat → Prop, R A → KpR w.heap.size R W (w1.setCell ⟨A, 0, none⟩ (.slice (some ⟨g, 0, none⟩) (la.length + 1) cap))) ∧
      TwoS w A B (la ++ [x]) lb (.slice (some ⟨g, 0, none⟩) (la.length + 1) cap) vb (w1.setCell ⟨A, 0, none⟩ (.slice (some ⟨g, 0, none⟩) (la.length + 1) cap)) ∧
      (∀ b t l, Bx W b t l → b ≠ A → va.ownBlock ≠ some b → Bx (w1.setCell ⟨A, 0, none⟩ (.slice (some ⟨g, 0, none⟩) (la.length + 1) cap)) b t l) ∧
      (∀ b, b < W.heap.size → va.ownBlock ≠ some b → (Value.slice (some ⟨g, 0, none⟩) (la.length + 1) cap).ownBlock ≠ some b) := by
  obtain ⟨c1, c2, c3, c4, c5⟩ := col_more hA h.ba h.oa h.below hown hgr
  have keep : ∀ (k : Nat), k < W.heap.size → k ≠ A → va.ownBlock ≠ some k → (w1.setCell ⟨A, 0, none⟩ (.slice (some ⟨g, 0, none⟩) (la.length + 1) cap)).heap[k]? = W.heap[k]? := fun k hk hne hv => by
    refine (Below.heap_setCell w1 _ _ k (fun e => hne e)).trans ?_
    refine (hgr.block k (by simp; omega) (fun e => hv e.symm)).trans ?_
    exact Below.heap_alloc W _ k hk
  have hBb : Bx (w1.setCell ⟨A, 0, none⟩ (.slice (some ⟨g, 0, none⟩) (la.length + 1) cap)) B 51 [vb] := c5 B _ _ _ (fun e => hAB e.symm) (by decide) h.bb
  refine ⟨c1, c2, c3, ⟨c1.set 0 _, hBb, ?_, ?_, ?_, c4.below⟩, ?_, ?_⟩
  · have e1 : (la ++ [x]).length = la.length + 1 := by simp
    have e2 : (la ++ [x]).flatMap sR = la.flatMap sR ++ sR x := by simp
    rw [e1, e2]
    exact own_keep hown (fun k e => Below.heap_setCell w1 _ _ k (fun e2 => by
      obtain ⟨cur, hc⟩ := own_type hown k e
      simp only at e2
      rw [e2, show w1.heap[A]? = _ from c1] at hc
      cases hc))
  · refine own_keep h.ob (fun k e => keep k (h.lowB k e) (fun e2 => ?_) (fun e2 => h.apart k e2 e))
    obtain ⟨cur, hc⟩ := own_type h.ob k e
    rw [e2, show W.heap[A]? = _ from h.ba] at hc
    cases hc
  · intro k e1 e2
    have e3 : g = k := by simpa [Value.ownBlock] using e1
    subst e3
    rcases hat with hat | hat
    · exact h.apart g hat e2
    · have := h.lowB g e2
      omega
  · intro b t l hb hne hv
    exact (keep b hb.lt hne hv).trans hb
  · intro b hb hv e
    have e3 : g = b := by simpa [Value.ownBlock] using e
    subst e3
    rcases hat with hat | hat
    · exact hv hat
    · omega
end
theorem bx_same {W : World} {b : Nat} {t t' : TypeId} {l l' : List Value} (h : Bx W b t l) (h' : Bx W b t' l') : l = l' := by
  unfold Bx at h h'
  rw [h] at h'
  have e := Option.some.inj h'
  have e2 := (Obj.cells.inj e).1
  simpa using congrArg Array.toList e2
def aheadS (s x : Spn) : Spn := ⟨x.f, min x.l (s.f - 1)⟩
def behindS (s x : Spn) : Spn := ⟨max x.f (s.l + 1), x.l⟩
theorem isS_from {X Y : World} {v : Value} {l : List Spn} (h : IsS X v l) {row : Option Nat} {B : Nat} (hg : X.grownBy Y row) (hr : ∀ r, row = some r → B ≤ r ∧ ∃ o : Obj, X.heap[r]? = some o ∧ o.isCells = false) : IsS Y v l := ((IsS.isD h (Nat.le_refl _)).from hg hr).isS
set_option maxRecDepth 100000 in
set_option maxHeartbeats 8000000 in
theorem scut_own (v : Value) (l : List Spn) (s : Spn) (w : World) (h : IsS w v l) (hN : l.length ≤ 40000) :
    Calls Try.prog 78 #[v, sV s] w fun e w' => ∃ v', e = .returned v' ∧ OwnS w.heap.size w' v' (cutS l s) ∧ Below w.heap.size w w' := by
  obtain ⟨a, c, rfl, hc⟩ := h.form
  have HM := Lib.hid (fun W => may_any s W)
  have hb0 : Below w.heap.size w (w.alloc (.cells (sR s).toArray 27)) := (Below.refl _ _).alloc (Nat.le_refl _) _
  have HB0 := Lib.hid hb0
  have HX0 := Lib.hid (Bx.new w 27 (sR s))
  have HI := Lib.hid h
  rw [show sV s = .agg (sR s).toArray from rfl]
  have c0 : (sR s)[0]? = some (.int .i64 s.f) := rfl
  have c1 : (sR s)[1]? = some (.int .i64 s.l) := rfl
  clear h hb0
  cases hm : mayB s with
  | false =>
    rw [hm] at HM
    have hcs : cutS l s = normS l := by unfold cutS; rw [if_neg (by rw [hm]; simp)]
    rw [hcs]
    have HNO := Lib.hid (fun v' W (hW : IsS W v' l) => snorm_own v' l W hW (by omega))
    go_enter Try.func78, Try.ntmps78
    go_wp2_with (go_at_call 97; refine (HM.out _).mono ?_; rintro e w1 ⟨rfl, b1⟩; refine Hid.out ?_)
    refine Lib.hid ?_
    have hb1 := below_up HB0.out b1 HB0.out.size
    have HI1 := Lib.hid (HI.out.below hb1)
    have HB1 := Lib.hid hb1
    clear b1 hb1
    go_wp2_with (go_at_call 56; refine (HNO.out _ _ HI1.out).mono ?_; rintro e w2 ⟨v2, rfl, i2, b2⟩; refine Hid.out ?_)
    refine Lib.hid ?_
    obtain ⟨a2, c2, rfl, hc2⟩ := (OwnS.isS i2).form
    have HR := Lib.hid (⟨i2.less HB1.out.size, below_up HB1.out b2 HB1.out.size⟩ : _ ∧ _)
    clear i2 b2
    go_wp2
    go_ret
    exact ⟨_, rfl, HR.out⟩
  | true =>
    rw [hm] at HM
    have hsm : mayS s := (mayB_iff s).1 hm
    have HCO := Lib.hid (cut_of hsm l)
    unfold mayS at hsm
    obtain ⟨hs1, hs2, hs3⟩ := hsm
    have hgl : (goodS l).length ≤ l.length := List.length_filter_le _ _
    clear hm
    refine (callsIn_wide (n := 5)).1 ?_
    refine callsIn_of_wp_marks Try.func78 rfl trivial ?_ rfl
    simp only [Try.ntmps78, List.size_toArray, List.length_cons, List.length_nil, Nat.reduceAdd, Nat.reduceSub, Array.replicate_succ, Array.replicate_zero, List.push_toArray, List.append_toArray, List.nil_append, List.cons_append]
    gi_wp2_with (refine ⟨trivial, ?_⟩; refine (callsIn_wide.2 (HM.out _)).mono ?_; rintro e w1 ⟨rfl, b1⟩; refine Hid.out ?_)
    refine Lib.hid ?_
    have hb1 := below_up HB0.out b1 HB0.out.size
    have hx1 := HX0.out.up b1
    have hi1 := HI.out.below hb1
    have hsz1 : w.heap.size < w1.heap.size := hx1.lt
    have HX1 := Lib.hid hx1
    have HI1 := Lib.hid hi1
    have HB1 := Lib.hid hb1
    have hT := twoB_new w1 51 51 [.slice none 0 0] [.slice none 0 0]
    have hz : TwoS w1 w1.heap.size (w1.heap.size + 1) (([] : List Spn).map (aheadS s)) (([] : List Spn).map (behindS s)) (.slice none 0 0) (.slice none 0 0) ((w1.alloc (.cells #[.slice none 0 0] 51)).alloc (.cells #[.slice none 0 0] 51)) :=
      ⟨hT.1, hT.2.1, World.ownsRow_nil _ _ _ _, World.ownsRow_nil _ _ _ _, (fun k e => by cases e), hT.2.2⟩
    have HZ := Lib.hid hz
    have hszT : ((w1.alloc (.cells #[.slice none 0 0] 51)).alloc (.cells #[.slice none 0 0] 51)).heap.size = w1.heap.size + 1 + 1 := by simp
    have HSZ := Lib.hid hszT
    clear b1 hb1 hx1 hi1 hT hz hszT HX0 HB0 HI
    gi_wp2_with (refine ⟨trivial, ?_⟩; refine (rows_in _ _ _ _ _).mono ?_; rintro e w5 ⟨rfl, rfl⟩; refine Hid.out ?_)
    refine Lib.hid ?_
    generalize hWT : (w1.alloc (.cells #[.slice none 0 0] 51)).alloc (.cells #[.slice none 0 0] 51) = WT at *
    clear hWT
    have hb5 : Below WT.heap.size WT (WT.alloc (.cells #[.slice a l.length c] 51)) := (Below.refl _ _).alloc (Nat.le_refl _) _
    have HZ5 := Lib.hid (HZ.out.up hb5)
    have HBL := Lib.hid (show Bx (WT.alloc (.cells #[.slice a l.length c] 51)) (w1.heap.size + 1 + 1) 51 [.slice a l.length c] by rw [← HSZ.out]; exact Bx.new WT _ _)
    have HIS := Lib.hid ((IsS.isD HI1.out (Nat.le_refl _)).up HZ5.out.below)
    have hsz5 : (WT.alloc (.cells #[.slice a l.length c] 51)).heap.size = w1.heap.size + 1 + 1 + 1 := by simp [HSZ.out]
    clear hb5 HZ HSZ
    generalize WT.alloc (.cells #[.slice a l.length c] 51) = W5 at *
    gi_wp2
    refine wpIn_rangeFunc_ownH (n := 5) rfl (by omega) (gf := 121) (lb := #[.pointer (some ⟨w1.heap.size + 1 + 1, 0, none⟩)]) rfl trivial (enters_of Try.func121 (by kernel_rfl) rfl)
      (rows_stops 4 (w1.heap.size + 1 + 1) w1.heap.size (fun k => k = w1.heap.size ∨ k = w1.heap.size + 1) (.slice a l.length c) l (by omega) W5 HIS.out HBL.out (fun k e => by omega))
      (fun h k => h.trans k) (fun W l o o' _ hl hc _ => KpR.put W l o o' hl hc) (Below.refl _ _) (fun _ => rfl)
      (fun pre V => ∃ va vb, TwoS w1 w1.heap.size (w1.heap.size + 1) (pre.map (aheadS s)) (pre.map (behindS s)) va vb V) (fun _ _ _ => False)
      (fun u X Y row h1 h2 h3 => by obtain ⟨va, vb, hh⟩ := h1; exact ⟨va, vb, hh.from (by omega) h2 h3⟩)
      (fun c u X Y row h1 h2 h3 => h1.elim)
      ⟨_, _, HZ5.out⟩
      (fun x a' V => ∃ B7 va vb, w1.heap.size ≤ B7 ∧ Bx V B7 27 (sR x) ∧ Bx V w1.heap.size 51 [va] ∧ Bx V (w1.heap.size + 1) 51 [vb] ∧ va.ownBlock ≠ some B7 ∧ vb.ownBlock ≠ some B7 ∧ a' = { tmps := #[.slice a l.length c, .agg (sR s).toArray, undef, .pointer (some ⟨w.heap.size, 0, none⟩), .slice none 0 0, .pointer (some ⟨w1.heap.size, 0, none⟩), .pointer (some ⟨w1.heap.size + 1, 0, none⟩), .pointer (some ⟨B7, 0, none⟩), sV s, .bool true, .bool false, undef, undef, .slice a l.length c, .func (.func 121) #[] #[.pointer (some ⟨w1.heap.size + 1 + 1, 0, none⟩)], sV x, undef, undef, undef, undef, undef, undef, undef, undef, undef, undef, undef, undef, undef, undef, undef, undef, undef, undef, undef, undef, undef, undef, undef, undef, undef, undef, undef, undef], defers := [] })
      (fun x a' u X Y row h1 h2 h3 => by obtain ⟨B7, va, vb, e0, e1, e2, e3, e4, e5, e6⟩ := h1; exact ⟨B7, va, vb, e0, bx_from e1 h2 h3, bx_from e2 h2 h3, bx_from e3 h2 h3, e4, e5, e6⟩)
      ?assign ?body ?done ?stop
    case assign =>
      rintro lp pre x V K ⟨va, vb, ht⟩ hK
      have hbb : Below V.heap.size V (V.alloc (.cells (sR x).toArray 27)) := (Below.refl _ _).alloc (Nat.le_refl _) _
      gi_wp2_with (refine inS rfl (by intro c h; cases h) rfl (exec_store_fresh _ (.tmp 7) (.tmp 15) rfl (sR x) _ V.heap.size rfl rfl rfl sp_info rfl (sR_one x)) ?_; refine Hid.out ?_)
      refine Lib.hid ?_
      gi_wp2
      exact hK _ _ ((KeepsOthers.alloc _ _).from _) (KpR.below hbb) ⟨va, vb, ht.up hbb⟩ ⟨V.heap.size, va, vb, ht.below.size, Bx.new V _ _, ht.ba.up hbb, ht.bb.up hbb, fun e => by have := ht.swap.lowB _ e; omega, fun e => by have := ht.lowB _ e; omega, rfl⟩
    case body =>
      rintro lp pre x a' V hl _ ⟨va, vb, ht⟩ ⟨B7, va', vb', hB7, hx7, hva', hvb', hn1, hn2, rfl⟩ hlt
      obtain rfl : va = va' := by have := bx_same ht.ba hva'; simpa using this
      obtain rfl : vb = vb' := by have := bx_same ht.bb hvb'; simpa using this
      have hxs : Bx V w.heap.size 27 (sR s) := HX1.out.up ht.below
      have hrx := rangeAll hx7
      have x0 := rng0 hrx
      have x1 := rng1 hrx
      have hrs := rangeAll hxs
      have s0 := rng0 hrs
      have s1 := rng1 hrs
      simp only [Nat.zero_add] at x1 s1
      have ca : V.cell? ⟨w1.heap.size, 0, none⟩ = some va := by rw [ht.ba.cell]; rfl
      have hVs := ht.below.size
      have HT := Lib.hid ht
      have HX7 := Lib.hid hx7
      have HXS := Lib.hid hxs
      have hbb : Below V.heap.size V (V.alloc (.cells (sR (aheadS s x)).toArray 27)) := (Below.refl _ _).alloc (Nat.le_refl _) _
      have HROW := Lib.hid (own_below ht.oa hbb)
      have HBN := Lib.hid (Bx.new V 27 (sR (aheadS s x)))
      have hal : (V.alloc (.cells (sR (aheadS s x)).toArray 27)).heap.size = V.heap.size + 1 := by simp
      have hlp : pre.length < 40000 := by omega
      have hnA : va.ownBlock ≠ some w.heap.size := fun e => by have := owned_low ht.oa _ e; omega
      obtain ⟨ti, hti, htz, hts, htb⟩ := info_parts sp_infoF
      have hLm : (pre.map (aheadS s)).length = pre.length := List.length_map _
      have hLm2 : (pre.map (behindS s)).length = pre.length := List.length_map _
      clear ht hx7 hxs hrx hrs hva' hvb' hbb
      gi_wp2_with (first
        | (refine inV rfl (by intro c h; cases h) rfl (.slice (some ⟨V.heap.size, 0, none⟩) 1 1) (exec_one_spb (.tmp 25) rfl (aheadS s x) rfl _ rfl) ?_)
        | (gi_at_builtin; refine appendIn_lies _ rfl _ _ 51 rfl w1.heap.size 27 ti (sV ⟨0, 0⟩) 2 16 Try.underlying51 hti htz hts htb rfl (by decide) _ _ _ rfl HROW.out ⟨V.heap.size, 0, none⟩ 1 1 (sR (aheadS s x)) rfl rfl (fun j u hj => World.news_of_block HBN.out j u (by simpa using hj)) (sR_one _) (by decide) (by unfold maxLen; omega) (by omega) (by omega) (V.heap.size + 1) hal ?_; intro g' cap' w9 hown hgr hat hlt9; refine Hid.out ?_))
      refine Lib.hid ?_
      have hgr1 : (V.alloc (.cells (sR (aheadS s x)).toArray 27)).grownBy w9 va.ownBlock := hgr
      have hat1 : va.ownBlock = some g' ∨ g' = V.heap.size + 1 := hat
      obtain ⟨q1, q2, q3, q4, q5, q6⟩ := two_more HT.out (Nat.le_refl _) (by omega) hown hgr1 hat1
      have z0 : w9.cell? ⟨w1.heap.size, 0, none⟩ = some va := by rw [q1.cell]; rfl
      have y0 := q1.frozen 0
      have p7 := q5 B7 _ _ HX7.out (fun e => by
        have h1 := HT.out.ba
        have h2 := HX7.out
        unfold Bx at h1 h2
        rw [e, h1] at h2
        have h3 := (Obj.cells.inj (Option.some.inj h2)).2.1
        revert h3
        decide) hn1
      have ps := q5 w.heap.size _ _ HXS.out (by omega) hnA
      have hk1 := Lib.hid (fun B0 h => q2 B0 h)
      have hk2 := Lib.hid (q3 (fun k => k = w1.heap.size ∨ k = w1.heap.size + 1) (.inl rfl))
      clear hgr hat hgr1 hat1 hown q1 q2 q3 q5 q6 HROW HBN HX7 HXS x0 x1 s0 s1 ca hlt9 HT hal hn1 hnA
      generalize hv1 : Value.slice (some ⟨g', 0, none⟩) ((pre.map (aheadS s)).length + 1) cap' = v1 at *
      have hcl : v1.cells = #[v1] := by rw [← hv1]; rfl
      have hone : v1.oneCell' = true := by rw [← hv1]; rfl
      gi_wp2_with (refine inS rfl (by intro c h; cases h) rfl (w' := w9.setCell ⟨w1.heap.size, 0, none⟩ v1) (by subst hv1; go_simp) ?_; refine Hid.out ?_)
      refine Lib.hid ?_
      clear z0 y0 hcl hone hv1
      generalize w9.setCell ⟨w1.heap.size, 0, none⟩ v1 = WA at *
      have hrx := rangeAll p7
      have x0 := rng0 hrx
      have x1 := rng1 hrx
      have hrs := rangeAll ps
      have s0 := rng0 hrs
      have s1 := rng1 hrs
      simp only [Nat.zero_add] at x1 s1
      have cb : WA.cell? ⟨w1.heap.size + 1, 0, none⟩ = some vb := by rw [q4.bb.cell]; rfl
      have hVA := q4.below.size
      have HT2 := Lib.hid q4.swap
      have hbb : Below WA.heap.size WA (WA.alloc (.cells (sR (behindS s x)).toArray 27)) := (Below.refl _ _).alloc (Nat.le_refl _) _
      have HROW := Lib.hid (own_below q4.ob hbb)
      have HBN := Lib.hid (Bx.new WA 27 (sR (behindS s x)))
      have hal : (WA.alloc (.cells (sR (behindS s x)).toArray 27)).heap.size = WA.heap.size + 1 := by simp
      clear hrx hrs hbb q4 p7 ps
      gi_wp2_with (first
        | (refine inV rfl (by intro c h; cases h) rfl (.slice (some ⟨WA.heap.size, 0, none⟩) 1 1) (exec_one_spb (.tmp 37) rfl (behindS s x) rfl _ rfl) ?_)
        | (gi_at_builtin; refine appendIn_lies _ rfl _ _ 51 rfl w1.heap.size 27 ti (sV ⟨0, 0⟩) 2 16 Try.underlying51 hti htz hts htb rfl (by decide) _ _ _ rfl HROW.out ⟨WA.heap.size, 0, none⟩ 1 1 (sR (behindS s x)) rfl rfl (fun j u hj => World.news_of_block HBN.out j u (by simpa using hj)) (sR_one _) (by decide) (by unfold maxLen; omega) (by omega) (by omega) (WA.heap.size + 1) hal ?_; intro g2 cap2 w10 hown hgr hat hlt10; refine Hid.out ?_))
      refine Lib.hid ?_
      have hgr1 : (WA.alloc (.cells (sR (behindS s x)).toArray 27)).grownBy w10 vb.ownBlock := hgr
      have hat1 : vb.ownBlock = some g2 ∨ g2 = WA.heap.size + 1 := hat
      obtain ⟨q1, q2, q3, q4, q5, q6⟩ := two_more HT2.out (by omega) (by omega) hown hgr1 hat1
      have z0 : w10.cell? ⟨w1.heap.size + 1, 0, none⟩ = some vb := by rw [q1.cell]; rfl
      have y0 := q1.frozen 0
      have hk3 := Lib.hid (fun B0 h => q2 B0 h)
      have hk4 := Lib.hid (q3 (fun k => k = w1.heap.size ∨ k = w1.heap.size + 1) (.inr rfl))
      have HQ4 := Lib.hid q4.swap
      clear hgr hat hgr1 hat1 hown q1 q2 q3 q4 q5 q6 HROW HBN x0 x1 s0 s1 cb hlt10 HT2 hal
      generalize hv2 : Value.slice (some ⟨g2, 0, none⟩) ((pre.map (behindS s)).length + 1) cap2 = v2 at *
      gi_wp2_with (refine inS rfl (by intro c h; cases h) rfl (w' := w10.setCell ⟨w1.heap.size + 1, 0, none⟩ v2) (by subst hv2; go_simp) ?_; refine Hid.out ?_)
      refine Lib.hid ?_
      clear z0 y0 hv2
      generalize w10.setCell ⟨w1.heap.size + 1, 0, none⟩ v2 = WB at *
      gi_wp2
      refine ⟨(hk1.out _ (by omega)).trans (hk3.out _ (by omega)), hk2.out.trans hk4.out, v1, v2, ?_⟩
      rw [List.map_append, List.map_append]
      exact HQ4.out
    case done =>
      rintro D xs V hD hS ⟨va, vb, ht⟩ hK
      subst hS
      have ia : IsS V va ((goodS l).map (aheadS s)) := IsC.of_owned (sR_all _) ht.oa
      have ib : IsS V vb ((goodS l).map (behindS s)) := IsC.of_owned (sR_all _) ht.ob
      obtain ⟨aa, ca, hva, _⟩ := ia.form
      obtain ⟨ab, cb, hvb, _⟩ := ib.form
      rw [List.length_map] at hva hvb
      subst hva hvb
      have za : V.cell? ⟨w1.heap.size, 0, none⟩ = some (.slice aa (goodS l).length ca) := by rw [ht.ba.cell]; rfl
      have zb : V.cell? ⟨w1.heap.size + 1, 0, none⟩ = some (.slice ab (goodS l).length cb) := by rw [ht.bb.cell]; rfl
      have hbb : Below V.heap.size V (V.alloc (.cells #[.slice aa (goodS l).length ca, .slice ab (goodS l).length cb] 51)) := (Below.refl _ _).alloc (Nat.le_refl _) _
      have hL : IsL (V.alloc (.cells #[.slice aa (goodS l).length ca, .slice ab (goodS l).length cb] 51)) (.slice (some ⟨V.heap.size, 0, none⟩) 2 2) [(.slice aa (goodS l).length ca, (goodS l).map (aheadS s)), (.slice ab (goodS l).length cb, (goodS l).map (behindS s))] :=
        isL_new V [(.slice aa (goodS l).length ca, (goodS l).map (aheadS s)), (.slice ab (goodS l).length cb, (goodS l).map (behindS s))] (by simp) _ rfl
      have HT := Lib.hid (together_own _ _ _ hL (fun p hp => by
        rcases List.mem_cons.1 hp with rfl | hp
        · exact ia.below hbb
        · rw [List.mem_singleton.1 hp]; exact ib.below hbb) (by simp [flatS]; omega) (by simp))
      have HF := Lib.hid (show normS (flatS [(Value.slice aa (goodS l).length ca, (goodS l).map (aheadS s)), (.slice ab (goodS l).length cb, (goodS l).map (behindS s))]) = cutS l s by
        rw [← HCO.out]
        simp [flatS]
        rfl)
      have HB := Lib.hid (below_up (below_up HB1.out ht.below HB1.out.size) hbb (Nat.le_trans HB1.out.size ht.below.size))
      have hDl := (Array.getElem?_eq_some_iff.1 hK).1
      have hK2 := (hbb.block D hDl).trans hK
      have hwD : w.heap.size ≤ D := by omega
      have hal : (V.alloc (.cells #[.slice aa (goodS l).length ca, .slice ab (goodS l).length cb] 51)).heap.size = V.heap.size + 1 := by simp
      have HK2 := Lib.hid hK2
      clear ia ib ht hbb hL hK hK2
      gi_wp2_with (first
        | (refine inV rfl (by intro c h; cases h) rfl (.slice (some ⟨V.heap.size, 0, none⟩) 2 2) (exec_two_l (.tmp 40) (.tmp 41) rfl aa ab _ ca _ cb rfl rfl _ rfl) ?_)
        | (refine ⟨trivial, ?_⟩; refine (callsIn_wide.2 HT.out).mono ?_; rintro e w8 ⟨v8, rfl, h8, b8⟩; refine Hid.out ?_))
      refine Lib.hid ?_
      rw [HF.out] at h8
      have hK8 := (b8.block D (by omega)).trans HK2.out
      have HB8 := Lib.hid (below_up HB.out b8 HB.out.size)
      have H8 := Lib.hid h8
      clear h8 b8 za zb
      gi_wp2
      refine ⟨by simp, .inl ⟨_, _, rfl, run_takeDeferred hK8, ?_⟩⟩
      exact ⟨_, results_tmp rfl _ _ _, v8, rfl, own_from (H8.out.less HB.out.size) (grownBy_putObj' _ D (.deferred none)) (B := 0) (fun r e => by cases e; exact ⟨Nat.zero_le _, _, hK8, rfl⟩), HB8.out.trans (belowK_b (w := w) (Nat.le_refl _) _ D _ _ hwD hK8 rfl rfl)⟩
    case stop =>
      rintro D c pre V _ _ h _
      exact h.elim
theorem scut_any (v : Value) (l : List Spn) (s : Spn) (w : World) (h : IsS w v l) (hN : l.length ≤ 40000) :
    Calls Try.prog 78 #[v, sV s] w fun e w' => ∃ v', e = .returned v' ∧ IsS w' v' (cutS l s) ∧ Below w.heap.size w w' :=
  (scut_own v l s w h hN).mono fun _ _ ⟨v, h1, h2, h3⟩ => ⟨v, h1, h2.isS, h3⟩
end Go.Proofs.Ytgelbeglffjdaaa
